import PyProof.Rows.All
import Wide.All
import OpenK.KSplit
import OpenK.KNot
import OpenK.KApp
import Wide.FinOn
import Lean
import PyProof.EqAt
import PyProof.EqKinds
import PyProof.TupleCall
import PySem.SetOps
import KE.KDictOf
import PyProof.AttrMiss
import PyProof.IsiH_list
import PyProof.WalkInts
import KE.KMinBuiltin
import PyProof.Rows.CallKwBuiltin
import KE.KEqDict
import KE.KItemsList
import KE.KDictSum
import KE.KRevSl
import PyProof.Rows.SortStr
import PyProof.Rows.SortWalk
import PyProof.DictWalks
import KE.KTryMore
import PyProof.NsDelKeeps
import PyProof.ExcAttrAll.ValueError
import PyProof.StrReplace2
import PyProof.ReprStr
import PyProof.Rows.RuleU_int
import PyProof.InstStoreFacts
import PyProof.ExcInit
import KE.KDictList
import PyProof.MaxThree
import KE.KRevIter
import PyProof.Rows.SortShell
import PyProof.MinMaxWalk
import PyProof.PureStr
import PyProof.Rows.SumAny
import PyProof.ZipIter
import PySem.Challenge.RW_shopbound_k34_goes
set_option Elab.async false
set_option linter.all false
set_option maxRecDepth 100000
local macro_rules|`(universe zz)=>do
 let mut r:=#[]
 let mut l:Array Lean.Name:=#[`PySem.Challenge.pw_shopbound_k34_goes]
 for (k,v) in [("heap",#[1170,39]),("tree",#[1169,1096,932,1017,817,742,676,628,434,610,520,180,171,93]),("view",#[39]),("sts",#[1021,1097,181,743,94,49,677,818,629,172,614])] do for i in v do l:=l.push (.str `PySem.Challenge.cw_shopbound_k34_goes_holds s!"{k}_{i}")
 for i in [:1170] do if Nat.testBit 0x29d39ce9d3a70e9c383c29ce74e74e9c39d38230e1ce70e1c3870e1c38100fa70e1c38739c3870e1c3870e0479ce70e70e70e70e538f0e70e70e70e1c3834387381b804a304461c3870e1c3870e1c39c383c3870e1c3870e1c38740403e1c39c39ce9c3a70e1c3870e1c3870e1c3873870e1c3870e1c3870e1c3a023d1e73a74e9d39d3a73a7441f0273a7202000000000000 i then l:=l.push (.str `PySem.Challenge.cw_shopbound_k34_goes_holds s!"o_{i}")
 for x in l do r:=r.push (← `(noncomputable def $(Lean.mkIdent (.str `PySem.W.Fast s!"tw{x.hash}")) :=Unit.unit))
 return Lean.mkNullNode r
universe zz
open Option renaming some->U,none->B,isSome_iff_exists->sR,map->ti,isSome_map->AX,getD_none->Wi,join_some->WR,getD_some->WS
open _root_ renaming List->Z,Int->aj,Nat->ag,Option->au,Bool->aJ,absurd->bH,Array->bK,congrArg->bP,if_true->cI,if_false->cK,String->cW,DecidableEq->dE,of_decide_eq_true->fT,decide_eq_true_eq->gY,beq_iff_eq->kL,beq_eq_false_iff_ne->lS,Unit->lY,decide_eq_false_iff_not->pU,not_or->tG,and_self->wU,decide_eq_decide->IQ,of_decide_eq_false->WK,instBEqOfDecidableEq->W'
open Bool renaming true->ah,false->ar,and_eq_true->dB,not_true->iV,eq_iff_iff->kK,not_false->mm,true_and->wM,not_eq_true'->wR,and_false->AW,or_eq_true->Bb,not_eq_false'->BG,false_or->HN,eq_false_iff->Ii,and_eq_true_iff->Ir,and_true->W9,and_eq_false_iff->XW
open PySem renaming Str->ai,Addr->av,Value->aw,Shared->aH,sizeLine->aK,wpAny->aL,model->aM,starEach->aP,tupleKeyHash->bL,backTo->ci,cLine->ck,Env->cA,World->cD,Around->cH,Pos->dn,swapsWith->dq,Program->dD,compareOp->dM,bootBuiltins->eq,bindArgs->eN,sizeLine_eq->eW,intKind->fm,mainGlobals->fK,assignEach->fR,codeAny->gF,argBest->gG,binaryOp->gX,NameKind->ir,SetTable->iw,sysModules->iP,wpAny_mono->iQ,Keyword->iT,attributeBase->jt,wpAny_newObj_type->ju,rawInt->jU,backToKw->jX,keywordEach->jY,wpAny_truthy_bool->kH,pyNext->kI,foldedSetIterable->kJ,FuncData->kN,codeAny_builtin->kW,wpAny_setState_of->kX,tupleKind->lV,holding->lZ,pyIter->l0,Result->l5,wpAny_call_entry->l9,argsOk->me,plainId_quiet->mj,mem_of_lookup->nF,IsPart->nJ,getItem->nK,atKey->nL,wpAny_pyIter_list->nQ,seqItems?->nU,standAt->pj,assign->pp,getMethod->pw,BindsTo->px,codeAny_mono->pz,bindL->pA,bindC->pB,sliceBounds->pC,callerA->pJ,Walks->pL,wpAny_of_eq->pQ,wpAny_seqItems->pT,GenState->sL,behindInMarks->sN,wpAny_typeOf->sS,valueAt->sV,tupleKind_room_in1->sX,DictEntry->sZ,typeLookup_type->tI,builtinLookup_eq_fast->tJ,wpAny_tryCatch->tL,pickOrder->tO,Model->wu,wpAny_passesOwn->wv,wpAny_Call_Name_kw->wy,callWith->wz,typeLookup->wB,typeIs_str->wC,call_meetsIn->wD,PyData->wJ,wpAny_askSetting->wL,wpAny_attempt->wN,wpAny_isInstance->wO,wpAny_setField->wQ,letOwnedTupleGo->AE,lastMarks->AG,wpAny_call->AK,pick_run->AN,wpAny_callSpecial?_slot->AO,subscripted->AR,call_meets->AV,wpAny_specialOf->AY,Params->A4,relabel->A7,Slot->Bd,wpAny_storeSet_of->Bo,entryFor->Bq,wpAny_letGo->Bu,isSubtype_type->Bz,wpAny_ite_split->BA,Within->Hq,builtinsNs->Hr,wpAny_Name->Ht,wpAny_execs_nil->Hv,cellsFrom->HD,wpAny_field->HF,slot_list_getitem->HJ,typeIs_int->HK,wpAny_Call_method->HP,call->HR,wpAny_standAt->HU,compEnvC->HV,ReadsAll->Ia,wpAny_forIn_list->Il,ofAClassStatement->Im,setSearchFrom->Io,wpAny_throw->Ip,wpAny_rule->Iq,wpAny_updateSeq->Iu,wpAny_pyIter_slot->Iv,wpAny_typeNameOfWhole_keyiter->Ix,wpAny_fieldsOf->Iy,wpAny_pyIter_keyiter->IB,intKind_is->ID,signature?_of->IE,wpAny_setEntries_of->IF,wpAny_execs_cons->V0,wpAny_assign_Name->V1,wpAny_pyNext_list_item->V2,wpAny_pyNext_list_end->V3,noFill_tuple_add->Wb,sliceRange_one->Wj,wpAny_getItem_list_slice->Wk,wpAny_Dict_empty->Wu,wpAny_comprehension_free->WB,wpAny_pyIter_enum->WC,codeAny_of_tree->W1,codeAny_call_builtin->W3,hashByValue_scannable->W5,carriedByValue->W6,wpAny_eqIsQuiet_tuple->W7,entryFor_of_tree->Xa,wpAny_notOrdered_dict->Xb,wpAny_dictEntries->Xe,wpAny_dictEpoch->Xf,wpAny_isOneOf_keyiter->Xg,firstArgMember->Xh,isSubtype_stop->Xi,size_of_entries->Xs,wpAny_pyIter_dict->Xx,entryFor_alias->XC
open PySem.W renaming Frag->aT,findIn->cv,fnOf->cZ,keepIn->fS,kia_one->kM,instObj->nC,emptyDict->nE,codeIn->nI,plainGet->pq,isFn->pr,hasDictIn->sO,makesIn->sP,nsIn->tu,mg_of->tw,plainOver->ww,lookIn->AH,plainGet_of->Hx,takerIn->Hy,callWith_K->HB,OpenLaw->HS,handedIn->V5,kitOne->V6,kitx_list->V7,kitx_dict->V8,methodCall_KW->V',cellsFrom_some->Wa,WalkO->WA,kdu_collect->Xm,kdl_dict->Xn,kdl_call->Xv,keq_ne->Xy
open Pure renaming pure->bd
open List renaming mem_map->bw,mem_singleton->bM,replicate->bU,mem_cons->cm,range->cC,length->cM,mem_append->cY,lookup->c9,forall_mem_cons->dO,map_append->dU,nodup_cons->eG,getElem?_eq_some_iff->eV,find?_cons->eX,mem_range->fj,take_length->fz,foldl_cons->gc,map_congr_left->gf,all_eq_true->gE,length_drop->iu,append_nil->iS,nodup_nil->iU,any_cons->kQ,filter_cons->kR,take_of_length_le->kT,take_succ->kY,mem_filter->lW,replicate_succ->ma,any_eq_true->mf,nodup_append->mv,mem_append_left->nD,take_sublist->nG,getElem_mem->nP,take->nS,set_cons_zero->nX,all_map->nY,getElem?_set_self->pi,flatten_cons->pE,append_assoc->pF,length_singleton->pH,lookup_cons->pK,drop_zero->pM,mem_of_mem_take->pP,getD_eq_getElem?_getD->pV,mem_filterMap->sM,getD->tj,length_mapIdx->tq,drop_eq_getElem_cons->tt,take_append_drop->tz,flatMap_cons->tP,getElem?_replicate->wA,getElem?_eq_none->wE,mem_iff_getElem->wG,drop_length->wH,mem_iff_getElem?->wI,pairwise_map->wK,mergeSort_perm->wS,take_add_one->wW,filterMap_cons->AC,getElem?_take_of_lt->AL,reverse_cons->AU,length_eq_zero_iff->Bc,nodup_range->Bh,find?_eq_none->Bj,foldl_append->Bl,length_tail->Bs,findIdx?->By,drop_of_length_le->BD,range'->BE,map_take->BF,getElem_inj->Hs,of_mem_zip->HC,foldl->HL,pairwise_iff_getElem->Ib,mem_of_mem_drop->Ih,drop->IC,map_inj_right->IG,set_cons_succ->IH,getElem?_of_mem->II,map_drop->IK,flatMap_append->IL,mem_flatMap->IM,range'_succ->IN,flatMap_nil->IP,forall_mem_nil->IR,any_eq_false->V4,length_filter_le->Wr,ext_getElem?->WD,getElem?_mapIdx->WE,getElem?_drop->WM,mem_of_find?_eq_some->WN,find?_some->WO,nodup_iff_pairwise_ne->WQ,filterMap_cons_some->WU,pairwise_lt_range->WV,pairwise_mergeSort->Xk,all_cons->Xu,perm_middle->XA,length_pos_iff->XH,ext_getElem->XI,map_id'->XM,map_id->XQ,find?_append->XR,range_eq_range'->XS,map_eq_nil_iff->XT,filter_sublist->XV
open Sum renaming inr->bS,inl->ph
open PySem.SetTable renaming below->bY,insertAt->cq,runEnd->di,bits->fQ,leap->jr,sizeAbove->kU,fresh->kZ,tooFull->mq,turns->nT,fits->pO,grown->tE,has->Bg,Probe->Bi,fill->Ie,slot->WJ,layClean->WT,relaid->WW,laid->WX,orStandIn->Xz
open PySem.Value renaming ref->cU,int->dL,bool->lU,type->sJ,isInt->AB,none->Ho,isStrOf->VU,str->VV,isStrOf_shape->VW
open PyProof.Rows renaming envOfC->dc,IntsAre->kP,AllBare->lX,IsTup->wt,StrsAre->wF,callWith_type1->AF,Subscript_->AQ,seqObj->Bw,UnaryOp_->Hu,slot_tuple_getitem->HG,tail_any->HH,slicePart_none->Wf,subscriptTail_builtinR->Wh,slot_list_sort->Xo,entry_list_sort->Xp,args_list_sort->Xq,sortedHeap_old->Xr,callWith_builtin1->Yp,boot_enumerate->Yu,neg_int->YC
open Ne renaming symm->dj
open PySem.PassesOwn renaming never->dv
open List.cons renaming inj->dN
open Array renaming length_toList->fu,getElem?_eq_some_iff->ge,getD_eq_getD_getElem?->Bf,toArray_toList->Bx,mem_toList_iff->Hw,append_assoc->VX,toList->VZ,getElem_toList->WI,replicate->WP,filterMap->WY,forIn_toList->W4,getElem?_eq_none_iff->Xt,getElem?_eq_getElem->XG
open Nat renaming zero_le->fy,lt_irrefl->gU,le_succ->kO,lt_or_ge->kS,zero_add->nV,succ_mul->pI,lt_succ_of_lt->pR,le_of_lt->sK,lt_succ_self->sQ,lt_trans->sW,succ_pos->wp,mod_lt->wq,le_add_right->AA,ne_of_gt->AD,le_of_eq->AI,mul_le_mul->A9,min_def->BC,add_assoc->Hm,lt_succ_iff->Hn,not_lt->HW,not_lt_zero->Ic,mul_comm->Wq,lt_trichotomy->WH,min_eq_left->WL,sub_zero->XO
open Int renaming toNat_natCast->fA,eq_ofNat_of_zero_le->pZ,zero_add->BB,le_refl->IJ
open PySem.SeqAt renaming shaped->fL
open PySem.Heap renaming SameBut->gW,size_push->l7,get?_update_other->sU,get?_update_self->tH,dictOf_iff->Br,ExtBut->Bv
open Sum.inr renaming inj->iq
open False renaming elim->iR
open PySem.PyData renaming eqv->jv,str->jw,eqvAll->mx,canLayAll0->nR,canLay0->pW,depth->pX,depthAll->tQ,int->WG,strOk->XJ
open PySem.Str renaming empty->jV,length->sT,ofString->tK
open True renaming intro->jW
open PySem.Around renaming under_plainId->mi,under->Hz
open PySem.Heap.SameBut renaming update->mr,refl->A8
open PySem.F renaming plain_min_loop->mw,slot_dict_get->sY,called_set->tF,entry_dict_get->AZ,slot_list_getattribute->Bp,entry_min_loop->Bt,plainAttrs_dict->HQ,slot_dict_keyiterator_next->Iw,slot_tuple_add->Wc,entry_tuple_add->Wd,args_tuple_add_2->We,slot_list_append->Wm,slot_list_extend->Wn,slot_int_rmul->Wo,slot_dict_pop->Ws,args_dict_get_2->Wv,args_dict_get_3->Ww,type_dict_get->Wx,plainAttrs_list->WF,plain_set_new->W2,slot_dict_iter->Xc
open PySem.NameKind renaming free->nO,cell->A6
open PySem.Obj renaming data_mapFields->nW,mapFields->tN,putSet->Bm,isFreed_of_fields->Iz,cls_mapFields->IA,mapSeq->Wl
open List.Sublist renaming nodup->pY,refl->XU,cons->YG,cons₂->YH
open ForInStep renaming yield->tf
open PySem.Walks renaming list->tp,dictKeys->Xw
open PySem.SetTable.layClean renaming free->tD
open ToString renaming toString->tM
open PySem.Calls renaming spliced_cons->wx,spliced_nil->AJ,callWith_builtin->AS,evalArgs_plain->AT,Name_function_global->VY,call_function_entry->Xl
open MonadExcept renaming tryCatch->wP
open Option.some renaming injEq->wT,inj->XY
open List.Pairwise renaming map->wV,imp_of_mem->Ij,nil->Wz,filterMap->Yw
open PySem.Builtin.Slice renaming slicePlaces->AM,sliceAdjust->HE,slicePartIndex->Yq,sliceApplied->Yr
open PySem.SetTable.below renaming go->Be
open PySem.Shared renaming TypeIs->Bk
open PySem.Code renaming isFrame->HA,frames->V9
open PyProof.Rows.IsTup renaming new->HI
open PySem.Builtin.List renaming listTooLong->HM,listFitsIndex->Yt,listLengthHint->YD
open PySem.Builtin.Str renaming strSliceIndices->HX,tooLong->Yv,glued->YF
open PySem.Txt renaming slice->HY,join->HZ
open PySem.SetTable.probe renaming go->Ig
open PyProof.Rows.F renaming plain_set_update_loop->Ik,entry_set_update_loop->WZ
open PySem.Heap.IsSliceOf renaming new->Wg
open PySem.Heap.DictOf renaming new->Wt
open PySem.W.WData renaming int->Wy
open PySem.Moved renaming trans->W0
open Prod.mk renaming inj->W8,injEq->XN
open PySem.Builtin.Dict renaming showsAll->Xd,updateFrom->Yz
open List.Perm renaming eq_of_pairwise->Xj,refl->XB
open PySem.Manifest renaming owners->XD
open String renaming ofList->XE
open PySem.pickOrder renaming go->XF
open PySem.Builtin.Range renaming rangeSize->XZ
open PySem.EqNone renaming eq_none_none->X0,eq_none_bool->X1,eq_none_int->X2,eq_none_str->X3,eq_bool_none->X4,eq_int_none->X6,eq_str_none->X8,ne_none_none->Yb,ne_none_bool->Yc,ne_none_int->Ye,ne_none_str->Yf,ne_bool_none->Yg,ne_int_none->Yi,ne_str_none->Yk
open PySem.EqMixed renaming eq_bool_str->X5,eq_int_str->X7,eq_str_bool->X9,eq_str_int->Ya,ne_bool_str->Yh,ne_int_str->Yj,ne_str_bool->Yl,ne_str_int->Ym
open PySem.W.Looks renaming here->Yn
open PySem.Within renaming cons->Yo
open PySem.Builtin.Tuple renaming tupleItemsOf->Ys
open PySem.Builtin.Frozenset renaming newClass->Yx,updateFrom->Yy
open PySem.Builtin.Builtins renaming bindParams->YA
open PySem.Builtin.Dict_items renaming ownsTuple->YB
open PySem.Challenge renaming pw_shopbound_k34_goes->YE,rw_shopbound_k34_goes->YI
set_option hygiene false
set_option compiler.extract_closed false
local macro_rules
|`(.(a))=>`(Gam C_Facts C_Grounds C_Shop)
|`(.(b))=>`(by decide)
|`(.(c))=>`(by omega)
|`(.(d))=>`(η .(a) P w K mg base)
|`(.(e))=>`(vC (.int 0))
|`(.(f))=>`(vC (.int 1))
|`(.(g))=>`(aZ bs ss js E ls ks h)
|`(.(h))=>`(.tail _ (.tail _ (.tail _ (.head _))))
|`(.(i))=>`(dy ø P w K mg base N qual (aD st) f Y0 A outer s H us)
|`(.(j))=>`(A.deeper (dc qual (aD st) s.heap.objs.size f Y0))
|`(.(k))=>`(ax rfl (ax rfl aC))
|`(.(l))=>`(cj 2 (aX (aB 0) (aX (aB 1) ce)))
|`(.(m))=>`(cr bs ss js E ls ks h)
|`(.(n))=>`(by infer_instance)
|`(.(o))=>`(b2 YR (M 0) .(e))
|`(.(p))=>`(t.put (ao t.mask Hk n0))
|`(.(q))=>`(.ListComp ő [⟨tg,iter,ō,0⟩] scope pos)
|`(.(r))=>`(x==("__debug__":ai))
|`(.(s))=>`(vC (.int 4))
|`(.(t))=>`(aM X.prog X.w)
|`(.(u))=>`(Í .(a) P w K mg base "Facts")
|`(.(v))=>`(ao t.mask (bL Zl k) n0)
|`(.(w))=>`(s.heap.push {cls:=.type "set",dict:=B,data:=.set #[] 0 (.fresh 0 0 led)})
|`(.(x))=>`(vC (.int 3))
|`(.(y))=>`(J (M 1) aq)
local macro_rules
|`(.(z))=>`(aM prog w)
|`(.(A))=>`(aG (cO (DW.dt (hZ (by exfalso) (je (iY (iH (dF (gu rfl) rfl V.z_all gx (cw (DO.de (Ë ["row","bench_names","horizon"] (by left))) cE))))))) .(n) cR) (bx (cV (dC (kj V) hr (cw (DO.de (Ë ["row"] (by left))) cE) Φ))))
|`(.(af))=>`(vC (.int 2))
|`(.(hb))=>`(J (M 2) aq)
|`(.(D))=>`(by ac_rfl)
local macro_rules|`(tactic|ac_nf)=>`(tactic|first|exact Or.inl rfl|exact Or.inr rfl|exact Or.inr (Or.inl rfl)|exact Or.inr (Or.inr rfl)|assumption)
set_option bootstrap.genMatcherCode false
set_option genSizeOf false
set_option genSizeOfSpec false
noncomputable section
theorem ZE {α:Type u} {β:Type v} {o:au α} {f:α->au β} {b:β} (h:o.bind f=U b):∃a,o=U a/\f a=U b:=Option.bind_eq_some_iff.mp h
theorem Za {α:Type u} {β:Type v} {o:au α} {f:α->β} {b:β} (h:o.map f=U b):∃a,o=U a/\f a=b:=Option.map_eq_some_iff.mp h
noncomputable section
theorem W.{u}{α:Sort u}{a:α}:a=a:=rfl
section
local macro_rules|`(tactic|let $d:letDecl)=>`(tactic|have $d:letDecl)
local macro_rules|`(tactic|let $p:term:=$e)=>do
 let rec go:Nat->Lean.TSyntax `term->Lean.MacroM (Lean.TSyntax `rcasesPat)
  |0,_=>Lean.Macro.throwUnsupported
  |n+1,s=>match s with
   |`(⟨$[$xs],*⟩)=>do let ys←xs.mapM (go n);let zs←ys.mapM fun y=>`(Lean.Parser.Tactic.rcasesPatLo|$y:rcasesPat);`(rcasesPat|⟨$[$zs],*⟩)
   |`(_)=>`(rcasesPat|_)
   |`($x:ident)=>`(rcasesPat|$x:ident)
   |_=>Lean.Macro.throwUnsupported
 `(tactic|obtain $(←go 9 p):rcasesPat:=$e)
local macro_rules|`(tactic|show $t:term)=>`(tactic|first|refine $t|change $t)
local macro_rules|`(tactic|ext)=>`(tactic|first|lia|omega)
local macro_rules|`(#[$x,$y])=>`(⟨$x,$y⟩)|`(#[$x,$y,$z,*])=>`(⟨$x,$y,$z,*⟩)
section
open PySem PySem.Spec PyProof.Rows
def qc:=@Option.bind_some
def qd:=@List.getElem?_cons_zero
def qe:=@List.getElem?_cons_succ
def qf:=@Option.map_some
def qg:=@List.length_map
def qh:=@List.mem_cons_self
def qi:=@List.mem_cons_of_mem
def qj:=@List.length_cons
def ql:=@List.length_append
def qm:=@List.getElem?_map
def qo:=@List.length_nil
def qp:=@List.map_cons
def qq:=@List.map_map
def qr:=@List.cons_append
def qt:=@Bool.false_eq_true
def qu:=@Bool.false_ne_true
def qv:=@Heap.get?_push_of_some
def qw:=@Heap.lt_size
def qx:=@Nat.le_refl
def qy:=@wpAny_bind
def qz:=@List.getElem?_set_ne
def qA:=@List.getElem?_append_left
def qB:=@wpAny_pure
def qC:=@List.size_toArray
def qD:=@Nat.ne_of_lt
def qE:=@List.getElem?_eq_getElem
def qF:=@List.length_take
def qG:=@Nat.lt_of_lt_of_le
def qH:=@Heap.get?_push_size
def qI:=@XY
def qJ:=@Array.getElem?_toList
def qL:=@List.not_mem_nil
def qM:=@List.getElem?_append_right
def qN:=@cm
def qO:=@Nat.le_trans
def qP:=@decide_eq_false
def qQ:=@List.map_nil
def qR:=@List.mem_of_getElem?
def qS:=@List.mem_append_right
def qT:=@List.nil_append
def qU:=@decide_eq_true
def qV:=@wpAny_holding
def qW:=@List.length_range
def qX:=@List.mem_map_of_mem
def qY:=@if_pos
def qZ:=@if_neg
end
section
namespace L2
open PySem PySem.Spec PyProof.Rows
abbrev YQ:=Sum aj ai
variable{YK i j:ag}
namespace ST
structure Pr where
 j:ag
 more:ag
 i:ag
 pt:ag
def adv(YK:ag)(p:Pr):Pr:=if p.more > 0 then {p with j:=p.j+1,more:=p.more-1} else
 {j:=(jr YK p.i p.pt).1,more:=di YK (jr YK p.i p.pt).1-(jr YK p.i p.pt).1,i:=(jr YK p.i p.pt).1,pt:=(jr YK p.i p.pt).2}
def st0(YK:ag)(h:aj):Pr:={j:=fQ h%(YK+1),more:=di YK (fQ h%(YK+1))-fQ h%(YK+1),i:=fQ h%(YK+1),pt:=fQ h}
def it(YK:ag)(h:aj):ag->Pr
 |0=>st0 YK h
 |n+1=>adv YK (it YK h n)
def ao(YK:ag)(h:aj)(n:ag):ag:=(it YK h n).j
noncomputable def lp(YK:ag)(h:aj):ag->ag×ag
 |0=>(fQ h%(YK+1),fQ h)
 |r+1=>jr YK (lp YK h r).1 (lp YK h r).2
def mQ(YK:ag)(x:ag×ag):Pr:={j:=x.1,more:=di YK x.1-x.1,i:=x.1,pt:=x.2}
def v6(YK:ag)(h:aj)(n:ag):∀k,it YK h (n+k)=(Nat.repeat (adv YK) k (it YK h n))
 |0=>rfl
 |k+1=>by rw[<-Hm,it,v6 YK h n k];rfl
def KN(YK i:ag):di YK i-i<=9:=by unfold di;split<;>ext
def vK(YK:ag):∀(k:ag)(p:Pr),k<=p.more->Nat.repeat (adv YK) k p={p with j:=p.j+k,more:=p.more-k}
 |0,p,_=>rfl
 |k+1,p,h=>by rw[Nat.repeat,vK YK k p .(c)];unfold adv;rw[qY (by show p.more-k > 0;ext)];simp only[Nat.sub_sub,Hm]
def Fg(YK:ag)(h:aj):∀r,∃n,n<=10*r/\it YK h n=mQ YK (lp YK h r)
 |0=>#[0,qx _,W]
 |r+1=>by let⟨n,hn,e⟩:=Fg YK h r;let hl:=KN YK (lp YK h r).1;show#[n+(di YK (lp YK h r).1-(lp YK h r).1)+1,by ext,?_];let e2:=vK YK (di YK (lp YK h r).1-(lp YK h r).1) (mQ YK (lp YK h r)) (qx _);rw[it,v6,e,e2];unfold adv;rw[qZ (by show ¬((di YK (lp YK h r).1-(lp YK h r).1)-(di YK (lp YK h r).1-(lp YK h r).1) > 0);ext)];rfl
def Jd(h:aj):fQ h<2 ^ 64:=by unfold fQ;ext
def Ev(YK:ag)(h:aj):∀r,(lp YK h r).2=fQ h / 32 ^ r
 |0=>by simp[lp]
 |r+1=>by show(lp YK h r).2 / 32=_;rw[Ev YK h r,Nat.div_div_eq_div_mul,Nat.pow_succ]
def QX(YK:ag)(h:aj){r:ag}(hr:13<=r):(lp YK h r).2=0:=by rw[Ev];show Nat.div_eq_of_lt (qG (Jd h) ?_);show qO .(b) (Nat.pow_le_pow_right .(b) hr)
noncomputable def fl(YK i:ag):ag:=(i*5+1)%(YK+1)
def Ŧ(YK:ag):ag->ag->ag
 |0,i=>i
 |m+1,i=>fl YK (Ŧ YK m i)
def Aj(YK:ag)(h:aj):∀m,(lp YK h (13+m)).1=Ŧ YK m (lp YK h 13).1
 |0=>rfl
 |m+1=>by show(jr YK (lp YK h (13+m)).1 (lp YK h (13+m)).2).1=_;rw[QX YK h .(c),Aj YK h m];simp[jr,Ŧ,fl]
def vh(YK i:ag)(a:ag):∀b,Ŧ YK (a+b) i=Ŧ YK b (Ŧ YK a i)
 |0=>rfl
 |b+1=>by rw[<-Hm,Ŧ,vh YK i a b];rfl
def xA(YK:ag):ag->ag->Z ag
 |0,_=>[]
 |n+1,i=>i::xA YK n (fl YK i)
def Gm(YK:ag):∀m i,Ŧ YK (m+1) i=Ŧ YK m (fl YK i)
 |0,_=>rfl
 |m+1,i=>by rw[Ŧ,Gm YK m i];rfl
def B3(YK:ag):∀(n i j:ag),j∈xA YK n i->∃m,m<n/\Ŧ YK m i=j
 |0,_,_,h=>nomatch h
 |n+1,i,j,h=>by
  rcases cm.mp h with e|h
  .exact#[0,wp _,e.symm]
  .obtain⟨m,hm,e⟩:=B3 YK n (fl YK i) j h;show#[m+1,by ext,by rw[Gm];show e]
structure vk(YK:ag):Prop where
 all:∀j,j<=YK->∃m,m<YK+1/\Ŧ YK m 0=j
 back:Ŧ YK (YK+1) 0=0
def chk(YK:ag):aJ:=(cC (YK+1)).all (λj=>(xA YK (YK+1) 0).contains j) && Ŧ YK (YK+1) 0==0
def t5(h:chk YK=ah):vk YK:=by unfold chk at h;rw[dB,gE] at h;show#[λj hj=>?_,by simpa using h.2];let:=h.1 j (fj.mpr .(c));show B3 YK (YK+1) 0 j (by simpa using this)
def xh:vk 7:=t5 .(b)
def JX:vk 31:=t5 .(b)
def N9:vk 127:=t5 .(b)
def T3:vk 511:=t5 .(b)
def vk.reach(F:vk YK)(hi:i<=YK)(hj:j<=YK):∃m,m<=YK/\Ŧ YK m i=j:=by
 let⟨a,ha,ea⟩:=F.all i hi;let⟨b,C,eb⟩:=F.all j hj;by_cases h:a<=b
 .refine#[b-a,by ext,?_];rw[<-ea,<-vh,show a+(b-a)=b by ext,eb]
 .refine#[YK+1-a+b,by ext,?_];rw[<-ea,<-vh,show a+(YK+1-a+b)=(YK+1)+b by ext,vh,F.back,eb]
def yB(YK:ag)(h:aj):∀r,(lp YK h r).1<=YK
 |0=>Hn.mp (wq _ (wp _))
 |r+1=>Hn.mp (wq _ (wp _))
def vk.covers(F:vk YK)(h:aj)(hj:j<=YK):∃n,n<10*(YK+15)/\ao YK h n=j:=by let⟨m,hm,e⟩:=F.reach (yB YK h 13) hj;let⟨n,hn,en⟩:=Fg YK h (13+m);show#[n,by ext,?_];unfold ao;rw[en];show(lp YK h (13+m)).1=j;rw[Aj,e]
def FH(YK:ag)(h:aj):∀n,(it YK h n).j+(it YK h n).more<=YK
 |0=>by
  let:=yB YK h 0;show(lp YK h 0).1+(di YK (lp YK h 0).1-(lp YK h 0).1)<=YK;unfold di;split<;>ext
 |n+1=>by
  let ih:=FH YK h n;rw[it];unfold adv;split
  .show(it YK h n).j+1+((it YK h n).more-1)<=YK;ext
  .show(jr YK (it YK h n).i (it YK h n).pt).1+(di YK (jr YK (it YK h n).i (it YK h n).pt).1-(jr YK (it YK h n).i (it YK h n).pt).1)<=YK;let:(jr YK (it YK h n).i (it YK h n).pt).1<=YK:=Hn.mp (wq _ (wp _));unfold di;split<;>ext
def za(YK:ag)(h:aj)(n:ag):ao YK h n<=YK:=qO (AA _ _) (FH YK h n)
def vk.first(F:vk YK)(h:aj)(occ:ag->aJ)(hf:∃j,j<=YK/\occ j=ar):∃n,n<10*(YK+15)/\occ (ao YK h n)=ar/\∀m,m<n->occ (ao YK h m)=ah:=by
 let⟨j,hj,hof⟩:=hf;let⟨n,hn,e⟩:=F.covers h hj;let key:∀n,n<10*(YK+15)->occ (ao YK h n)=ar->∃n,n<10*(YK+15)/\occ (ao YK h n)=ar/\∀m,m<n->occ (ao YK h m)=ah:=by
  intro n
  induction n using Nat.strongRecOn with
  |ind n ih=>
   intro hn ho;by_cases hx:∃m,m<n/\occ (ao YK h m)=ar
   .obtain⟨m,hm,hm2⟩:=hx;show ih m hm .(c) hm2
   .refine#[n,hn,ho,λm hm=>?_];cases q:occ (ao YK h m) with
    |true=>rfl
    |false=>show bH #[m,hm,q] hx
 show key n hn (by rw[e];show hof)
end ST
def oy:YQ->aw->aJ
 |.inl k,v=>AB k v
 |.inr x,v=>VU x v
def Jt(w:cD):YQ->aj
 |.inl k=>hashInt k
 |.inr x=>hashStr w x
def jq:∀{k:YQ}{v:aw},oy k v=ah->(∃i t,k=ph i/\v=dL i t)\/(∃x t,k=bS x/\v=VV x t)
 |.inl i,v,h=>by
  let⟨t,e⟩:=Value.isInt_shape h;show .inl #[i,t,W,e]
 |.inr x,v,h=>by let⟨t,e⟩:=VW h;show .inr #[x,t,W,e]
def M5(i:aj)(t:Tok):oy (.inl i) (.int i t)=ah:=by simp[oy,AB]
def O7(x:ai)(t:Tok):oy (.inr x) (.str x t)=ah:=by simp[oy,VU]
def PC(a b:aj):decide ((ph a:YQ)=ph b)=(a==b):=by
 by_cases e:a=b
 .subst e;simp
 .let h:¬(ph a:YQ)=ph b:=λq=>e (Sum.inl.inj q);rw[qP h];show(lS.mpr e).symm
def QY(a b:ai):decide ((bS a:YQ)=bS b)=decide (a=b):=by
 by_cases e:a=b
 .subst e;simp
 .let h:¬(bS a:YQ)=bS b:=λq=>e (iq q);rw[qP h,qP e]
def Uo(a:aj)(b:ai):decide ((ph a:YQ)=bS b)=ar:=qP (λq=>nomatch q)
def Qg(a:ai)(b:aj):decide ((bS a:YQ)=ph b)=ar:=qP (λq=>nomatch q)
def cS(prog:dD)(w:cD):PySem.KeyKind prog w YQ where
 is:=oy
 hash:=Jt w
 inj:=λv a b ha C=>by
  rcases jq ha with⟨i,t,rfl,rfl⟩|⟨x,t,rfl,rfl⟩
  .rcases jq C with⟨j,u,rfl,e⟩|⟨y,u,rfl,e⟩
   .injection e with e1 _;rw[e1]
   .exact nomatch e
  .rcases jq C with⟨j,u,rfl,e⟩|⟨y,u,rfl,e⟩
   .exact nomatch e
   .injection e with e1 _;rw[e1]
 byValue:=λk v h=>by rcases jq h with⟨i,t,rfl,rfl⟩|⟨x,t,rfl,rfl⟩<;>rfl
 pyHash:=λhv h=>by
  rcases jq hv with⟨i,t,rfl,rfl⟩|⟨x,t,rfl,rfl⟩
  .exact wpAny_pyHash_int h
  .exact wpAny_pyHash_str h
 eqBool:=λhu hv h=>by
  rcases jq hu with⟨i,t,rfl,rfl⟩|⟨x,t,rfl,rfl⟩
  .rcases jq hv with⟨j,u,rfl,rfl⟩|⟨y,u,rfl,rfl⟩
   .rw[PC] at h;show wpAny_eqBool_int h
   .rw[Uo] at h;show SeqAt.EqAt.int_str i t y u _ _ _ _ h
  .rcases jq hv with⟨j,u,rfl,rfl⟩|⟨y,u,rfl,rfl⟩
   .rw[Qg] at h;show SeqAt.EqAt.str_int x t j u _ _ _ _ h
   .rw[QY] at h;show wpAny_eqBool_str h
 «strs»:=λk x t v h=>by
  rcases jq h with⟨i,u,rfl,e⟩|⟨y,u,rfl,e⟩
  .exact nomatch e
  .injection e with e1 _;subst e1;cases v<;>rfl
def Sw(prog:dD)(w:cD)(i:aj)(t:Tok):(cS prog w).is (.inl i) (.int i t)=ah:=M5 i t
def UL(prog:dD)(w:cD)(x:ai)(t:Tok):(cS prog w).is (.inr x) (.str x t)=ah:=O7 x t
inductive V where
 |non|bl (b:aJ)|int (i:aj)|str (x:ai)|ref (a:av)|ty (n:cW)
 deriving dE
noncomputable def bI:V->aw->Prop
 |.non,u=>u=Ho
 |.bl b,u=>u=lU b
 |.int i,u=>∃t,u=dL i t
 |.str x,u=>∃t,u=VV x t
 |.ref a,u=>u=cU a
 |.ty n,u=>u=sJ n
abbrev bj:Z V->Z aw->Prop:=Paired bI
def bj.length{xs:Z V}{E:Z aw}(r:bj xs E):xs.length=E.length:=Paired.length r
def bj.get:∀{xs:Z V}{E:Z aw}{i:ag}{x:V},bj xs E->xs[i]?=U x->∃u,E[i]?=U u/\bI x u
 |_,_,_,_,.nil,e=>by simp at e
 |_,_,0,_,.cons r _,e=>by simp at e;subst e;show#[_,W,r]
 |_,_,i+1,x,.cons _ t,e=>by let⟨u,h1,h2⟩:=bj.get t (by simpa using e);show#[u,by simpa using h1,h2]
def bj.append:∀{xs ys:Z V}{E ws:Z aw},bj xs E->bj ys ws->bj (xs++ys) (E++ws)
 |_,_,_,_,.nil,s=>s
 |_,_,_,_,.cons r t,s=>.cons r (bj.append t s)
def bj.take:∀{xs:Z V}{E:Z aw}(n:ag),bj xs E->bj (xs.take n) (E.take n)
 |_,_,0,_=>.nil
 |_,_,_+1,.nil=>.nil
 |_,_,n+1,.cons r t=>.cons r (bj.take n t)
def bj.drop:∀{xs:Z V}{E:Z aw}(n:ag),bj xs E->bj (xs.drop n) (E.drop n)
 |_,_,0,r=>r
 |_,_,_+1,.nil=>.nil
 |_,_,n+1,.cons _ t=>bj.drop n t
def eS:au V->au aw->Prop
 |some v,U u=>bI v u
 |none,B=>True
 |_,_=>False
variable{κ:Type}
def KV:Z (κ×V)->Z (κ×aw)->Prop:=Paired λ(p:κ×V)(q:κ×aw)=>p.1=q.1/\bI p.2 q.2
def kV:YQ->V
 |.inl i=>.int i
 |.inr x=>.str x
inductive HO where
 |lst (xs:Z V)
 |tup (xs:Z V)
 |dK (YL:Z (YQ×V))|dT (YL:Z (Z YQ×V))
 |set (S:aj->aJ) (n:ag)
 |ins (hb dx:av) (fs:Z (ai×V))
 |own (x:av)
 |frz (o:Obj) (u:HO)
 |tbl (ps:bK aw)
 |ext (φ:Heap->Prop)
noncomputable abbrev Hp:=av->au HO
noncomputable def YZ(H:Hp)(a:av)(o:HO):Hp:=λb=>if b=a then U o else H b
variable{H:Hp}{a:av}
def bf{o:HO}:YZ H a o a=U o:=by unfold YZ;rw[qY W]
def aE{b:av}{o:HO}(h:b≠a):YZ H a o b=H b:=by unfold YZ;rw[qZ h]
def TV{o u:HO}:YZ (YZ H a o) a u=YZ H a u:=by
 funext b;unfold YZ;split<;>rfl
def xG{b:av}{o u:HO}(h:H a=U o)(h':H b=U u)(d:o≠u):a≠b:=by intro e;subst e;rw[h] at h';show d (qI h')
def bJ{b:av}{o:HO}(h:H a=U o)(h':H b=B):a≠b:=by intro e;subst e;rw[h] at h';cases h'
section
variable(P:dD)(w:cD)
def cQ(H:Hp)(h:Heap)(a:av):HO->Prop
 |.lst xs=>xs.length<=aK/\∃(YY:Z aw)(n:ag),bj xs YY/\h.get? a=U {cls:=.type "list",data:=.seq YY.toArray n}
 |.tup xs=>xs.length<=aK/\∃YY:Z aw,bj xs YY/\wt h a YY.toArray
 |.dK YL=>YL.length<=aK/\(a==iP)=ar/\∃vs,KV YL vs/\h.DictOf (cS P w) a vs
 |.dT YL=>YL.length<=aK/\(a==iP)=ar/\∃xs:Z (Z YQ×av×aw),
   Paired (λ(p:Z YQ×V)(q:Z YQ×av×aw)=>p.1=q.1/\H q.2.1=U (.tup (p.1.map kV))/\bI p.2 q.2.2) YL xs /\
   ∃o es ep,h.get? a=U o/\o.ExactDict/\o.data=.dict es ep/\es.toList=xs.map (entryOfKey (lV (cS P w)))/\(xs.map (·.1)).Nodup
 |.set S n=>h.SetOf (fm P w) a S n
 |.ins hb dx fs=>H dx=U (.own a)/\fs.length<=1000/\dx≠a/\h.get? a=U (nC hb dx) /\
   ∃mA,h.Ns1 dx mA/\(∀f,eS (fs.lookup f) (mA f))/\Hq mA (fs.map (·.1))
 |.own _=>∃o,h.get? a=U o
 |.frz o u=>h.get? a=U o/\cQ H h a u
 |.tbl ps=>h.get? a=U {cls:=.none,data:=.fields ps}
 |.ext φ=>φ h/\(∃o,h.get? a=U o)/\∀h1 h2:Heap,φ h1->(∀o,h1.get? a=U o->h2.get? a=U o)->φ h2
def ì(H:Hp)(h:Heap):Prop:=∀a o,H a=U o->cQ P w H h a o
end
variable{P:dD}{w:cD}{H':Hp}{h':Heap}
section
variable{h:Heap}{o:HO}
def cQ.lt(x:cQ P w H h a o):a<h.objs.size:=by
 cases o with
 |lst xs=>let⟨_,_,_,_,e⟩:=x;show qw e
 |tup xs=>let⟨_,_,_,p⟩:=x;show p.lt
 |dK YL=>let⟨_,_,_,_,o,_,_,e,_⟩:=x;show qw e
 |dT YL=>let⟨_,_,_,_,o,_,_,e,_⟩:=x;show qw e
 |set S n=>let⟨o,_,_,_,e,_⟩:=x;show qw e
 |ins hb dx fs=>let⟨_,_,_,e,_⟩:=x;show qw e
 |own y=>let⟨_,e⟩:=x;show qw e
 |frz ob u=>let⟨e,_⟩:=x;show qw e
 |tbl ps=>show qw (x)
 |ext φ=>let⟨_,⟨_,e⟩,_⟩:=x;show qw e
def Paired.mapP{α β:Type}{F G:α->β->Prop}:∀{l₁:Z α}{l₂:Z β},Paired F l₁ l₂->(∀a b,F a b->G a b)->Paired G l₁ l₂
 |_,_,.nil,_=>.nil
 |_,_,.cons r t,f=>.cons (f _ _ r) (Paired.mapP t f)
def cQ.stay(x:cQ P w H h a o)(k:∀b u,(b=a\/H b=U (.own a))->h.get? b=U u->h'.get? b=U u)
  (ho:∀b,H b=U (.own a)->H' b=U (.own a))(ht:∀b xs,H b=U (.tup xs)->H' b=U (.tup xs)):cQ P w H' h' a o:=by
 induction o with
 |lst xs=>let⟨z,YY,n,r,e⟩:=x;show#[z,YY,n,r,k _ _ (.inl W) e]
 |tup xs=>let⟨z,YY,r,ob,e,c⟩:=x;show#[z,YY,r,ob,k _ _ (.inl W) e,c]
 |dK YL=>let⟨z,y,vs,r,ob,es,ep,e,c⟩:=x;show#[z,y,vs,r,ob,es,ep,k _ _ (.inl W) e,c]
 |dT YL=>
  let⟨z,y,xs,r,ob,es,ep,e,c⟩:=x;show#[z,y,xs,Paired.mapP r λp q z=>#[z.1,ht _ _ z.2.1,z.2.2],ob,es,ep,k _ _ (.inl W) e,c]
 |set S n=>let⟨ob,es,ep,t,e,c⟩:=x;show#[ob,es,ep,t,k _ _ (.inl W) e,c]
 |ins hb dx fs=>
  let⟨d,z,ne,e,mA,⟨od,es,ep,e2,c⟩,r⟩:=x;show#[ho _ d,z,ne,k _ _ (.inl W) e,mA,#[od,es,ep,k _ _ (.inr d) e2,c],r]
 |own y=>let⟨ob,e⟩:=x;show#[ob,k _ _ (.inl W) e]
 |frz ob u ih=>let⟨e,q⟩:=x;show#[k _ _ (.inl W) e,ih q]
 |tbl ps=>
  let e:h.get? a=U {cls:=.none,data:=.fields ps}:=x;show k a _ (.inl W) e
 |ext φ=>let⟨p,⟨o,e⟩,st⟩:=x;show#[st _ _ p λo q=>k _ _ (.inl W) q,#[o,k _ _ (.inl W) e],st]
def ì.lt(x:ì P w H h)(e:H a=U o):a<h.objs.size:=(x a o e).lt
def ì.fresh(x:ì P w H h)(e:h.objs.size<=a):H a=B:=by
 cases q:H a with
 |none=>rfl
 |some u=>show bH (qG (x.lt q) e) (gU _)
def ì.kept(x:ì P w H h)(k:∀b u,h.get? b=U u->h'.get? b=U u):ì P w H h':=λa o e=>
 (x a o e).stay (λb u _ q=>k b u q) (λ_ q=>q) λ_ _ q=>q
def ì.laid(x:ì P w H h)(k:∀b u,h.get? b=U u->h'.get? b=U u)(hp:h.objs.size<=a)(new:cQ P w (YZ H a o) h' a o):ì P w (YZ H a o) h':=λb u e=>by
 let hn:=x.fresh hp;by_cases C:b=a
 .subst C;rw[bf] at e;cases e;show new
 .rw[aE C] at e;show(x b u e).stay (λc v _ q=>k c v q) (λc q=>by rw[aE (bJ q hn)];show q) λc xs q=>by rw[aE (bJ q hn)];show q
end
def Rd(H:Hp)(a:av)(u:HO):Prop:=H a=U u\/∃o,H a=U (.frz o u)
def Rd.ok{h:Heap}{u:HO}(r:Rd H a u)(x:ì P w H h):cQ P w H h a u:=by
 rcases r with r|⟨o,r⟩
 .exact x a u r
 .obtain⟨_,q⟩:=x a _ r;show q
noncomputable def Mut:au HO->Prop
 |some (.lst _)=>True
 |some (.dK _)=>True
 |some (.dT _)=>True
 |some (.set _ _)=>True
 |some (.ins _ _ _)=>True
 |some (.ext _)=>True
 |_=>False
section
variable{h:Heap}{x e:av}{o':HO}
def ì.write(ok:ì P w H h)(mu:Mut (H x))(he:e=x\/H e=U (.own x))(k:∀b u,b≠e->h.get? b=U u->h'.get? b=U u)(heo:∃u,h'.get? e=U u)
  (new:cQ P w (YZ H x o') h' x o'):ì P w (YZ H x o') h':=λb u q=>by
 let nown:∀c y,H c=U (.own y)->c≠x:=λc y r z=>by subst z;rw[r] at mu;show mu
 let ntup:∀c xs,H c=U (.tup xs)->c≠x:=λc xs r z=>by subst z;rw[r] at mu;show mu
 by_cases C:b=x
 .subst C;rw[bf] at q;cases q;show new
 .rw[aE C] at q;by_cases hbe:b=e
  .let q':H b=U (.own x):=by
    rcases he with z|z
    .exact bH (hbe.trans z) C
    .rw[hbe];show z
   rw[q] at q';cases q';let⟨v,hv⟩:=heo;show#[v,by rw[hbe];show hv]
  .refine(ok b u q).stay (λc v hc r=>k c v ?_ r) (λc r=>by rw[aE (nown c b r)];show r) λc xs r=>by rw[aE (ntup c xs r)];show r
   rcases hc with rfl|hc
   .exact hbe
   .rintro rfl;rcases he with z|z
    .exact nown c b hc z
    .rw[hc] at z;cases z;show C W
end
structure Un(fs ex:Z av)(H H':Hp)(h h':Heap):Prop where
 keep:∀b o,h.get? b=U o->H b=B->b∉fs->b∉ex->h'.get? b=U o
 slot:∀b o,h.get? b=U o->H b=B->b∈fs->b∉ex->∃sl,h'.get? b=U {o with slots:=sl}
 free:∀b o,h.get? b=U o->H b=B->b∉ex->H' b=B
 there:∀b o,h.get? b=U o->b∉ex->∃o',h'.get? b=U o'
 tups:∀b xs,H b=U (.tup xs)->H' b=U (.tup xs)
 frzs:∀b o u,H b=U (.frz o u)->H' b=U (.frz o u)
 tbls:∀b ps,H b=U (.tbl ps)->∃more,H' b=U (.tbl (ps++more))
variable{H1 H2:Hp}
section
variable{fs ê ex ex':Z av}{h h1 h2:Heap}{x e:av}{o:HO}
def Un.any(u:Un fs ex H H1 h h1){b:av}{ob:Obj}(q:h.get? b=U ob)(n:H b=B)(hx:b∉ex):∃sl,h1.get? b=U {ob with slots:=sl}:=by
 by_cases C:b∈fs
 .exact u.slot b ob q n C hx
 .exact#[ob.slots,u.keep b ob q n C hx]
def Un.trans(a:Un fs ex H H1 h h1)(b:Un fs ex H1 H2 h1 h2):Un fs ex H H2 h h2 where
 keep:=λc ob q n hc hx=>b.keep c ob (a.keep c ob q n hc hx) (a.free c ob q n hx) hc hx
 slot:=λc ob q n hc hx=>by let⟨sl,e1⟩:=a.slot c ob q n hc hx;let⟨sl',e2⟩:=b.slot c _ e1 (a.free c ob q n hx) hc hx;show#[sl',e2]
 free:=λc ob q n hx=>by let⟨o',e1⟩:=a.there c ob q hx;show b.free c o' e1 (a.free c ob q n hx) hx
 there:=λc ob q hx=>by let⟨o',e1⟩:=a.there c ob q hx;show b.there c o' e1 hx
 tups:=λc xs q=>b.tups c xs (a.tups c xs q)
 frzs:=λc ob xs q=>b.frzs c ob xs (a.frzs c ob xs q)
 tbls:=λc ps q=>by let⟨m1,e1⟩:=a.tbls c ps q;let⟨m2,e2⟩:=b.tbls c _ e1;show#[m1++m2,by rw[e2,VX]]
def Un.kept(k:∀b u,h.get? b=U u->h'.get? b=U u):Un fs ex H H h h':=
 #[λb ob q _ _ _=>k b ob q,λb ob q _ _ _=>#[ob.slots,k b ob q],λ_ _ _ n _=>n,λb ob q _=>#[ob,k b ob q],λ_ _ q=>q,λ_ _ _ q=>q,λ_ ps q=>#[#[],by rw[q];simp]]
def Un.refl:Un fs ex H H h h:=Un.kept λ_ _ q=>q
def Un.laid(k:∀b u,h.get? b=U u->h'.get? b=U u)(hp:h.objs.size<=a)(hn:H a=B):Un fs ex H (YZ H a o) h h' where
 keep:=λb u q _ _ _=>k b u q
 slot:=λb u q _ _ _=>#[u.slots,k b u q]
 free:=λb u q n _=>by rw[aE (qD (qG (qw q) hp))];show n
 there:=λb u q _=>#[u,k b u q]
 tups:=λb xs q=>by rw[aE (bJ q hn)];show q
 frzs:=λb u xs q=>by rw[aE (bJ q hn)];show q
 tbls:=λb ps q=>#[#[],by rw[aE (bJ q hn),q];simp]
def Un.write(mu:Mut (H x))(he:e=x\/H e=U (.own x))(k:∀b u,b≠e->h.get? b=U u->h'.get? b=U u)(heo:∃u,h'.get? e=U u):Un fs ex H (YZ H x o) h h':=by
 let hx:∀b,H b=B->b≠x:=λb n z=>by subst z;rw[n] at mu;show mu
 let C:∀b,H b=B->b≠e:=λb n z=>by
  subst z;rcases he with r|r
  .exact hx b n r
  .rw[n] at r;cases r
 let hm:∀b u,H b=U u->¬Mut (U u)->b≠x:=λb u q nm z=>by subst z;rw[q] at mu;show nm mu
 show#[λb u q n _ _=>k b u (C b n) q,λb u q n _ _=>#[u.slots,k b u (C b n) q],λb u q n _=>by rw[aE (hx b n)];show n,λb u q _=>?_,
  λb xs q=>by rw[aE (hm b _ q λz=>z)];show q,λb u xs q=>by rw[aE (hm b _ q λz=>z)];show q,λb ps q=>#[#[],by rw[aE (hm b _ q λz=>z),q];simp]]
 by_cases hbe:b=e
 .subst hbe;show heo
 .exact#[u,k b u hbe q]
end
noncomputable def trk(h:Heap)(H:Hp):Z av:=(cC h.objs.size).filter λa=>(H a).isSome
def km(h:Heap)(H:Hp):Heap:=PySem.W.hideAll h (trk h H)
def MU(h:Heap)(H:Hp):(km h H).objs.size=h.objs.size:=PySem.W.hideAll_size _ _
variable{o:Obj}
def Lw{h:Heap}{b:av}(e:h.get? b=U o)(n:H b=B):(km h H).get? b=U o:=
 PySem.W.hideAll_get _ e λhm=>by let q:(H b).isSome=ah:=(lW.mp hm).2;rw[n] at q;simp at q
def Jx{h:Heap}{b:av}(e:(km h H).get? b=U o):h.get? b=U o/\H b=B:=by
 let e':h.get? b=U o:=PySem.W.of_hideAll (trk h H) e;show#[e',?_];cases q:H b with
 |none=>rfl
 |some x=>
  let hm:b∈trk h H:=lW.mpr #[fj.mpr (qw e'),by simp[q]];let z:(km h H).get? b=B:=PySem.W.hideAll_none (trk h H) hm;rw[z] at e;cases e
noncomputable def RS(g h:Heap)(σ:av):Z (av×Obj):=(cC h.objs.size).filterMap λa=>if a=σ\/(g.get? a).isSome=ah then B else (h.get? a).map λo=>(a,o)
def bX(g h:Heap)(σ d:av):Z (av×Obj):=(RS g h σ).filter λp=>decide (p.1≠d)
structure Mod(K:aT)(mg:ai->au aw)(base:Heap):Prop where
 kin:K.In base
 glob:base.Ns fK mg
 blt:∃mb,base.Ns Hr mb/\∀x:ai,x≠"__name__"->mb x=eq x
 nolimit:base.NoLimit
structure Cx where
 prog:dD
 w:cD
 K:aT
 mg:ai->au aw
 base:Heap
 A:cH
 N:Z ai
 Z6:aH
 Z9:Hp
 env:cA
 outer:Z cA
 stack:Z cA
 ex:Z av
 fn:ai->aJ
 calm:aJ
 pn:Z (av×Obj)
 xe:aw->aH->Prop
noncomputable def ω(l:Z cA):Z av:=l.filterMap (·.frame)
abbrev Cx.fs(X:Cx):Z av:=ω X.outer
def ŋ(sc:Scope)(x:ai):Prop:=sc.names.lookup x=U .local\/sc.names.lookup x=U .cell\/sc.names.lookup x=U .free
def Loc(sc:Scope)(x:ai):Prop:=sc.names.lookup x=U .local\/sc.names.lookup x=U .cell
def Os(env:cA)(h:Heap)(m:ai->au aw)(x:ai)(u:aw):Prop:=
 (env.kindOf x=U .local/\m x=U u)\/((env.kindOf x=U .cell\/env.kindOf x=U .free)/\∃c,env.cells.lookup x=U c/\h.IsCell c (U u))
structure Cx.Ok(X:Cx):Prop where
 mod:Mod X.K X.mg X.base
 kind:X.env.scope.kind=.function
 glob:X.env.globals=fK
 blt:X.env.builtins=Hr
 above:X.Z6.heap.objs.size<=X.env.locals
 inj:∀x y c,X.env.cells.lookup x=U c->X.env.cells.lookup y=U c->x=y
 has:∀x,(X.env.kindOf x=U .cell\/X.env.kindOf x=U .free)->∃c,X.env.cells.lookup x=U c
 cab:∀x c,X.fn x=ah->X.env.cells.lookup x=U c->X.Z6.heap.objs.size<=c
 hd:X.calm=ah->X.A.handled=B
 frames:X.A.frames=U X.stack
 stk:X.stack=X.outer\/(X.stack=X.env::X.outer/\X.env.frame=U X.env.locals)
 exf:∀b∈X.ex,b≠X.env.locals/\∀x c,X.env.cells.lookup x=U c->c≠b
 bs:∀b o,X.base.get? b=U o->X.Z6.heap.get? b=U o/\X.Z9 b=B
 bsz:X.base.objs.size<=X.Z6.heap.objs.size
 noex:∀b o,X.base.get? b=U o->b∉X.ex
 exfs:∀b∈X.ex,b∉X.fs
 funs:X.Z6.heap.FunFrames X.base X.outer
 frf:∀b∈X.fs,X.Z9 b=B
structure YS(X:Cx)(Z':Z (av×Obj))(L:Z (au V))(H:Hp)(s:aH):Prop where
 ok:X.Ok
 os:s.os=X.Z6.os
 bare:lX s.gens
 base:Un X.fs X.ex X.Z9 H X.Z6.heap s.heap
 loc:∃m,s.heap.Ns X.env.locals m/\∀(i:ag)(x:ai)(v:V),X.N[i]?=U x->L[i]?=U (U v)->ŋ X.env.scope x->∃u,bI v u/\Os X.env s.heap m x u
 cell:∀x c,X.env.cells.lookup x=U c->∃v,s.heap.IsCell c v
 free:H X.env.locals=B
 freeC:∀x c,X.env.cells.lookup x=U c->H c=B
 pin:∀p∈X.pn++Z',s.heap.get? p.1=U p.2/\H p.1=B/\p.1≠X.env.locals/\p.1∉X.fs/\∀v,p.2.data≠.cell v
 hok:ì X.prog X.w H s.heap
 len:L.length=X.N.length
variable{X:Cx}{Z':Z (av×Obj)}{s s':aH}{t':ag}{d':Drawn}{N:Z ai}{x:ai}{A:cH}{us:aw->aH->Prop}{v:V}{u:aw}
section
variable{L:Z (au V)}
def Cx.Ok.nofr(ok:X.Ok){b:av}(e:X.base.get? b=U o):b∉X.fs:=λC=>by let:=(ok.funs.mem C).1;rw[e] at this;cases this
def YS.bs(I:YS X Z' L H s):∀b o,X.base.get? b=U o->s.heap.get? b=U o/\H b=B:=λb o e=>
 #[I.base.keep b o (I.ok.bs b o e).1 (I.ok.bs b o e).2 (I.ok.nofr e) (I.ok.noex b o e),I.base.free b o (I.ok.bs b o e).1 (I.ok.bs b o e).2 (I.ok.noex b o e)]
def YS.bk(I:YS X Z' L H s):∀b o,X.base.get? b=U o->s.heap.get? b=U o:=λb o e=>(I.bs b o e).1
def YS.mod(I:YS X Z' L H s):Mod X.K X.mg X.base:=I.ok.mod
def YS.kIn(I:YS X Z' L H s):X.K.In s.heap:=I.ok.mod.kin.keeps I.bk
def YS.lt(I:YS X Z' L H s):X.env.locals<s.heap.objs.size:=let #[_,hn,_]:=I.loc;hn.lt
def YS.sz(I:YS X Z' L H s):X.Z6.heap.objs.size<=s.heap.objs.size:=qO I.ok.above (sK I.lt)
def YS.nofs(I:YS X Z' L H s)(h:s.heap.objs.size<=a):a∉X.fs:=λC=>by let⟨_,o,ho,_⟩:=I.ok.funs.mem C;show bH (qG (qw ho) (qO I.sz h)) (gU _)
def YS.cne(I:YS X Z' L H s):∀x c,X.env.cells.lookup x=U c->c≠X.env.locals:=λx c e z=>by let⟨v,o,ho,hd⟩:=I.cell x c e;let⟨m,⟨o',es,ep,Ĕ,þ,_⟩,_⟩:=I.loc;rw[z,Ĕ] at ho;cases ho;rw[þ] at hd;cases hd
def YS.funs(I:YS X Z' L H s):s.heap.FunFrames X.base X.outer:=by
 let all:∀(l:Z cA),(∀b∈ω l,b∈X.fs)->X.Z6.heap.FunFrames X.base l->s.heap.FunFrames X.base l:=by
  intro l
  induction l with
  |nil=>intro _ _;trivial
  |cons env r ih=>
   intro hs hl;let⟨hk,⟨σ,o,hf,hn,ho,hd⟩,hr⟩:=hl;let hL:σ∈X.fs:=hs σ (by unfold ω;rw[AC,hf];show qh);let⟨sl,e⟩:=I.base.slot σ o ho (I.ok.frf σ hL) hL λz=>I.ok.exfs σ z hL;show#[hk,#[σ,_,hf,hn,e,hd],ih (λb C=>hs b (by unfold ω;rw[AC,hf];show qi _ C)) hr]
 show all X.outer (λ_ C=>C) I.ok.funs
def YS.stack(I:YS X Z' L H s):s.heap.FunFrames X.base X.stack:=by
 rcases I.ok.stk with e|⟨e,hf⟩
 .rw[e];show I.funs
 .rw[e];let⟨m,hn,_⟩:=I.loc;show .cons (by rw[I.ok.kind];decide) hf hn ?_ I.funs;show Heap.get?_none_of_le (qO I.ok.bsz I.ok.above)
def YS.stkSub(I:YS X Z' L H s):∀b∈ω X.stack,b∈X.env.locals::X.fs:=λb C=>by
 rcases I.ok.stk with e|⟨e,hf⟩
 .rw[e] at C;show qi _ C
 .rw[e] at C;unfold ω at C;rw[AC,hf] at C;show C
def YS.stkFree(I:YS X Z' L H s):∀b∈ω X.stack,H b=B:=λb C=>by
 rcases cm.mp (I.stkSub b C) with e|C
 .rw[e];show I.free
 .obtain⟨_,o,ho,_⟩:=I.ok.funs.mem C;show I.base.free b o ho (I.ok.frf b C) λz=>I.ok.exfs b z C
def YS.step{g':bK sL}{ch:Z av}(I:YS X Z' L H s)
  (υ:∀b∈ch,(b∈X.ex\/X.Z6.heap.objs.size<=b)/\b≠X.env.locals/\(∀x c,X.env.cells.lookup x=U c->c≠b)/\∀p∈X.pn++Z',p.1≠b)
  (keep:∀b o,b≠X.env.locals->b∉X.fs->b∉ch->s.heap.get? b=U o->H b=B->h'.get? b=U o)
  (slot:∀b o,b≠X.env.locals->b∈X.fs->b∉ch->s.heap.get? b=U o->H b=B->∃sl,h'.get? b=U {o with slots:=sl})(free:∀b o,b∉ch->s.heap.get? b=U o->H b=B->H' b=B)
  (there:∀b o,b∉ch->s.heap.get? b=U o->∃o',h'.get? b=U o')
  (tups:∀b xs,H b=U (.tup xs)->H' b=U (.tup xs))(frzs:∀b o u,H b=U (.frz o u)->H' b=U (.frz o u))(tbls:∀b ps,H b=U (.tbl ps)->∃more,H' b=U (.tbl (ps++more)))
  (ns:∀m,s.heap.Ns X.env.locals m->h'.Ns X.env.locals m)(hok:ì X.prog X.w H' h')(hg:lX g'):
  YS X Z' L H' {s with heap:=h',gens:=g',drawn:=d',toks:=t'}:=by
 let neL:∀b o,X.Z6.heap.get? b=U o->b≠X.env.locals:=λb o e=>qD (qG (qw e) I.ok.above);let neC:∀b o,X.Z6.heap.get? b=U o->b∉X.ex->b∉ch:=λb o e hx C=>by
  rcases(υ b C).1 with z|z
  .exact hx z
  .exact bH (qG (qw e) z) (gU _)
 let cellK:∀x c,X.env.cells.lookup x=U c->∀v,s.heap.IsCell c v->h'.IsCell c v:=λx c e v #[o,ho,hd]=>by
  let nch:c∉ch:=λz=>(υ c z).2.2.1 x c e W;by_cases hc:c∈X.fs
  .obtain⟨sl,q⟩:=slot c o (I.cne x c e) hc nch ho (I.freeC x c e);show#[_,q,hd]
  .exact#[o,keep c o (I.cne x c e) hc nch ho (I.freeC x c e),hd]
 show#[I.ok,I.os,hg,#[λb o e n C hx=>?_,λb o e n C hx=>?_,λb o e n hx=>?_,λb o e hx=>?_,λb xs e=>tups b xs (I.base.tups b xs e),λb o xs e=>frzs b o xs (I.base.frzs b o xs e),λb ps e=>?_],?_,λx c e=>?_,?_,λx c e=>?_,λp hp=>?_,hok,I.len]
 .exact keep b o (neL b o e) C (neC b o e hx) (I.base.keep b o e n C hx) (I.base.free b o e n hx)
 .obtain⟨sl,e1⟩:=I.base.slot b o e n C hx;let⟨sl',e2⟩:=slot b _ (neL b o e) C (neC b o e hx) e1 (I.base.free b o e n hx);show#[sl',e2]
 .obtain⟨o',e1⟩:=I.base.there b o e hx;show free b o' (neC b o e hx) e1 (I.base.free b o e n hx)
 .obtain⟨o',e1⟩:=I.base.there b o e hx;show there b o' (neC b o e hx) e1
 .obtain⟨m1,e1⟩:=I.base.tbls b ps e;let⟨m2,e2⟩:=tbls b _ e1;show#[m1++m2,by rw[e2,VX]]
 .obtain⟨m,hn,hl⟩:=I.loc;show#[m,ns m hn,λi x v e1 e2 e3=>?_];let⟨u,r,l⟩:=hl i x v e1 e2 e3;show#[u,r,?_];rcases l with l|⟨k,c,e,z⟩
  .exact .inl l
  .exact .inr #[k,c,e,cellK x c e _ z]
 .obtain⟨v,z⟩:=I.cell x c e;show#[v,cellK x c e v z]
 .obtain⟨m,⟨o,_,_,ho,_⟩,_⟩:=I.loc;show free _ o (λz=>(υ _ z).2.1 W) ho I.free
 .obtain⟨v,o,ho,hd⟩:=I.cell x c e;show free c o (λz=>(υ c z).2.2.1 x c e W) ho (I.freeC x c e)
 .obtain⟨e,n,ne,nf,d⟩:=I.pin p hp;let nch:p.1∉ch:=λz=>(υ p.1 z).2.2.2 p hp W;show#[keep p.1 p.2 ne nf nch e n,free p.1 p.2 nch e n,ne,nf,d]
def YS.un(I:YS X Z' L H s)(u:Un X.fs [] H H' s.heap h')(hok:ì X.prog X.w H' h'):YS X Z' L H' {s with heap:=h',toks:=t'}:=by
 let⟨m,⟨o,es,ep,ho,r⟩,_⟩:=id I.loc;let⟨sl,hL⟩:=u.any ho I.free (by simp);show I.step (ch:=[]) (λ_ z=>nomatch z) (λb o _ C _ e n=>u.keep b o e n C (by simp)) (λb o _ C _ e n=>u.slot b o e n C (by simp)) (λb o _ e n=>u.free b o e n (by simp)) (λb o _ e=>u.there b o e (by simp)) u.tups u.frzs u.tbls (λm' hm=>by let⟨o',Â,ep',Ĕ,r'⟩:=hm;rw[ho] at Ĕ;cases Ĕ;show#[_,Â,ep',hL,r']) hok I.bare
def YS.call{g':bK sL}{ch:Z av}(I:YS X Z' L H s)(u:Un (ω X.stack) ch H H' s.heap h')(hok:ì X.prog X.w H' h')(hg:lX g')
  (υ:∀b∈ch,(b∈X.ex\/X.Z6.heap.objs.size<=b)/\b≠X.env.locals/\(∀x c,X.env.cells.lookup x=U c->c≠b)/\∀p∈X.pn++Z',p.1≠b):
  YS X Z' L H' {s with heap:=h',gens:=g',drawn:=d',toks:=t'}:=by
 let⟨m,⟨o,es,ep,ho,r⟩,_⟩:=id I.loc;let⟨sl,hL⟩:=u.any ho I.free λz=>(υ _ z).2.1 W;show I.step υ (λb o hL C hc e n=>u.keep b o e n (λz=>(cm.mp (I.stkSub b z)).elim hL C) hc) (λb o _ _ hc e n=>u.any e n hc) (λb o hc e n=>u.free b o e n hc) (λb o hc e=>u.there b o e hc) u.tups u.frzs u.tbls (λm' hm=>by let⟨o',Â,ep',Ĕ,r'⟩:=hm;rw[ho] at Ĕ;cases Ĕ;show#[_,Â,ep',hL,r']) hok hg
def YS.turned{it:av}(I:YS X Z' L H s)(k:∀b o,b≠it->s.heap.get? b=U o->h'.get? b=U o)(hn:H it=B)(hL:it≠X.env.locals)
  (h1:it∈X.ex\/X.Z6.heap.objs.size<=it)(h2:∀x c,X.env.cells.lookup x=U c->c≠it)(h3:∀p∈X.pn++Z',p.1≠it):YS X Z' L H {s with heap:=h',toks:=t'}:=by
 let nit:∀b u,H b=U u->b≠it:=λb u e z=>by rw[z,hn] at e;cases e
 show I.step (ch:=[it]) (λb C=>?_) (λb o _ _ hc e _=>k b o (λz=>hc (by simp[z])) e) (λb o _ _ hc e _=>#[o.slots,k b o (λz=>hc (by simp[z])) e]) (λ_ _ _ _ n=>n)
  (λb o hc e=>#[o,k b o (λz=>hc (by simp[z])) e]) (λ_ _ e=>e) (λ_ _ _ e=>e) (λb ps e=>#[#[],by rw[e];simp]) (λm hm=>?_) (λb u e=>?_) I.bare
 .let e:b=it:=by simpa using C
  subst e;show#[h1,hL,h2,h3]
 .obtain⟨o,es,ep,ho,r⟩:=hm;show#[o,es,ep,k _ o (dj hL) ho,r]
 .refine(I.hok b u e).stay (λc v hc q=>k c v ?_ q) (λ_ q=>q) λ_ _ q=>q;rcases hc with z|z
  .rw[z];show nit b u e
  .exact nit c _ z
def YS.tok(I:YS X Z' L H s)(t:ag):YS X Z' L H {s with toks:=t}:=I.un Un.refl I.hok
def YS.kept{t':ag}(I:YS X Z' L H s)(k:∀b u,s.heap.get? b=U u->h'.get? b=U u):YS X Z' L H {s with heap:=h',toks:=t'}:=I.un (Un.kept k) (I.hok.kept k)
def YS.laid{a:av}{o:HO}{t':ag}(I:YS X Z' L H s)(k:∀b u,s.heap.get? b=U u->h'.get? b=U u)(hp:s.heap.objs.size<=a)(new:cQ X.prog X.w (YZ H a o) h' a o):
  YS X Z' L (YZ H a o) {s with heap:=h',toks:=t'}:=I.un (Un.laid k hp (I.hok.fresh hp)) (I.hok.laid k hp new)
def YS.write{x e:av}{o:HO}{t':ag}(I:YS X Z' L H s)(mu:Mut (H x))(he:e=x\/H e=U (.own x))(k:∀b u,b≠e->s.heap.get? b=U u->h'.get? b=U u)(heo:∃u,h'.get? e=U u)
  (new:cQ X.prog X.w (YZ H x o) h' x o):YS X Z' L (YZ H x o) {s with heap:=h',toks:=t'}:=I.un (Un.write mu he k heo) (I.hok.write mu he k heo new)
def YS.pins_of{pins':Z (av×Obj)}(I:YS X Z' L H s)(h:∀p∈pins',s.heap.get? p.1=U p.2/\H p.1=B/\p.1≠X.env.locals/\p.1∉X.fs/\∀v,p.2.data≠.cell v):YS X pins' L H s:=
 #[I.ok,I.os,I.bare,I.base,I.loc,I.cell,I.free,I.freeC,λp hp=>(cY.mp hp).elim (λz=>I.pin p (nD _ z)) (h p),I.hok,I.len]
def Em(hN:N.Nodup)(a:N[i]?=U x)(b:N[j]?=U x):i=j:=by let⟨h1,e1⟩:=eV.mp a;let⟨h2,e2⟩:=eV.mp b;show(Hs hN).mp (e1.trans e2.symm)
def Cm{YK:wu}{Q:lY->aH->Prop}(I:YS X Z' L H s)(hN:X.N.Nodup)(hi:X.N[i]?=U x)(hx:Loc X.env.scope x)(r:bI v u)
  (h:∀s',YS X Z' (L.set i (U v)) H s'->(∃a,gW a s.heap s'.heap/\(a=X.env.locals\/X.env.cells.lookup x=U a))->Q () s')(hf:X.fn x=ah\/X.env.scope.names.lookup x=U .local:=by ac_nf):aL YK A (storeName X.env x u) Q us s:=by
 let⟨m,hn,hl⟩:=id I.loc;let hcls:(X.env.scope.kind==.class || (X.env.scope.kind==.module && X.env.locals != X.env.globals))=ar:=by rw[I.ok.kind];rfl
 let hiσ:i < L.length:=by rw[I.len];show(eV.mp hi).1
 let cne:=I.cne;let Ÿ:∀{a:av}{h':Heap},(∃o,s.heap.get? a=U o/\H a=B)->gW a s.heap h'->ì X.prog X.w H h':=λ{a h'}ha hs b ob e=>by
  let⟨_,_,ŗ⟩:=ha;show(I.hok b ob e).stay (λc w' hc q=>(hs.2 c ?_).trans q) (λ_ q=>q) λ_ _ q=>q;rintro rfl;rcases hc with rfl|hc
  .rw[ŗ] at e;cases e
  .rw[ŗ] at hc;cases hc
 rcases hx with hk|hk
 .refine wpAny_storeName_local hk hn (λh' hn' hs=>?_) hcls;let⟨oL,_,_,hoL,_⟩:=id hn;show h _ #[I.ok,I.os,I.bare,#[λb o e n C hx=>?_,λb o e n C hx=>?_,I.base.free,λb o e hx=>?_,I.base.tups,I.base.frzs,I.base.tbls],#[_,hn',λj y v' e1 e2 e3=>?_],λy c e=>?_,I.free,I.freeC,λp hp=>?_,Ÿ #[oL,hoL,I.free] hs,by simpa using I.len] #[_,hs,.inl W]
  .exact(hs.2 b (qD (qG (qw e) I.ok.above))).trans (I.base.keep b o e n C hx)
  .obtain⟨sl,e1⟩:=I.base.slot b o e n C hx;show#[sl,(hs.2 b (qD (qG (qw e) I.ok.above))).trans e1]
  .obtain⟨o',e1⟩:=I.base.there b o e hx;show#[o',(hs.2 b (qD (qG (qw e) I.ok.above))).trans e1]
  .by_cases hj:j=i
   .subst hj;rw[hi] at e1;cases e1;rw[pi hiσ] at e2;cases e2;show#[u,r,.inl #[hk,by simp]]
   .rw[qz (dj hj)] at e2;let⟨u',r',q⟩:=hl j y v' e1 e2 e3;show#[u',r',?_];rcases q with⟨k,e⟩|⟨k,c,e,z⟩
    .refine .inl #[k,?_];let:y≠x:=λe=>hj (Em hN e1 (e▸hi));simp[this,e]
    .exact .inr #[k,c,e,z.sameBut hs (cne y c e)]
  .obtain⟨w',z⟩:=I.cell y c e;show#[w',z.sameBut hs (cne y c e)]
  .obtain⟨e,n,ne,nf,d⟩:=I.pin p hp;show#[(hs.2 p.1 ne).trans e,n,ne,nf,d]
 .let hfn:X.fn x=ah:=by
   rcases hf with z|z
   .exact z
   .rw[z] at hk;cases hk
  let⟨c,hc⟩:=I.ok.has x (.inl hk);let⟨w',z⟩:=I.cell x c hc;show wpAny_storeName_cell I.ok.kind hk hc z (λh' χ hs=>?_);let⟨oc,hoc,hocd⟩:=id z;show h {s with heap:=h'} #[I.ok,I.os,I.bare,#[λb o e n C hx=>?_,λb o e n C hx=>?_,I.base.free,λb o e hx=>?_,I.base.tups,I.base.frzs,I.base.tbls],#[m,hn.sameBut hs (dj (cne x c hc)),λj y v' e1 e2 e3=>?_],λy c' e=>?_,I.free,I.freeC,λp hp=>?_,Ÿ #[oc,hoc,I.freeC x c hc] hs,by simpa using I.len] #[c,hs,.inr hc]
  .exact(hs.2 b (qD (qG (qw e) (I.ok.cab x c hfn hc)))).trans (I.base.keep b o e n C hx)
  .obtain⟨sl,e1⟩:=I.base.slot b o e n C hx;show#[sl,(hs.2 b (qD (qG (qw e) (I.ok.cab x c hfn hc)))).trans e1]
  .obtain⟨o',e1⟩:=I.base.there b o e hx;show#[o',(hs.2 b (qD (qG (qw e) (I.ok.cab x c hfn hc)))).trans e1]
  .by_cases hj:j=i
   .subst hj;rw[hi] at e1;cases e1;rw[pi hiσ] at e2;cases e2;show#[u,r,.inr #[.inl hk,c,hc,χ]]
   .rw[qz (dj hj)] at e2;let⟨u',r',q⟩:=hl j y v' e1 e2 e3;show#[u',r',?_];rcases q with q|⟨k,c',e,z'⟩
    .exact .inl q
    .refine .inr #[k,c',e,z'.sameBut hs ?_];rintro rfl;show hj (Em hN e1 (I.ok.inj _ _ _ e hc▸hi))
  .by_cases hcc:c'=c
   .subst hcc;show#[_,χ]
   .obtain⟨w2,z2⟩:=I.cell y c' e;show#[w2,z2.sameBut hs hcc]
  .obtain⟨e,n,ne,nf,d⟩:=I.pin p hp;show#[(hs.2 p.1 ?_).trans e,n,ne,nf,d];intro q;rw[q,hoc] at e;let q':oc=p.2:=qI e;show d w' (by rw[<-q'];show hocd)
def Fu{YK:wu}{Q:lY->aH->Prop}(I:YS X Z' L H s)(hN:X.N.Nodup)(hi:X.N[i]?=U x)(hx:Loc X.env.scope x)(r:bI v u)
  (h:∀s',YS X Z' (L.set i (U v)) H s'->Q () s')(hf:X.fn x=ah\/X.env.scope.names.lookup x=U .local:=by ac_nf):aL YK A (storeName X.env x u) Q us s:=
 Cm I hN hi hx r (λs' I' _=>h s' I') hf
def YS.call'{ch:Z av}(I:YS X Z' L H s)(ho:s'.os=s.os)(u:Un (ω X.stack) ch H H' s.heap s'.heap)(hok:ì X.prog X.w H' s'.heap)(hg:lX s'.gens)
  (υ:∀b∈ch,(b∈X.ex\/X.Z6.heap.objs.size<=b)/\b≠X.env.locals/\(∀x c,X.env.cells.lookup x=U c->c≠b)/\∀p∈X.pn++Z',p.1≠b):YS X Z' L H' s':=by
 let⟨h',g',d',t',o'⟩:=s';let e:o'=s.os:=ho;subst e;show I.call u hok hg υ
end
abbrev XK:=aw->au av->Hp->Prop
abbrev St:=Z (au V)
abbrev VK:=V->Hp->Prop
abbrev TE:=St->Hp->VK->Prop
abbrev TT:=St->Hp->(aJ->Hp->Prop)->Prop
abbrev TA:=St->Hp->(Z V->Hp->Prop)->Prop
structure gb where
 nx:St->Hp->Prop
 rt:VK
 bk:St->Hp->Prop:=λ_ _=>False
 ct:St->Hp->Prop:=λ_ _=>False
abbrev TS:=gb->St->Hp->Prop
def EP(X:Cx)(Z':Z (av×Obj))(L:St)(Q:VK)(u:aw)(s':aH):Prop:=∃v H',YS X Z' L H' s'/\bI v u/\Q v H'
def TP(X:Cx)(Z':Z (av×Obj))(L:St)(Q:aJ->Hp->Prop)(b:aJ)(s':aH):Prop:=∃H',YS X Z' L H' s'/\Q b H'
def AP(X:Cx)(Z':Z (av×Obj))(L:St)(Q:Z V->Hp->Prop)(E:Z aw)(s':aH):Prop:=∃vs H',YS X Z' L H' s'/\bj vs E/\Q vs H'
def SP(X:Cx)(Z':Z (av×Obj))(D:gb)(f:Flow)(s':aH):Prop:=
 match f with
 |.next=>∃Z5 H',YS X Z' Z5 H' s'/\D.nx Z5 H'
 |.brk=>∃Z5 H',YS X Z' Z5 H' s'/\D.bk Z5 H'
 |.cont=>∃Z5 H',YS X Z' Z5 H' s'/\D.ct Z5 H'
 |.ret u=>∃v Z5 H',YS X Z' Z5 H' s'/\bI v u/\D.rt v H'
def PE(X:Cx)(e:Expr)(t:TE):Prop:=
 ∀(Z':Z (av×Obj))(s:aH)(L:St)(H:Hp)(Q:VK),YS X Z' L H s->t L H Q->aL .(t) X.A (eval e X.env) (EP X Z' L Q) X.xe s
def PT(X:Cx)(e:Expr)(t:TT):Prop:=
 ∀(Z':Z (av×Obj))(s:aH)(L:St)(H:Hp)(Q:aJ->Hp->Prop),YS X Z' L H s->t L H Q->aL .(t) X.A (isTrue e X.env (eval e X.env)) (TP X Z' L Q) X.xe s
def PW(X:Cx)(e:Expr)(t:TT):Prop:=
 ∀(ă:Sem aw)(Z':Z (av×Obj))(s:aH)(L:St)(H:Hp)(Q:aJ->Hp->Prop),YS X Z' L H s->t L H Q->aL .(t) X.A (isTrue e X.env ă) (TP X Z' L Q) X.xe s
variable{e:Expr}
def PW.pt{t:TT}(h:PW X e t):PT X e t:=h _
def PA(X:Cx)(es:Z Expr)(t:TA):Prop:=
 ∀(pos:dn)(Z':Z (av×Obj))(s:aH)(L:St)(H:Hp)(Q:Z V->Hp->Prop),YS X Z' L H s->t L H Q->aL .(t) X.A (spliced (ci pos (aP es X.env))) (AP X Z' L Q) X.xe s
def PS(X:Cx)(st:Stmt)(t:TS):Prop:=
 ∀(Z':Z (av×Obj))(s:aH)(L:St)(H:Hp)(D:gb),YS X Z' L H s->t D L H->aL .(t) X.A (exec st X.env) (SP X Z' D) X.xe s
def Ś(X:Cx)(st:Z Stmt)(t:TS):Prop:=
 ∀(Z':Z (av×Obj))(s:aH)(L:St)(H:Hp)(D:gb),YS X Z' L H s->t D L H->aL .(t) X.A (execs st X.env) (SP X Z' D) X.xe s
variable{α:Type}
def Zf{t:Sem α}{Q Q':α->aH->Prop}{YK:wu}(h:aL YK A t Q us s)(hQ:∀a s,Q a s->Q' a s):aL YK A t Q' us s:=iQ h hQ λ_ _ x=>x
variable{pos:dn}{L:St}{Q:aw->aH->Prop}{b:Expr}{ta:TE}
section
noncomputable def DR(i:ag):TE:=λL H Q=>∃v,L[i]?=U (U v)/\Q v H
noncomputable def tC(v:V):TE:=λ_ H Q=>Q v H
def fM(hN:X.N[i]?=U x)(hv:ŋ X.env.scope x)(hd:.(r)=ar:=by decide)(À:(x==("__classdict__":ai))=ar:=by decide):PE X (.Name x pos) (DR i):=by
 intro Z' s L H Q I h;let⟨v,e,h⟩:=h;let⟨m,hn,hl⟩:=I.loc;let⟨u,r,l⟩:=hl i x v hN e hv;let Zz:EP X Z' L Q u s:=#[v,H,I,r,h];rcases l with⟨hk,hm⟩|⟨hk,c,hc,Δ⟩
 .exact Ht (wpAny_loadName_local I.ok.kind hk hn hm Zz) hd
 .rcases hk with hk|hk
  .exact Ht (wpAny_loadName_cell I.ok.kind hk hc Δ Zz) hd
  .exact Ht (wpAny_loadName_free I.ok.kind hk hc Δ Zz À) hd
def GA{i j pos}:PE X (.Constant (.int i) j pos) (tC (.int i)):=λ_ _ _ H _ I h=>wpAny_Constant_int #[.int i,H,I.tok _,#[_,W],h]
def Vy{b j pos}:PE X (.Constant (.bool b) j pos) (tC (.bl b)):=λ_ _ _ H _ I h=>Constant_bool #[.bl b,H,I,W,h]
def SJ{j pos}:PE X (.Constant .none j pos) (tC .non):=λ_ _ _ H _ I h=>Constant_none #[.non,H,I,W,h]
def Kh{x j pos}:PE X (.Constant (.str x) j pos) (tC (.str x)):=λ_ _ _ H _ I h=>Calls.Constant_str #[.str x,H,I.tok _,#[_,W],h]
def Gl(X:Cx)(x:ai):Prop:=X.env.kindOf x=U .globalImplicit
def x9(I:YS X Z' L H s)(hg:Gl X x)(hm:X.mg x=U u)(h:Q u s)
  (hd:.(r)=ar:=by decide):aL .(t) X.A (eval (.Name x pos) X.env) Q us s:=
 VY I.ok.kind hg (Calls.loadGlobal_global (by rw[I.ok.glob];show I.mod.glob.keeps I.bk) hm h) hd
def mR(I:YS X Z' L H s)(hg:Gl X x)(hm:X.mg x=B)(hv:eq x=U u)(h:Q u s)
  (hn:x≠"__name__":=by decide)(hd:.(r)=ar:=by decide):aL .(t) X.A (eval (.Name x pos) X.env) Q us s:=by
 let⟨mb,h1,h2⟩:=I.mod.blt;show VY I.ok.kind hg (Calls.loadGlobal_builtin (by rw[I.ok.glob];show I.mod.glob.keeps I.bk) hm (by rw[I.ok.blt];show h1.keeps I.bk) ((h2 x hn).trans hv) h) hd
def L8(hg:Gl X x)(hm:X.mg x=U u)(r:bI v u)(hd:.(r)=ar:=by decide):PE X (.Name x pos) (tC v):=
 λ_ _ _ H _ I h=>x9 I hg hm #[v,H,I,r,h] hd
def NX(hg:Gl X x)(hm:X.mg x=B)(hv:eq x=U u)(r:bI v u)(hn:x≠"__name__":=by decide)(hd:.(r)=ar:=by decide):PE X (.Name x pos) (tC v):=
 λ_ _ _ H _ I h=>mR I hg hm hv #[v,H,I,r,h] hn hd
variable{a:Expr}{tb:TE}
noncomputable def tB(t:TE):TT:=λL H Q=>t L H λx H1=>∃c,x=.bl c/\Q c H1
def Sl{t:TE}(h:PE X e t)(he:∀ă,isTrue e X.env ă=(do let v ←ă;pj e.pos;lZ [v] (truthy v)):=by intro _;rfl):PT X e (tB t):=by intro Z' s L H Q I hw;show isTrue_plain (Zf (h Z' s L H _ I hw) λv s1 #[x,H1,I1,r1,q1]=>?_) (he _);let⟨d,rfl,q⟩:=q1;cases r1;show kH #[H1,I1,q]
variable{tA tB':TT}{bX:Z Expr}
noncomputable def JA(t u:TT):TT:=λL H Q=>t L H λc H1=>if c=ah then u L H1 Q else Q ar H1
noncomputable def tOr(t u:TT):TT:=λL H Q=>t L H λc H1=>if c=ah then Q ah H1 else u L H1 Q
noncomputable def Ma(t:TT):TT:=λL H Q=>t L H λc H1=>Q (!c) H1
def Ml(ha:PT X a tA):PW X (.BoolOp .And [a] pos) tA:=by
 intro wh Z' s L H Q I h;show isTrue_and (Zf (ha Z' s L H Q I h) λc s1 e=>?_);cases c with
 |true=>show isTrue_and_nil e
 |false=>show e
def Si(ha:PT X a tA):PW X (.BoolOp .Or [a] pos) tA:=by
 intro wh Z' s L H Q I h;show isTrue_or (Zf (ha Z' s L H Q I h) λc s1 e=>?_);cases c with
 |false=>show isTrue_or_nil e
 |true=>show e
def J3(ha:PT X a tA)(C:PW X (.BoolOp .And (b::bX) pos) tB'):PW X (.BoolOp .And (a::b::bX) pos) (JA tA tB'):=by
 intro wh Z' s L H Q I h;show isTrue_and (Zf (ha Z' s L H _ I h) λc s1 #[H1,I1,q1]=>?_);cases c with
 |true=>show C wh Z' s1 L H1 Q I1 q1
 |false=>show#[H1,I1,q1]
def RZ(ha:PT X a tA)(C:PW X (.BoolOp .Or (b::bX) pos) tB'):PW X (.BoolOp .Or (a::b::bX) pos) (tOr tA tB'):=by
 intro wh Z' s L H Q I h;show isTrue_or (Zf (ha Z' s L H _ I h) λc s1 #[H1,I1,q1]=>?_);cases c with
 |true=>show#[H1,I1,q1]
 |false=>show C wh Z' s1 L H1 Q I1 q1
def NQ(ha:PT X a tA):PT X (.UnaryOp .Not a pos) (Ma tA):=by intro Z' s L H Q I h;show isTrue_not (ha Z' s L H (λc H1=>Q (!c) H1) I h)
def On(ta tb:TE):TE:=λL H Q=>ta L H λx H1=>∃c,x=.bl c/\if c=ah then tb L H1 Q else Q (.bl ar) H1
def Th(ta tb:TE):TE:=λL H Q=>ta L H λx H1=>∃c,x=.bl c/\if c=ah then Q (.bl ah) H1 else tb L H1 Q
noncomputable def Mh(ta:TE):TE:=λL H Q=>ta L H λx H1=>∃c,x=.bl c/\Q (.bl (!c)) H1
def Tn{op}{t:TE}(h:PE X a t):PE X (.BoolOp op [a] pos) t:=λZ' s L H Q I hw=>BoolOp_one (h Z' s L H Q I hw)
def Su(ha:PE X a ta)(C:PE X (.BoolOp .And (b::bX) pos) tb):PE X (.BoolOp .And (a::b::bX) pos) (On ta tb):=by
 intro Z' s L H Q I h;show BoolOp_and (Zf (ha Z' s L H _ I h) λv s1 #[x,H1,I1,r1,q1]=>?_);let⟨c,rfl,q1⟩:=q1;cases r1;show kH ?_;cases c with
 |true=>show C Z' s1 L H1 Q I1 q1
 |false=>show#[.bl ar,H1,I1,W,q1]
def Ud(ha:PE X a ta)(C:PE X (.BoolOp .Or (b::bX) pos) tb):PE X (.BoolOp .Or (a::b::bX) pos) (Th ta tb):=by
 intro Z' s L H Q I h;show BoolOp_or (Zf (ha Z' s L H _ I h) λv s1 #[x,H1,I1,r1,q1]=>?_);let⟨c,rfl,q1⟩:=q1;cases r1;show kH ?_;cases c with
 |false=>show C Z' s1 L H1 Q I1 q1
 |true=>show#[.bl ah,H1,I1,W,q1]
def O5(ha:PE X a ta):PE X (.UnaryOp .Not a pos) (Mh ta):=by intro Z' s L H Q I h;show Hu (Zf (ha Z' s L H _ I h) λv s1 #[x,H1,I1,r1,q1]=>?_);let⟨c,rfl,q1⟩:=q1;cases r1;show not_of (kH #[.bl (!c),H1,I1,W,q1])
def tIf(t:TT)(ta tb:TE):TE:=λL H Q=>t L H λc H1=>if c=ah then ta L H1 Q else tb L H1 Q
def Pv{c:Expr}(hc:PT X c tA)(ha:PE X a ta)(C:PE X b tb):PE X (.IfExp c a b pos) (tIf tA ta tb):=by
 intro Z' s L H Q I h;show wpAny_IfExp (Zf (hc Z' s L H _ I h) λd s1 #[H1,I1,q1]=>?_);cases d with
 |true=>show ha Z' s1 L H1 Q I1 q1
 |false=>show C Z' s1 L H1 Q I1 q1
end
def ñ(K:aT)(H:Hp)(a:av)(xs:Z V):Prop:=
 Rd H a (.lst xs) \/
  ∃(o:Obj)(YY:bK aw)(n:ag),K.lookup a=U o/\o.cls=.type "list"/\o.dict=B/\o.data=.seq YY n/\YY.size<=aK/\bj xs YY.toList
def Ţ(K:aT)(H:Hp)(a:av)(xs:Z V):Prop:=
 Rd H a (.tup xs) \/
  ∃(o:Obj)(YY:bK aw)(n:ag),K.lookup a=U o/\o.cls=.type "tuple"/\o.data=.seq YY n/\YY.size<=aK/\bj xs YY.toList
noncomputable def Pc:aw->au V
 |.none=>U .non
 |.bool b=>U (.bl b)
 |.int i _=>U (.int i)
 |.str x _=>U (.str x)
 |.ref a=>U (.ref a)
 |.type n=>U (.ty n)
 |_=>B
def bI.abs{x:V}(r:bI x u):Pc u=U x:=by
 cases x with
 |non=>cases r;rfl
 |bl _=>cases r;rfl
 |int _=>let⟨t,rfl⟩:=r;rfl
 |str _=>let⟨t,rfl⟩:=r;rfl
 |ref _=>cases r;rfl
 |ty _=>cases r;rfl
variable{y:V}
def bI.inj{x:V}(r:bI x u)(q:bI y u):x=y:=qI (r.abs.symm.trans q.abs)
def bj.inj:∀{xs ys:Z V}{E:Z aw},bj xs E->bj ys E->xs=ys
 |_,_,_,.nil,.nil=>rfl
 |_,_,_,.cons r t,.cons r' t'=>by rw[r.inj r',bj.inj t t']
variable{ys:Z V}
section
variable{xs:Z V}
def YS.list(I:YS X Z' L H s)(h:ñ X.K H a xs):∃YY:Z aw,bj xs YY/\PlainL s.heap a YY.toArray/\xs.length<=aK:=by
 rcases h with h|⟨o,YY,n,hk,hc,hd,hs,hz,r⟩
 .obtain⟨z,YY,n,r,e⟩:=h.ok I.hok;show#[YY,r,#[_,n,e,W,W,W],z]
 .refine#[YY.toList,r,#[o,n,I.kIn a o hk,hc,hd,by simpa using hs],?_];let e:=r.length;simp only[fu] at e;ext
def YS.tuple(I:YS X Z' L H s)(h:Ţ X.K H a xs):∃YY:Z aw,bj xs YY/\wt s.heap a YY.toArray/\xs.length<=aK:=by
 rcases h with h|⟨o,YY,n,hk,hc,hs,hz,r⟩
 .obtain⟨z,YY,r,p⟩:=h.ok I.hok;show#[YY,r,p,z]
 .refine#[YY.toList,r,#[o,I.kIn a o hk,hc,n,by simpa using hs],?_];let e:=r.length;simp only[fu] at e;ext
def YS.list_inj(I:YS X Z' L H s)(h:ñ X.K H a xs)(h':ñ X.K H a ys):xs=ys:=by
 let⟨YY,r,⟨o,n,e,_,_,d⟩,_⟩:=I.list h;let⟨ū,r',⟨o',n',e',_,_,d'⟩,_⟩:=I.list h';rw[e] at e';cases e';rw[d] at d';injection d' with d1 _;let:YY=ū:=by simpa using bP VZ d1
 subst this;show r.inj r'
def YS.tuple_inj(I:YS X Z' L H s)(h:Ţ X.K H a xs)(h':Ţ X.K H a ys):xs=ys:=by
 let⟨YY,r,⟨o,e,_,n,d⟩,_⟩:=I.tuple h;let⟨ū,r',⟨o',e',_,n',d'⟩,_⟩:=I.tuple h';rw[e] at e';cases e';rw[d] at d';injection d' with d1 _;let:YY=ū:=by simpa using bP VZ d1
 subst this;show r.inj r'
end
noncomputable abbrev Cx.wish(X:Cx)(us:aw->aH->Prop):Cx:={X with xe:=us}
noncomputable abbrev Cx.nox(X:Cx):Cx:=X.wish λ_ _=>False
def Cx.Ok.wish(ok:X.Ok)(us:aw->aH->Prop):(X.wish us).Ok:=
 #[ok.mod,ok.kind,ok.glob,ok.blt,ok.above,ok.inj,ok.has,ok.cab,ok.hd,ok.frames,ok.stk,ok.exf,ok.bs,ok.bsz,ok.noex,ok.exfs,ok.funs,ok.frf]
def Cx.Ok.unwish(ok:(X.wish us).Ok):X.Ok:=
 #[ok.mod,ok.kind,ok.glob,ok.blt,ok.above,ok.inj,ok.has,ok.cab,ok.hd,ok.frames,ok.stk,ok.exf,ok.bs,ok.bsz,ok.noex,ok.exfs,ok.funs,ok.frf]
def YS.wish(I:YS X Z' L H s)(us:aw->aH->Prop):YS (X.wish us) Z' L H s:=#[I.ok.wish us,I.os,I.bare,I.base,I.loc,I.cell,I.free,I.freeC,I.pin,I.hok,I.len]
def YS.unwish(I:YS (X.wish us) Z' L H s):YS X Z' L H s:=#[I.ok.unwish,I.os,I.bare,I.base,I.loc,I.cell,I.free,I.freeC,I.pin,I.hok,I.len]
def SP.unwish{D:gb}{f:Flow}{s':aH}(h:SP (X.wish us) Z' D f s'):SP X Z' D f s':=by
 cases f with
 |next=>let⟨Z5,H',I,q⟩:=h;show#[Z5,H',I.unwish,q]
 |brk=>let⟨Z5,H',I,q⟩:=h;show#[Z5,H',I.unwish,q]
 |cont=>let⟨Z5,H',I,q⟩:=h;show#[Z5,H',I.unwish,q]
 |ret u=>let⟨v,Z5,H',I,r,q⟩:=h;show#[v,Z5,H',I.unwish,r,q]
def Ś.nox{st:Z Stmt}{t:TS}(h:Ś X.nox st t):Ś X st t:=λZ' s L H D I hw=>
 iQ (h Z' s L H D (I.wish _) hw) (λ_ _ q=>q.unwish) λ_ _ z=>iR z
variable{te:TE}{tc:TT}
section
variable{st:Stmt}{bX:Z Stmt}{t u:TS}
noncomputable def RW:TS:=λD L H=>D.nx L H
noncomputable def KD(t u:TS):TS:=λD L H=>t {D with nx:=u D} L H
def Qu:Ś X [] RW:=λ_ _ L H _ I h=>Hv #[L,H,I,h]
def LO(h1:PS X st t)(h2:Ś X bX u):Ś X (st::bX) (KD t u):=by
 intro Z' s L H D I h;show V0 (Zf (h1 Z' s L H {D with nx:=u D} I h) λf s1 q=>?_);cases f with
 |next=>
  let⟨Z5,H',I',q⟩:=q;show h2 Z' s1 Z5 H' D I' q
 |ret v=>show q
 |brk=>show q
 |cont=>show q
def OQ(h1:PS X st t):Ś X [st] t:=by
 intro Z' s L H D I h;show V0 (Zf (h1 Z' s L H D I h) λf s1 q=>?_);cases f with
 |next=>show Hv q
 |ret v=>show q
 |brk=>show q
 |cont=>show q
def YS.quiet(I:YS X Z' L H s):interactive X.env=ar:=by simp[interactive,I.ok.kind]
noncomputable def PN(te:TE):TS:=λD L H=>te L H λ_ H1=>D.nx L H1
def rO(he:PE X e te)(hs:dq e B pos.line X.env=bd ar:=by rfl):PS X (.Expr e pos) (PN te):=by intro Z' s L H D I h;show wpAny_Expr_any (Zf (he Z' s L H _ I h) λv s1 #[x,H1,I1,r1,q1]=>#[L,H1,I1,q1]) I.quiet hs
noncomputable def KA(te:TE):TS:=λD L H=>te L H D.rt
def Hg(he:PE X e te):PS X (.Return (U e) pos) (KA te):=by intro Z' s L H D I h;show wpAny_Return_some (Zf (he Z' s L H _ I h) λv s1 #[x,H1,I1,r1,q1]=>#[x,L,H1,I1,r1,q1])
noncomputable def NF(c:TT)(t u:TS):TS:=λD L H=>c L H λb H1=>if b=ah then t D L H1 else u D L H1
def NJ{c:Expr}{a b:Z Stmt}(hc:PT X c tc)(ha:Ś X a t)(C:Ś X b u):PS X (.If c a b pos) (NF tc t u):=by
 intro Z' s L H D I h;show wpAny_If (Zf (hc Z' s L H _ I h) λd s1 #[H1,I1,q1]=>?_);cases d with
 |true=>show ha Z' s1 L H1 D I1 q1
 |false=>show C Z' s1 L H1 D I1 q1
end
abbrev TG:=V->St->Hp->(St->Hp->Prop)->Prop
abbrev TGs:=Z V->St->Hp->(St->Hp->Prop)->Prop
def PG(X:Cx)(ą:Expr)(t:TG):Prop:=
 ∀(Z':Z (av×Obj))(s:aH)(L:St)(H:Hp)(v:V)(u:aw)(Q:St->Hp->Prop),YS X Z' L H s->bI v u->t v L H Q->
  aL .(t) X.A (pp ą X.env u) (λ_ s'=>∃Z5 H',YS X Z' Z5 H' s'/\Q Z5 H') X.xe s
def PGs(X:Cx)(ts:Z Expr)(t:TGs):Prop:=
 ∀(Z':Z (av×Obj))(s:aH)(L:St)(H:Hp)(vs:Z V)(E:Z aw)(Q:St->Hp->Prop),YS X Z' L H s->bj vs E->t vs L H Q->
  aL .(t) X.A (assignInOrder ((fR ts X.env).map (·.2)) E) (λ_ s'=>∃Z5 H',YS X Z' Z5 H' s'/\Q Z5 H') X.xe s
variable{es:Z Expr}{n:ag}{tg:Expr}{Zk:dn}
noncomputable def rM(i:ag):TG:=λv L H Q=>Q (L.set i (U v)) H
def Nk(hN:X.N.Nodup)(hi:X.N[i]?=U x)(hx:Loc X.env.scope x)(hf:X.fn x=ah\/X.env.scope.names.lookup x=U .local:=by ac_nf):PG X (.Name x pos) (rM i):=by intro Z' s L H v u Q I r h;show V1 (Fu I hN hi hx r (λs' I'=>#[_,H,I',h]) hf)
noncomputable def U7:TGs:=λvs L H Q=>vs=[]/\Q L H
noncomputable def MI(t:TG)(u:TGs):TGs:=λvs L H Q=>∃v r,vs=v::r/\t v L H λZ5 H'=>u r Z5 H' Q
def NN:PGs X [] U7:=by intro Z' s L H vs E Q I r h;let⟨e,h⟩:=h;subst e;cases r;show assignInOrder_nil #[L,H,I,h]
def Us{t:TG}{u:TGs}(h1:PG X e t)(h2:PGs X es u)
  (hs:(fR (e::es) X.env).map (·.2)=pp e X.env::(fR es X.env).map (·.2):=by rfl):PGs X (e::es) (MI t u):=by
 intro Z' s L H vs E Q I r h;let⟨v,vr,e1,h⟩:=h;subst e1;cases r with
 |cons r rr=>
  rw[hs];show assignInOrder_cons (Zf (h1 Z' s L H _ _ _ I r h) λ_ s1 #[Z1,H1,I1,q1]=>?_);show h2 Z' s1 Z1 H1 _ _ Q I1 rr q1
def TK(K:aT)(n:ag)(t:TGs):TG:=λv L H Q=>∃a xs,v=.ref a/\Ţ K H a xs/\xs.length=n/\t xs L H Q
def Nz{k:ag}{t:TGs}(hc:X.calm=ah)(h:PGs X es t)
  (hn:(fR es X.env).length=n:=by rfl)(ý:(fR es X.env).findIdx? (·.1)=B:=by rfl):PG X (.Tuple es k pos) (TK X.K n t):=by
 intro Z' s L H v u Q I r hw;let⟨a,xs,e1,hq,hl,hw⟩:=hw;subst e1;cases r;let⟨YY,rv,ht,hz⟩:=I.tuple hq;show assign_Tuple_tuple (I.ok.hd hc) ht (by simp[hn,<-hl,rv.length]) ý λh' hx=>?_;let I1:YS X Z' L H {s with heap:=h'}:=I.kept λb o e=>hx b o (qD (qw e)) e;show h Z' _ L H xs _ Q I1 (by simpa using rv) hw
noncomputable def rA(te:TE)(g:TG):TS:=λD L H=>te L H λx H1=>g x L H1 D.nx
def Tz{g:TG}(he:PE X e te)(hg:PG X tg g)(hs:swapsWithSole [tg] e pos.line X.env=bd ar:=by rfl)(hw:swappedStores [tg] e X.env=bd B:=by rfl)
  (h1:(fR [tg] X.env).map (·.2)=[pp tg X.env]:=by rfl):PS X (.Assign [tg] e pos) (rA te g):=by
 intro Z' s L H D I h;show wpAny_Assign_stores (Zf (he Z' s L H _ I h) λv s1 #[x,H1,I1,r1,q1]=>?_) hs hw;rw[h1];show Zf (hg Z' s1 L H1 x v _ I1 r1 q1) λ_ s2 q=>q
def mP(hN:X.N.Nodup)(hi:X.N[i]?=U x)(hx:Loc X.env.scope x)(he:PE X e te)(hs:dq e (U (.Name x Zk)) pos.line X.env=bd ar:=by rfl)(hf:X.fn x=ah\/X.env.scope.names.lookup x=U .local:=by ac_nf):
  PS X (.Assign [.Name x Zk] e pos) (rA te (rM i)):=by
 intro Z' s L H D I h;show wpAny_Assign_Name (Zf (he Z' s L H _ I h) λv s1 #[y,H1,I1,r1,q1]=>?_) hs;show Fu I1 hN hi hx r1 (λs2 I2=>#[_,H1,I2,q1]) hf
structure It where
 go:ag->Hp->Prop
 yld:ag->Hp->V->Hp->Prop
 stop:ag->Hp->Prop
def gZ(X:Cx)(Z':Z (av×Obj))(H:Hp)(b:av):Prop:=
 H b=B/\b≠X.env.locals/\b∉X.fs/\(b∈X.ex\/X.Z6.heap.objs.size<=b)/\(∀x c,X.env.cells.lookup x=U c->c≠b)/\∀p∈X.pn++Z',p.1≠b
def YS.fpOk{b:av}(I:YS X Z' L H s)(C:s.heap.objs.size<=b)(hn:H' b=B):gZ X Z' H' b:=by
 show#[hn,AD (qG I.lt C),I.nofs C,.inr (qO I.sz C),λx c e z=>?_,λp hp z=>?_]
 .obtain⟨v,q⟩:=I.cell x c e;show bH (qG q.lt (by rw[z];show C)) (gU _)
 .exact bH (qG (qw (I.pin p hp).1) (by rw[z];show C)) (gU _)
structure ī(P:dD)(w:cD)(K:aT)(tg:Expr)(ao:It)(fp:Z av)(it:av)(tn:ag->Heap->Prop):Prop where
 mem:it∈fp
 obj:∀i h,tn i h->∀b∈fp,∃o,h.get? b=U o/\∀v,o.data≠.cell v
 keep:∀i h h',tn i h->(∀b∈fp,∀o,h.get? b=U o->h'.get? b=U o)->tn i h'
 item:∀(X:Cx),X.prog=P->X.w=w->X.K=K->X.calm=ah->∀(i:ag)(Z':Z (av×Obj))(s:aH)(L:St)(H:Hp)(us:aw->aH->Prop),YS X Z' L H s->(∀b∈fp,gZ X Z' H b)->tn i s.heap->ao.go i H->
  aL (aM P w) X.A (kI (.ref it)) (λr s1=>∃u,r=U u /\
   aL (aM P w) X.A (AE tg (.ref it) u) (λ_ s2=>∃x H',YS X Z' L H' s2/\bI x u/\ao.yld i H x H'/\tn (i+1) s2.heap/\∀b∈fp,H' b=B) us s1) us s
 done:∀(X:Cx),X.prog=P->X.w=w->X.K=K->X.calm=ah->∀(i:ag)(Z':Z (av×Obj))(s:aH)(L:St)(H:Hp)(us:aw->aH->Prop),YS X Z' L H s->(∀b∈fp,gZ X Z' H b)->tn i s.heap->ao.stop i H->
  aL (aM P w) X.A (kI (.ref it)) (λr s1=>r=B/\YS X Z' L H s1) us s
 self:∀(A:cH)(i:ag)(s:aH)(Q:aw->aH->Prop)(us:aw->aH->Prop),tn i s.heap->Q (.ref it) s->aL (aM P w) A (l0 (.ref it)) Q us s
abbrev TI:=St->Hp->(It->Hp->Prop)->Prop
def PIE(X:Cx)(Z':Z (av×Obj))(L:St)(tg:Expr)(R:It->Hp->Prop)(itv:aw)(s2:aH):Prop:=
 ∃(it:av)(fp:Z av)(tn:ag->Heap->Prop)(ao:It)(H':Hp),itv=.ref it/\YS X Z' L H' s2/\ī X.prog X.w X.K tg ao fp it tn/\tn 0 s2.heap/\(∀b∈fp,gZ X Z' H' b)/\R ao H'
def PI(X:Cx)(tg iter:Expr)(wi:TI):Prop:=
 ∀(Z':Z (av×Obj))(s:aH)(L:St)(H:Hp)(R:It->Hp->Prop),YS X Z' L H s->wi L H R->
  aL .(t) X.A (eval iter X.env) (λv s1=>aL .(t) X.A (l0 v) (PIE X Z' L tg R) X.xe s1) X.xe s
def rq{YK:wu}{it:av}{n:cW}{vs:bK aw}{Q:lY->aH->Prop}(ho:s.heap.get? it=U o)(hc:o.cls=.type n)(hd:o.data=.fields vs)
  (hn:["enumerate","zip","dict_itemiterator","dict_reverseitemiterator","odict_iterator","itertools.zip_longest","itertools.pairwise"].contains n=ar)(hQ:Q () s):aL YK A (AE tg (.ref it) u) Q us s:=by
 cases tg<;>first
  |show qB hQ
  |(cases u<;>first
    |show qB hQ
    |(show qy (wpAny_load ho ?_);rw[hc,hd];show aL YK A (if (["enumerate","zip","dict_itemiterator","dict_reverseitemiterator","odict_iterator","itertools.zip_longest","itertools.pairwise"].contains n && vs[0]?==U (jU _))=ah then _ else _) Q us s;rw[qZ (by intro h;rw[hn,Bool.false_and] at h;cases h)];show qB hQ))
def Itl(K:aT)(a:av):It:=
 #[λi H=>∃xs x,ñ K H a xs/\xs[i]?=U x,λi H x H'=>H'=H/\∀xs,ñ K H a xs->xs[i]?=U x,λi H=>∃xs,ñ K H a xs/\xs.length<=i]
def Itt(K:aT)(a:av):It:=
 #[λi H=>∃xs x,Ţ K H a xs/\xs[i]?=U x,λi H x H'=>H'=H/\∀xs,Ţ K H a xs->xs[i]?=U x,λi H=>∃xs,Ţ K H a xs/\xs.length<=i]
noncomputable def Itr(lo:aj)(n:ag):It:=#[λi _=>i<n,λi H x H'=>H'=H/\x=.int (lo+i),λi _=>n<=i]
variable{K:aT}
def Sf(a it:av):ī P w K tg (Itl K a) [it] it (λi h=>h.IsListIter it a i) where
 mem:=by simp
 obj:=λi h st b C=>by
  let e:b=it:=by simpa using C
  subst e;let⟨o,e,c,d⟩:=st;show#[o,e,λv z=>by rw[d] at z;cases z]
 keep:=λi h h' st k=>st.at λo e=>k it (by simp) o e
 item:=by intro X hP hw hK hc i Z' s L H us I hf st hg;subst hP hw hK;let⟨xs,x,hq,hx⟩:=hg;let⟨YY,rv,p,hz⟩:=I.list hq;let⟨u,hu,ru⟩:=rv.get hx;let⟨f0,f1,f2,f3,f4,f5⟩:=hf it (by simp);show V2 st p.isList (by simpa using hu) λh' ù sb=>?_;let I1:YS X Z' L H {s with heap:=h'}:=I.turned (λb o C e=>(sb.2 b C).trans e) f0 f1 f3 f4 f5;let⟨o,e,c,d⟩:=id ù;show#[u,W,rq e c d .(b) #[x,H,I1,ru,#[W,λys hy=>by rw[I.list_inj hy hq];show hx],ù,λb C=>(hf b C).1]]
 done:=by intro X hP hw hK hc i Z' s L H us I hf st hg;subst hP hw hK;let⟨xs,hq,hx⟩:=hg;let⟨YY,rv,p,hz⟩:=I.list hq;let⟨f0,f1,f2,f3,f4,f5⟩:=hf it (by simp);let hl:=rv.length;show V3 (I.ok.hd hc) st p.isList (by simp;ext) λh' eb=>#[W,I.turned (λb o C e=>eb b o C e) f0 f1 f3 f4 f5]
 self:=λ_ _ _ _ _ st h=>wpAny_pyIter_listiter st h
def NO(a it:av):ī P w K tg (Itt K a) [it] it (λi h=>h.IsTupleIter it a i) where
 mem:=by simp
 obj:=λi h st b C=>by
  let e:b=it:=by simpa using C
  subst e;let⟨o,e,c,d⟩:=st;show#[o,e,λv z=>by rw[d] at z;cases z]
 keep:=λi h h' st k=>st.at λo e=>k it (by simp) o e
 item:=by intro X hP hw hK hc i Z' s L H us I hf st hg;subst hP hw hK;let⟨xs,x,hq,hx⟩:=hg;let⟨YY,rv,p,hz⟩:=I.tuple hq;let⟨u,hu,ru⟩:=rv.get hx;let⟨f0,f1,f2,f3,f4,f5⟩:=hf it (by simp);show wpAny_pyNext_tuple_item st (p) (by simpa using hu) λh' ù sb=>?_;let I1:YS X Z' L H {s with heap:=h'}:=I.turned (λb o C e=>(sb.2 b C).trans e) f0 f1 f3 f4 f5;let⟨o,e,c,d⟩:=id ù;show#[u,W,rq e c d .(b) #[x,H,I1,ru,#[W,λys hy=>by rw[I.tuple_inj hy hq];show hx],ù,λb C=>(hf b C).1]]
 done:=by intro X hP hw hK hc i Z' s L H us I hf st hg;subst hP hw hK;let⟨xs,hq,hx⟩:=hg;let⟨YY,rv,p,hz⟩:=I.tuple hq;let⟨f0,f1,f2,f3,f4,f5⟩:=hf it (by simp);let hl:=rv.length;show wpAny_pyNext_tuple_end (I.ok.hd hc) st (p) (by simp;ext) λh' eb=>#[W,I.turned (λb o C e=>eb b o C e) f0 f1 f3 f4 f5]
 self:=λ_ _ _ _ _ st h=>wpAny_pyIter_tupleiter st h
def MF(it:av)(lo:aj)(n:ag):ī P w K tg (Itr lo n) [it] it (λi h=>IsRangeIter h it (lo+(i:ag)*1) ((n:aj)-(i:ag)) 1) where
 mem:=by simp
 obj:=λi h st b C=>by
  let e:b=it:=by simpa using C
  subst e;show#[_,st,λv z=>by let z':Data.fields _=Data.cell v:=z;cases z']
 keep:=λi h h' st k=>k it (by simp) _ st
 item:=by intro X hP hw hK hc i Z' s L H us I hf st hg;subst hP hw hK;let⟨f0,f1,f2,f3,f4,f5⟩:=hf it (by simp);let YJ:=Walks.range (prog:=X.prog) (w:=X.w) (I.ok.hd hc) it lo 1 n;show YJ.item i s _ _ hg st λv h' tk hv ù kk=>?_;let⟨t,rfl⟩:=hv;let I1:YS X Z' L H {s with heap:=h',toks:=tk}:=I.turned (λb o C e=>kk b o (by simpa using C) e) f0 f1 f3 f4 f5;show#[_,W,rq ù W W .(b) #[.int (lo+i),H,I1,#[t,?_],#[W,W],ù,λb C=>(hf b C).1]];rw[Int.mul_one]
 done:=by intro X hP hw hK hc i Z' s L H us I hf st hg;subst hP hw hK;let⟨f0,f1,f2,f3,f4,f5⟩:=hf it (by simp);show wpAny_pyNext_range_end (I.ok.hd hc) st (by let:n<=i:=hg;ext) λh' eb=>#[W,I.turned (λb o C e=>eb b o C e) f0 f1 f3 f4 f5]
 self:=λ_ _ _ _ _ st h=>wpAny_pyIter_rangeiter st h
variable{lo:aj}{p:dn}{fp:Z av}{iter:Expr}{wi:TI}
def Dt{R:It->Hp->Prop}{hi:aj}{t u v:Tok}{tk:ag}(I:YS X Z' L H s)(h1 : -(2 ^ 62)<=lo)(h2:lo<2 ^ 62)(h3 : -(2 ^ 62)<=hi)(h4:hi<2 ^ 62)
  (q:R (Itr lo (hi-lo).toNat) H):aL .(t) X.A (l0 (.ref s.heap.objs.size)) (PIE X Z' L tg R) us {s with heap:=s.heap.push {cls:=.type "range",data:=.fields [.int lo t,.int hi u,.int 1 v].toArray},toks:=tk}:=by
 show wpAny_pyIter_range (IsRange.new ..) (small_one h1 h2 h3 h4) ?_;let I1:YS X Z' L H {s with heap:=s.heap.push {cls:=.type "range",data:=.fields [.int lo t,.int hi u,.int 1 v].toArray},toks:=tk}:=I.kept λb o e=>qv _ e;show#[(s.heap.push {cls:=.type "range",data:=.fields [.int lo t,.int hi u,.int 1 v].toArray}).objs.size,[(s.heap.push {cls:=.type "range",data:=.fields [.int lo t,.int hi u,.int 1 v].toArray}).objs.size],_,_,H,W,
  I1.kept λb o e=>qv _ e,MF _ lo (hi-lo).toNat,?_,λb C=>?_,q]
 .let e1:lo+((0:ag):aj)*1=lo:=by simp
  let e2:(((hi-lo).toNat:ag):aj)-((0:ag):aj)=XZ lo hi 1:=by rw[rangeSize_one];split<;>ext
  rw[e1,e2];show qH _ W
 .let e:b=(s.heap.push {cls:=.type "range",data:=.fields [.int lo t,.int hi u,.int 1 v].toArray}).objs.size:=by simpa using C
  subst e;show I1.fpOk (qx _) (I1.hok.fresh (qx _))
def PZ(ta:TA):TI:=λL H R=>ta L H λvs H1=>∃j:aj,vs=[.int j] /\ -(2 ^ 62)<=j/\j<2 ^ 62/\R (Itr 0 j.toNat) H1
def Ki(ta:TA):TI:=λL H R=>ta L H λvs H1=>∃i j:aj,vs=[.int i,.int j]/\(-(2 ^ 62)<=i/\i<2 ^ 62 /\ -(2 ^ 62)<=j/\j<2 ^ 62)/\R (Itr i (j-i).toNat) H1
def OO{a:Expr}{ta:TA}(hg:Gl X "range")(hm:X.mg "range"=B)(ha:PA X [a] ta)(hs:aP [a] X.env=[(ar,eval a X.env)]:=by rfl):PI X tg (.Call (.Name "range" p) [a] [] pos) (PZ ta):=by
 intro Z' s L H R I h;show Call_ (mR I hg hm boot_range (AF (Zf (ha pos Z' s L H _ I h) λE s1 #[vs,H1,I1,r1,q1]=>?_) hs W));let⟨j,e,q1,q2,q⟩:=q1;subst e;cases r1 with
 |cons r rr=>
  cases rr;let⟨t,rfl⟩:=r;show call_range_1 (Dt I1 .(c) .(c) q1 q2 (by simpa using q))
def MA{a:Expr}{ta:TA}(hg:Gl X "range")(hm:X.mg "range"=B)(ha:PA X [a,b] ta)(hs:aP [a,b] X.env=[(ar,eval a X.env),(ar,eval b X.env)]:=by rfl)(ſ:aP [b] X.env=[(ar,eval b X.env)]:=by rfl):
  PI X tg (.Call (.Name "range" p) [a,b] [] pos) (Ki ta):=by
 intro Z' s L H R I h;show Call_ (mR I hg hm boot_range (AF (Zf (ha pos Z' s L H _ I h) λE s1 #[vs,H1,I1,r1,q1]=>?_) (by rw[hs,ſ]) (by rw[ſ];rfl)));let⟨i,j,e,⟨q1,q2,q3,q4⟩,q⟩:=q1;subst e;cases r1 with
 |cons r rr=>
  cases rr with
  |cons r' rr=>
   cases rr;let⟨t,rfl⟩:=r;let⟨t',rfl⟩:=r';show call_range_2 (Dt I1 q1 q2 q3 q4 q)
def TW(wi:TI)(g:TG)(tb:TS):TS:=λD L H=>wi L H λao H1=>∃YJ:ag->ag->St->Hp->Prop,(∃m,YJ 0 m L H1)/\∀i m L H,YJ i m L H->
 (ao.stop i H/\D.nx L H)\/(ao.go i H/\∃N:St->Hp->Prop,(∀Z5 H',N Z5 H'->∃m',m'<m/\YJ (i+1) m' Z5 H')/\∀x H',ao.yld i H x H'->g x L H' λZU H2=>tb {D with nx:=N,ct:=N,bk:=D.nx} ZU H2)
noncomputable def rL(fp:Z av)(h:Heap):Z (av×Obj):=fp.filterMap λb=>(h.get? b).map λo=>(b,o)
def vY{h:Heap}{b:av}(C:b∈fp)(e:h.get? b=U o):(b,o)∈rL fp h:=sM.mpr #[b,C,by rw[e];rfl]
def OC{h:Heap}{p:av×Obj}(hp:p∈rL fp h):p.1∈fp/\h.get? p.1=U p.2:=by
 let⟨b,C,e⟩:=sM.mp hp;cases q:h.get? b with
 |none=>rw[q] at e;cases e
 |some o=>
  rw[q] at e;let e':(b,o)=p:=qI e;subst e';show#[C,q]
def YS.pinned(I:YS X Z' L H s)(hf:∀b∈fp,gZ X Z' H b)(ho:∀b∈fp,∃o,s.heap.get? b=U o/\∀v,o.data≠.cell v):YS X (Z'++rL fp s.heap) L H s:=
 I.pins_of λp hp=>(cY.mp hp).elim (λz=>I.pin p (qS _ z)) λz=>by let⟨C,e⟩:=OC z;let⟨f0,f1,f2,_⟩:=hf p.1 C;let⟨o,e',d⟩:=ho p.1 C;rw[e] at e';cases e';show#[e,f0,f1,f2,d]
def YS.unpinned{pl:Z (av×Obj)}(I:YS X (Z'++pl) L H s):YS X Z' L H s:=I.pins_of λp hp=>I.pin p (qS _ (nD _ hp))
def Le{body:Z Stmt}{g:TG}{tb:TS}(hp:PassesOwn .(t) X.A X.env X.xe)(hc:X.calm=ah)(hi:PI X tg iter wi)(hg:PG X tg g)(C:Ś X body tb)
  (hs:∀x,kJ iter X.env x=bd x:=by intro _;rfl):PS X (.For tg iter body [] pos) (TW wi g tb):=by
 intro Z' s L H D I h;show wpAny_For (Zf (hi Z' s L H _ I h) λv s1 h1=>Zf h1 λitv s2 h2=>?_) hs;let⟨it,fp,tn,ao,H2,e,I2,T,st2,f2,YJ,⟨m0,w0⟩,turn⟩:=h2;subst e;let Ť:∀{H':Hp},(∀b∈fp,H' b=B)->∀b∈fp,gZ X Z' H' b:=λhn b C=>#[hn b C,(f2 b C).2];show codeAny_forLoop_any (λn s'=>∃i Z5 H',YS X Z' Z5 H' s'/\tn i s'.heap/\(∀b∈fp,H' b=B)/\YJ i n Z5 H') ?_ m0 #[0,L,H2,I2,st2,λb C=>(f2 b C).1,w0];rintro n s3 ⟨i,ZV,H3,I3,st3,fr3,w3⟩;rcases turn i n ZV H3 w3 with⟨stop,qn⟩|⟨go,N,hN,step⟩
 .refine wv hp (Zf (T.done X W W W hc i Z' s3 ZV H3 X.xe I3 (Ť fr3) st3 stop) λr s4 #[hr,I4]=>?_);subst hr;show Hv #[ZV,H3,I4,qn]
 .refine wv hp (Zf (T.item X W W W hc i Z' s3 ZV H3 X.xe I3 (Ť fr3) st3 go) λr s4 #[u,hr,h4]=>?_);subst hr;show wv hp (Zf h4 λ_ s5 #[x,H5,I5,r5,y5,st5,fr5]=>?_);let I5':=I5.pinned (Ť fr5) (T.obj _ _ st5);show wv hp (Zf (hg _ s5 ZV H5 x u _ I5' r5 (step x H5 y5)) λ_ s6 #[ZO,H6,I6,q6]=>?_);show wv hp (Zf (C _ s6 ZO H6 _ I6 q6) λf s7 q7=>?_);let again:∀{ZY:St}{H7:Hp},YS X (Z'++rL fp s5.heap) ZY H7 s7->N ZY H7->∃m,m<n/\∃i Z5 H',YS X Z' Z5 H' s7/\tn i s7.heap/\(∀b∈fp,H' b=B)/\YJ i m Z5 H':=λ{ZY H7}I7 n7=>by let⟨m',hm,w7⟩:=hN ZY H7 n7;show#[m',hm,i+1,ZY,H7,I7.unpinned,T.keep _ _ _ st5 λb C o e=>(I7.pin (b,o) (qS _ (qS _ (vY C e)))).1,λb C=>?_,w7];let⟨o,e,d⟩:=T.obj _ _ st5 b C;show(I7.pin (b,o) (qS _ (qS _ (vY C e)))).2.1
  cases f with
  |next=>let⟨ZY,H7,I7,n7⟩:=q7;show again I7 n7
  |cont=>let⟨ZY,H7,I7,n7⟩:=q7;show again I7 n7
  |brk=>let⟨ZY,H7,I7,q7⟩:=q7;show#[ZY,H7,I7.unpinned,q7]
  |ret v=>let⟨x7,ZY,H7,I7,r7,q7⟩:=q7;show#[x7,ZY,H7,I7.unpinned,r7,q7]
abbrev R2:=V->V->Hp->VK->Prop
def Å(X:Cx)(f:aw->aw->Sem aw)(r:R2):Prop:=
 ∀(Z':Z (av×Obj))(s:aH)(L:St)(H:Hp)(x y:V)(v u:aw)(Q:VK),YS X Z' L H s->bI x v->bI y u->r x y H Q->
  aL .(t) X.A (f v u) (EP X Z' L Q) X.xe s
def UnR(X:Cx)(f:aw->Sem aw)(r:V->Hp->VK->Prop):Prop:=
 ∀(Z':Z (av×Obj))(s:aH)(L:St)(H:Hp)(x:V)(v:aw)(Q:VK),YS X Z' L H s->bI x v->r x H Q->
  aL .(t) X.A (f v) (EP X Z' L Q) X.xe s
def dZ(X:Cx)(f:aw)(r:Z V->Hp->VK->Prop):Prop:=
 ∀(Z':Z (av×Obj))(s:aH)(L:St)(H:Hp)(xs:Z V)(E:Z aw)(Q:VK),YS X Z' L H s->bj xs E->r xs H Q->
  aL .(t) X.A (call f E) (EP X Z' L Q) X.xe s
def tOp(r:R2)(ta tb:TE):TE:=λL H Q=>ta L H λx H1=>tb L H1 λy H2=>r x y H2 Q
noncomputable def tUn(r:V->Hp->VK->Prop)(ta:TE):TE:=λL H Q=>ta L H λx H1=>r x H1 Q
noncomputable def rI(hb:aj->aj->Prop)(g:aj->aj->V):R2:=λx y H Q=>∃i j,x=.int i/\y=.int j/\hb i j/\Q (g i j) H
noncomputable def ź(g:aj->aj->V):R2:=λx y H Q=>∃i j,x=.int i/\y=.int j/\Q (g i j) H
def rU(g:aj->V):V->Hp->VK->Prop:=λx H Q=>∃i,x=.int i/\Q (g i) H
section
variable{a c:Expr}{tb tc:TE}
def yU(ha:PE X a ta)(C:PE X b tb){R:V->V->Hp->Prop}(I:YS X Z' L H s)
  (h:ta L H λx H1=>tb L H1 λy H2=>R x y H2){f:aw->aw->Sem aw} 
  (hf:∀v u s2 x y H2,YS X Z' L H2 s2->bI x v->bI y u->R x y H2->aL .(t) X.A (f v u) Q X.xe s2):
  aL .(t) X.A (eval a X.env) (λv Z7=>aL .(t) X.A (eval b X.env) (λu Z4=>aL .(t) X.A (f v u) Q X.xe Z4) X.xe Z7) X.xe s:=by
 show Zf (ha Z' s L H _ I h) λv s1 #[x,H1,I1,r1,q1]=>?_;show Zf (C Z' s1 L H1 _ I1 q1) λu s2 #[y,H2,I2,r2,q2]=>?_;show hf v u s2 x y H2 I2 r1 r2 q2
def Je{op:Operator}{r:R2}(ho:Å X (gX op) r)(ha:PE X a ta)(C:PE X b tb):PE X (.BinOp a op b pos) (tOp r ta tb):=by intro Z' s L H Q I h;show wpAny_BinOp (yU ha C I h λv u s2 x y H2 I2 rx ry q=>ho Z' s2 L H2 x y v u Q I2 rx ry q)
def Lj{op:UnaryOp}{r:V->Hp->VK->Prop}(ho:UnR X (unaryOp op) r)(ha:PE X a ta):PE X (.UnaryOp op a pos) (tUn r ta):=by intro Z' s L H Q I h;show Hu (Zf (ha Z' s L H _ I h) λv s1 #[x,H1,I1,r1,q1]=>ho Z' s1 L H1 x v Q I1 r1 q1)
def opI{f:aw->aw->Sem aw}{hb:aj->aj->Prop}{g:aj->aj->aj} 
  (rule:∀(i j:aj)(t u:Tok)(s:aH)(Q:aw->aH->Prop)(us:aw->aH->Prop),hb i j->Q (.int (g i j) s.toks) {s with toks:=s.toks+1}->aL .(t) X.A (f (.int i t) (.int j u)) Q us s):
  Å X f (rI hb λi j=>.int (g i j)):=by
 intro Z' s L H x y v u Q I rx ry h;let⟨i,j,rfl,rfl,hc,q⟩:=h;let⟨t,rfl⟩:=rx;let⟨t',rfl⟩:=ry;show rule i j t t' s _ _ hc #[.int (g i j),H,I.tok _,#[_,W],q]
def D3{f:aw->aw->Sem aw}{g:aj->aj->aj} 
  (rule:∀(i j:aj)(t u:Tok)(s:aH)(Q:aw->aH->Prop)(us:aw->aH->Prop),Q (.int (g i j) s.toks) {s with toks:=s.toks+1}->aL .(t) X.A (f (.int i t) (.int j u)) Q us s):
  Å X f (ź λi j=>.int (g i j)):=by
 intro Z' s L H x y v u Q I rx ry h;let⟨i,j,rfl,rfl,q⟩:=h;let⟨t,rfl⟩:=rx;let⟨t',rfl⟩:=ry;show rule i j t t' s _ _ #[.int (g i j),H,I.tok _,#[_,W],q]
def uC{f:aw->aw->Sem aw}{g:aj->aj->aJ} 
  (rule:∀(i j:aj)(t u:Tok)(s:aH)(Q:aw->aH->Prop)(us:aw->aH->Prop),Q (.bool (g i j)) s->aL .(t) X.A (f (.int i t) (.int j u)) Q us s):
  Å X f (ź λi j=>.bl (g i j)):=by
 intro Z' s L H x y v u Q I rx ry h;let⟨i,j,rfl,rfl,q⟩:=h;let⟨t,rfl⟩:=rx;let⟨t',rfl⟩:=ry;show rule i j t t' s _ _ #[.bl (g i j),H,I,W,q]
def NV(i j:aj):Prop:=0<j/\j<1073741824
def Ut(i j:aj):Prop:=0<=j/\j<=1000000/\i.natAbs<2 ^ 64
def wk(i j:aj):Prop:=(-(2 ^ 64)<i/\i<2 ^ 64)\/(-(2 ^ 64)<j/\j<2 ^ 64)
def wk.ok{i j:aj}(h:wk i j):IntMulOk i j:=by
 rcases h with⟨h1,h2⟩|⟨h1,h2⟩
 .exact .of_left (intBits_le_64 h1 h2)
 .exact .of_right (intBits_le_64 h1 h2)
def Qn:Å X (gX .Add) (ź λi j=>.int (i+j)):=D3 λ_ _ _ _ _ _ _ q=>add_int q
def OI:Å X (gX .Sub) (ź λi j=>.int (i-j)):=D3 λ_ _ _ _ _ _ _ q=>sub_int q
def UZ:Å X (gX .Mult) (rI wk λi j=>.int (i*j)):=opI λ_ _ _ _ _ _ _ hc q=>mul_int q hc.ok
def Kq:Å X (gX .FloorDiv) (rI NV λi j=>.int (i / j)):=opI λi j _ _ _ _ _ hc q=>by let h1:(0:aj)<j:=hc.1;let h2:j<1073741824:=hc.2;show floordiv_int .(c) (by rw[Int.fdiv_eq_ediv_of_nonneg i .(c)];show q) (.inl (PyProof.noPylong_small .(c)))
def Nd:Å X (gX .Mod) (rI (λ_ j=>0<j) λi j=>.int (i%j)):=opI λi j _ _ _ _ _ hc q=>by let h1:(0:aj)<j:=hc;show mod_int' .(c) (by rw[Int.fmod_eq_emod_of_nonneg i .(c)];show q)
def TQ:Å X (gX .Pow) (rI Ut λi j=>.int (i ^ j.toNat)):=opI λ_ _ _ _ _ _ _ hc q=>pow_int_small hc.1 hc.2.1 hc.2.2 q
def unI{f:aw->Sem aw}{g:aj->aj} 
  (rule:∀(i:aj)(t:Tok)(s:aH)(Q:aw->aH->Prop)(us:aw->aH->Prop),Q (.int (g i) s.toks) {s with toks:=s.toks+1}->aL .(t) X.A (f (.int i t)) Q us s):
  UnR X f (rU λi=>.int (g i)):=by
 intro Z' s L H x v Q I rx h;let⟨i,rfl,q⟩:=h;let⟨t,rfl⟩:=rx;show rule i t s _ _ #[.int (g i),H,I.tok _,#[_,W],q]
def LX:UnR X (unaryOp .USub) (rU λi=>.int (-i)):=unI λ_ _ _ _ _ q=>neg_int q
end
noncomputable def zQ:V->V->aJ
 |.non,.non=>ah|.non,.int _=>ah|.int _,.non=>ah|.non,.bl _=>ah|.bl _,.non=>ah|.non,.str _=>ah|.str _,.non=>ah
 |.int _,.int _=>ah|.bl _,.bl _=>ah|.str _,.str _=>ah
 |.int _,.str _=>ah|.str _,.int _=>ah|.bl _,.str _=>ah|.str _,.bl _=>ah
 |_,_=>ar
def rEq:R2:=λx y H Q=>zQ x y=ah/\Q (.bl (decide (x=y))) H
def rNe:R2:=λx y H Q=>zQ x y=ah/\Q (.bl (!decide (x=y))) H
def C2{i j:aj}:decide (V.int i=V.int j)=(i==j):=by rw[kK];simp
def E1{i j:aJ}:decide (V.bl i=V.bl j)=(i==j):=by rw[kK];simp
def Cr{i j:ai}:decide (V.str i=V.str j)=(i==j):=by rw[kK];simp
variable{r':R2}{op θ:CmpOp}
section
variable{a c:Expr}{tb tc:TE}
def cN{Q:VK}{k k':aJ}(I:YS X Z' L H s)(q:Q (.bl k) H)(e:k=k'):EP X Z' L Q (.bool k') s:=by subst e;show#[.bl k,H,I,W,q]
def MJ:Å X (dM .Eq) rEq:=by
 intro Z' s L H x y v u Q I rx ry h;let⟨hs,q⟩:=h;cases x with
 |non=>
  cases rx;cases y with
  |non=>cases ry;show X0 (cN I q (by simp))
  |bl j=>cases ry;show X1 (cN I q (by simp))
  |int j=>let⟨t',rfl⟩:=ry;show X2 (cN I q (by simp))
  |str j=>let⟨t',rfl⟩:=ry;show X3 (cN I q (by simp))
  |_=>show bH (hs) qu
 |bl i=>
  cases rx;cases y with
  |non=>cases ry;show X4 (cN I q (by simp))
  |bl j=>cases ry;show eq_bool (cN I q E1)
  |str j=>let⟨t',rfl⟩:=ry;show X5 (cN I q (by simp))
  |_=>show bH (hs) qu
 |int i=>
  let⟨t,rfl⟩:=rx;cases y with
  |non=>cases ry;show X6 (cN I q (by simp))
  |int j=>let⟨t',rfl⟩:=ry;show eq_int (cN I q C2)
  |str j=>let⟨t',rfl⟩:=ry;show X7 (cN I q (by simp))
  |_=>show bH (hs) qu
 |str i=>
  let⟨t,rfl⟩:=rx;cases y with
  |non=>cases ry;show X8 (cN I q (by simp))
  |bl j=>cases ry;show X9 (cN I q (by simp))
  |int j=>let⟨t',rfl⟩:=ry;show Ya (cN I q (by simp))
  |str j=>let⟨t',rfl⟩:=ry;show eq_str (cN I q Cr)
  |_=>show bH (hs) qu
 |_=>cases y<;>show bH (hs) qu
def KC:Å X (dM .NotEq) rNe:=by
 intro Z' s L H x y v u Q I rx ry h;let⟨hs,q⟩:=h;cases x with
 |non=>
  cases rx;cases y with
  |non=>cases ry;show Yb (cN I q (by simp))
  |bl j=>cases ry;show Yc (cN I q (by simp))
  |int j=>let⟨t',rfl⟩:=ry;show Ye (cN I q (by simp))
  |str j=>let⟨t',rfl⟩:=ry;show Yf (cN I q (by simp))
  |_=>show bH (hs) qu
 |bl i=>
  cases rx;cases y with
  |non=>cases ry;show Yg (cN I q (by simp))
  |bl j=>cases ry;show ne_bool (cN I q (bP not E1))
  |str j=>let⟨t',rfl⟩:=ry;show Yh (cN I q (by simp))
  |_=>show bH (hs) qu
 |int i=>
  let⟨t,rfl⟩:=rx;cases y with
  |non=>cases ry;show Yi (cN I q (by simp))
  |int j=>let⟨t',rfl⟩:=ry;show ne_int (cN I q (bP not C2))
  |str j=>let⟨t',rfl⟩:=ry;show Yj (cN I q (by simp))
  |_=>show bH (hs) qu
 |str i=>
  let⟨t,rfl⟩:=rx;cases y with
  |non=>cases ry;show Yk (cN I q (by simp))
  |bl j=>cases ry;show Yl (cN I q (by simp))
  |int j=>let⟨t',rfl⟩:=ry;show Ym (cN I q (by simp))
  |str j=>let⟨t',rfl⟩:=ry;show ne_str (cN I q (bP not Cr))
  |_=>show bH (hs) qu
 |_=>cases y<;>show bH (hs) qu
def JO:Å X (dM .Lt) (ź λi j=>.bl (decide (i<j))):=uC λ_ _ _ _ _ _ _ q=>lt_int q
def RT:Å X (dM .LtE) (ź λi j=>.bl (decide (i<=j))):=uC λ_ _ _ _ _ _ _ q=>le_int q
def Tr:Å X (dM .Gt) (ź λi j=>.bl (decide (j<i))):=uC λ_ _ _ _ _ _ _ q=>gt_int q
def UU:Å X (dM .GtE) (ź λi j=>.bl (decide (j<=i))):=uC λ_ _ _ _ _ _ _ q=>ge_int q
def IW:Å X (dM .Lt) (λx y H Q=>∃i j,x=.str i/\y=.str j/\Q (.bl (decide (i.cps.toList<j.cps.toList))) H):=by intro Z' s L H x y v u Q I rx ry h;let⟨i,j,rfl,rfl,q⟩:=h;let⟨t,rfl⟩:=rx;let⟨t',rfl⟩:=ry;show lt_str (cN I q W)
def Px:Å X (dM .Is) (λx y H Q=>y=.non/\Q (.bl (decide (x=.non))) H):=by
 intro Z' s L H x y v u Q I rx ry h;let⟨rfl,q⟩:=h;cases ry;show is_none_gen (cN I q ?_);cases x<;>first
  |(cases rx;rfl)
  |(let⟨t,rfl⟩:=rx;rfl)
def Pz:Å X (dM .IsNot) (λx y H Q=>y=.non/\Q (.bl (!decide (x=.non))) H):=by
 intro Z' s L H x y v u Q I rx ry h;let⟨rfl,q⟩:=h;cases ry;show isnot_none_gen (cN I q ?_);cases x<;>first
  |(cases rx;rfl)
  |(let⟨t,rfl⟩:=rx;rfl)
def Å.or{f:aw->aw->Sem aw}{r:R2}(h:Å X f r)(h':Å X f r'):Å X f (λx y H Q=>r x y H Q\/r' x y H Q):=by
 intro Z' s L H x y v u Q I rx ry q;rcases q with q|q
 .exact h Z' s L H x y v u Q I rx ry q
 .exact h' Z' s L H x y v u Q I rx ry q
def rS(b:Expr)(h:op≠.In:=by decide)(h2:op≠.NotIn:=by decide):sN op b=ar:=by
 let e1:(op==CmpOp.In)=ar:=by cases op<;>first|rfl|show bH W h
 let e2:(op==CmpOp.NotIn)=ar:=by cases op<;>first|rfl|show bH W h2
 cases b<;>simp[sN,e1,e2]
def PR{r:R2}(ho:Å X (dM op) r)(ha:PE X a ta)(C:PE X b tb)(hm:sN op b=ar):PE X (.Compare a [op] [b] pos) (tOp r ta tb):=by intro Z' s L H Q I h;show wpAny_Compare1 (yU ha C I h λv u s2 x y H2 I2 rx ry q=>ho Z' s2 L H2 x y v u Q I2 rx ry q) hm
noncomputable def Dk(t:TE):TT:=λL H Q=>t L H λx H'=>∃k,x=.bl k/\Q k H'
def Ua{r:R2}(ho:Å X (dM op) r)(ha:PE X a ta)(C:PE X b tb)(hm:sN op b=ar):PT X (.Compare a [op] [b] pos) (Dk (tOp r ta tb)):=by
 intro Z' s L H Q I h;show wpAny_isTrue_Compare1 (Zf (ha Z' s L H _ I h) λv s1 #[x,H1,I1,r1,q1]=>Zf (C Z' s1 L H1 _ I1 q1) λu s2 #[y,H2,I2,r2,q2]=>
  Zf (ho Z' s2 L H2 x y v u _ I2 r1 r2 q2) λc s3 #[z,H3,I3,r3,k,e,q3]=>?_) hm
 subst e;cases r3;show kH #[H3,I3,q3]
def yg(r r':R2)(ta tb tc:TE):TE:=λL H Q=>ta L H λx H1=>tb L H1 λy H2=>r x y H2 λz H3=>∃k,z=.bl k /\
 (if k=ah then tc L H3 λw' H4=>r' y w' H4 Q else Q (.bl ar) H3)
def O6{r:R2}(ho:Å X (dM op) r)(Ĕ:Å X (dM θ) r')(ha:PE X a ta)(C:PE X b tb)(hc:PE X c tc)
  (hm:AG [op,θ] [b,c]=ar:=by with_unfolding_all rfl):PE X (.Compare a [op,θ] [b,c] pos) (yg r r' ta tb tc):=by
 intro Z' s L H Q I h;show Compare_chain (Zf (ha Z' s L H _ I h) λv s1 #[x,H1,I1,r1,q1]=>chain_link (Zf (C Z' s1 L H1 _ I1 q1) λu s2 #[y,H2,I2,r2,q2]=>
  Zf (ho Z' s2 L H2 x y v u _ I2 r1 r2 q2) λd s3 #[z,H3,I3,r3,k,e,q3]=>?_)) hm
 subst e;cases r3;show kH ?_;cases k with
 |false=>show ite_ff #[.bl ar,H3,I3,W,q3]
 |true=>show ite_tt (chain_last (Zf (hc Z' s3 L H3 _ I3 q3) λw' s4 #[z',H4,I4,r4,q4]=>Ĕ Z' s4 L H4 y z' u w' Q I4 r2 r4 q4))
def UT{r:R2}(ho:Å X (dM op) r)(Ĕ:Å X (dM θ) r')(ha:PE X a ta)(C:PE X b tb)(hc:PE X c tc)
  (hm:AG [op,θ] [b,c]=ar:=by with_unfolding_all rfl):PT X (.Compare a [op,θ] [b,c] pos) (Dk (yg r r' ta tb tc)):=by
 intro Z' s L H Q I h;show isTrue_chain (Zf (ha Z' s L H _ I h) λv s1 #[x,H1,I1,r1,q1]=>test_link (Zf (C Z' s1 L H1 _ I1 q1) λu s2 #[y,H2,I2,r2,q2]=>
  Zf (ho Z' s2 L H2 x y v u _ I2 r1 r2 q2) λd s3 #[z,H3,I3,r3,k,e,q3]=>?_)) hm
 subst e;cases r3;show kH ?_;cases k with
 |false=>
  let⟨k',e',q'⟩:=q3;cases e';show ite_ff #[H3,I3,q']
 |true=>
  show ite_tt (test_last (Zf (hc Z' s3 L H3 _ I3 q3) λw' s4 #[z',H4,I4,r4,q4]=>Zf (Ĕ Z' s4 L H4 y z' u w' _ I4 r2 r4 q4) λd' s5 #[z2,H5,I5,r5,k2,e2,q5]=>?_));subst e2;cases r5;show kH #[H5,I5,q5]
def uz:(aK:ag)<2 ^ 63:=by rw[eW];decide
def OJ:Å X (gX .Add) (λx y H Q=>∃i j,x=.str i/\y=.str j/\i.length+j.length<=aK/\Q (.str (i++j)) H):=by intro Z' s L H x y v u Q I rx ry h;let⟨i,j,rfl,rfl,hz,q⟩:=h;let⟨t,rfl⟩:=rx;let⟨t',rfl⟩:=ry;show add_str (λt' tk=>#[.str (i++j),H,I.tok _,#[_,W],q]) hz
def eR{x:V}{E:Z aw}(r:bj [x] E):∃u,E=[u]/\bI x u:=by
 cases r with
 |cons r1 r2=>cases r2;show#[_,W,r1]
def zU{x:V}{E:Z aw}(r:bj [x,y] E):∃u w',E=[u,w']/\bI x u/\bI y w':=by
 cases r with
 |cons r1 r2=>
  cases r2 with
  |cons r3 r4=>cases r4;show#[_,_,W,r1,r3]
def UW(hc:X.calm=ah):dZ X (.builtin "max") (λxs H Q=>∃i j,xs=[.int i,.int j]/\Q (.int (if j > i then j else i)) H):=by
 intro Z' s L H xs E Q I r h;let⟨i,j,rfl,q⟩:=h;let⟨u,w',rfl,⟨t,rfl⟩,⟨t',rfl⟩⟩:=zU r;show max_two_ints (I.ok.hd hc) λh' tk k=>#[_,H,I.kept k,?_,q];by_cases hj:j > i
 .rw[qY hj,qY hj];show#[_,W]
 .rw[qZ hj,qZ hj];show#[_,W]
def Vb(hc:X.calm=ah):dZ X (.builtin "min") (λxs H Q=>∃i j,xs=[.int i,.int j]/\Q (.int (if j<i then j else i)) H):=by
 intro Z' s L H xs E Q I r h;let⟨i,j,rfl,q⟩:=h;let⟨u,w',rfl,⟨t,rfl⟩,⟨t',rfl⟩⟩:=zU r;show min_two_ints (I.ok.hd hc) λh' tk k=>#[_,H,I.kept k,?_,q];by_cases hj:j<i
 .rw[qY hj,qY hj];show#[_,W]
 .rw[qZ hj,qZ hj];show#[_,W]
def KB(K:aT)(x:V)(H:Hp)(n:ag):Prop:=
 match x with
 |.str y=>y.length<=aK/\n=y.length
 |.ref p=>(∃xs,ñ K H p xs/\n=xs.length)\/∃xs,Ţ K H p xs/\n=xs.length
 |_=>False
def R0:dZ X (.builtin "len") (λxs H Q=>∃x n,xs=[x]/\KB X.K x H n/\Q (.int n) H):=by
 intro Z' s L H xs E Q I r h;let⟨x,n,rfl,e,q⟩:=h;let⟨u,rfl,rx⟩:=eR r;let hl:=uz;let hs:aK=16777216:=eW;cases x with
 |str y=>
  let⟨t,rfl⟩:=rx;obtain⟨hy,e'⟩:y.length<=aK/\n=y.length:=e;subst e';show len_str .(c) #[.int _,H,I.tok _,#[_,W],q]
 |ref p=>
  cases rx;let e':(∃xs,ñ X.K H p xs/\n=xs.length)\/∃xs,Ţ X.K H p xs/\n=xs.length:=e;rcases e' with⟨xs,hx,e'⟩|⟨xs,hx,e'⟩
  .subst e';let⟨YY,r',pl,hz⟩:=I.list hx;let Y5:=r'.length;show Calls.call_len_list pl.isList (by simp only[qC];ext) #[.int xs.length,H,I.tok _,#[_,by simp only[qC];rw[Y5]],q]
  .subst e';let⟨YY,r',pl,hz⟩:=I.tuple hx;let Y5:=r'.length;show len_tuple pl (by simp only[qC];ext) #[.int xs.length,H,I.tok _,#[_,by simp only[qC];rw[Y5]],q]
 |_=>show(e).elim
end
structure ų(h:Heap)(x dx hb:av)(mA:ai->au aw):Prop where
 obj:h.get? x=U (nC hb dx)
 ns:h.Ns1 dx mA
 ne:dx≠x
variable{dx:av}{mA:ai->au aw}
def N1{h:Heap}(n:h.Ns1 dx mA):∃od,h.get? dx=U od/\∀name,AH name od=U (mA name):=by
 let⟨o,es,ep,ho,hd,hk,_,hm⟩:=n;show#[o,ho,λname=>?_];let e:=hm name;unfold nsFind findBy at e;rw[<-Array.find?_toList] at e;unfold AH;rw[hd];dsimp only;split
 .rename_i y q;rw[q] at e;show bP U e
 .rename_i q;rw[q] at e;let a:es.toList.any (·.refKey)=ar:=by rw[V4];intro y hy;let⟨z,t,ĥ⟩:=hk y (Hw.mp hy);simp[DictEntry.refKey,ĥ]
  let a':¬es.toList.any (·.refKey)=ah:=by rw[a];show qu
  rw[qZ a'];show bP U e
variable{hb:av}
def ų.look{h:Heap}{x:av}(I:ų h x dx hb mA):∃od,PySem.W.InstAt h x (nC hb dx) hb (U od)/\∀name,AH name od=U (mA name):=
 let #[od,ho,hl]:=N1 I.ns
 #[od,#[I.obj,W,W,ho],hl]
variable{prog:dD}{name:ai}{pl:Sem aJ}{ns:Z ai}{kw:Z (ai×aw)}
section
variable{x f:av}{v:aw}
def VN{expr:aJ}(X:K.In s.heap)(I:ų s.heap x dx hb mA)(hg:pq K hb name=ah)(hh:sO K hb=ah)
  (ha:cv K (.ref hb) name=U B)(hv:mA name=U v)(ú:V5 v=ah)(h:Q v {s with toks:=s.toks+1}):
  aL .(z) A (getAttr (.ref x) name expr) Q us s:=by
 let⟨od,ao,hl⟩:=I.look;show PySem.W.get_value X ao (Hx hg).1 (PySem.W.findObj_own hh ha W (by rw[hl,hv])) ú h
def TC{Q:aw×Z aw->aH->Prop}(X:K.In s.heap)(I:ų s.heap x dx hb mA)(hg:pq K hb name=ah)
  (hf:cv K (.ref hb) name=U (U (.ref f)))(ht:pr K (.ref f)=ah)(hv:mA name=B)(h:Q (.ref f,[.ref x]) s):
  aL .(z) A (pw (.ref x) name pl) Q us s:=by
 let⟨od,ao,hl⟩:=I.look;show PySem.W.method_fn X ao (Hx hg).1 (Hx hg).2 hf (kL.mp ht) (by show(AH name od).map (·.isSome)=U ar;rw[hl,hv];rfl) h
def Lz{Q:lY->aH->Prop}(X:K.In s.heap)(I:ų s.heap x dx hb mA)
  (hs:cv K (.ref hb) "__setattr__"=U (U (.builtin "object.__setattr__")))(hp:ww K hb=ah)(ht:Hy K hb name=U B)(hh:sO K hb=ah)
  (hw:Hq mA ns)(ô:ns.length<=aK)
  (h:∀h',ų h' x dx hb (λy=>if y=name then U v else mA y)->gW dx s.heap h'->Q () {s with heap:=h',toks:=s.toks+2}):
  aL .(z) A (setAttr (.ref x) name v) Q us s:=by
 let⟨od,ao,hl⟩:=I.look;show PySem.W.set_plain X ao hs (PySem.W.osa_open X ao hp ht λb=>?_);let⟨cd,hc,þ⟩:=PySem.W.any_some hh;let hx:s.heap.get? x=U #[.ref hb,U dx,.plain,#[]]:=I.obj;show qy (qB (qy (qy (wpAny_loadPart hx (qy (Yn (PySem.W.looks_clsIn X hc) ?_))))));rw[þ];show qB (qy (qB (qy ?_)));show wpAny_nsSet1 I.ns λh' hn2 ſ=>?_;let⟨oD,esD,epD,hoD,hdD,hcD⟩:=hn2.count (Yo name v hw);show qy (wpAny_lookBehind hoD (by rw[hdD];show pastItsLine_dict (qO hcD (by rw[qj];ext))) ?_);show qB (h _ #[(ſ.2 _ (dj I.ne)).trans I.obj,hn2,I.ne] ſ)
def Jo{R:l5->aH->Prop}{vs:Z aw}(X:K.In s.heap)(hm:sP K hb=ah)
  (hi:cv K (.ref hb) "__init__"=U (U (.ref f)))(hf:PySem.W.typeIn K (.ref f)=U (.type "function"))
  (h:gF .(z) (A.under (.builtin "type.__call__" #[.ref hb::vs,kw])) (.call (.ref f) #[.ref (s.heap.objs.size+1)::vs,kw]) (PySem.W.InitBack (s.heap.objs.size+1) R)
   {s with heap:=(s.heap.push nE).push (nC hb s.heap.objs.size)}):
  gF .(z) A (.call (.ref hb) #[vs,kw]) R s:=by
 let⟨hh,g,d,t,os⟩:=s;show PySem.W.make_core (PySem.W.makes_of X hm) (PySem.W.looks_findIn X hi) (λself=>PySem.W.bind_fn X self hf) (.inl W) h
end
noncomputable def fD(f:ai)(v:V):Z (ai×V)->Z (ai×V)
 |[]=>[(f,v)]
 |(g,x)::r=>if g=f then (g,v)::r else (g,x)::fD f v r
def Cu(f g:ai)(v:V):∀fs:Z (ai×V),(fD f v fs).lookup g=if g=f then U v else fs.lookup g
 |[]=>by
  show c9 g [(f,v)]=_;by_cases h:g=f
  .let C:(g==f)=ah:=kL.mpr h;simp only[c9,C,qY h]
  .let C:(g==f)=ar:=lS.mpr h;simp only[c9,C,qZ h]
 |(k,x)::r=>by
  let ih:=Cu f g v r;rw[show fD f v ((k,x)::r)=(if k=f then (k,v)::r else (k,x)::fD f v r) from W];by_cases hk:k=f
  .rw[qY hk];by_cases h:g=k
   .let C:(g==k)=ah:=kL.mpr h;simp only[c9,C,qY (h.trans hk)]
   .let C:(g==k)=ar:=lS.mpr h;simp only[c9,C,qZ (λe:g=f=>h (e.trans hk.symm))]
  .rw[qZ hk];by_cases h:g=k
   .let C:(g==k)=ah:=kL.mpr h;simp only[c9,C,qZ (λe:g=f=>hk (h.symm.trans e))]
   .let C:(g==k)=ar:=lS.mpr h;simp only[c9,C];show ih
def yD(f:ai)(v:V):∀fs:Z (ai×V),f∈(fD f v fs).map (·.1)/\∀g,g∈fs.map (·.1)->g∈(fD f v fs).map (·.1)
 |[]=>#[by simp[fD],λg h=>by simp at h]
 |(k,x)::r=>by
  let⟨i1,i2⟩:=yD f v r;rw[show fD f v ((k,x)::r)=(if k=f then (k,v)::r else (k,x)::fD f v r) from W];by_cases hk:k=f
  .rw[qY hk];subst hk;show#[by simp,λg h=>by simpa using h]
  .rw[qZ hk];show#[?_,λg h=>?_]
   .rw[qp];show qi _ i1
   .rw[qp] at h ⊢;rcases cm.mp h with e|e
    .exact cm.mpr (.inl e)
    .exact qi _ (i2 g e)
def GJ(f:ai)(v:V):∀fs:Z (ai×V),(fD f v fs).length<=fs.length+1
 |[]=>by simp[fD]
 |(k,x)::r=>by
  let ih:=GJ f v r;rw[show fD f v ((k,x)::r)=(if k=f then (k,v)::r else (k,x)::fD f v r) from W];by_cases hk:k=f
  .rw[qY hk,qj,qj];ext
  .rw[qZ hk,qj,qj];ext
def eS.some_of{o:au aw}(r:eS (U v) o):∃u,o=U u/\bI v u:=by
 cases o with
 |none=>show(r).elim
 |some u=>show#[u,W,r]
def eS.none_of{o:au aw}(r:eS B o):o=B:=by
 cases o with
 |none=>rfl
 |some u=>show(r).elim
def KO(r:bI v u):V5 u=ah:=by
 cases v with
 |non=>cases(r);rfl
 |bl b=>cases(r);rfl
 |int i=>let⟨t,e⟩:=(r);cases e;rfl
 |str x=>let⟨t,e⟩:=(r);cases e;rfl
 |ref a=>cases(r);rfl
 |ty n=>cases(r);rfl
section
variable{h:Heap}{fs ê:Z (ai×V)}
def uJ(hok:ì P w H h)(e:H a=U (.ins hb dx fs)):∃mA,ų h a dx hb mA/\(∀f,eS (fs.lookup f) (mA f))/\Hq mA (fs.map (·.1))/\fs.length<=1000/\H dx=U (.own a):=by let⟨d,z,ne,ob,mA,n,r,q⟩:=(hok a _ e);show#[mA,#[ob,n,ne],r,q,z,d]
end
structure Μ(K:aT)(hb:av):Prop where
 pg:pq K hb jV=ah
 hd:sO K hb=ah
 po:ww K hb=ah
 sa:cv K (.ref hb) "__setattr__"=U (U (.builtin "object.__setattr__"))
def Μ.get(c:Μ K hb)(f:ai):pq K hb f=ah:=c.pg
def lQ(K:aT)(hb:av)(f:ai):Prop:=cv K (.ref hb) f=U B
def lQ.taker{K:aT}{hb:av}{f:ai}(n:lQ K hb f):Hy K hb f=U B:=by unfold Hy;rw[show cv K (.ref hb) f=U B from n];rfl
structure Meth(K:aT)(hb:av)(m:ai)(f:av):Prop where
 at_:cv K (.ref hb) m=U (U (.ref f))
 fn:pr K (.ref f)=ah
 kp:fS K (.ref f)=ah
variable{m:ai}{env:cA}
section
variable{fs:Z (ai×V)}{f:ai}
def NZ{b:aJ}(I:YS X Z' L H s)(e:H a=U (.ins hb dx fs))(c:Μ X.K hb)(n:lQ X.K hb f)(l:fs.lookup f=U v)
  (h:∀u s',YS X Z' L H s'->bI v u->Q u s'):aL .(t) A (getAttr (.ref a) f b) Q us s:=by
 let⟨mA,Γ,r,_,_,_⟩:=uJ I.hok e;let⟨u,hu,ru⟩:=eS.some_of (by rw[<-l];show r f);show VN I.kIn Γ (c.get f) c.hd n hu (KO ru) (h u _ (I.tok _) ru)
def Ee{g:av}{Q:aw×Z aw->aH->Prop}(I:YS X Z' L H s)(e:H a=U (.ins hb dx fs))(c:Μ X.K hb)(k:Meth X.K hb m g)(l:fs.lookup m=B)
  (h:Q (.ref g,[.ref a]) s):aL .(t) A (pw (.ref a) m pl) Q us s:=by
 let⟨mA,Γ,r,_,_,_⟩:=uJ I.hok e;let hn:mA m=B:=eS.none_of (by rw[<-l];show r m);show TC I.kIn Γ (c.get m) k.at_ k.fn hn h
def Og{Q:lY->aH->Prop}(I:YS X Z' L H s)(e:H a=U (.ins hb dx fs))(c:Μ X.K hb)(n:lQ X.K hb f)(hl:fs.length<1000)(ry:bI y u)
  (h:∀s',YS X Z' L (YZ H a (.ins hb dx (fD f y fs))) s'->Q () s'):aL .(t) A (setAttr (.ref a) f u) Q us s:=by
 let⟨mA,Γ,r,wi,_,ho⟩:=uJ I.hok e;let hz:(fs.map (·.1)).length<=aK:=by rw[qg,eW];ext
 show Lz I.kIn Γ c.sa c.po n.taker c.hd wi hz λh' O' sb=>h _ ?_;let hd:∃o,h'.get? dx=U o:=let #[o,_,_,e',_]:=O'.ns;#[o,e']
 show I.write (by rw[e];show jW) (.inr ho) (λb q C z=>(sb.2 b C).trans z) hd ?_;show#[by rw[aE Γ.ne];show ho,?_,Γ.ne,O'.obj,_,O'.ns,λg=>?_,λg hg=>?_]
 .let:=GJ f y fs;ext
 .show eS ((fD f y fs).lookup g) (if g=f then U u else mA g);rw[Cu];by_cases q:g=f
  .rw[qY q,qY q];show ry
  .rw[qZ q,qZ q];show r g
 .by_cases q:g=f
  .rw[q];show(yD f y fs).1
  .refine(yD f y fs).2 g (wi g λz=>hg ?_);show(if g=f then U u else mA g)=B;rw[qZ q];show z
def YS.made(I:YS X Z' L H s):YS X Z' L (YZ (YZ H s.heap.objs.size (.own (s.heap.objs.size+1))) (s.heap.objs.size+1) (.ins hb s.heap.objs.size []))
  {s with heap:=(s.heap.push nE).push (nC hb s.heap.objs.size)}:=by
 let e1:(s.heap.push nE).get? s.heap.objs.size=U nE:=qH s.heap W;let e2:((s.heap.push nE).push (nC hb s.heap.objs.size)).get? (s.heap.objs.size+1)=U (nC hb s.heap.objs.size):=by
  let:=qH (s.heap.push nE) (o:=nC hb s.heap.objs.size) W
  rwa [l7] at this
 let e3:(s.heap.push nE).Ns s.heap.objs.size (λ_=>B):=#[nE,#[],_,e1,W,(λe he=>bH he (by simp)),λ_=>rfl];let I1:=I.laid (o:=.own (s.heap.objs.size+1)) (t':=s.toks) (λb u q=>qv _ q) (qx _) #[_,e1];show I1.laid (λb u q=>qv _ q) (AI (l7 _ _)) ?_;let ne:s.heap.objs.size≠s.heap.objs.size+1:=qD (sQ _);show#[by rw[aE ne,bf],fy _,ne,e2,λ_=>B,(Heap.Ns1.of_empty e3).at λo q=>qv _ q,λ_=>jW,λy hy=>bH W hy]
def JY(C:jt e f env (eval e env)=eval e env)
  (h:aL .(z) A (eval e env) (λo Z7=>aL .(z) A (getAttr o f ah) Q us Z7) us s):aL .(z) A (eval (.Attribute e f pos) env) Q us s:=
 Attribute_any_ h (by rw[arm_eval_Attribute,C])
end
def Oa(K:aT)(ta:TE)(f:ai):TE:=λL H Q=>ta L H λx H1=>∃a hb dx fs v,x=.ref a/\H1 a=U (.ins hb dx fs)/\Μ K hb/\lQ K hb f/\fs.lookup f=U v/\Q v H1
def OH(K:aT)(ta tv:TE)(f:ai):TS:=λD L H=>tv L H λy H1=>ta L H1 λx H2=>∃a hb dx fs,x=.ref a/\H2 a=U (.ins hb dx fs)/\Μ K hb/\lQ K hb f/\fs.length<1000 /\
 D.nx L (YZ H2 a (.ins hb dx (fD f y fs)))
variable{Zh:Expr}{tpos:dn}{tv:TE}
section
variable{o:Expr}{f:ai}
def ux(he:PE X e ta)(C:jt e f X.env (eval e X.env)=eval e X.env):PE X (.Attribute e f pos) (Oa X.K ta f):=by intro Z' s L H Q I h;show JY C (Zf (he Z' s L H _ I h) λu s1 #[x,H1,I1,rx,a,hb,dx,fs,v,ex,ea,c,n,l,q]=>?_);subst ex;obtain rfl:u=cU a:=rx;show NZ I1 ea c n l λu' s2 I2 ru=>#[v,H1,I2,ru,q]
def sg(ha:PE X o ta)(hv:PE X Zh tv)(hs:dq Zh (U (.Attribute o f Zk)) pos.line X.env=bd ar):PS X (.Assign [.Attribute o f Zk] Zh pos) (OH X.K ta tv f):=by intro Z' s L H D I h;show plainObj_wpAny_Assign_Attribute (Zf (hv Z' s L H _ I h) λu s1 #[y,H1,I1,ry,q]=>Zf (ha Z' s1 L H1 _ I1 q) λov s2 #[x,H2,I2,rx,a,hb,dx,fs,ex,ea,c,n,l,q2]=>?_) hs;subst ex;obtain rfl:ov=cU a:=rx;show Og I2 ea c n l ry λs3 I3=>#[L,_,I3,q2]
end
section
variable{c:aw}{b:aJ}
inductive ö(K:aT)(H:Hp):V->aw->Prop where
 |non:ö K H .non (.type "NoneType")
 |bl (x:aJ):ö K H (.bl x) (.type "bool")
 |int (i:aj):ö K H (.int i) (.type "int")
 |str (x:ai):ö K H (.str x) (.type "str")
 |lst {a:av} {xs:Z V} (e:H a=U (.lst xs)):ö K H (.ref a) (.type "list")
 |frz {a:av} {o:Obj} {xs:Z V} (e:H a=U (.frz o (.lst xs))):ö K H (.ref a) (.type "list")
 |tup {a:av} {xs:Z V} (e:H a=U (.tup xs)):ö K H (.ref a) (.type "tuple")
 |dK {a:av} {YL:Z (YQ×V)} (e:H a=U (.dK YL)):ö K H (.ref a) (.type "dict")
 |dT {a:av} {YL:Z (Z YQ×V)} (e:H a=U (.dT YL)):ö K H (.ref a) (.type "dict")
 |ins {a hb dx:av} {fs:Z (ai×V)} (e:H a=U (.ins hb dx fs)) (cl:Μ K hb) (ha:cv K (.ref hb) "__class__"=U (U (.builtin "object.__class__")))
   (hn:PySem.W.specialIn K (.builtin "object.__class__") "__get__"=U (U (.builtin "getset_descriptor.__get__"))) (Ŏ:PySem.W.takesIn K (.builtin "object.__class__")=U ah)
   (hm:PySem.W.mroIn K hb (.type "object")=U ah):ö K H (.ref a) (.ref hb)
def QT{x:V}{t:aw}(I:YS X Z' L H s)(rx:bI x u)(ty:ö X.K H x t)(e:V6 X.K t c=U b)(h:∀tk,Q (.bool b) {s with toks:=tk}):
  aL .(t) A (call (.builtin "isinstance") [u,c]) Q us s:=by
 cases ty with
 |non=>cases(rx);show kM PySem.W.kitx_none I.kIn jW e (λz=>nomatch z) h
 |bl y=>cases(rx);show kM PySem.W.kitx_bool I.kIn jW e (λz=>nomatch z) h
 |int i=>let⟨t,q⟩:=(rx);cases q;show kM PySem.W.kitx_int I.kIn jW e (λz=>nomatch z) h
 |str y=>let⟨t,q⟩:=(rx);cases q;show kM PySem.W.kitx_str I.kIn jW e (λz=>nomatch z) h
 | @lst a xs ea=>
  cases(rx);let⟨_,_,n,_,h1⟩:=(I.hok a _ ea);show kM V7 I.kIn #[_,h1,W] e (λz=>nomatch z) h
 | @frz a ob xs ea=>
  cases(rx);let⟨_,_,_,n,_,h1⟩:=(I.hok a _ ea);show kM V7 I.kIn #[_,h1,W] e (λz=>nomatch z) h
 | @tup a xs ea=>
  cases(rx);let⟨_,_,_,p⟩:=(I.hok a _ ea);let⟨o,h1,h2,_⟩:=p;show kM PySem.W.kitx_tuple I.kIn #[o,h1,h2] e (λz=>nomatch z) h
 | @dK a YL ea=>
  cases(rx);let⟨_,_,vs,_,p⟩:=(I.hok a _ ea);let⟨o,es,ep,h1,h2,_⟩:=p;show kM V8 I.kIn #[o,h1,h2.1] e (λz=>nomatch z) h
 | @dT a YL ea=>
  cases(rx);let⟨_,_,xs,_,o,es,ep,h1,h2,_⟩:=(I.hok a _ ea);show kM V8 I.kIn #[o,h1,h2.1] e (λz=>nomatch z) h
 | @ins a hb dx fs ea cl ha hn Ŏ hm=>
  cases(rx);let⟨mA,Γ,_⟩:=uJ I.hok ea;let⟨od,ao,_⟩:=Γ.look;show kM (PySem.W.kitx_own (cl.get _) cl.hd ha hn Ŏ hm) I.kIn ao e (λz=>nomatch z) h
end
structure ZH(k:ag)(A:cH):Prop where
 hd:A.handled=B
 dp:A.depth+3*k+5<recursionLimit
 un:A.units+16*k+200<ck
def ZH.mono{k:ag}(r:ZH k A)(h:j<=k):ZH j A:=#[r.hd,by let:=r.dp;ext,by let:=r.un;ext]
def ZH.deeper{k:ag}(r:ZH (k+1) A)(env:cA):ZH k (A.deeper env):=
 #[r.hd,by let:=r.dp;show A.depth+1+3*k+5 < _;ext,by let:=r.un;show A.units+3+16*k+200 < _;ext]
def L6{E:Z aw}:(A.under (.builtin "type.__call__" #[.ref hb::E,kw])).depth=A.depth+1:=by
 first|rfl|simp[Hz,Code.weight,Code.isCreation,Code.isGuard,Code.isCaller,V9,HA,guardIds]
def M6{E:Z aw}:(A.under (.builtin "type.__call__" #[.ref hb::E,kw])).units=A.units+1:=by
 first|rfl|simp[Hz,Code.cUnits,V9,HA]
def ZH.make{k:ag}(r:ZH (k+1) A)(hb:av)(E:Z aw)(kw:Z (ai×aw)):ZH k (A.under (.builtin "type.__call__" #[.ref hb::E,kw])):=
 #[r.hd,by let:=r.dp;rw[L6];ext,by let:=r.un;rw[M6];ext]
def ZH.depth{k:ag}(r:ZH k A):A.depth<recursionLimit:=by let:=r.dp;ext
noncomputable def GQ:TA:=λ_ H Q=>Q [] H
noncomputable def MH(ta:TE)(tr:TA):TA:=λL H Q=>ta L H λx H1=>tr L H1 λxs H2=>Q (x::xs) H2
section
variable{t:TA}
def jJ:PA X [] GQ:=λ_ _ _ _ H Q I h=>AJ #[[],H,I,.nil,h]
def jh(ha:PE X e te)(hr:PA X es t)(hs:aP (e::es) X.env=(ar,eval e X.env)::aP es X.env:=by rfl):PA X (e::es) (MH te t):=by intro pos Z' s L H Q I h;rw[hs];show wx (Zf (ha Z' s L H _ I h) λu s1 #[x,H1,I1,r1,q1]=>?_);show Zf (hr pos Z' s1 L H1 _ I1 q1) λE s2 #[xs,H2,I2,r2,q2]=>#[x::xs,H2,I2,.cons r1 r2,q2]
def Uf(t:TA):TE:=λL H Q=>t L H λxs H1=>xs.length<=aK/\∀p,H1 p=B->Q (.ref p) (YZ H1 p (.tup xs))
def LK(t:TA):TE:=λL H Q=>t L H λxs H1=>xs.length<=aK/\∀p,H1 p=B->Q (.ref p) (YZ H1 p (.lst xs))
def N0{x1}(h:PA X es t):PE X (.Tuple es x1 pos) (Uf t):=by intro Z' s L H Q I hq;show wpAny_Tuple_spliced (Zf (h pos Z' s L H _ I hq) λE s1 #[xs,H1,I1,r,z,q]=>#[by rw[<-r.length];show z,?_]);let hf:H1 s1.heap.objs.size=B:=I1.hok.fresh (qx _);show#[.ref s1.heap.objs.size,YZ H1 s1.heap.objs.size (.tup xs),I1.laid (λb u e=>qv _ e) (qx _) ?_,W,q _ hf];show#[z,E,r,#[_,qH _ W,W,_,W]]
def Pb(h:PA X es t):PE X (.List es pos) (LK t):=by intro Z' s L H Q I hq;show wpAny_List_spliced (Zf (h pos Z' s L H _ I hq) λE s1 #[xs,H1,I1,r,z,q]=>#[by rw[<-r.length];show z,?_]);let hf:H1 s1.heap.objs.size=B:=I1.hok.fresh (qx _);show#[.ref s1.heap.objs.size,YZ H1 s1.heap.objs.size (.lst xs),I1.laid (λb u e=>qv _ e) (qx _) ?_,W,q _ hf];show#[z,E,0,r,qH _ W]
end
abbrev Sp:=Z V->Hp->VK->XK->Prop
abbrev CXT:=Z cA->Hp->aH->XK->aw->aH->Prop
structure Ŷ(P:dD)(w:cD)(K:aT)(mg:ai->au aw)(base:Heap)(A:cH)(outer:Z cA)(s:aH)(H:Hp):Prop where
 frames:A.frames=U outer
 mod:Mod K mg base
 bs:∀b o,base.get? b=U o->s.heap.get? b=U o/\H b=B
 bsz:base.objs.size<=s.heap.objs.size
 funs:s.heap.FunFrames base outer
 frf:∀b∈ω outer,H b=B
 hok:ì P w H s.heap
 bare:lX s.gens
def CE(outer:Z cA)(P:dD)(w:cD)(H:Hp)(s:aH)(Q:VK)(u:aw)(s':aH):Prop:=
 ∃v H',s'.os=s.os/\lX s'.gens/\Un (ω outer) [] H H' s.heap s'.heap/\ì P w H' s'.heap/\bI v u/\Q v H'
def CR(CX:CXT)(outer:Z cA)(P:dD)(w:cD)(H:Hp)(s:aH)(Q:VK)(us:XK)(r:l5)(s':aH):Prop:=
 match r with
 |.ok (.ret u)=>CE outer P w H s Q u s'
 |.ok _=>False
 |.error e=>CX outer H s us e s'
structure Zt(P:dD)(w:cD)(K:aT)(mg:ai->au aw)(base:Heap)(CX:CXT)(k:ag)(f:av)(fd:kN)(ps:Z ai)(sp:Sp):Prop where
 len:∀vs H Q us,sp vs H Q us->vs.length=ps.length
 run:∀(A:cH)(outer:Z cA)(s:aH)(H:Hp)(args:Args)(E:Z aw)(vs:Z V)(Q:VK)(us:XK),ZH k A->Ŷ P w K mg base A outer s H->px s fd args (ps.zip E)->bj vs E->sp vs H Q us->
  gF (aM P w) A (.call (.ref f) args) (CR CX outer P w H s Q us) s
variable{mg:ai->au aw}{base:Heap}{CX:CXT}{fd:kN}{ps:Z ai}{sp:Sp}
def Zt.imp{k:ag}{f:av}{sp':Sp}(F:Zt P w K mg base CX k f fd ps sp)
  (h:∀vs H Q us,sp' vs H Q us->sp vs H Q us):Zt P w K mg base CX k f fd ps sp':=
 #[λvs H Q us q=>F.len vs H Q us (h _ _ _ _ q),λA outer s H args E vs Q us hr he C hv hs=>F.run A outer s H args E vs Q us hr he C hv (h _ _ _ _ hs)]
variable{outer:Z cA}
def Ŷ.make(e:Ŷ P w K mg base A outer s H)(hb:av)(E:Z aw)(kw:Z (ai×aw)):
  Ŷ P w K mg base (A.under (.builtin "type.__call__" #[.ref hb::E,kw])) outer s H:=#[by first|show e.frames|(simpa[Hz,Code.envs,HA,pushEnvs] using e.frames),e.mod,e.bs,e.bsz,e.funs,e.frf,e.hok,e.bare]
def YS.env0(I:YS X Z' L H s):Ŷ X.prog X.w X.K X.mg X.base X.A X.stack s H:=
 #[I.ok.frames,I.ok.mod,I.bs,qO I.ok.bsz I.sz,I.stack,I.stkFree,I.hok,I.bare]
def YS.after{Q:VK}(I:YS X Z' L H s)(h:CE X.stack X.prog X.w H s Q u s'):EP X Z' L Q u s':=by let⟨v,H',os,bare,un,hok,r,q⟩:=h;let⟨hh,g,d,t,os'⟩:=s';obtain rfl:os'=s.os:=os;show#[v,H',I.call un hok bare (λb z=>bH z (by simp)),r,q]
noncomputable def RL(sp:Sp)(Zr:Z V)(us:XK)(t:TA):TE:=λL H Q=>t L H λvs H1=>sp (vs++Zr) H1 Q us
noncomputable def GS(hb:av)(m:ai)(sp:Sp)(Zr:Z V)(us:XK)(ta:TE)(t:TA):TE:=λL H Q=>ta L H λx H1=>∃a dx fs,x=.ref a/\H1 a=U (.ins hb dx fs)/\fs.lookup m=B /\
 t L H1 λvs H2=>sp (x::(vs++Zr)) H2 Q us
def PQ(hb:av)(sp:Sp)(Zr:Z V)(us:XK)(t:TA):TE:=λL H Q=>t L H λvs H1=>∀x dx,H1 x=B->H1 dx=B->dx≠x->
 sp (.ref x::(vs++Zr)) (YZ (YZ H1 dx (.own x)) x (.ins hb dx [])) (λv H2=>v=.non/\Q (.ref x) H2) us
def ff(K:aT)(fd:kN)(ps:Z ai)(ds:Z aw):Prop:=
 ∀(s:aH)(E:Z aw),K.In s.heap->(E++ds).length=ps.length->px s fd #[E,[]] (ps.zip (E++ds))
def ff.all(h:∀E:Z aw,E.length=ps.length->eN fd #[E,[]]=bd (ps.zip E)):ff K fd ps []:=λs E _ hl=>by rw[iS] at hl ⊢;show .of_eq (h E hl)
def mU(CX:CXT)(X:Cx)(us:XK):Prop:=∀(Z':Z (av×Obj))(L:St)(H:Hp)(s:aH)(e:aw)(s':aH),YS X Z' L H s->CX X.stack H s us e s'->X.xe e s'
variable{Zr vs:Z V}{Zj:dn}
section
variable{k:ag}{f:av}{ds:Z aw}{us:XK}{o:Expr}{t:TA}
def yq{Q:VK}{E:Z aw}(F:Zt X.prog X.w X.K X.mg X.base CX k f fd ps sp)(hr:ZH k X.A)(C:ff X.K fd ps ds)(hd:bj Zr ds)(hx:mU CX X us)
  (I:YS X Z' L H s)(r:bj vs E)(h:sp (vs++Zr) H Q us):aL .(t) X.A (call (.ref f) E) (EP X Z' L Q) X.xe s:=by
 let r2:bj (vs++Zr) (E++ds):=r.append hd;let hl:(E++ds).length=ps.length:=by rw[<-r2.length];show F.len _ _ _ _ h
 show AK (pz (F.run X.A X.stack s H #[E,[]] (E++ds) (vs++Zr) Q us hr I.env0 (C s E I.kIn hl) r2 h) λr s' hq=>?_);cases r with
 |error e=>show hx Z' L H s e s' I hq
 |ok fl=>
  cases fl with
  |ret u=>show I.after hq
  |next=>show iR hq
  |brk=>show iR hq
  |cont=>show iR hq
def As(F:Zt X.prog X.w X.K X.mg X.base CX k f fd ps sp)(hr:ZH k X.A)(hg:Gl X x)(hm:X.mg x=U (.ref f))(hk:fS X.K (.ref f)=ah)(C:ff X.K fd ps ds)(hd:bj Zr ds)(hx:mU CX X us)
  (ha:PA X (e::es) t)(õ:.(r)=ar:=by decide)(he:aP (e::es) X.env=(ar,eval e X.env)::aP es X.env:=by rfl)(Zo:(ci pos (aP es X.env)).any (·.1)=ar:=by rfl):
  PE X (.Call (.Name x p) (e::es) [] pos) (RL sp Zr us t):=by
 intro Z' s L H Q I h;show wy (x9 I hg hm ?_ õ);show HB I.ok.mod.kin hk (Zf (ha pos Z' s L H _ I h) λE s1 #[vs,H1,I1,r,q]=>#[I1.kIn,?_]) he Zo;show yq F hr C hd hx I1 r q
def Fk(he:PE X o ta)(c:Μ X.K hb)(hm:Meth X.K hb m f)(F:Zt X.prog X.w X.K X.mg X.base CX k f fd ps sp)(hr:ZH k X.A)(C:ff X.K fd ps ds)(hd:bj Zr ds)(hx:mU CX X us)(ha:PA X (e::es) t)
  (ý:aP (e::es) X.env=(ar,eval e X.env)::aP es X.env:=by rfl)(Zo:(ci pos (aP es X.env)).any (·.1)=ar:=by rfl)
  (ht:eval (.Call (.Attribute o m Zj) (e::es) [] pos) X.env=(do
   let ov ←eval o X.env
   pj Zj.atName
   let (f,first) ←lZ [ov] (pw ov m pl)
   wz pos f first (ci pos (aP (e::es) X.env)) (jX pos (jY [] X.env))):=by rfl):
  PE X (.Call (.Attribute o m Zj) (e::es) [] pos) (GS hb m sp Zr us ta t):=by
 intro Z' s L H Q I h;show V' (Zf (he Z' s L H _ I h) λu s1 #[x,H1,I1,rx,a,dx,fs,ex,ea,l,q]=>?_) ht;subst ex;obtain rfl:u=cU a:=rx;show Ee I1 ea c hm l ?_;show HB I.ok.mod.kin hm.kp (Zf (ha pos Z' s1 L H1 _ I1 q) λE s2 #[vs,H2,I2,r,q2]=>#[I2.kIn,?_]) ý Zo;show yq (vs:=.ref a::vs) F hr C hd hx I2 (.cons W r) q2
def Pj(he:PE X o ta)(c:Μ X.K hb)(hm:Meth X.K hb m f)(F:Zt X.prog X.w X.K X.mg X.base CX k f fd ps sp)(hr:ZH k X.A)(C:ff X.K fd ps ds)(hd:bj Zr ds)(hx:mU CX X us)
  (ht:eval (.Call (.Attribute o m Zj) [] [] pos) X.env=(do
   let ov ←eval o X.env
   pj Zj.atName
   let (f,first) ←lZ [ov] (pw ov m pl)
   wz pos f first (ci pos (aP [] X.env)) (jX pos (jY [] X.env))):=by rfl):
  PE X (.Call (.Attribute o m Zj) [] [] pos) (GS hb m sp Zr us ta GQ):=by
 intro Z' s L H Q I h;show V' (Zf (he Z' s L H _ I h) λu s1 #[x,H1,I1,rx,a,dx,fs,ex,ea,l,q]=>?_) ht;subst ex;obtain rfl:u=cU a:=rx;show Ee I1 ea c hm l ?_;show PySem.W.callWith_K0 I1.kIn hm.kp (yq (vs:=[.ref a]) F hr C hd hx I1 (.cons W .nil) q)
structure Mk(K:aT)(hb f:av):Prop where
 makes:sP K hb=ah
 init:cv K (.ref hb) "__init__"=U (U (.ref f))
 fn:pr K (.ref f)=ah
 kp:fS K (.ref hb)=ah
def Vt{Q:VK}{E:Z aw}(YK:Mk X.K hb f)(F:Zt X.prog X.w X.K X.mg X.base CX k f fd ps sp)(hr:ZH (k+1) X.A)(C:ff X.K fd ps ds)(hd:bj Zr ds)
  (hx:mU CX X us)(I:YS X Z' L H s)(r:bj vs E)
  (h:∀x dx,H x=B->H dx=B->dx≠x->sp (.ref x::(vs++Zr)) (YZ (YZ H dx (.own x)) x (.ins hb dx [])) (λv H2=>v=.non/\Q (.ref x) H2) us):
  aL .(t) X.A (call (.ref hb) E) (EP X Z' L Q) X.xe s:=by
 let hq:=h (s.heap.objs.size+1) s.heap.objs.size (I.hok.fresh (kO _)) (I.hok.fresh (qx _)) (qD (sQ _));let I2:=YS.made (hb:=hb) I;let r2:bj (V.ref (s.heap.objs.size+1)::(vs++Zr)) (cU (s.heap.objs.size+1)::(E++ds)):=.cons W (r.append hd);let hl:(cU (s.heap.objs.size+1)::E++ds).length=ps.length:=by let e:=r2.length;rw[F.len _ _ _ _ hq] at e;show e.symm
 show AK (Jo I.kIn YK.makes YK.init (kL.mp YK.fn) (pz (F.run _ X.stack _ _ #[cU (s.heap.objs.size+1)::E,[]] (cU (s.heap.objs.size+1)::(E++ds)) _ _ us (hr.make hb E [])
  (I2.env0.make hb E []) (C _ (cU (s.heap.objs.size+1)::E) I2.kIn hl) r2 hq) λr s' hq'=>?_))
 cases r with
 |error e=>show hx Z' L _ _ e s' I2 hq'
 |ok fl=>
  cases fl with
  |ret u=>
   let⟨v,H',I3,rv,ev,q3⟩:=I2.after hq';subst ev;show#[rv,#[V.ref (s.heap.objs.size+1),H',I3,W,q3]]
  |next=>show iR hq'
  |brk=>show iR hq'
  |cont=>show iR hq'
def yN(YK:Mk X.K hb f)(F:Zt X.prog X.w X.K X.mg X.base CX k f fd ps sp)(hr:ZH (k+1) X.A)(hg:Gl X x)(hm:X.mg x=U (.ref hb))(C:ff X.K fd ps ds)(hd:bj Zr ds)(hx:mU CX X us)
  (ha:PA X (e::es) t)(õ:.(r)=ar:=by decide)(he:aP (e::es) X.env=(ar,eval e X.env)::aP es X.env:=by rfl)(Zo:(ci pos (aP es X.env)).any (·.1)=ar:=by rfl):
  PE X (.Call (.Name x p) (e::es) [] pos) (PQ hb sp Zr us t):=by
 intro Z' s L H Q I h;show wy (x9 I hg hm ?_ õ);show HB I.ok.mod.kin YK.kp (Zf (ha pos Z' s L H _ I h) λE s1 #[vs,H1,I1,r,q]=>#[I1.kIn,?_]) he Zo;show Vt YK F hr C hd hx I1 r q
end
section
variable{k:ag}{f:av}{ks:Z ai}{us:XK}{kpos:dn}{o:Expr}{kws:Z iT}{t tk:TA}{nm:au ai}
structure KBinds(K:aT)(fd:kN)(ps ks:Z ai)(g:Z aw->Z aw->Z aw)(gV:Z V->Z V->Z V):Prop where
 to:∀(s:aH)(E ws:Z aw),K.In s.heap->(g E ws).length=ps.length->px s fd #[E,ks.zip ws] (ps.zip (g E ws))
 rel:∀{vs:Z V}{E:Z aw}{zs:Z V}{ws:Z aw},bj vs E->bj zs ws->bj (gV vs zs) (g E ws)
variable{g:Z aw->Z aw->Z aw}{gV:Z V->Z V->Z V}
end
structure ZC(N P:Z ai)(sc:Scope):Prop where
 kind:sc.kind=.function
 co:sc.isCoroutine=ar
 gen:sc.isGenerator=ar
 nd:N.Nodup
 pre:N.take P.length=P
 par:∀x∈P,sc.names.lookup x=U .local\/sc.names.lookup x=U .cell
 nofree:∀y∈sc.names,y.2≠.free
def CD{kindOf:ai->au ir}{x:ai}:∀{binds:Z (ai×aw)}{m:ai->au aw},(∀v,(x,v)∉binds)->pA kindOf binds m x=m x
 |[],_,_=>rfl
 |(n,v)::r,m,h=>by
  unfold pA;rw[CD λw hw=>h w (qi _ hw)];split
  .let:x≠n:=by rintro rfl;show h v qh
   simp[this]
  .rfl
def Gu{kindOf:ai->au ir}{x:ai}:∀{binds:Z (ai×aw)}{m:ai->au aw},(∀v,(x,v)∉binds)->pB kindOf binds m x=m x
 |[],_,_=>rfl
 |(n,v)::r,m,h=>by
  unfold pB;rw[Gu λw hw=>h w (qi _ hw)];split
  .rfl
  .let:x≠n:=by rintro rfl;show h v qh
   simp[this]
def EX{kindOf:ai->au ir}{x:ai}{v:aw}:∀{P:Z ai}{vs:Z aw}{i:ag}{m:ai->au aw},P.Nodup->P[i]?=U x->vs[i]?=U v->kindOf x=U .local->
  pA kindOf (P.zip vs) m x=U v
 |[],_,_,_,_,h,_,_=>by simp at h
 |_::_,[],_,_,_,_,h,_=>by simp at h
 |p::P,w::vs,0,m,nd,h1,h2,hk=>by
  simp at h1 h2;subst h1;subst h2;show pA kindOf ((p,w)::P.zip vs) m p=_;unfold pA;rw[CD λv hv=>(eG.mp nd).1 (HC hv).1,qY hk];simp
 |p::P,w::vs,i+1,m,nd,h1,h2,hk=>by unfold pA;show EX (eG.mp nd).2 (by simpa using h1) (by simpa using h2) hk
def Ce{kindOf:ai->au ir}{x:ai}{v:aw}:∀{P:Z ai}{vs:Z aw}{i:ag}{m:ai->au aw},P.Nodup->P[i]?=U x->vs[i]?=U v->kindOf x≠U .local->
  pB kindOf (P.zip vs) m x=U v
 |[],_,_,_,_,h,_,_=>by simp at h
 |_::_,[],_,_,_,_,h,_=>by simp at h
 |p::P,w::vs,0,m,nd,h1,h2,hk=>by
  simp at h1 h2;subst h1;subst h2;show pB kindOf ((p,w)::P.zip vs) m p=_;unfold pB;rw[Gu λv hv=>(eG.mp nd).1 (HC hv).1,qZ hk];simp
 |p::P,w::vs,i+1,m,nd,h1,h2,hk=>by unfold pB;show Ce (eG.mp nd).2 (by simpa using h1) (by simpa using h2) hk
noncomputable def dX(N:Z ai)(vs:Z V):St:=vs.map U++bU (N.length-vs.length) B
noncomputable def dy(CX:CXT)(P:dD)(w:cD)(K:aT)(mg:ai->au aw)(base:Heap)(N:Z ai)(qual:ai)(scope:Scope)(f:av)(cd:aw)(A:cH)(outer:Z cA)(s:aH)(H:Hp)(us:XK):Cx where
 prog:=P
 w:=w
 K:=K
 mg:=mg
 base:=base
 A:=A.deeper (dc qual scope s.heap.objs.size f cd)
 N:=N
 Z6:=s
 Z9:=H
 env:=dc qual scope s.heap.objs.size f cd
 outer:=outer
 stack:=dc qual scope s.heap.objs.size f cd::outer
 ex:=[]
 calm:=ah
 fn:=λ_=>ah
 pn:=[]
 xe:=λe s'=>aL (aM P w) (A.deeper (dc qual scope s.heap.objs.size f cd)) (leaving (dc qual scope s.heap.objs.size f cd) e) (λ_ s''=>CX outer H s us e s'') (λe' s''=>CX outer H s us e' s'') s'
variable{sc:Scope}
def GG(h:sc.names.lookup x=U .cell):∃c,(HD n sc.names []).lookup x=U c:=by let q:=Wa sc.names n [] (.inl h);show sR.mp q
variable{qual:ai}{scope:Scope}{cd:aw}
def N6{f:av}{s1:aH}{us:XK}{E:Z aw} 
  (S:ZC N ps scope)(hd:A.handled=B)(e0:Ŷ P w K mg base A outer s H)(hl:vs.length=ps.length)(r:bj vs E)
  (x:InCallC s s.heap.objs.size (pA (dc qual scope s.heap.objs.size f cd).kindOf (ps.zip E) λ_=>B) (HD (s.heap.objs.size+1) scope.names []) (pB (dc qual scope s.heap.objs.size f cd).kindOf (ps.zip E) λ_=>B) s1):
  YS (dy CX P w K mg base N qual scope f cd A outer s H us) [] (dX N vs) H s1:=by
 let Zo:ps.length<=N.length:=by let:=bP cM S.pre;rw[qF] at this;ext
 let⟨h1,tk,rfl,hk⟩:=x.done;let noA:∀b:av,b∉(dy CX P w K mg base N qual scope f cd A outer s H us).ex:=λb z=>bH (show b∈([]:Z av) from z) (by simp);show#[#[e0.mod,S.kind,W,W,qx _,λy z c h1 h2=>?_,λy hy=>?_,λy c _ h=>?_,λ_=>hd,Around.frames_deeper e0.frames,.inr #[W,W],λb z=>bH z (noA b),e0.bs,e0.bsz,λb _ _=>noA b,λb z=>bH z (noA b),e0.funs,e0.frf],
  rfl,e0.bare,Un.kept hk,#[_,x.toInCall.ns,λi y v h1 h2 h3=>?_],λy c h=>#[_,x.cell y c h],e0.hok.fresh (qx _),λy c h=>?_,λp hp=>bH (show p∈([]:Z (av×Obj)) from hp) (by simp),e0.hok.kept hk,?_]
 .exact name_of_addr x.apart (nF h1) (nF h2)
 .let hy:scope.names.lookup y=U .cell\/scope.names.lookup y=U .free:=hy;rcases hy with hy|hy
  .exact GG hy
  .exact bH W (S.nofree _ (nF hy))
 .exact sK (x.above y c (nF h))
 .let hi:i<vs.length:=by
   unfold dX at h2;by_cases hi:i<vs.length
   .exact hi
   .rw[qM (by simpa using hi)] at h2;rw[wA] at h2;split at h2<;>cases h2
  let ha:vs[i]?=U v:=by
   unfold dX at h2;rw[qA (by simpa using hi),qm] at h2;cases e:vs[i]? with
   |none=>rw[e] at h2;cases h2
   |some a=>rw[e] at h2;cases h2;rfl
  let⟨u,hu,rv⟩:=r.get ha;let hp:ps[i]?=U y:=by rw[<-S.pre,AL .(c)];show h1
  let ndP:ps.Nodup:=by rw[<-S.pre];show S.nd.sublist (nG _ _)
  show#[u,rv,?_];rcases S.par y (qR hp) with k|k
  .exact .inl #[k,EX ndP hp hu k]
  .obtain⟨c,e⟩:=GG k;show .inr #[.inl k,c,e,?_];let q:=x.cell y c e;rw[Ce ndP hp hu (by show scope.names.lookup y≠_;rw[k];decide)] at q;show q
 .exact e0.hok.fresh (sK (x.above y c (nF h)))
 .unfold dX;show _=N.length;rw[ql,qg,List.length_replicate];ext
variable{Zp pm Y0 ct oc:aw}{an od:au av}{ŕ:bK (au aw)}
def El{k:ag}{f:av}{params:Arguments}{body:Z Stmt}{dV kV:aw} 
  (lk:K.lookup f=U #[oc,od,.func (cZ name qual params body scope dV kV Zp pm an Y0 ct),ŕ])(À:nI K Y0 qual=ah)(S:ZC N ps scope)
  (len:∀vs H Q us,sp vs H Q us->vs.length=ps.length)
  (Y6:∀(A:cH)(outer:Z cA)(s:aH)(H:Hp)(vs:Z V)(Q:VK)(us:XK),ZH k (A.deeper (dc qual scope s.heap.objs.size f Y0))->sp vs H Q us->
   ∃t,Ś (dy CX P w K mg base N qual scope f Y0 A outer s H us) body t/\t {nx:=λ_ H'=>Q .non H',rt:=Q} (dX N vs) H):
  Zt P w K mg base CX (k+1) f (cZ name qual params body scope dV kV Zp pm an Y0 ct) ps sp:=by
 show#[len,λA outer s H args E vs Q us hr e0 C r hsp=>?_];let hl:=len _ _ _ _ hsp;let KX:K.In s.heap:=e0.mod.kin.keeps λb o e=>(e0.bs b o e).1;let lim:s.heap.NoLimit:=e0.mod.nolimit.keeps λb o e=>(e0.bs b o e).1;let hkind:∀y∈ps.zip E,scope.names.lookup y.1=U .local\/(scope.names.lookup y.1=U .cell/\((HD (s.heap.objs.size+1) scope.names []).lookup y.1).isSome=ah):=λ#[n,v] hy=>by
  rcases S.par n (HC hy).1 with q|q
  .exact .inl q
  .exact .inr #[q,Wa _ _ _ (.inl q)]
 show codeAny_call_function hr.depth (KX _ _ lk) W S.co S.gen W (PySem.W.codeRec_of KX À) (C _ _ _ _ ?_);show wpAny_newFunctionEnv_cells S.kind hkind λenv he s1 x=>?_;subst he;show#[lim.keeps x.toInCall.keep,codeAny_func ?_];let⟨t,ht,hq⟩:=Y6 A outer s H vs Q us (hr.deeper _) hsp;let I:YS (dy CX P w K mg base N qual scope f Y0 A outer s H us) [] (dX N vs) H s1:=N6 S hr.hd e0 hl r x;show iQ (ht [] s1 (dX N vs) H _ I hq) (λfl s' hs=>?_) λe s' hs=>hs;let Zz:∀{Z5:St}{H':Hp}{v:V}{u:aw},YS (dy CX P w K mg base N qual scope f Y0 A outer s H us) [] Z5 H' s'->bI v u->Q v H'->CE outer P w H s Q u s':=
  λ{Z5 H' v u}ao rv q=>#[v,H',ao.os,ao.bare,ao.base,ao.hok,rv,q]
 cases fl with
 |ret u=>
  let⟨v,Z5,H',ao,rv,q⟩:=hs;show Zz ao rv q
 |next=>
  let⟨Z5,H',ao,q⟩:=hs;show Zz (v:=V.non) ao W q
 |brk=>
  let⟨_,_,_,q⟩:=hs;show iR q
 |cont=>
  let⟨_,_,_,q⟩:=hs;show iR q
section
variable{t:TA}{id T:cW}{r:Z V->Hp->VK->Prop}
noncomputable def tCB(r:Z V->Hp->VK->Prop)(t:TA):TE:=λL H Q=>t L H λvs H1=>r vs H1 Q
def yO(hc:dZ X (.builtin id) r)(hg:Gl X x)(hm:X.mg x=B)(hv:eq x=U (.builtin id))(ha:PA X (e::es) t)(hn:x≠"__name__":=by decide)(õ:.(r)=ar:=by decide)
  (he:aP (e::es) X.env=(ar,eval e X.env)::aP es X.env:=by rfl)(Zo:(ci pos (aP es X.env)).any (·.1)=ar:=by rfl):PE X (.Call (.Name x p) (e::es) [] pos) (tCB r t):=by
 intro Z' s L H Q I h;show wy (mR I hg hm hv ?_ hn õ);show Yp (Zf (ha pos Z' s L H _ I h) λE s1 #[vs,H1,I1,r1,q1]=>hc Z' s1 L H1 vs E Q I1 r1 q1) he Zo
def wf(hc:dZ X (.type T) r)(hg:Gl X x)(hm:X.mg x=B)(hv:eq x=U (.type T))(ha:PA X (e::es) t)(hn:x≠"__name__":=by decide)(õ:.(r)=ar:=by decide)
  (he:aP (e::es) X.env=(ar,eval e X.env)::aP es X.env:=by rfl)(Zo:(ci pos (aP es X.env)).any (·.1)=ar:=by rfl):PE X (.Call (.Name x p) (e::es) [] pos) (tCB r t):=by
 intro Z' s L H Q I h;show wy (mR I hg hm hv ?_ hn õ);show AF (Zf (ha pos Z' s L H _ I h) λE s1 #[vs,H1,I1,r1,q1]=>hc Z' s1 L H1 vs E Q I1 r1 q1) he Zo
end
variable{sl:av}{vl vu:aw}{hi:au aj}{items:bK aw}
namespace HT
def cat_tup{t b:av}{vs ws:Z aw}(ht:wt s.heap t vs.toArray)(C:wt s.heap b ws.toArray)(hv:vs≠[])
  (h1:ws=[]->Q (.ref t) s)(h2:ws≠[]->Q (.ref s.heap.objs.size) {s with heap:=s.heap.push {cls:=.type "tuple",data:=.seq (vs++ws).toArray} })
  (ô:vs.length+ws.length<=aK):aL .(z) A (gX .Add (.ref t) (.ref b)) Q us s:=by
 let⟨⟨cls,dd,data,sl⟩,ho,hc,n,hd⟩:=id ht;let⟨⟨cls2,dd2,data2,sl2⟩,ho2,hc2,n2,hd2⟩:=id C;simp only at hc hd hc2 hd2;subst hc hd hc2 hd2;let e:vs.toArray++ws.toArray=(vs++ws).toArray:=by simp
 by_cases hw:ws=[]
 .exact concat_meets #[_,ho,W] #[_,ho2,W] Wb seq_tuple_add Wc Wd (We _ _)
   (tuple_addW1 t b vs.toArray ws.toArray n n2 dd dd2 sl sl2 (by simpa using hv) (by simp[hw])) #[ho,ho2,h1 hw]
 .refine concat_meets #[_,ho,W] #[_,ho2,W] Wb seq_tuple_add Wc Wd (We _ _)
   (tuple_addW2 t b vs.toArray ws.toArray n n2 dd dd2 sl sl2 (by simpa using hv) (by simpa using hw) (by rw[qC,qC];show ô)) #[ho,ho2,?_]
  rw[e];show h2 hw
noncomputable def sIx(n d:ag):au aj->ag
 |none=>d
 |some v=>if v<0 then (v+(n:aj)).toNat else min v.toNat n
def Gz(v:aj)(n d:ag):(if v<0 then max (v+(n:aj)) 0 else min v (n:aj))=((sIx n d (U v):ag):aj):=by
 show(if v<0 then max (v+(n:aj)) 0 else min v (n:aj))=(((if v<0 then (v+(n:aj)).toNat else min v.toNat n):ag):aj);by_cases hv:v<0
 .simp only[qY hv];ext
 .simp only[qZ hv];ext
def Jy(lo hi:au aj)(n:ag):HE lo hi 1 (n:aj)=(((sIx n 0 lo:ag):aj),((sIx n n hi:ag):aj)):=by
 let h1:¬((1:aj)<0):=by ext
 unfold HE;simp only[h1,cK];show Prod.ext ?_ ?_
 .cases lo with
  |none=>rfl
  |some v=>show Gz v n 0
 .cases hi with
  |none=>rfl
  |some v=>show Gz v n n
def LR(i j:ag):AM (i:aj) (j:aj) 1=j-i:=by
 unfold AM;let h1:(1:aj) > 0:=by ext
 simp only[h1,cI,Int.ediv_one];split<;>ext
def C8{v:aw}{o:au aj}{Q:au aj->aH->Prop}(p:nJ v o)(h:Q o s):aL .(z) A (Yq v) Q us s:=by
 cases p with
 |none=>show Wf h
 |int i t=>show slicePart_int h
def Vq{lo:au aj}{Q:aj×aj×ag->aH->Prop}(hs:s.heap.IsSliceOf sl vl vu .none)(pl:nJ vl lo)(pu:nJ vu hi)
  (h:Q (((sIx n 0 lo:ag):aj),1,sIx n n hi-sIx n 0 lo) s):aL .(z) A (Yr (.ref sl) (bd (n:aj))) Q us s:=by
 let⟨os,hos,hcs,ā⟩:=id hs;show qy (qy (HF hos ā W (qy (HF hos ā W (qy (HF hos ā W (qB ?_)))))));show qy (Wf ?_);rw[qZ .(b)];show qy (C8 pl (qy (C8 pu (qy (qB ?_)))));show aL _ _ (match HE lo hi 1 (n:aj) with|(lo,hi)=>bd (lo,(1:aj),AM lo hi 1)) _ _ s;rw[Jy lo hi n];show aL _ _ (bd (((sIx n 0 lo:ag):aj),(1:aj),AM ((sIx n 0 lo:ag):aj) ((sIx n n hi:ag):aj) 1)) _ _ s;rw[LR];show qB h
def Mw(xs:bK aw)(i k:ag):((cC k).filterMap λ(m:ag)=>xs[((i:aj)+(m:aj)*1).toNat]?).toArray=((xs.toList.drop i).take k).toArray:=by
 let e:(λ(m:ag)=>xs[((i:aj)+(m:aj)*1).toNat]?)=λm=>xs[i+m]?:=by
  funext m
  let:((i:aj)+(m:aj)*1).toNat=i+m:=by ext
  rw[this]
 rw[e];let:=AN xs i k;rw[List.filterMap_map] at this;let e2:((λx=>xs[x]?) ∘ λx=>i+x)=λm=>xs[i+m]?:=rfl;rw[e2] at this;rw[this]
def getItem_tuple_cut{t:av}{lo:au aj}(ht:wt s.heap t items)(hs:s.heap.IsSliceOf sl vl vu .none)(pl:nJ vl lo)(pu:nJ vu hi)
  (hw:¬(sIx items.size 0 lo=0/\sIx items.size items.size hi=items.size))
  (h:Q (.ref s.heap.objs.size) {s with heap:=s.heap.push {cls:=.type "tuple",data:=.seq ((items.toList.drop (sIx items.size 0 lo)).take (sIx items.size items.size hi-sIx items.size 0 lo)).toArray} })
  (ô:items.size<=aK):aL .(z) A (nK (.ref t) (.ref sl)) Q us s:=by
 let ž:sizeOk (.seq ((items.toList.drop (sIx items.size 0 lo)).take (sIx items.size items.size hi-sIx items.size 0 lo)).toArray):=by show((items.toList.drop (sIx items.size 0 lo)).take (sIx items.size items.size hi-sIx items.size 0 lo)).toArray.size<=aK;rw[qC,qF,iu,fu];ext
 let⟨os,hos,hcs,ā⟩:=id hs;let hTs:s.TypeIs (.ref sl) "slice":=#[os,hos,hcs];unfold nK
 try with_reducible show qV ?_
 first|show qy (qB ?_)|skip
 show qy (wpAny_sequenceKey ht.typeIs .(b) ?_);show qy (AO ht.typeIs HG
  (l9 HG ht.typeIs entry_tuple_getitem ?_ (args_tuple_getitem _ _)))
 show aL _ _ (Ys (.ref t) >>= _) _ _ s;show qy (tupleItemsOf_ ht ?_);show qy (sS hTs ?_);rw[qY .(b)];show qy (Vq hs pl pu ?_);let Ó:¬((((sIx items.size 0 lo:ag):aj)==0 && (1:aj)==1 && (sIx items.size items.size hi-sIx items.size 0 lo)==items.size)=ah):=by intro q;rw[dB,dB] at q;let q1:((sIx items.size 0 lo:ag):aj)=0:=eq_of_beq q.1.1;let q2:sIx items.size items.size hi-sIx items.size 0 lo=items.size:=eq_of_beq q.2;show hw #[by ext,by ext]
 show aL _ _ (if (((sIx items.size 0 lo:ag):aj)==0 && (1:aj)==1 && (sIx items.size items.size hi-sIx items.size 0 lo)==items.size)=ah then _ else _) _ _ s;rw[qZ Ó,Mw]
 first
  |show qy (ju (qB #[_,W,qB h]) ž)
  |show qy (ju (qy (qB (qB #[_,W,qB h]))) ž)
  |show qy (qy (ju (qB (qB #[_,W,qB h])) ž))
  |show qy (qy (ju (qB #[_,W,qB h]) ž))
end HT
abbrev TO:=St->Hp->(au aj->Hp->Prop)->Prop
def PO(X:Cx)(e:au Expr)(t:TO):Prop:=
 ∀(Z':Z (av×Obj))(s:aH)(L:St)(H:Hp)(Q:au aj->Hp->Prop),YS X Z' L H s->t L H Q->
  aL .(t) X.A (evalPart e X.env) (λu s'=>∃o H',YS X Z' L H' s'/\nJ u o/\Q o H') X.xe s
noncomputable def Vg:TO:=λ_ H Q=>Q B H
noncomputable def Qh(t:TE):TO:=λL H Q=>t L H λx H1=>∃i,x=.int i/\Q (U i) H1
def L3{ns:Z aj}:∀{E:Z aw},bj (ns.map V.int) E->kP E ns:=by
 induction ns with
 |nil=>intro E r;rw[qQ] at r;cases r;show .nil
 |cons n ns ih=>
  intro E r;rw[qp] at r;cases r with
  |cons r1 r2=>
   let⟨t,e⟩:=r1;subst e;show .cons n t (ih r2)
variable{p2:dn}
section
variable{lo hi:au Expr}{tl th:TO}
def UQ:PO X B Vg:=by intro Z' s L H Q I h;rw[evalPart_none];show qB #[B,H,I,.none,h]
def OP(h:PE X e te):PO X (U e) (Qh te):=by intro Z' s L H Q I hw;rw[evalPart_some];show Zf (h Z' s L H _ I hw) λu s1 #[x,H1,I1,r1,q1]=>?_;let⟨i,rfl,q⟩:=q1;let⟨t,rfl⟩:=r1;show#[U i,H1,I1,.int i t,q]
def SlR(X:Cx)(r:V->au aj->au aj->Hp->VK->Prop):Prop:=
 ∀(Z':Z (av×Obj))(s:aH)(L:St)(H:Hp)(x:V)(v vl vu:aw)(lo hi:au aj)(sl:av)(Q:VK),YS X Z' L H s->bI x v->s.heap.IsSliceOf sl vl vu .none->nJ vl lo->nJ vu hi->r x lo hi H Q->
  ∃T id,wB (.type T) "__getitem__"=bd (U (.builtin id))/\s.TypeIs v T/\aL .(t) X.A (nK v (.ref sl)) (EP X Z' L Q) X.xe s
def SlR.or{r r':V->au aj->au aj->Hp->VK->Prop}(h:SlR X r)(h':SlR X r'):SlR X (λx lo hi H Q=>r x lo hi H Q\/r' x lo hi H Q):=by
 intro Z' s L H x v vl vu lo hi sl Q I rx hs pl pu q;rcases q with q|q
 .exact h Z' s L H x v vl vu lo hi sl Q I rx hs pl pu q
 .exact h' Z' s L H x v vl vu lo hi sl Q I rx hs pl pu q
noncomputable def tSl(r:V->au aj->au aj->Hp->VK->Prop)(te:TE)(tl th:TO):TE:=λL H Q=>te L H λx H1=>tl L H1 λl H2=>th L H2 λu H3=>r x l u H3 Q
def VI{r:V->au aj->au aj->Hp->VK->Prop}(hr:SlR X r)(he:PE X e te)(hl:PO X lo tl)(hu:PO X hi th):PE X (.Subscript e (.Slice lo hi B p2) pos) (tSl r te tl th):=by intro Z' s L H Q I h;show AQ (Zf (he Z' s L H _ I h) λv s1 #[x,H1,I1,r1,q1]=>?_);show wpAny_Slice (Zf (hl Z' s1 L H1 _ I1 q1) λvl s2 #[l,H2,I2,pl,q2]=>Zf (hu Z' s2 L H2 _ I2 q2) λvu s3 #[u,H3,I3,pu,q3]=>?_);rw[evalPart_none];show qB ?_;let I4:YS X Z' L H3 {s3 with heap:=s3.heap.push {cls:=.type "slice",data:=.fields [vl,vu,.none].toArray} }:=I3.kept λb ob q=>qv _ q;let⟨T,id,hT,ht,hg⟩:=hr Z' {s3 with heap:=s3.heap.push {cls:=.type "slice",data:=.fields [vl,vu,.none].toArray} } L H3 x v vl vu l u s3.heap.objs.size Q I4 r1 (Wg ..) pl pu q3;show HH ht hT hg (by with_unfolding_all rfl)
def oF(xs:Z V)(lo hi:au aj):Z V:=(xs.drop (HT.sIx xs.length 0 lo)).take (HT.sIx xs.length xs.length hi-HT.sIx xs.length 0 lo)
def Ew(xs:Z V)(lo hi:au aj):(oF xs lo hi).length<=xs.length:=by unfold oF;rw[qF,iu];ext
def ME(K:aT):V->au aj->au aj->Hp->VK->Prop:=λx lo hi H Q=>∃a xs,x=.ref a/\Ţ K H a xs /\
 ¬(HT.sIx xs.length 0 lo=0/\HT.sIx xs.length xs.length hi=xs.length)/\∀p,H p=B->Q (.ref p) (YZ H p (.tup (oF xs lo hi)))
def Vz:SlR X (ME X.K):=by
 intro Z' s L H x v vl vu lo hi sl Q I rx hs pl pu h;let⟨a,xs,rfl,hx,hw,q⟩:=h;cases rx;let⟨YY,r,ht,hz⟩:=I.tuple hx;let Y5:YY.toArray.size=xs.length:=by rw[qC];show r.length.symm
 show#["tuple",_,HG.lookup,ht.typeIs,?_];show HT.getItem_tuple_cut ht hs pl pu (by rw[Y5];show hw) ?_ (by rw[Y5];show hz);rw[Y5];show#[.ref s.heap.objs.size,_,I.laid (λb ob q=>qv _ q) (qx _) ?_,W,q _ (I.hok.fresh (qx _))];show#[qO (Ew xs lo hi) hz,_,(r.drop (HT.sIx xs.length 0 lo)).take (HT.sIx xs.length xs.length hi-HT.sIx xs.length 0 lo),HI _ _]
def Eg(K:aT):R2:=λx y H Q=>∃a b xs ys,x=.ref a/\y=.ref b/\Ţ K H a xs/\Ţ K H b ys/\xs≠[]/\xs.length+ys.length<=aK /\
 (ys=[]->Q (.ref a) H)/\(ys≠[]->∀p,H p=B->Q (.ref p) (YZ H p (.tup (xs++ys))))
def bj.nil_iff{xs:Z V}{E:Z aw}(r:bj xs E):E=[]↔xs=[]:=by
 cases r with
 |nil=>simp
 |cons _ _=>simp
def K5:Å X (gX .Add) (Eg X.K):=by intro Z' s L H x y v u Q I rx ry h;let⟨a,b,xs,ys,rfl,rfl,ha,C,hx,hz,q1,q2⟩:=h;cases rx;cases ry;let⟨YY,r1,p1,_⟩:=I.tuple ha;let⟨Ū,r2,p2,_⟩:=I.tuple C;show HT.cat_tup p1 p2 (λz=>hx (r1.nil_iff.mp z)) (λz=>#[.ref a,H,I,W,q1 (r2.nil_iff.mp z)]) (λz=>?_) (by rw[<-r1.length,<-r2.length];show hz);show#[.ref s.heap.objs.size,_,I.laid (λb ob q=>qv _ q) (qx _) ?_,W,q2 (λw=>z (r2.nil_iff.mpr w)) _ (I.hok.fresh (qx _))];show#[by rw[ql];show hz,_,r1.append r2,HI _ _]
end
noncomputable def ixN(n:ag)(i:aj):au ag:=if 0<=i then (if i<n then U i.toNat else B) else if -(n:aj)<=i then U (i+n).toNat else B
def atI(xs:Z α)(i:aj):au α:=(ixN xs.length i).bind λj=>xs[j]?
def L5{i:aj}(h:ixN n i=U j):seqIndex? i n=U j/\j<n /\ -(n:aj)<=i/\i<n:=by
 unfold ixN at h;by_cases h0:0<=i
 .rw[qY h0] at h;by_cases h1:i<n
  .rw[qY h1] at h;let e:i.toNat=j:=qI h;show#[by rw[seqIndex_of h0 h1,e],by ext,by ext,h1]
  .rw[qZ h1] at h;cases h
 .rw[qZ h0] at h;by_cases h1 : -(n:aj)<=i
  .rw[qY h1] at h;let e:(i+n).toNat=j:=qI h;show#[by rw[seqIndex_neg .(c) h1,e],by ext,h1,by ext]
  .rw[qZ h1] at h;cases h
def zX{xs:Z α}{i:aj}{v:α}(h:atI xs i=U v):∃j,seqIndex? i xs.length=U j/\xs[j]?=U v/\j<xs.length /\ -(xs.length:aj)<=i/\i<xs.length:=by
 unfold atI at h;cases e:ixN xs.length i with
 |none=>rw[e] at h;cases h
 |some j=>
  rw[e] at h;let⟨h1,h2,h3,h4⟩:=L5 e;show#[j,h1,h,h2,h3,h4]
def jE{xs:Z α}{v:α}(h:xs[j]?=U v):atI xs (j:aj)=U v:=by
 let hj:j<xs.length:=(eV.mp h).1;let e:ixN xs.length (j:aj)=U j:=by unfold ixN;rw[qY .(c),qY .(c)];simp
 unfold atI;rw[e];show h
def GR(b:Expr):Prop:=∀o i,AR b ar o i=operate [o,i] (nK o i)
def IxR(X:Cx)(r:R2):Prop:=
 ∀(Zh slice:Expr)(Z':Z (av×Obj))(s:aH)(L:St)(H:Hp)(x y:V)(v u:aw)(Q:VK),YS X Z' L H s->bI x v->bI y u->r x y H Q->
  AR slice ar v u=operate [v,u] (nK v u)->aL .(t) X.A (subscriptTail Zh slice v u) (EP X Z' L Q) X.xe s
def MtR(X:Cx)(id:cW)(r:V->Z V->Hp->VK->Prop):Prop:=
 ∀(Z':Z (av×Obj))(s:aH)(L:St)(H:Hp)(x:V)(xs:Z V)(v:aw)(E:Z aw)(Q:VK),YS X Z' L H s->bI x v->bj xs E->r x xs H Q->
  aL .(t) X.A (call (.builtin id) (v::E)) (EP X Z' L Q) X.xe s
variable{to:TE}{Zg:dn}
section
variable{a:Expr}{tb:TE}
def IxR.or{r:R2}(h:IxR X r)(h':IxR X r'):IxR X (λx y H Q=>r x y H Q\/r' x y H Q):=by
 intro Zh slice Z' s L H x y v u Q I rx ry q hs;rcases q with q|q
 .exact h Zh slice Z' s L H x y v u Q I rx ry q hs
 .exact h' Zh slice Z' s L H x y v u Q I rx ry q hs
def Vm{r:R2}(hr:IxR X r)(ha:PE X a ta)(C:PE X b tb)(hs:GR b):PE X (.Subscript a b pos) (tOp r ta tb):=by intro Z' s L H Q I h;show AQ (yU ha C I h λv u s2 x y H2 I2 rx ry q=>hr a b Z' s2 L H2 x y v u Q I2 rx ry q (hs _ _))
def Gb(K:aT):R2:=λx y H Q=>∃p xs i v,x=.ref p/\y=.int i/\ñ K H p xs/\atI xs i=U v/\Q v H
def CZ(K:aT):R2:=λx y H Q=>∃p xs i v,x=.ref p/\y=.int i/\Ţ K H p xs/\atI xs i=U v/\Q v H
def EZ:R2:=λx y H Q=>∃z i c,x=.str z/\y=.int i/\z.length<=aK/\atI z.cps.toList i=U c/\Q (.str ⟨#[c]⟩) H
def Ot:IxR X (Gb X.K):=by
 intro Zh slice Z' s L H x y v u Q I rx ry h hs;let⟨p,xs,i,z,rfl,rfl,hq,he,q⟩:=h;cases rx;let⟨t,rfl⟩:=ry;let⟨YY,r,pl,hz⟩:=I.list hq;let⟨j,h1,h2,h3,h4,h5⟩:=zX he;let⟨w,ew,Ò⟩:=r.get h2;let hl:=r.length;let hn:=uz;let Zz:EP X Z' L Q w s:=#[z,H,I,Ò,q];by_cases h0:0<=i
 .let hj:i.toNat=j:=by rw[seqIndex_of h0 h5] at h1;show qI h1
  show item_listR pl.isList h0 .(c) (by rw[hj];simpa using ew) Zz hs
 .let hj:(i+(YY.toArray.size:aj)).toNat=j:=by rw[seqIndex_neg .(c) h4] at h1;rw[qC,<-hl];show qI h1
  show Wh pl.isList.typeIs HJ.lookup
   (wpAny_getItem_list_neg pl.isList .(c) (by rw[qC]<;>ext) .(c) (by rw[hj];simpa using ew) #[W,Zz]) hs
def S8:IxR X (CZ X.K):=by
 intro Zh slice Z' s L H x y v u Q I rx ry h hs;let⟨p,xs,i,z,rfl,rfl,hq,he,q⟩:=h;cases rx;let⟨t,rfl⟩:=ry;let⟨YY,r,pl,hz⟩:=I.tuple hq;let⟨j,h1,h2,h3,h4,h5⟩:=zX he;let⟨w,ew,Ò⟩:=r.get h2;let hl:=r.length;let hn:=uz;let Zz:EP X Z' L Q w s:=#[z,H,I,Ò,q];show Wh pl.typeIs slot_tuple_getitem.lookup
  (getItem_tuple pl .(c) .(c) (by rw[qC,<-hl];show h1) (by simpa using ew) #[W,Zz]) hs
def Ld:IxR X EZ:=by
 intro Zh slice Z' s L H x y v u Q I rx ry h hs;let⟨z,i,c,rfl,rfl,hz,he,q⟩:=h;let⟨t,rfl⟩:=rx;let⟨t',rfl⟩:=ry;let⟨j,h1,h2,h3,h4,h5⟩:=zX he;let hl:z.cps.toList.length=z.length:=by simp[sT]
 rw[hl] at h1 h4 h5;let hn:=uz;show HH (wC s z t) slot_str_getitem.lookup (getItem_str (by let e1:decide (i < -(2 ^ 63:aj))=ar:=qP .(c);let e2:decide (i ≥ 2 ^ 63)=ar:=qP .(c);rw[e1,e2,Bool.or_false]) (by rw[h1];simpa using h2) #[.str ⟨#[c]⟩,H,I.tok _,#[_,W],q]) hs
def rIx(K:aT):R2:=λx y H Q=>Gb K x y H Q\/CZ K x y H Q\/EZ x y H Q
def Qm:IxR X (rIx X.K):=Ot.or (S8.or Ld)
def Qf(lo hi:au aj)(n:ag):(pC lo hi B n).1=((HT.sIx n 0 lo:ag):aj)/\(pC lo hi B n).2.1=((HT.sIx n n hi:ag):aj)/\(pC lo hi B n).2.2=1:=by
 show#[?_,?_,W]
 .cases lo with
  |none=>simp[pC,HT.sIx]
  |some i=>
   simp only[pC,HT.sIx,Wi,show(1:aj) > 0 by decide,cI];by_cases h:i<0
   .simp only[h,cI]<;>ext
   .simp only[h,cK]<;>ext
 .cases hi with
  |none=>simp[pC,HT.sIx]
  |some i=>
   simp only[pC,HT.sIx,Wi,show(1:aj) > 0 by decide,cI];by_cases h:i<0
   .simp only[h,cI]<;>ext
   .simp only[h,cK]<;>ext
def Ol(YY:Z aw)(lo hi:au aj):slicePick YY.toArray lo hi B=((YY.drop (HT.sIx YY.length 0 lo)).take (HT.sIx YY.length YY.length hi-HT.sIx YY.length 0 lo)).toArray:=by let⟨h1,h2,h3⟩:=Qf lo hi YY.toArray.size;unfold slicePick;rw[h1,h2,h3];simp only[Wj,AN,qC]<;>rfl
def VD(K:aT):V->au aj->au aj->Hp->VK->Prop:=λx lo hi H Q=>∃a xs,x=.ref a/\ñ K H a xs/\∀p,H p=B->Q (.ref p) (YZ H p (.lst (oF xs lo hi)))
def UI:SlR X (VD X.K):=by intro Z' s L H x v vl vu lo hi sl Q I rx hs pl pu h;let⟨a,xs,rfl,hx,q⟩:=h;cases rx;let⟨YY,r,ht,hz⟩:=I.list hx;let Y5:=r.length;show#["list",_,HJ.lookup,ht.isList.typeIs,?_];show Wk ht.isList hs pl pu .none (by simp) ?_ (by rw[qC]<;>ext);rw[Ol,<-Y5];show#[.ref s.heap.objs.size,_,I.laid (λb ob q=>qv _ q) (qx _) ?_,W,q _ (I.hok.fresh (qx _))];show#[qO (Ew xs lo hi) hz,_,0,(r.drop (HT.sIx xs.length 0 lo)).take (HT.sIx xs.length xs.length hi-HT.sIx xs.length 0 lo),qH _ W]
def U6:dZ X (.type "list") (λxs H Q=>∃p ys,xs=[.ref p]/\(ñ X.K H p ys\/Ţ X.K H p ys)/\∀l,H l=B->Q (.ref l) (YZ H l (.lst ys))):=by
 intro Z' s L H xs E Q I r h;let⟨p,ys,rfl,hq,q⟩:=h;let⟨u,rfl,rx⟩:=eR r;cases rx;let Zz:∀(YY:Z aw),bj ys YY->ys.length<=aK->∀(h':Heap)(c':ag),(∀b o',s.heap.get? b=U o'->h'.get? b=U o')->
   h'.get? s.heap.objs.size=U {cls:=.type "list",dict:=B,data:=.seq YY.toArray c',slots:=#[]}->EP X Z' L Q (.ref s.heap.objs.size) {s with heap:=h'}:=λYY r' hz h' c' kp e=>
  #[.ref s.heap.objs.size,_,I.laid kp (qx _) (show cQ X.prog X.w _ h' _ (.lst ys) from#[hz,YY,c',r',e]),W,q _ (I.hok.fresh (qx _))]
 rcases hq with hq|hq
 .obtain⟨YY,r',pl,hz⟩:=I.list hq;let Y5:=r'.length;let⟨o,ho,hc,n,hd⟩:=pl.isList;show call_list_seq p (.inl W) ho hc hd (λh' c' kp e=>Zz YY r' hz h' c' kp e) (by simp only[qC]<;>ext)
 .obtain⟨YY,r',pl,hz⟩:=I.tuple hq;let Y5:=r'.length;let⟨o,ho,hc,n,hd⟩:=pl;show call_list_seq p (.inr W) ho hc hd (λh' c' kp e=>Zz YY r' hz h' c' kp e) (by simp only[qC]<;>ext)
def JF:dZ X (.type "tuple") (λxs H Q=>∃p ys,xs=[.ref p]/\((ñ X.K H p ys/\∀l,H l=B->Q (.ref l) (YZ H l (.tup ys)))\/(Ţ X.K H p ys/\Q (.ref p) H))):=by
 intro Z' s L H xs E Q I r h;let⟨p,ys,rfl,h⟩:=h;let⟨u,rfl,rx⟩:=eR r;cases rx;rcases h with⟨hq,q⟩|⟨hq,q⟩
 .obtain⟨YY,r',pl,hz⟩:=I.list hq;let Y5:=r'.length;show call_tuple_list pl.isList (λh' kp=>?_) (by simp only[qC]<;>ext);let I1:YS X Z' L H {s with heap:=h'}:=I.kept kp;let I2:YS X Z' L (YZ H h'.objs.size (.tup ys)) {s with heap:=h'.push {cls:=.type "tuple",data:=.seq YY.toArray} } :=
   I1.laid (λb o e=>qv _ e) (qx _) (#[hz,YY,r',HI _ _])
  show#[.ref h'.objs.size,_,I2,W,q _ (I1.hok.fresh (qx _))]
 .obtain⟨YY,r',pl,hz⟩:=I.tuple hq;show call_tuple_same pl #[.ref p,H,I,W,q]
def tyV(K:aT)(T:cW)(x:V)(H:Hp):Prop:=match x with
 |.str _=>T="str"
 |.int _=>T="int"
 |.ref p=>(T="list"/\∃xs,ñ K H p xs)\/(T="tuple"/\∃o,K.lookup p=U o/\o.cls=.type "tuple"/\o.dict=B) \/
   (T="dict"/\((∃YL,H p=U (.dK YL))\/∃YL,H p=U (.dT YL)))\/(T="set"/\∃S n,H p=U (.set S n))
 |_=>False
def LI{T:cW}{x:V}{v:aw}(I:YS X Z' L H s)(r:bI x v)(ty:tyV X.K T x H):
  s.TypeIs v T/\∀a,v=.ref a->∃ob,s.heap.get? a=U ob/\ob.dict=B:=by
 cases x with
 |str z=>
  let⟨t,rfl⟩:=r;cases(ty);show#[wC s z t,λ_ e=>nomatch e]
 |int i=>
  let⟨t,rfl⟩:=r;cases(ty);show#[HK s i t,λ_ e=>nomatch e]
 |ref p=>
  cases r;rcases ty with⟨rfl,xs,hq⟩|⟨rfl,o,hk,hc,hd⟩|⟨rfl,hk⟩|⟨rfl,S,n,hk⟩
  .obtain⟨YY,_,pl,_⟩:=I.list hq;show#[pl.isList.typeIs,λa e=>?_];cases e;let⟨o,n,e,c,hd,_⟩:=pl;show#[o,e,hd]
  .refine#[#[o,I.kIn p o hk,hc],λa e=>?_];cases e;show#[o,I.kIn _ o hk,hd]
  .let z:∃o,s.heap.get? p=U o/\o.ExactDict:=by
    rcases hk with⟨YL,hk⟩|⟨YL,hk⟩
    .obtain⟨_,_,_,_,o,_,_,e,ex,_⟩:=I.hok p _ hk;show#[o,e,ex]
    .obtain⟨_,_,_,_,o,_,_,e,ex,_⟩:=I.hok p _ hk;show#[o,e,ex]
   let⟨o,e,ex⟩:=z;show#[#[o,e,ex.1],λa e2=>?_];cases e2;show#[o,e,ex.2.1]
  .obtain⟨o,_,_,_,e,ex,_⟩:=I.hok p _ hk;show#[#[o,e,ex.1],λa e2=>?_];cases e2;show#[o,e,ex.2.1]
 |_=>show iR ty
def tBM(K:aT)(T:cW)(r:V->Z V->Hp->VK->Prop)(to:TE)(t:TA):TE:=λL H Q=>to L H λx H1=>tyV K T x H1/\t L H1 λxs H2=>r x xs H2 Q
variable{o:Expr}{t:TA}{T id:cW}{r:V->Z V->Hp->VK->Prop}
def zN(pa:PlainAttrs T)(slot:Slot T name id)(hty:typeOf (.builtin id)=bd (.type "method_descriptor"))(hm:MtR X id r)(ho:PE X o to)(ha:PA X (e::es) t)
  (ę:jt o name X.env (eval o X.env)=eval o X.env:=by rfl)
  (Ů:((ci Zg (aP (e::es) X.env)).all (λx=>!x.1) && (jX Zg (jY [] X.env)).all (λx=>x.1.isSome)
   && decide ((e::es).length+([]:Z iT).length+(if ([]:Z iT).isEmpty then 0 else 1)<30))=ah:=by rfl)
  (ĕ:(Zj.endLine==Zg.line)=ah:=by rfl)(hs:aP (e::es) X.env=(ar,eval e X.env)::aP es X.env:=by rfl)(è:(ci Zg (aP es X.env)).any (·.1)=ar:=by rfl):
  PE X (.Call (.Attribute o name Zj) (e::es) [] Zg) (tBM X.K T r to t):=by
 intro Z' s L H Q I h;show wpAny_Call_method_late ę Ů ĕ W (Zf (ho Z' s L H _ I h) λv s1 #[x,H1,I1,r1,ty,q1]=>?_);let⟨h1,h2⟩:=LI I1 r1 ty;show#[T,id,pa,slot,hty,h1,h2,?_];let hA:=ha Zg Z' s1 L H1 _ I1 q1;rw[hs] at hA ⊢;show AS (by show(ar || (ci Zg (aP es X.env)).any (·.1))=ar;rw[è]<;>rfl) (AT ?_);show Zf hA λE s2 #[vs,H2,I2,r2,q2]=>hm Z' s2 L H2 x vs v E Q I2 r1 r2 q2
end
def MtM(X:Cx)(id:cW)(r:V->Z V->Hp->VK->Prop):Prop:=
 ∀(Z':Z (av×Obj))(s:aH)(L:St)(H:Hp)(x:V)(xs:Z V)(v:aw)(E:Z aw)(Q:VK),YS X Z' L H s->bI x v->bj xs E->r x xs H Q->
  aL .(t) X.A (call (.builtin id) (v::E)) (EP X Z' L Q) X.xe s
def bj.one:∀{x:V}{E:Z aw},bj [x] E->∃u,E=[u]/\bI x u
 |_,_,.cons r .nil=>#[_,W,r]
def bj.reverse{xs:Z V}{E:Z aw}(h:bj xs E):bj xs.reverse E.reverse:=by
 induction h with
 |nil=>show .nil
 |cons r t ih=>rw[AU,AU];show bj.append ih (.cons r .nil)
def bj.rep{xs:Z V}{E:Z aw}(h:bj xs E):∀k:ag,bj (bU k xs).flatten (bU k E).flatten
 |0=>.nil
 |k+1=>by rw[ma,ma,pE,pE];show bj.append h (bj.rep h k)
def Cv(YY:Z aw):∀(k:ag)(YT:Z aw),
  HL (λx1 x2=>x1++x2) YT.toArray (bU k YY.toArray)=(YT++(bU k YY).flatten).toArray
 |0,YT=>by simp
 |k+1,YT=>by
  let e:YT.toArray++YY.toArray=(YT++YY).toArray:=by simp
  let e2:(YT++YY)++(bU k YY).flatten=YT++(bU (k+1) YY).flatten:=by rw[ma,pE,pF]
  rw[<-e2,<-Cv YY k (YT++YY),<-e,ma,gc]
variable{l:av}{YY:Z aw}
section
variable{b:av}{xs zs:Z V}
def YS.lset{ū:Z aw}{f:bK aw->bK aw}(I:YS X Z' L H s)(hH:H l=U (.lst xs))
  (e:s.heap.get? l=U {cls:=.type "list",data:=.seq YY.toArray n})(hf:f YY.toArray=ū.toArray)(hv:bj ys ū)(hz:ys.length<=aK):
  YS X Z' L (YZ H l (.lst ys)) {s with heap:=s.heap.update l (Wl f),toks:=t'}:=by
 let q:=PySem.IsL.update e f;rw[hf] at q;show I.write (by rw[hH];show trivial) (.inl W) (λb' u C hu=>(sU s.heap (Wl f) (dj C)).trans hu) #[_,q] ?_;show#[hz,ū,_,hv,q]
def YS.lnew(I:YS X Z' L H s)(hv:bj ys YY)(hz:ys.length<=aK):
  YS X Z' L (YZ H s.heap.objs.size (.lst ys)) {s with heap:=s.heap.push {cls:=.type "list",data:=.seq YY.toArray},toks:=t'} :=
 I.laid (λ_ _ q=>qv _ q) (qx _) #[hz,YY,0,hv,qH _ W]
def YS.fresh(I:YS X Z' L H s):H s.heap.objs.size=B:=I.hok.fresh (qx _)
def YS.lstM(I:YS X Z' L H s)(hH:H l=U (.lst xs)):xs.length<=aK/\∃(YY:Z aw)(n:ag),bj xs YY/\xs.length=YY.length/\s.heap.get? l=U {cls:=.type "list",data:=.seq YY.toArray n}:=by let⟨z,YY,n,r,e⟩:=I.hok l _ hH;show#[z,YY,n,r,r.length,e]
def Gk(h:n<=aK):HM n=ar:=by show qP .(c)
end
def NA:V->Z V->Hp->VK->Prop:=λx vs H Q=>∃l xs y,x=.ref l/\vs=[y]/\H l=U (.lst xs)/\xs.length<aK/\Q .non (YZ H l (.lst (xs++[y])))
def Gr:MtM X "list.append" NA:=by intro Z' s L H x vs v E Q I rx rv h;let⟨l,xs,y,rfl,rfl,hH,hz,q⟩:=h;cases rx;let⟨u,rfl,ru⟩:=rv.one;let⟨z,YY,n,r,hl,e⟩:=I.lstM hH;show AV Wm #[_,e,W] F.entry_list_append (F.args_list_append_2 _ _) (PySem.list_append l YY.toArray n u (by rw[qC];ext)) #[e,?_];show#[.non,_,I.lset hH e (by simp) (r.append (.cons ru .nil)) ?_,W,q];rw[ql,pH];ext
def Pu:V->Z V->Hp->VK->Prop:=λx vs H Q=>∃l b xs zs,x=.ref l/\vs=[.ref b]/\H l=U (.lst xs)/\H b=U (.lst zs)/\xs.length+zs.length<=aK/\Q .non (YZ H l (.lst (xs++zs)))
def Se:MtM X "list.extend" Pu:=by
 intro Z' s L H x vs v E Q I rx rv h;let⟨l,b,xs,zs,rfl,rfl,hH,hB,hz,q⟩:=h;cases rx;let⟨u,rfl,ru⟩:=rv.one;cases ru;let⟨z,YY,n,r,hl,e⟩:=I.lstM hH;let⟨z2,Ū,n2,r2,ς,e2⟩:=I.lstM hB;let ô:YY.toArray.size+Ū.toArray.size<=aK:=by rw[qC,qC];ext
 let hlong:¬(!YY.toArray.isEmpty && HM (YY.toArray.size+Ū.toArray.size))=ah:=by rw[Gk ô,AW];show qu
 show AV Wn #[_,e,W] F.entry_list_extend (F.args_list_extend_2 _ _)
  (AutoSeq1.list_extend_list_list_0 l YY.toArray n b Ū.toArray n2 hlong (by rw[qC];ext)) #[e,e2,?_]
 show#[.non,_,I.lset hH e (by simp) (r.append r2) ?_,W,q];rw[ql];ext
def xB:R2:=λx y H Q=>∃l b xs zs,x=.ref l/\y=.ref b/\H l=U (.lst xs)/\H b=U (.lst zs)/\xs.length+zs.length<=aK/\∀p,H p=B->Q (.ref p) (YZ H p (.lst (xs++zs)))
def Qw:Å X (gX .Add) xB:=by
 intro Z' s L H x y v u Q I rx ry h;let⟨l,b,xs,zs,rfl,rfl,hH,hB,hz,q⟩:=h;cases rx;cases ry;let⟨z,YY,n,r,hl,e⟩:=I.lstM hH;let⟨z2,Ū,n2,r2,ς,e2⟩:=I.lstM hB;show PySem.P.add_list e e2 ?_ (by rw[qC,qC];ext);let ea:YY.toArray++Ū.toArray=(YY++Ū).toArray:=by simp
 rw[ea];show#[.ref _,_,I.lnew (r.append r2) (by rw[ql];ext),W,q _ I.fresh]
def CN:R2:=λx y H Q=>∃l k xs,x=.ref l/\y=.int k/\H l=U (.lst xs) /\ -(2 ^ 63)<=k/\k<2 ^ 63/\xs.length*k.toNat<=aK /\
 ∀p,H p=B->Q (.ref p) (YZ H p (.lst (bU k.toNat xs).flatten))
def FJ(xs:Z α)(k:ag):(bU k xs).flatten.length=k*xs.length:=by
 induction k with
 |zero=>simp
 |succ k ih=>rw[ma,pE,ql,ih,pI,Nat.add_comm]
def Sm:Å X (gX .Mult) CN:=by
 intro Z' s L H x y v u Q I rx ry h;let⟨l,k,xs,rfl,rfl,hH,h1,h2,hz,q⟩:=h;cases rx;let⟨t,rfl⟩:=ry;let⟨z,YY,n,r,hl,e⟩:=I.lstM hH;let Y5:YY.toArray.size*k.toNat<=aK:=by rw[qC,<-hl];show hz
 let hcap:¬YY.toArray.size*k.toNat > (2 ^ 63-1) / 8:=by
  let:(aK:ag)<=(2 ^ 63-1) / 8:=by decide
  ext
 let hfit:¬(!Yt k)=ah:=by rw[fitsIndex_both h1 h2];show qu
 let hlong:¬HM (YY.toArray.size*k.toNat)=ah:=by rw[Gk Y5];show qu
 let ń:HL (λx1 x2=>x1++x2) #[] (bU (if YY.toArray.isEmpty=ah then 0 else k.toNat) YY.toArray)=(bU k.toNat YY).flatten.toArray:=by
  let f0:∀m:ag,HL (λx1 x2=>x1++x2) #[] (bU m YY.toArray)=(bU m YY).flatten.toArray:=λm=>by let:=Cv YY m [];rw[qT] at this;show this
  rw[f0];cases YY with
  |nil=>simp
  |cons a r'=>rw[qZ (by simp)]
 show wpAny_binaryOp_repeat_ref .(b) #[_,e,W] (λs'=>HK s' k t) noFill_list_mul F.fills_int_mul Wo repeat_list F.slot_int_index.lookup
  (AV Wo (HK s k t) F.entry_int_rmul (F.args_int_rmul_2 _ _) (int___rmul___int_list k t l YY.toArray n)
   #[e,W,#[_,e,W],AV F.slot_list_mul #[_,e,W] F.entry_list_mul (F.args_list_mul_2 _ _) (AutoListH.list___mul___list_int_3 l YY.toArray n k t hfit hcap hlong) #[e,?_]])
 rw[ń];show#[.ref _,_,I.lnew (r.rep k.toNat) (by rw[FJ,Wq];show hz),W,q _ I.fresh]
section
variable[dE κ]
noncomputable def fX(YL:Z (κ×V))(k:κ):au V:=(YL.find? λkv=>decide (kv.1=k)).map (·.2)
noncomputable def putK(YL:Z (κ×V))(k:κ)(v:V):Z (κ×V):=
 if (YL.any λkv=>decide (kv.1=k))=ah then YL.map (λkv=>if kv.1=k then (kv.1,v) else kv) else YL++[(k,v)]
noncomputable def lE(YL:Z (κ×V))(k:κ):Z (κ×V):=YL.filter λkv=>decide (kv.1≠k)
def uZ{p:κ×V}{r:Z (κ×V)}{k:κ}(e:p.1=k):fX (p::r) k=U p.2:=by simp[fX,eX,e]
def uD{p:κ×V}{r:Z (κ×V)}{k:κ}(e:¬p.1=k):fX (p::r) k=fX r k:=by simp[fX,eX,e]
def Mx(k:κ):∀YL:Z (κ×V),(YL.any λkv=>decide (kv.1=k))=(fX YL k).isSome:=by
 intro Y7
 induction Y7 with
 |nil=>
  show W
 |cons p r ih=>
  rw[kQ];by_cases e:p.1=k
  .simp only[uZ e,qU e,Bool.true_or,Option.isSome_some]
  .rw[uD e,qP e,HN];show ih
def D5(YL:Z (κ×V))(k:κ)(v:V):(putK YL k v).length<=YL.length+1:=by
 unfold putK;split
 .rw[qg];ext
 .rw[ql,qj,qo];ext
def eS.isSome_eq{o:au V}{u:au aw}(r:eS o u):o.isSome=u.isSome:=by
 cases o with
 |none=>cases u with
  |none=>rfl
  |some _=>show(r).elim
 |some _=>cases u with
  |none=>show(r).elim
  |some _=>rfl
def eS.getD{o:au V}{u:au aw}{d:V}{d':aw}(r:eS o u)(rd:bI d d'):bI (o.getD d) (u.getD d'):=by
 cases o with
 |none=>cases u with
  |none=>show rd
  |some _=>show(r).elim
 |some _=>cases u with
  |none=>show(r).elim
  |some _=>show r
def KV.val{YL:Z (κ×V)}{vs:Z (κ×aw)}(r:KV YL vs)(k:κ):eS (fX YL k) (sV vs k):=by
 induction r with
 |nil=>show jW
 | @cons p q ps qs h t ih=>
  let⟨h1,h2⟩:=h;by_cases e:p.1=k
  .let e':q.1=k:=h1.symm.trans e;let b:sV (q::qs) k=U q.2:=by simp[sV,eX,e']
   rw[uZ e,b];show h2
  .let e':¬q.1=k:=λz=>e (h1.trans z);let b:sV (q::qs) k=sV qs k:=by simp[sV,eX,e']
   rw[uD e,b];show ih
def KV.any{YL:Z (κ×V)}{vs:Z (κ×aw)}(r:KV YL vs)(k:κ):(YL.any λkv=>decide (kv.1=k))=vs.any λkv=>decide (kv.1=k):=by
 induction r with
 |nil=>rfl
 |cons h t ih=>rw[kQ,kQ,ih,h.1]
def KV.repl{YL:Z (κ×V)}{vs:Z (κ×aw)}(r:KV YL vs)(k:κ)(ry:bI y u):
  KV (YL.map λkv=>if kv.1=k then (kv.1,y) else kv) (vs.map λkv=>if kv.1=k then (kv.1,u) else kv):=by
 induction r with
 |nil=>show .nil
 | @cons p q ps qs h t ih=>
  rw[qp,qp];show .cons ?_ ih;let⟨h1,h2⟩:=h;by_cases e:p.1=k
  .rw[qY e,qY (h1.symm.trans e)];show#[h1,ry]
  .rw[qZ e,qZ (λz=>e (h1.trans z))];show#[h1,h2]
def KV.put{YL:Z (κ×V)}{vs:Z (κ×aw)}(r:KV YL vs)(k:κ)(ry:bI y u):KV (putK YL k y) (stored vs k u):=by
 unfold putK stored;rw[r.any k];by_cases e:(vs.any λkv=>decide (kv.1=k))=ah
 .rw[qY e,qY e];show r.repl k ry
 .rw[qZ e,qZ e];show Paired.snoc r #[W,ry]
def KV.drop{YL:Z (κ×V)}{vs:Z (κ×aw)}(r:KV YL vs)(k:κ):KV (lE YL k) (without vs k):=by
 unfold lE without
 induction r with
 |nil=>show .nil
 | @cons p q ps qs h t ih=>
  let⟨h1,h2⟩:=h;rw[kR,kR];by_cases e:p.1=k
  .let a:¬decide (p.1≠k)=ah:=by simp[e]
   let b:¬decide (q.1≠k)=ah:=by simp[h1.symm.trans e]
   rw[qZ a,qZ b];show ih
  .let e':¬q.1=k:=λz=>e (h1.trans z);let a:decide (p.1≠k)=ah:=by simp[e]
   let b:decide (q.1≠k)=ah:=by simp[e']
   rw[qY a,qY b];show .cons #[h1,h2] ih
def KV.keys{YL:Z (κ×V)}{vs:Z (κ×aw)}(r:KV YL vs):YL.map (·.1)=vs.map (·.1):=by
 induction r with
 |nil=>rfl
 |cons h t ih=>rw[qp,qp,ih,h.1]
def KV.length{YL:Z (κ×V)}{vs:Z (κ×aw)}(r:KV YL vs):YL.length=vs.length:=Paired.length r
def QG(YL:Z (κ×V))(k:κ):(lE YL k).length<=YL.length:=Wr _ _
end
def jK{k:YQ}(r:bI (kV k) u):(cS P w).is k u=ah:=by
 cases k with
 |inl i=>let⟨t,e⟩:=(r);subst e;show Sw P w i t
 |inr x=>let⟨t,e⟩:=(r);subst e;show UL P w x t
def VA:∀{ks:Z YQ}{E:Z aw},bj (ks.map kV) E->ItemsAre (cS P w) ks E:=by
 intro Y7
 induction Y7 with
 |nil=>
  intro _ r;rw[qQ] at r;cases r;show .nil
 |cons k ks ih=>
  intro _ r;rw[qp] at r;cases r with
  |cons h t=>show .cons (jK h) (ih t)
abbrev KT(H:Hp):Z (Z YQ×V)->Z (Z YQ×av×aw)->Prop:=Paired λp q=>p.1=q.1/\H q.2.1=U (.tup (p.1.map kV))/\bI p.2 q.2.2
def KT.val{YL:Z (Z YQ×V)}{xs:Z (Z YQ×av×aw)}(r:KT H YL xs)(k:Z YQ):eS (fX YL k) ((nL xs k).map (·.2)):=by
 induction r with
 |nil=>show jW
 | @cons p q ps qs h t ih=>
  let⟨h1,_,h2⟩:=h;by_cases e:p.1=k
  .let e':q.1=k:=h1.symm.trans e;let b:nL (q::qs) k=U q.2:=by simp[nL,eX,e']
   rw[uZ e,b];show h2
  .let e':¬q.1=k:=λz=>e (h1.trans z);let b:nL (q::qs) k=nL qs k:=by simp[nL,eX,e']
   rw[uD e,b];show ih
def KT.repl{YL:Z (Z YQ×V)}{xs:Z (Z YQ×av×aw)}(r:KT H YL xs)(k:Z YQ)(ry:bI y u):
  KT H (YL.map λkv=>if kv.1=k then (kv.1,y) else kv) (xs.map (putAt k u)):=by
 induction r with
 |nil=>show .nil
 | @cons p q ps qs h t ih=>
  rw[qp,qp];show .cons ?_ ih;let⟨h1,h2,h3⟩:=h;unfold putAt;by_cases e:p.1=k
  .rw[qY e,qY (h1.symm.trans e)];show#[h1,h2,ry]
  .rw[qZ e,qZ (λz=>e (h1.trans z))];show#[h1,h2,h3]
def KT.put{YL:Z (Z YQ×V)}{xs:Z (Z YQ×av×aw)}(r:KT H YL xs)(k:Z YQ){b:av}(C:H b=U (.tup (k.map kV)))(ry:bI y u):
  KT H (putK YL k y) (storedH xs k b u):=by
 let e:(YL.any λkv=>decide (kv.1=k))=(nL xs k).isSome:=by rw[Mx,(r.val k).isSome_eq,AX]
 unfold putK storedH;rw[e];by_cases q:(nL xs k).isSome=ah
 .rw[qY q,qY q];show r.repl k ry
 .rw[qZ q,qZ q];show Paired.snoc r #[W,C,ry]
def KT.keeps{YL:Z (Z YQ×V)}{xs:Z (Z YQ×av×aw)}(r:KT H YL xs)(ht:∀b ys,H b=U (.tup ys)->H' b=U (.tup ys)):KT H' YL xs:=
 Paired.mapP r λ_ _ z=>#[z.1,ht _ _ z.2.1,z.2.2]
section
variable{h:Heap}
def Gq{u:HO}(ok:ì P w H h)(e:Rd H a u):cQ P w H h a u:=e.ok ok
def gL{YL:Z (YQ×V)}(ok:ì P w H h)(e:Rd H a (.dK YL)):YL.length<=aK/\(a==iP)=ar/\∃vs,KV YL vs/\h.DictOf (cS P w) a vs:=
 show cQ P w H h a (.dK YL) from Gq ok e
def x8{YL:Z (YQ×V)}(ok:ì P w H h)(e:H a=U (.dK YL)):YL.length<=aK/\(a==iP)=ar/\∃vs,KV YL vs/\h.DictOf (cS P w) a vs:=gL ok (.inl e)
def kq{ks:Z YQ}(ok:ì P w H h)(e:H a=U (.tup (ks.map kV))):(lV (cS P w)).is h ks a:=by let⟨_,YY,r,o,h1,h2,n,h3⟩:=(ok a _ e);show#[o,YY.toArray,n,h1,h2,h3,by simpa using VA r]
def jf{YL:Z (Z YQ×V)}(ok:ì P w H h)(e:Rd H a (.dT YL)):YL.length<=aK/\(a==iP)=ar /\
  ∃xs,KT H YL xs/\h.DictOfH (lV (cS P w)) a xs:=by
 let⟨z,y,xs,r,o,es,ep,h1,h2,h3,h4,h5⟩:=(Gq ok e);show#[z,y,xs,r,o,es,ep,h1,h2,h3,h4,λx hx=>?_,h5];let all:∀{l:Z (Z YQ×V)}{m:Z (Z YQ×av×aw)},KT H l m->∀x∈m,(lV (cS P w)).is h x.1 x.2.1:=by
  intro l m q
  induction q with
  |nil=>intro x hx;show nomatch hx
  | @cons p q ps qs hq t ih=>
   intro x hx;rcases cm.mp hx with e|hx
   .subst e;show kq ok (by rw[<-hq.1];show hq.2.1)
   .exact ih x hx
 show all r x hx
def Rv{YL:Z (Z YQ×V)}(ok:ì P w H h)(e:H a=U (.dT YL)):YL.length<=aK/\(a==iP)=ar /\
  ∃xs,KT H YL xs/\h.DictOfH (lV (cS P w)) a xs:=jf ok (.inl e)
end
def f8(H:Hp)(a:av)(y:V)(r:au V):Prop:=
 (∃YL k,Rd H a (.dK YL)/\y=kV k/\r=fX YL k)\/∃YL k b,Rd H a (.dT YL)/\y=.ref b/\H b=U (.tup (k.map kV))/\r=fX YL k
def ji(H:Hp)(a:av)(y v:V)(H':Hp):Prop:=
 (∃YL k,H a=U (.dK YL)/\y=kV k/\YL.length<aK/\H'=YZ H a (.dK (putK YL k v))) \/
 ∃YL k b,H a=U (.dT YL)/\y=.ref b/\H b=U (.tup (k.map kV))/\YL.length<aK/\H'=YZ H a (.dT (putK YL k v))
def f8.k{YL:Z (YQ×V)}{k:YQ}(e:H a=U (.dK YL)):f8 H a (kV k) (fX YL k):=.inl #[YL,k,.inl e,W,W]
def f8.t{b:av}{YL:Z (Z YQ×V)}{k:Z YQ}(e:H a=U (.dT YL))(eb:H b=U (.tup (k.map kV))):f8 H a (.ref b) (fX YL k):=.inr #[YL,k,b,.inl e,W,eb,W]
def ji.k{YL:Z (YQ×V)}{k:YQ}(e:H a=U (.dK YL))(hl:YL.length<aK):ji H a (kV k) v (YZ H a (.dK (putK YL k v))):=.inl #[YL,k,e,W,hl,W]
def ji.t{b:av}{YL:Z (Z YQ×V)}{k:Z YQ}(e:H a=U (.dT YL))(eb:H b=U (.tup (k.map kV)))(hl:YL.length<aK):
  ji H a (.ref b) v (YZ H a (.dT (putK YL k v))):=.inr #[YL,k,b,e,W,eb,hl,W]
section
variable{r:aw}{o:au V}
def YS.big(I:YS X Z' L H s):iP<s.heap.objs.size:=by let h:fK<s.heap.objs.size:=(I.mod.glob.keeps I.bk).lt;show sW .(b) h
def Jj(hu:A.units+1<ck)(I:YS X Z' L H s)(g:f8 H a y (U v))(ry:bI y u)(h:∀w' s',YS X Z' L H s'->bI v w'->Q w' s'):
  aL .(t) A (nK (.ref a) u) Q us s:=by
 rcases g with⟨YL,k,e,ey,l⟩|⟨YL,k,b,e,ey,eb,l⟩
 .subst ey;let⟨z,hd,vs,rel,dd⟩:=gL I.hok e;let⟨w',hw,Ò⟩:=eS.some_of (by rw[l];show rel.val k);show wpAny_getItem_of (jK ry) dd.mapOf hw (h w' _ (I.tok _) Ò)
 .subst ey;cases(ry);let⟨z,hd,xs,rel,dd⟩:=jf I.hok e;let⟨w',hw,Ò⟩:=eS.some_of (by rw[l];show rel.val k);let⟨p,hp,Ń⟩:=Za hw;show wpAny_getItem_heap (sX hu) (kq I.hok eb) dd hp ?_;rw[Ń];show h w' _ (I.tok _) Ò
def MD(hu:A.units+1<ck)(I:YS X Z' L H s)(g:f8 H a y o)(ry:bI y u)(h:∀s',YS X Z' L H s'->Q (.bool o.isSome) s'):
  aL .(t) A (dM .In u (.ref a)) Q us s:=by
 rcases g with⟨YL,k,e,ey,l⟩|⟨YL,k,b,e,ey,eb,l⟩
 .subst ey;let⟨z,hd,vs,rel,dd⟩:=gL I.hok e;show wpAny_in_of (jK ry) hd dd.mapOf ?_;rw[<-(rel.val k).isSome_eq,<-l];show h _ (I.tok _)
 .subst ey;cases(ry);let⟨z,hd,xs,rel,dd⟩:=jf I.hok e;show wpAny_in_heap (sX hu) (kq I.hok eb) hd dd ?_;let q:=(rel.val k).isSome_eq;rw[AX] at q;rw[<-q,<-l];show h _ (I.tok _)
def JC(hu:A.units+1<ck)(I:YS X Z' L H s)(g:f8 H a y o)(ry:bI y u)(h:∀s',YS X Z' L H s'->Q (.bool (!o.isSome)) s'):
  aL .(t) A (dM .NotIn u (.ref a)) Q us s:=by
 rcases g with⟨YL,k,e,ey,l⟩|⟨YL,k,b,e,ey,eb,l⟩
 .subst ey;let⟨z,hd,vs,rel,dd⟩:=gL I.hok e;show wpAny_notIn_of (jK ry) hd dd.mapOf ?_;rw[<-(rel.val k).isSome_eq,<-l];show h _ (I.tok _)
 .subst ey;cases(ry);let⟨z,hd,xs,rel,dd⟩:=jf I.hok e;show wpAny_notIn_heap (sX hu) (kq I.hok eb) hd dd ?_;let q:=(rel.val k).isSome_eq;rw[AX] at q;rw[<-q,<-l];show h _ (I.tok _)
def xI{ob:HO}(I:YS X Z' L H s)(mu:Mut (H a))(hs:gW a s.heap h')(he:∃q,h'.get? a=U q)(new:cQ X.prog X.w (YZ H a ob) h' a ob):
  YS X Z' L (YZ H a ob) {s with heap:=h',toks:=t'} :=
 I.write mu (.inl W) (λb q C z=>(hs.2 b C).trans z) he new
def G0{YL:Z (YQ×V)}{vs:Z (YQ×aw)}(z:YL.length<=aK)(hd:(a==iP)=ar)(rel:KV YL vs)(dd:h'.DictOf (cS P w) a vs):
  cQ P w H' h' a (.dK YL):=#[z,hd,vs,rel,dd]
def Jf{Q:lY->aH->Prop}(hu:A.units+1<ck)(I:YS X Z' L H s)(g:ji H a y v H')(ry:bI y u)(rv:bI v r)(h:∀s',YS X Z' L H' s'->Q () s'):
  aL .(t) A (setItem (.ref a) u r) Q us s:=by
 rcases g with⟨YL,k,e,ey,l,eH⟩|⟨YL,k,b,e,ey,eb,l,eH⟩
 .subst ey eH;let⟨z,hd,vs,rel,dd⟩:=x8 I.hok e;let hz:vs.length<=aK:=by rw[<-rel.length];show z
  let hl:(putK YL k v).length<=aK:=by let:=D5 YL k v;ext
  show wpAny_setItem_pairs (jK ry) dd λh' dd' hs=>h _ ?_;let he:∃q,h'.get? a=U q:=let #[q,_,_,hq,_]:=dd';#[q,hq]
  show xI I (by rw[e];show jW) hs he (G0 hl hd (rel.put k rv) dd')
 .subst ey eH;cases(ry);let⟨z,hd,xs,rel,dd⟩:=Rv I.hok e;let hz:xs.length<=aK:=by rw[<-Paired.length rel];show z
  let hl:(putK YL k v).length<=aK:=by let:=D5 YL k v;ext
  show wpAny_setItem_heap (sX hu) (kq I.hok eb) dd λh' dd' hs=>h _ ?_;let⟨q,es,ep,hq,h2,h3,h4,_,h5⟩:=dd';show xI I (by rw[e];show jW) hs #[q,hq] #[hl,hd,_,(rel.put k eb rv).keeps λc ys ec=>?_,q,es,ep,hq,h2,h3,h4,h5];rw[aE (xG ec e (λz=>nomatch z))];show ec
end
section
variable{YL:Z (YQ×V)}{k:YQ}
def L4{more:Z aw}(I:YS X Z' L H s)(e:H a=U (.dK YL))(ry:bI (kV k) u)(l:fX YL k=U v)(hm:more=[]\/∃x,more=[x])
  (h:∀w' s',YS X Z' L (YZ H a (.dK (lE YL k))) s'->bI v w'->Q w' s'):aL .(t) A (call (.builtin "dict.pop") (.ref a::u::more)) Q us s:=by
 let⟨z,hd,vs,rel,dd⟩:=x8 I.hok e;let⟨w',hw,Ò⟩:=eS.some_of (by rw[<-l];show rel.val k);let hp:(keyPart u).isSome=ah:=by
  cases k with
  |inl i=>let⟨t,q⟩:=(ry);subst q;rfl
  |inr x=>let⟨t,q⟩:=(ry);subst q;rfl
 let ha:me "dict.pop" #[.ref a::u::more,[]]:=by
  rcases hm with q|⟨x,q⟩
  .subst q;show PySem.F.args_dict_pop_2 _ _
  .subst q;show PySem.F.args_dict_pop_3 _ _ _
 show wD Ws dd.typeIs PySem.F.entry_dict_pop ha (meets_dict_pop_there (cS X.prog X.w) a (jK ry) more hm hp)
  #[vs,w',dd,by rw[<-rel.length];show z,hw,λh' dd' hs=>h w' _ ?_ Ò]
 let he:∃q,h'.get? a=U q:=let #[q,_,_,hq,_]:=dd';#[q,hq]
 show xI I (by rw[e];show jW) hs he (G0 (qO (QG YL k) z) hd (rel.drop k) dd')
end
def zG(i:Expr):Prop:=∀ov iv,AR i ar ov iv=operate [ov,iv] (nK ov iv)
def LW{slice:Expr}{T id:cW} 
  (hl:wB (.type T) "__getitem__"=bd (U (.builtin id)))(hs:zG slice)
  (h:aL .(z) A (eval Zh env) (λo Z7=>aL .(z) A (eval slice env) (λi Z4=>Z4.TypeIs o T/\aL .(z) A (nK o i) Q us Z4) us Z7) us s):
  aL .(z) A (eval (.Subscript Zh slice pos) env) Q us s:=by
 show AQ (iQ h (λo Z7 ZX=>iQ ZX (λi Z4 Z2=>?_) λ_ _ x=>x) λ_ _ x=>x);let⟨hT,Z2⟩:=Z2;show qy ?_;rw[getitemInPython_of_ne hT.not_modules];show qy (AY hT hl ?_);let Zz:aL .(z) A (AR slice ar o i) (λr Z0=>aL .(z) A (letTemporaryGo Zh o r >>= λ_=>bd r) Q us Z0) us Z4:=by rw[hs o i];show wpAny_operating (iQ Z2 (λr Z0 ZS=>qy (wpAny_letTemporaryGo (qB ZS))) λ_ _ x=>x)
 first
  |show qB (qy Zz)
  |show qy (qB (qy Zz))
  |show qy Zz
def S7{o:au V}(I:YS X Z' L H s)(g:f8 H a y o):s.TypeIs (.ref a) "dict":=by
 rcases g with⟨YL,k,e,_,_⟩|⟨YL,k,b,e,_,_,_⟩
 .obtain⟨_,_,vs,_,dd⟩:=gL I.hok e;show dd.typeIs
 .obtain⟨_,_,xs,_,dd⟩:=jf I.hok e;show dd.typeIs
def Nu(td ty:TE):TE:=λL H Q=>td L H λx H1=>ty L H1 λy H2=>∃a v,x=.ref a/\f8 H2 a y (U v)/\Q v H2
def N3(td ty tv:TE):TS:=λD L H=>tv L H λv H1=>td L H1 λx H2=>ty L H2 λy H3=>∃a H4,x=.ref a/\ji H3 a y v H4/\D.nx L H4
variable{td ty:TE}
section
variable{o i:Expr}
def Kz(hu:X.A.units+1<ck)(ho:PE X o td)(hi:PE X i ty)(hs:zG i):PE X (.Subscript o i pos) (Nu td ty):=by intro Z' s L H Q I h;show LW PySem.F.slot_dict_getitem.lookup hs (Zf (ho Z' s L H _ I h) λu s1 #[x,H1,I1,rx,q1]=>Zf (hi Z' s1 L H1 _ I1 q1) λiv s2 #[y,H2,I2,ry,a,v,ex,g,q2]=>?_);subst ex;obtain rfl:u=cU a:=rx;show#[S7 I2 g,Jj hu I2 g ry λw' s3 I3 Ò=>#[v,H2,I3,Ò,q2]]
def yT(hu:X.A.units+1<ck)(ho:PE X o td)(hi:PE X i ty)(hv:PE X Zh tv)(hs:dq Zh (U (.Subscript o i Zk)) pos.line X.env=bd ar):
  PS X (.Assign [.Subscript o i Zk] Zh pos) (N3 td ty tv):=by
 intro Z' s L H D I h;show wpAny_Assign_Subscript (Zf (hv Z' s L H _ I h) λr s1 #[v,H1,I1,rv,q1]=>Zf (ho Z' s1 L H1 _ I1 q1) λu s2 #[x,H2,I2,rx,q2]=>Zf (hi Z' s2 L H2 _ I2 q2) λiv s3 #[y,H3,I3,ry,a,H4,ex,g,q3]=>?_) hs;subst ex;obtain rfl:u=cU a:=rx;show Jf hu I3 g ry rv λs4 I4=>#[L,H4,I4,q3]
end
def K2(h:Heap)(C:iP<h.objs.size):cQ P w H (h.push {cls:=.type "dict",data:=.dict #[]}) h.objs.size (.dK []):=
 #[fy _,lS.mpr (dj (qD C)),[],.nil,Wt h]
def J1(h:Heap)(C:iP<h.objs.size):cQ P w H (h.push {cls:=.type "dict",data:=.dict #[]}) h.objs.size (.dT []):=
 #[fy _,lS.mpr (dj (qD C)),[],.nil,_,#[],0,qH _ W,#[W,W,W],W,W,iU]
def Sa:TE:=λ_ H Q=>∀p,H p=B->Q (.ref p) (YZ H p (.dK []))
def Pi:TE:=λ_ H Q=>∀p,H p=B->Q (.ref p) (YZ H p (.dT []))
def zL:PE X (.Dict [] [] pos) Sa:=λZ' s L H Q I h=>
 Wu #[.ref s.heap.objs.size,_,I.laid (λ_ _ q=>qv _ q) (qx _) (K2 s.heap I.big),W,h _ (I.hok.fresh (qx _))]
def Fp:PE X (.Dict [] [] pos) Pi:=λZ' s L H Q I h=>
 Wu #[.ref s.heap.objs.size,_,I.laid (λ_ _ q=>qv _ q) (qx _) (J1 s.heap I.big),W,h _ (I.hok.fresh (qx _))]
structure M1(X:Cx)(o:Expr)(m:ai)(Zj:dn)(e:Expr)(Zg:dn):Prop where
 base:jt o m X.env (eval o X.env)=eval o X.env
 few:((ci Zg (aP [e] X.env)).all (λx=>!x.1) && (jX Zg (jY [] X.env)).all (λx=>x.1.isSome)
  && decide (([e]:Z Expr).length+([]:Z iT).length+(if ([]:Z iT).isEmpty then 0 else 1)<30))=ah
 line:(Zj.endLine==Zg.line)=ah
 trees:ci Zg (aP [e] X.env)=[(ar,eval e X.env)]
structure M2(X:Cx)(o:Expr)(m:ai)(Zj:dn)(e f:Expr)(Zg:dn):Prop where
 base:jt o m X.env (eval o X.env)=eval o X.env
 few:((ci Zg (aP [e,f] X.env)).all (λx=>!x.1) && (jX Zg (jY [] X.env)).all (λx=>x.1.isSome)
  && decide (([e,f]:Z Expr).length+([]:Z iT).length+(if ([]:Z iT).isEmpty then 0 else 1)<30))=ah
 line:(Zj.endLine==Zg.line)=ah
 trees:ci Zg (aP [e,f] X.env)=[(ar,eval e X.env),(ar,eval f X.env)]
def IsD(H:Hp)(a:av):Prop:=(∃YL,Rd H a (.dK YL))\/∃YL,Rd H a (.dT YL)
def xr(I:YS X Z' L H s)(d:IsD H a):
  s.TypeIs (.ref a) "dict"/\(∀b,cU a=.ref b->∃ob,s.heap.get? b=U ob/\ob.dict=B)/\(a==iP)=ar:=by
 rcases d with⟨YL,e⟩|⟨YL,e⟩
 .obtain⟨_,hd,vs,_,dd⟩:=gL I.hok e;show#[dd.typeIs,λb q=>?_,hd];cases q;let⟨ob,_,_,h1,h2,_⟩:=dd;show#[ob,h1,h2.2.1]
 .obtain⟨_,hd,xs,_,dd⟩:=jf I.hok e;show#[dd.typeIs,λb q=>?_,hd];cases q;let⟨ob,_,_,h1,h2,_⟩:=dd;show#[ob,h1,h2.2.1]
section
variable{d:V}{r:aw}{o:au V}
def JI(hu:A.units+1<ck)(I:YS X Z' L H s)(g:f8 H a y o)(ry:bI y u)(h:∀w' s',YS X Z' L H s'->bI (o.getD .non) w'->Q w' s'):
  aL .(t) A (call (.builtin "dict.get") [.ref a,u]) Q us s:=by
 rcases g with⟨YL,k,e,ey,l⟩|⟨YL,k,b,e,ey,eb,l⟩
 .subst ey;let⟨z,hd,vs,rel,dd⟩:=gL I.hok e;show wD sY dd.typeIs AZ (Wv _ _) (meets_dict_get (cS X.prog X.w) a (jK ry) hd) #[_,dd.mapOf,h _ _ (I.tok _) ?_];rw[l];show(rel.val k).getD W
 .subst ey;cases(ry);let⟨z,hd,xs,rel,dd⟩:=jf I.hok e;show wD sY dd.typeIs AZ (Wv _ _) (meetsH_dict_get (lV (cS X.prog X.w)) a b hd) #[sX hu,k,xs,kq I.hok eb,dd,h _ _ (I.tok _) ?_];rw[l];show(rel.val k).getD W
def UC(hu:A.units+1<ck)(I:YS X Z' L H s)(g:f8 H a y o)(ry:bI y u)(rd:bI d r)(h:∀w' s',YS X Z' L H s'->bI (o.getD d) w'->Q w' s'):
  aL .(t) A (call (.builtin "dict.get") [.ref a,u,r]) Q us s:=by
 rcases g with⟨YL,k,e,ey,l⟩|⟨YL,k,b,e,ey,eb,l⟩
 .subst ey;let⟨z,hd,vs,rel,dd⟩:=gL I.hok e;show wD sY dd.typeIs AZ (Ww _ _ _) (meets_dict_get_default (cS X.prog X.w) a (jK ry) hd r) #[_,dd.mapOf,h _ _ (I.tok _) ?_];rw[l];show(rel.val k).getD rd
 .subst ey;cases(ry);let⟨z,hd,xs,rel,dd⟩:=jf I.hok e;show wD sY dd.typeIs AZ (Ww _ _ _) (meetsH_dict_get_default (lV (cS X.prog X.w)) a b hd r) #[sX hu,k,xs,kq I.hok eb,dd,h _ _ (I.tok _) ?_];rw[l];show(rel.val k).getD rd
end
def T0(td ty:TE):TE:=λL H Q=>td L H λx H1=>∃a,x=.ref a/\IsD H1 a/\ty L H1 λy H2=>∃o,f8 H2 a y o/\Q (o.getD .non) H2
def R5(td ty tx:TE):TE:=λL H Q=>td L H λx H1=>∃a,x=.ref a/\IsD H1 a/\ty L H1 λy H2=>tx L H2 λz H3=>∃o,f8 H3 a y o/\Q (o.getD z) H3
def Jp(td ty:TE):TE:=λL H Q=>td L H λx H1=>∃a,x=.ref a/\IsD H1 a/\ty L H1 λy H2=>∃YL k v,H2 a=U (.dK YL)/\y=kV k/\fX YL k=U v/\Q v (YZ H2 a (.dK (lE YL k)))
section
variable{o f:Expr}{tx:TE}
def Qy(hu:X.A.units+1<ck)(ho:PE X o td)(he:PE X e ty)(m:M1 X o "get" Zj e Zg):PE X (.Call (.Attribute o "get" Zj) [e] [] Zg) (T0 td ty):=by intro Z' s L H Q I h;show HP m.base m.few m.line HQ sY Wx (Zf (ho Z' s L H _ I h) λu s1 #[x,H1,I1,rx,a,ex,d,q1]=>?_);subst ex;obtain rfl:u=cU a:=rx;let⟨t1,t2,_⟩:=xr I1 d;show#[t1,t2,?_];rw[m.trees];show AS W (AT (wx (Zf (he Z' s1 L H1 _ I1 q1) λiv s2 #[y,H2,I2,ry,ov,g,q2]=>AJ ?_)));show JI hu I2 g ry λw' s3 I3 Ò=>#[_,H2,I3,Ò,q2]
def Qe(hu:X.A.units+1<ck)(ho:PE X o td)(he:PE X e ty)(hf:PE X f tx)(m:M2 X o "get" Zj e f Zg):PE X (.Call (.Attribute o "get" Zj) [e,f] [] Zg) (R5 td ty tx):=by
 intro Z' s L H Q I h;show HP m.base m.few m.line HQ sY Wx (Zf (ho Z' s L H _ I h) λu s1 #[x,H1,I1,rx,a,ex,d,q1]=>?_);subst ex;obtain rfl:u=cU a:=rx;let⟨t1,t2,_⟩:=xr I1 d;show#[t1,t2,?_];rw[m.trees];show AS W (AT (wx (Zf (he Z' s1 L H1 _ I1 q1) λiv s2 #[y,H2,I2,ry,q2]=>
  wx (Zf (hf Z' s2 L H2 _ I2 q2) λfv s3 #[z,H3,I3,rz,ov,g,q3]=>AJ ?_))))
 show UC hu I3 g ry rz λw' s4 I4 Ò=>#[_,H3,I4,Ò,q3]
def LN(ho:PE X o td)(he:PE X e ty)(m:M1 X o "pop" Zj e Zg):PE X (.Call (.Attribute o "pop" Zj) [e] [] Zg) (Jp td ty):=by intro Z' s L H Q I h;show HP m.base m.few m.line HQ Ws PySem.F.type_dict_pop (Zf (ho Z' s L H _ I h) λu s1 #[x,H1,I1,rx,a,ex,d,q1]=>?_);subst ex;obtain rfl:u=cU a:=rx;let⟨t1,t2,_⟩:=xr I1 d;show#[t1,t2,?_];rw[m.trees];show AS W (AT (wx (Zf (he Z' s1 L H1 _ I1 q1) λiv s2 #[y,H2,I2,ry,YL,k,v,ea,ey,l,q2]=>AJ ?_)));subst ey;show L4 I2 ea ry l (.inl W) λw' s3 I3 Ò=>#[v,_,I3,Ò,q2]
end
variable{q:dD}{Ž:Z ai}{XP:(ai->au aw)->Heap->Prop}{YP:cD->Heap->Prop}
namespace Att
open PySem PySem.W PySem.Calls PyProof.Rows
def Mb{P:A4}{h:Heap}:∀(ns:Z aj)(vs:Z aw),WellAll P h vs (ns.map Wy)->kP vs ns:=by
 intro ns
 induction ns with
 |nil=>
  intro vs w;rw[qQ] at w;cases w;show .nil
 |cons n ns ih=>
  intro vs w;rw[qp] at w;cases w with
  |cons a b=>
   cases a;show .cons _ _ (ih _ b)
def S1{l:OpenLaw}(hn:l.most=U n){P:A4}{h:Heap}{args:Z WData}{vals:Z aw} 
  (hpre:l.row.toRowW.claim.pre args=ah)(hwl:WellAll P h vals args):
  ∃a vs ns,vals=[cU a]/\args=[WData.list (ns.map Wy)]/\h.get? a=U {cls:=.type "list",data:=.seq vs.toArray}/\kP vs ns/\ns.length<=n:=by
 let hsh:WShape.hasAll [] args [.list .int]=ah:=(pre_splitW hpre).1;let hc:l.pre.holds [] {args:=args}=ah:=(pre_splitW hpre).2;let⟨d,r,rfl,h1,h2⟩:=hasAllW_cons hsh;obtain rfl:=hasAllW_nil h2;let⟨xs,rfl,h3⟩:=hasW_list h1;let⟨ns,rfl⟩:=items_int h3;let Y5:ns.length<=n:=by
  let h4:(WTm.not (.lt (.lit (.int (n:aj))) (.len (.arg 0)))).holds [] {args:=[.list (ns.map .int)]}=ah:=by let h4:=(holds_andW hc).1;rw[hn] at h4;show h4
  let h5:=condW_of h4 (w_not (w_lt w_lit (w_len_list (w_arg W))));rw[qg] at h5;show Nat.le_of_not_lt λq=>?_
  first
   |(rw[qU q'] at h5;show bH h5)
   |(simp at h5;ext)
 cases hwl with
 |cons w1 w2=>
  cases w2;cases w1 with
  |list ho ħ=>show#[_,_,ns,W,W,ho,Mb ns _ ħ,Y5]
def NT(l:OpenLaw)(args:Z WData):l.row.toRowW.claim.post args (.bool ah) args=ah:=
 postW_of
  (by first|rfl|decide|simp[WShape.has,WShape.arms,WShape.armsAll])
  (w_eq_bool (w_res W) w_lit) W
def attach_call{l:OpenLaw}{d:DefRec} 
  (hn:l.most=U n)(hdf:d.params.defaults=[])
  (call:∀(w:cD)(Z6 Z7:aH)(mg mb:ai->au aw)(fa:av)(o:Obj)(pm cd Zp:aw)(a:av)(vs:Z aw)(ns:Z aj),
   Ground q Ž [] XP w Z6 mg mb Z7.heap->YP w Z7.heap->
   Z7.heap.get? fa=U o->o.data=.func (docDef d.name d.params d.body d.scope pm cd Zp)->Z7.heap.CodeRec cd d.name->mg d.name=U (.ref fa)->
   Z7.heap.get? a=U {cls:=.type "list",data:=.seq vs.toArray}->kP vs ns->ns.length<=n->Z7.gens=#[]->
   gF (aM l.prog w) pJ (.call (.ref fa) #[[.ref a],[]]) (λr s'=>r=.ok (.ret (.bool ah))/\OldK Z7.heap s'.heap/\s'.os=Z7.os/\lX s'.gens) Z7):
  WalkO q Ž XP YP l.row.toRowW d [] (λf vs=>HR f vs):=by
 intro w Z6 Z7 mg mb G ρ fa o pm cd Zp dV kV ho hd À hD hmg hg args vals as hpre hlay hrd hwl hlo;obtain rfl:dV=.none:=Dflts.none hD hdf;obtain rfl:kV=.none:=Dflts.noKw hD;let⟨a,vs,ns,rfl,rfl,hobj,hints,Y5⟩:=S1 hn hpre hwl;show enter_call (pz (call w Z6 Z7 mg mb fa o pm cd Zp a vs ns G ρ ho (fd_plain hd) À hmg hobj hints Y5 hg) λr s' hq=>?_);let⟨rfl,h2,h3,h4⟩:=hq;show#[.inl #[.bool ah,.bool ah,[],W,λ_=>rfl,.bool ah,NT l _,λ_=>#[Wz,λ_ hm=>(nomatch hm)]],h2,h3,h4]
section
variable{K:aT}
noncomputable def XX(h:Heap)(σ d:av):Z (av×Obj):=(cC h.objs.size).filterMap λa=>if a=σ\/a=d then B else (h.get? a).map λo=>(a,o)
end
end Att
def G8:∀{vs:Z aw}{ns:Z aj},kP vs ns->bj (ns.map V.int) vs
 |_,_,.nil=>.nil
 |_,_,.cons n t h=>.cons #[t,W] (G8 h)
def zw(H:Hp):Prop:=∀b,H b=B\/∃o xs,H b=U (.frz o (.lst xs))
def Um{mb:ai->au aw}{k:ag}{fa:av}{Z7:aH}{vs:Z aw}{ns:Z aj} 
  (KX:K.In Z7.heap)(hns:Z7.heap.Ns fK mg)(C:Z7.heap.Ns Hr mb)(hbb:∀x:ai,x≠"__name__"->mb x=eq x)(hlim:Z7.heap.NoLimit)(hg:Z7.gens=#[])
  (ha:Z7.heap.get? a=U {cls:=.type "list",data:=.seq vs.toArray})(hi:kP vs ns)(hl:ns.length<=aK)(hr:ZH k pJ)
  (F:∀base:Heap,K.In base->base.Ns fK mg->Zt P w K mg base CX k fa fd [x] sp)(hbind:∀(s:aH)(u:aw),px s fd #[[u],[]] [(x,u)])
  (hsp:∀H:Hp,zw H->ñ K H a (ns.map V.int)->sp [.ref a] H (λv _=>v=.bl ah) λ_ _ _=>False)
  (hCX:∀H e s',CX [] H Z7 (λ_ _ _=>False) e s'->False):
  gF (aM P w) pJ (.call (.ref fa) #[[.ref a],[]]) (λr s'=>r=.ok (.ret (.bool ah))/\OldK Z7.heap s'.heap/\s'.os=Z7.os/\lX s'.gens) Z7:=by
 let rv:=G8 hi;let lenV:=hi.length;let core:∀H:Hp,zw H->ñ K H a (ns.map V.int)->ì P w H Z7.heap->(∀b,H b≠B->b=a)->(H a≠B->K.lookup a=B)->
   gF (aM P w) pJ (.call (.ref fa) #[[.ref a],[]]) (λr s'=>r=.ok (.ret (.bool ah))/\OldK Z7.heap s'.heap/\s'.os=Z7.os/\lX s'.gens) Z7:=by
  intro H hO hS hok hA hK;let Ζ:∀{b:av}{o:Obj},Z7.heap.get? b=U o->H b=B->(km Z7.heap H).get? b=U o:=λe n=>Lw e n;let noA:∀{b:av}{o:Obj}{es:bK sZ}{ep:ag},Z7.heap.get? b=U o->o.data=.dict es ep->H b=B:=λ{b o es ep}e d=>by
   cases q:H b with
   |none=>rfl
   |some u=>
    let e':b=a:=hA b (by rw[q];simp);subst e';rw[ha] at e;cases e;let d':Data.seq vs.toArray _=Data.dict es ep:=d;cases d'
  let nsK:∀{b:av}{m:ai->au aw},Z7.heap.Ns b m->(km Z7.heap H).Ns b m:=λ{b m} #[o,es,ep,e,d,r]=>#[o,es,ep,Ζ e (noA e d),d,r];let hKb:K.In (km Z7.heap H):=λb o e=>Ζ (KX b o e) (by
   cases q:H b with
   |none=>rfl
   |some u=>
    let e':b=a:=hA b (by rw[q];simp);subst e';rw[hK (by rw[q];simp)] at e;cases e)
  let hM:Mod K mg (km Z7.heap H):=#[hKb,nsK hns,#[mb,nsK C,hbb],let #[mc,h1,h2]:=hlim;#[mc,nsK h1,h2]];let e0:Ŷ P w K mg (km Z7.heap H) pJ [] Z7 H:=#[W,hM,λb o e=>Jx e,AI (MU _ _),trivial,λb C=>bH (show b∈([]:Z av) from C) (by simp),hok,.of_eq hg];show pz ((F _ hKb (nsK hns)).run pJ [] Z7 H #[[.ref a],[]] [.ref a] [.ref a] _ _ hr e0 (hbind Z7 (.ref a)) (.cons W .nil) (hsp H hO hS)) λr s' h=>?_;cases r with
  |error e=>show(hCX H e s' h).elim
  |ok fl=>
   cases fl with
   |next=>show iR h
   |brk=>show iR h
   |cont=>show iR h
   |ret u=>
    let⟨v,H',os,bare,un,hok',r',q⟩:=h;let q':v=.bl ah:=q;subst q';obtain rfl:u=lU ah:=r';show#[W,OldK.of_keep λb o e=>?_,os,bare];cases q:H b with
    |none=>show un.keep b o e q (by intro z;show bH (show b∈([]:Z av) from z) (by simp)) (by simp)
    |some u=>
     rcases hO b with z|⟨ob,xs,z⟩
     .rw[q] at z;cases z
     .let z2:=un.frzs b ob _ z;let⟨e1,_⟩:=hok b _ z;let⟨e2,_⟩:=hok' b _ z2;rw[e] at e1;cases e1;show e2
 cases hk:K.lookup a with
 |some o=>
  let e:=KX a o hk;rw[ha] at e;cases e;show core (λ_=>B) (λ_=>.inl W) (.inr #[_,vs.toArray,_,hk,W,W,W,by rw[qC,lenV];show hl,by simpa using rv]) (λb u z=>by let z':(B:au HO)=U u:=z;cases z') (λb z=>bH W z) λz=>bH W z
 |none=>
  show core (λb=>if b=a then U (.frz {cls:=.type "list",data:=.seq vs.toArray} (.lst (ns.map V.int))) else B) (λb=>?_) (.inl (.inr #[{cls:=.type "list",data:=.seq vs.toArray},qY W])) (λb u z=>?_) (λb z=>?_) λ_=>hk
  .by_cases C:b=a
   .exact .inr #[_,_,qY C]
   .exact .inl (qZ C)
  .by_cases C:b=a
   .let z':=(qY C).symm.trans z;cases z';subst C;show#[ha,by rw[qg];show hl,vs,_,rv,ha]
   .let z':=(qZ C).symm.trans z;cases z'
  .by_cases C:b=a
   .exact C
   .exact bH (qZ C) z
noncomputable abbrev Θ{h:Heap}(_:K.In h):aT:=K
def walk_of{l:HS}{k:ag}{d:DefRec}{K:A4->aT}{CX:cD->CXT}{sp:cD->Sp} 
  (hn:l.most=U n)(hn2:n<=aK)(hdf:d.params.defaults=[])(hr:ZH k pJ)
  (hY:∀(w:cD)(h:Heap),YP w h->(K w.params).In h)
  (F:∀(w:cD)(mg:ai->au aw)(fa:av)(h:Heap),(K w.params).In h->h.Ns fK mg->mg d.name=U (.ref fa)->
   ∃fd:kN,(∀(s:aH)(u:aw),px s fd #[[u],[]] [(x,u)]) /\
    ∀base:Heap,(K w.params).In base->base.Ns fK mg->Zt l.prog w (K w.params) mg base (CX w) k fa fd [x] (sp w))
  (hsp:∀(w:cD)(H:Hp)(a:av)(ns:Z aj),ns.length<=n->zw H->ñ (K w.params) H a (ns.map V.int)->sp w [.ref a] H (λv _=>v=.bl ah) λ_ _ _=>False)
  (hCX:∀(w:cD)(H:Hp)(s:aH)(e:aw)(s':aH),CX w [] H s (λ_ _ _=>False) e s'->False):
  WA q Ž XP YP l.row.toRowW d [] (λf vs=>HR f vs):=by
 show Att.attach_call hn hdf λw Z6 Z7 mg mb fa o pm cd Zp a vs ns G ρ ho hd À hmg hobj hints Y5 hg=>?_;let KX:=hY w _ ρ;let⟨fd,C,hF⟩:=F w mg fa _ KX G.T.g hmg;show Um KX G.T.g G.T.b G.T.builtins G.T.nolimit hg hobj hints (qO Y5 hn2) hr hF C (λH hO hS=>hsp w H a ns Y5 hO hS) λH e s'=>hCX w H Z7 e s'
noncomputable def bD(s:Stmt)(j:ag):Stmt:=match s with
 |.ClassDef _ _ _ body _ _ _ _ _ _ _=>body.getD j (.Pass #[0,0,0,0])
 |_=>.Pass #[0,0,0,0]
noncomputable def c7(s:Stmt):Arguments:=match s with
 |.FunctionDef _ a _ _ _ _ _ _ _ _=>a
 |_=>{posonlyargs:=[],args:=[],vararg:=B,kwonlyargs:=[],kw_defaults:=[],kwarg:=B,defaults:=[]}
noncomputable def bZ(s:Stmt):Z Stmt:=match s with
 |.FunctionDef _ _ b _ _ _ _ _ _ _=>b
 |_=>[]
noncomputable def aD(s:Stmt):Scope:=match s with
 |.FunctionDef _ _ _ _ _ _ sc _ _ _=>sc
 |_=>{kind:=.function,names:=[],isGenerator:=ar,isCoroutine:=ar}
noncomputable abbrev ø:CXT:=λ_ _ _ _ _ _=>False
noncomputable abbrev E0:XK:=λ_ _ _=>False
def ko:mU ø X E0:=λ_ _ _ _ _ _ _ h=>h.elim
structure Ş(K:aT)(x qual:ai)(st:Stmt)(f:av)(fd:kN):Prop where
 ex:∃(oc:aw)(od:au av)(kV Zp pm:aw)(an:au av)(Y0 ct:aw)(ŕ:bK (au aw)),
  fd=cZ x qual (c7 st) (bZ st) (aD st) .none kV Zp pm an Y0 ct/\K.lookup f=U #[oc,od,.func fd,ŕ]/\nI K Y0 qual=ah
 kp:fS K (.ref f)=ah
def Ş.ok{st:Stmt}{f:av}{k:ag}(F:Ş K x qual st f fd)(S:ZC N ps (aD st))(len:∀vs H Q us,sp vs H Q us->vs.length=ps.length)
  (Y6:∀(Y0:aw)(A:cH)(outer:Z cA)(s:aH)(H:Hp)(vs:Z V)(Q:VK)(us:XK),ZH k .(j)->sp vs H Q us->
   ∃t,Ś .(i).nox (bZ st) t/\t {nx:=λ_ H'=>Q .non H',rt:=Q} (dX N vs) H):Zt P w K mg base ø (k+1) f fd ps sp:=by
 let⟨oc,od,kV,Zp,pm,an,Y0,ct,ŕ,rfl,lk,À⟩:=F.ex;show El lk À S len λA outer s H vs Q us hr hsp=>?_;let⟨t,h,q⟩:=Y6 Y0 A outer s H vs Q us hr hsp;show#[t,h.nox,q]
def Ş.binds{st:Stmt}{f:av}(F:Ş K x qual st f fd)
  (h:∀(kV Zp pm:aw)(an:au av)(Y0 ct:aw)(E:Z aw),E.length=ps.length->eN (cZ x qual (c7 st) (bZ st) (aD st) .none kV Zp pm an Y0 ct) #[E,[]]=bd (ps.zip E)):ff K fd ps []:=by
 let⟨oc,od,kV,Zp,pm,an,Y0,ct,ŕ,rfl,lk,À⟩:=F.ex;show .all (h kV Zp pm an Y0 ct)
def z7{st:Stmt}{f:av}{kV:aw}(l:K.lookup f=U #[oc,od,.func (cZ x qual (c7 st) (bZ st) (aD st) .none kV Zp pm an Y0 ct),ŕ])
  (c:nI K Y0 qual=ah)(k:fS K (.ref f)=ah):Ş K x qual st f (cZ x qual (c7 st) (bZ st) (aD st) .none kV Zp pm an Y0 ct):=#[#[oc,od,kV,Zp,pm,an,Y0,ct,ŕ,W,l,c],k]
def pv(i:ag)(hN:X.N[i]?=U x:=by rfl)(hv:ŋ X.env.scope x:=by ac_nf)(hd:.(r)=ar:=by decide)
  (À:(x==("__classdict__":ai))=ar:=by decide):PE X (.Name x pos) (DR i):=fM hN hv hd À
def lB{A af:Prop}(h:af):if ar=ah then A else af:=by rw[qZ qu];show h
def lc{A af:Prop}(h:A):if ah=ah then A else af:=by rw[qY W];show h
def aY(H H':Hp):Prop:=∀b o,H b=U o->H' b=U o
def aY.refl(H:Hp):aY H H:=λ_ _ h=>h
def aY.trans(a:aY H H1)(b:aY H1 H2):aY H H2:=λc o h=>b c o (a c o h)
def aY.free(e:aY H H')(h:H' l=B):H l=B:=by
 cases q:H l with
 |none=>rfl
 |some o=>
  rw[e l o q] at h;cases h
def aY.seq{xs:Z V}(e:aY H H')(h:ñ K H a xs):ñ K H' a xs:=by
 rcases h with(h|⟨o,h⟩)|h
 .exact .inl (.inl (e _ _ h))
 .exact .inl (.inr #[o,e _ _ h])
 .exact .inr h
variable{ő:Expr}{ō:Z Expr}
def RN{R:l5->aH->Prop}{ą:Expr}{it YT:aw}(I:ag->aH->Prop)
  (turn:∀n s,I n s->aL .(z) A (kI it) (λr Z7=>match r with
   |none=>R (.ok .next) Z7
   |some v=>aL .(z) A (AE ą it v) (λ_ ZQ=>aL .(z) A (pp ą env v) (λ_ Z4 =>
     aL .(z) A (forIn ō ah λc r=>if r=ah then do let ok ←isTrue c env (eval c env);bd (tf ok) else bd (tf r)) (λok Z0 =>
      if ok=ah then aL .(z) A (eval ő env) (λx ZR =>
       aL .(z) A (call (.builtin "list.append") [YT,x]) (λ_ ZN=>∃m,m<n/\I m ZN) (λ_ _=>False) ZR) (λ_ _=>False) Z0
      else ∃m,m<n/\I m Z0) (λ_ _=>False) Z4) (λ_ _=>False) ZQ) (λ_ _=>False) Z7) (λ_ _=>False) s)
  (n:ag)(h:I n s):
  gF .(z) A (.compLoop (.ListComp ő [#[ą,iter,ō,0]] scope pos) 0 it YT env) R s:=by
 show codeAny_loop W I (λn s hI=>?_) n h;show wpAny_noted ?_;rw[compTurn_list];show qy (HU (qy (iQ (turn n s hI) (λr Z7 ZX=>?_) λ_ _ h'=>h'.elim)));cases r with
 |none=>show qB ZX
 |some v=>
  show qy (iQ ZX (λ_ ZQ ZM=>?_) λ_ _ h'=>h'.elim);show qy (iQ ZM (λ_ Z4 Z2=>qy (iQ Z2 (λok Z0 ZS=>?_) λ_ _ h'=>h'.elim)) λ_ _ h'=>h'.elim);cases ok with
  |false=>show qB #[W,ZS]
  |true=>
   show qy (qy (iQ ZS (λx ZR h₄=>qy (iQ h₄ (λ_ ZN h₅=>qB (qB #[W,h₅])) λ_ _ h'=>h'.elim)) λ_ _ h'=>h'.elim))
noncomputable def i6(X:Cx)(N':Z ai)(scope:Scope)(cl:Z (ai×av))(hb:av)(Z6:aH)(Z9:Hp)(fp:Z av):Cx:=
 {X with N:=N',Z6:=Z6,Z9:=Z9,env:=HV scope cl hb X.env,outer:=X.stack,stack:=X.stack,ex:=fp,fn:=λ_=>ar,pn:=[],xe:=λ_ _=>False}
noncomputable def gr(env:cA):Z (ai×ir)->Z (ai×av)->Z (ai×av)
 |[],YT=>YT
 |(n,k)::r,YT=>gr env r (if k==.free then (match env.cells.lookup n with|some c=>(n,c)::YT|none=>YT) else YT)
def Lk(h:∀y∈scope.names,y.2=.free->∃c,env.cells.lookup y.1=U c):closureFor scope env=bd (gr env scope.names []):=by
 let all:∀(l:Z (ai×ir))(YT:Z (ai×av)),(∀y∈l,y.2=.free->∃c,env.cells.lookup y.1=U c)->
   (forIn l YT λx r=>match x with
    |(name,kind)=>if kind==.free then do let c ←cellOf env name;bd (tf ((name,c)::r)) else bd (tf r):Sem (Z (ai×av)))=bd (gr env l YT):=by
  intro l
  induction l with
  |nil=>intro YT _;rfl
  |cons y r ih=>
   intro YT hl;let⟨n,k⟩:=y;rw[List.forIn_cons];let hr:∀y∈r,y.2=.free->∃c,env.cells.lookup y.1=U c:=λy hy=>hl y (qi _ hy);unfold gr;cases hk:(k==nO) with
   |false=>
    simp only[hk,qt,cK,pure_bind];show ih YT hr
   |true=>
    let⟨c,hc⟩:=hl (n,k) qh (by simpa using hk);let χ:env.cells.lookup n=U c:=hc;simp only[hk,cI,cellOf,χ,pure_bind];show ih _ hr
 let e:=all scope.names [] h;show Eq.trans (bind_pure _) e
def Cj:∀(l:Z (ai×ir))(YT:Z (ai×av)),(∀x c,YT.lookup x=U c->env.cells.lookup x=U c)->∀x c,(gr env l YT).lookup x=U c->env.cells.lookup x=U c:=by
 intro Y7
 induction Y7 with
 |nil=>
  intro _ h;show h
 |cons x0 r ih=>
  let⟨n,k⟩:=x0;intro YT h;show ih _ ?_;split
  .split
   .rename_i c hc;intro x d hx;rw[pK] at hx;cases e:x==n with
    |true=>
     rw[e] at hx;let e':x=n:=by simpa using e
     let e2:c=d:=qI hx;rw[e',<-e2];show hc
    |false=>rw[e] at hx;show h x d hx
   .exact h
  .exact h
def QI:∀(l:Z (ai×ir))(YT:Z (ai×av))(x:ai),(YT.lookup x).isSome=ah->((gr env l YT).lookup x).isSome=ah:=by
 intro Y7
 induction Y7 with
 |nil=>
  intro _ _ h;show h
 |cons x0 r ih=>
  let⟨n,k⟩:=x0;intro YT x h;show ih _ x ?_;split
  .split
   .rw[pK];split
    .rfl
    .exact h
   .exact h
  .exact h
def CA:∀(l:Z (ai×ir))(YT:Z (ai×av))(x:ai)(c:av),(x,nO)∈l->env.cells.lookup x=U c->((gr env l YT).lookup x).isSome=ah:=by
 intro Y7
 induction Y7 with
 |nil=>
  intro _ _ _ h _;show nomatch h
 |cons x0 r ih=>
  let⟨n,k⟩:=x0;intro YT x c h hc;rcases cm.mp h with e|h
  .injection e with e1 e2;subst e1;subst e2;show QI r _ _ ?_;rw[qY (by rfl),hc];simp
  .exact ih _ x c h hc
def t8{env:cA}:∀(names:Z (ai×ir))(x:ai)(k':ir),
  (names.map λ(n,k)=>if (k==nO && env.scope.kind==.function && env.kindOf n==U .cell) then (n,A6) else (n,k)).lookup x=U k'->
  names.lookup x=U k'\/(k'=.cell/\names.lookup x=U .free)
 |[],_,_,h=>by simp at h
 |(n,k)::r,x,k',h=>by
  let ih:=@t8 env r x k';let h':c9 x ((if (k==nO && env.scope.kind==.function && env.kindOf n==U .cell)=ah then (n,A6) else (n,k))::(r.map λ(n,k)=>if (k==nO && env.scope.kind==.function && env.kindOf n==U .cell) then (n,A6) else (n,k)))=U k':=h;cases hx:x==n with
  |true=>
   by_cases hc:(k==nO && env.scope.kind==.function && env.kindOf n==U .cell)=ah
   .rw[qY hc] at h';simp only[pK,hx] at h' ⊢;let hk:k=.free:=by simp only[dB,kL] at hc;show hc.1.1
    right
    show#[(qI h').symm,by rw[hk]]
   .rw[qZ hc] at h';simp only[pK,hx] at h' ⊢;show .inl h'
  |false=>
   let h2:c9 x (r.map λ(n,k)=>if (k==nO && env.scope.kind==.function && env.kindOf n==U .cell) then (n,A6) else (n,k))=U k':=by
    by_cases hc:(k==nO && env.scope.kind==.function && env.kindOf n==U .cell)=ah
    .rw[qY hc] at h';simpa only[pK,hx] using h'
    .rw[qZ hc] at h';simpa only[pK,hx] using h'
   simp only[pK,hx];show ih h2
structure Zd(X:Cx)(scope:Scope):Prop where
 kind:scope.kind=.function
 nocell:∀y∈scope.names,y.2≠.cell
 names:∀y∈scope.names,y.2=.local->scope.names.lookup y.1=U .local
 free:∀y∈scope.names,y.2=.free->X.env.kindOf y.1=U .cell\/X.env.kindOf y.1=U .free
noncomputable def iN(fv:Z (au ag))(L:St):St:=fv.map λo=>o.bind λj=>(L[j]?).join
variable{N':Z ai}{fv:Z (au ag)}
def GM(I:YS X Z' L H s)(S:Zd X scope):closureFor scope X.env=bd (gr X.env scope.names []):=
 Lk λy hy hf=>I.ok.has y.1 (S.free y hy hf)
def U2(I:YS X Z' L H s)(S:Zd X scope)(hf:∀b∈fp,gZ X Z' H b)(Zu:∀b∈fp,b<s.heap.objs.size)(hC:s.heap.objs.size<=hb):
  (i6 X N' scope (gr X.env scope.names []) hb s H fp).Ok:=by
 let sub:=Cj (env:=X.env) scope.names [] (λx c h=>by simp at h);show#[I.ok.mod,S.kind,I.ok.glob,I.ok.blt,hC,λx y c h1 h2=>I.ok.inj x y c (sub x c h1) (sub y c h2),λx hx=>?_,λx c h _=>by simp[i6] at h,I.ok.hd,I.ok.frames,.inl W,λb C=>#[?_,λx c e=>?_],I.bs,qO I.ok.bsz I.sz,
  λb o e C=>?_,λb C=>?_,I.stack,I.stkFree]
 .let hx':((A7 scope X.env).names.lookup x=U .cell\/(A7 scope X.env).names.lookup x=U .free):=hx;let τ:scope.names.lookup x=U .free:=by
   rcases hx' with h|h
   .rcases t8 _ _ _ h with h|⟨_,h⟩
    .exact bH W (S.nocell _ (nF h))
    .exact h
   .rcases t8 _ _ _ h with h|⟨h,_⟩
    .exact h
    .cases h
  let hm:=nF τ;let⟨c,hc⟩:=I.ok.has x (S.free _ hm rfl);show sR.mp (CA _ _ x c hm hc)
 .exact qD (qG (Zu b C) hC)
 .exact(hf b C).2.2.2.2.1 x c (sub x c e)
 .rcases(hf b C).2.2.2.1 with z|z
  .exact I.ok.noex b o e z
  .exact bH (qG (qw e) I.ok.bsz) (HW.mpr z)
 .intro z;rcases cm.mp (I.stkSub b z) with e|e
  .exact(hf b C).2.1 e
  .exact(hf b C).2.2.1 e
def Nv(I:YS X Z' L H s)(S:Zd X scope)(hf:∀b∈fp,gZ X Z' H b)(Zu:∀b∈fp,b<s.heap.objs.size)(hC:hb=s.heap.objs.size)(Y5:fv.length=N'.length)
  (hfv:∀(i j:ag)x,N'[i]?=U x->fv[i]?=U (U j)->X.N[j]?=U x/\(X.env.kindOf x=U .cell\/X.env.kindOf x=U .free)/\scope.names.lookup x=U .free){m:ai->au aw}(hn:h'.Ns hb m)(hk:∀b o,s.heap.get? b=U o->h'.get? b=U o):
  YS (i6 X N' scope (gr X.env scope.names []) hb s H fp) [] (iN fv L) H {s with heap:=h',toks:=t'}:=by
 let ok:=U2 (N':=N') I S hf Zu (AI hC.symm);let sub:=Cj (env:=X.env) scope.names [] (λx c h=>by simp at h);show#[ok,W,I.bare,Un.kept hk,#[m,hn,λi x v e1 e2 e3=>?_],λx c e=>?_,?_,λx c e=>I.freeC x c (sub x c e),λp hp=>?_,I.hok.kept hk,?_]
 .let Ų:N'[i]?=U x:=e1;let ı:(iN fv L)[i]?=U (U v):=e2;unfold iN at ı;rw[qm] at ı;cases q:fv[i]? with
  |none=>rw[q] at ı;cases ı
  |some o=>
   rw[q] at ı;cases o with
   |none=>cases ı
   |some j=>
    let Ω:(L[j]?).join=U v:=by simpa using ı
    let⟨hN,Β,ŗ⟩:=hfv i j x Ų q;let hσ:L[j]?=U (U v):=by
     cases z:L[j]? with
     |none=>rw[z] at Ω;cases Ω
     |some w=>rw[z] at Ω;cases w with
      |none=>cases Ω
      |some w'=>simp at Ω;rw[Ω]
    let⟨m0,hn0,hl⟩:=I.loc;let⟨u,r,l⟩:=hl j x v hN hσ (.inr Β);show#[u,r,.inr #[?_,?_]]
    .rcases e3 with z|z|z
     .let z':(A7 scope X.env).names.lookup x=U .local:=z;rcases t8 _ _ _ z' with y|⟨y,_⟩
      .rw[ŗ] at y;cases y
      .cases y
     .exact .inl z
     .exact .inr z
    .rcases l with⟨k,_⟩|⟨_,c,hc,Δ⟩
     .rcases Β with y|y
      .rw[k] at y;cases y
      .rw[k] at y;cases y
     .obtain⟨c',χ⟩:=sR.mp (CA scope.names [] x c (nF ŗ) hc);let e:=sub x c' χ;rw[hc] at e;cases e;let⟨oc,ho,hd⟩:=Δ;show#[c,χ,oc,hk _ _ ho,hd]
 .obtain⟨v,oc,ho,hd⟩:=I.cell x c (sub x c e);show#[v,oc,hk _ _ ho,hd]
 .exact I.hok.fresh (AI hC.symm)
 .exact bH (show p∈([]:Z (av×Obj)) from hp) (by simp)
 .show(iN fv L).length=N'.length;unfold iN;rw[qg,Y5]
def S4(I:YS X Z' L H s){cl:Z (ai×av)}(hf:∀b∈fp,gZ X Z' H b)(hC:s.heap.objs.size<=hb){Z5:St}{pl:Z (av×Obj)} 
  (ao:YS (i6 X N' scope cl hb s H fp) pl Z5 H' s')(hs:gW hb s'.heap h'):YS X Z' L H' {s' with heap:=h'}:=by
 let hCn:H' hb=B:=ao.free;show I.call' ao.os ?_ ?_ ao.bare λb C=>#[(hf b C).2.2.2.1,(hf b C).2.1,(hf b C).2.2.2.2.1,(hf b C).2.2.2.2.2]
 .let aa:Un (ω X.stack) fp H H' s.heap s'.heap:=ao.base;let neC:∀b o,s.heap.get? b=U o->b≠hb:=λb o e=>qD (qG (qw e) hC);show#[λb o e n h1 h2=>?_,λb o e n h1 h2=>?_,aa.free,λb o e h2=>?_,aa.tups,aa.frzs,aa.tbls]
  .exact(hs.2 b (neC b o e)).trans (aa.keep b o e n h1 h2)
  .obtain⟨sl,q⟩:=aa.slot b o e n h1 h2;show#[sl,(hs.2 b (neC b o e)).trans q]
  .obtain⟨o',q⟩:=aa.there b o e h2;show#[o',(hs.2 b (neC b o e)).trans q]
 .intro b u e;show(ao.hok b u e).stay (λc v hc q=>(hs.2 c ?_).trans q) (λ_ q=>q) λ_ _ q=>q;rintro rfl;rcases hc with z|z
  .rw[<-z,hCn] at e;cases e
  .rw[hCn] at z;cases z
def PTs(X:Cx)(es:Z Expr)(t:TT):Prop:=
 ∀(Z':Z (av×Obj))(s:aH)(L:St)(H:Hp)(Q:aJ->Hp->Prop),YS X Z' L H s->t L H Q->
  aL .(t) X.A (forIn es ah λc r=>if r=ah then do let ok ←isTrue c X.env (eval c X.env);bd (tf ok) else bd (tf r)) (TP X Z' L Q) X.xe s
noncomputable def Rp:TT:=λ_ H Q=>Q ah H
def Q4:PTs X [] Rp:=λ_ _ _ H _ I h=>wpAny_tests_nil #[H,I,h]
def SN{c:Expr}{t:TT}(hc:PT X c t):PTs X [c] t:=λZ' s L H Q I h=>wpAny_tests_one (hc Z' s L H Q I h)
def LcW(ao:It)(g:TG)(tc:TT)(te:TE)(YT:av)(Q:V->Hp->Prop)(σ0:St)(H1:Hp):Prop:=
 ∃YJ:ag->ag->Z V->St->Hp->Prop,(∃m,YJ 0 m [] σ0 (YZ H1 YT (.lst [])))/\∀i m ys Z5 H',YJ i m ys Z5 H'->H' YT=U (.lst ys) /\
  ((ao.stop i H'/\Q (.ref YT) H')\/(ao.go i H'/\∀x H2,ao.yld i H' x H2->g x Z5 H2 λZU H3=>tc ZU H3 λb H4=>
   if b=ah then te ZU H4 λv H5=>H5 YT=U (.lst ys)/\ys.length<aK/\∃m',m'<m/\YJ (i+1) m' (ys++[v]) ZU (YZ H5 YT (.lst (ys++[v])))
   else ∃m',m'<m/\YJ (i+1) m' ys ZU H4))
def tLC(wi:TI)(g:TG)(tc:TT)(te:TE)(fv:Z (au ag)):TE:=λL H Q=>wi L H λao H1=>∀YT,H1 YT=B->LcW ao g tc te YT Q (iN fv L) H1
def PB(X:Cx)(N':Z ai)(scope:Scope)(tg:Expr)(ō:Z Expr)(ő:Expr)(g:TG)(tc:TT)(te:TE):Prop:=
 ∀(cl:Z (ai×av))(hb:av)(Z6:aH)(Z9:Hp)(fp:Z av),PG (i6 X N' scope cl hb Z6 Z9 fp) tg g/\PTs (i6 X N' scope cl hb Z6 Z9 fp) ō tc/\PE (i6 X N' scope cl hb Z6 Z9 fp) ő te
structure Ğ(X:Cx)(N':Z ai)(scope:Scope)(fv:Z (au ag)):Prop where
 len:fv.length=N'.length
 at':∀(i j:ag)x,N'[i]?=U x->fv[i]?=U (U j)->X.N[j]?=U x/\(X.env.kindOf x=U .cell\/X.env.kindOf x=U .free)/\scope.names.lookup x=U .free
variable{py Œ:dn}
section
variable{g:TG}
def B2{s2:aH}{it:av}{tn:ag->Heap->Prop}{ao:It}{Q:VK}{RR:aw->av->l5->aH->Prop}(hc:X.calm=ah)(S:Zd X scope)(F:Ğ X N' scope fv)(C:PB X N' scope tg ō ő g tc te)
  (I2:YS X Z' L H1 s2)(T:ī X.prog X.w X.K tg ao fp it tn)(st2:tn 0 s2.heap)(f2:∀b∈fp,gZ X Z' H1 b)(q:∀YT,H1 YT=B->LcW ao g tc te YT Q (iN fv L) H1)
  (hRR:∀(a hb:av)(H':Hp)(s':aH)(m:ai->au aw),s'.heap.Ns hb m->(∀h',gW hb s'.heap h'->YS X Z' L H' {s' with heap:=h'})->gZ X Z' H' hb->Q (.ref a) H'->RR (.ref a) hb (.ok .next) s'):
  aL .(t) X.A (newList []) (λYT Z0=>aL .(t) X.A (newFunctionEnv scope X.env.globals (gr X.env scope.names []) [] X.env.qual B .none (U X.env)) (λcenv ZR =>
   gF .(t) X.A (.compStart .(q) 0 (.ref it) YT {cenv with scope:=A7 scope X.env}) (RR YT cenv.locals) ZR) X.xe Z0) X.xe s2:=by
 show ju ?_;let Ä:H1 s2.heap.objs.size=B:=I2.fresh;let I3:YS X Z' L (YZ H1 s2.heap.objs.size (.lst [])) {s2 with heap:=s2.heap.push {cls:=.type "list",data:=.seq ([]:Z aw).toArray} }:=I2.lnew .nil (fy _);generalize hs3:({s2 with heap:=s2.heap.push {cls:=.type "list",data:=.seq ([]:Z aw).toArray} }:aH)=s3 at I3 ⊢;let up:∀b o,s2.heap.get? b=U o->s3.heap.get? b=U o:=λb o e=>by rw[<-hs3];show qv _ e
 let lt2:∀b∈fp,b<s2.heap.objs.size:=λb C=>by let⟨o,e,_⟩:=T.obj 0 _ st2 b C;show qw e
 let sz3:s2.heap.objs.size<s3.heap.objs.size:=by rw[<-hs3];show _<(s2.heap.push _).objs.size;rw[l7];show sQ _
 let lt3:∀b∈fp,b<s3.heap.objs.size:=λb C=>sW (lt2 b C) sz3;let f3:∀b∈fp,gZ X Z' (YZ H1 s2.heap.objs.size (.lst [])) b:=λb C=>#[by rw[aE (qD (lt2 b C))];show(f2 b C).1,(f2 b C).2];let st3:tn 0 s3.heap:=T.keep _ _ _ st2 λb _ o e=>up b o e;show wpAny_newFunctionEnv S.nocell (by intro y hy;simp at hy) (λh4 hn4 sb4=>?_) S.kind;let k4:∀b o,s3.heap.get? b=U o->h4.get? b=U o:=λb o e=>(sb4.2 b (qD (qw e))).trans (qv _ e);let st4:tn 0 h4:=T.keep _ _ _ st3 λb _ o e=>k4 b o e;let I4:=Nv I3 S f3 lt3 W F.len F.at' hn4 k4 (t':=s3.toks+([]:Z (ai×aw)).length);generalize hX:i6 X N' scope (gr X.env scope.names []) s3.heap.objs.size s3 (YZ H1 s2.heap.objs.size (.lst [])) fp=X' at I4;let⟨bg,bt,be⟩:=C (gr X.env scope.names []) s3.heap.objs.size s3 (YZ H1 s2.heap.objs.size (.lst [])) fp;rw[hX] at bg bt be;let ĭ:X'.prog=X.prog:=by rw[<-hX];rfl
 let hw:X'.w=X.w:=by rw[<-hX];rfl
 let hK:X'.K=X.K:=by rw[<-hX];rfl
 let hA:X'.A=X.A:=by rw[<-hX];rfl
 let hcalm:X'.calm=ah:=by rw[<-hX];show hc
 let hxe:X'.xe=λ_ _=>False:=by rw[<-hX];rfl
 let henv:X'.env=HV scope (gr X.env scope.names []) s3.heap.objs.size X.env:=by rw[<-hX];rfl
 let Ť:∀{H':Hp},(∀b∈fp,H' b=B)->∀b∈fp,gZ X' [] H' b:=λ{H'}hn b C=>by let f:=f3 b C;let ok:=I4.ok;show#[hn b C,(ok.exf b (by rw[<-hX];show C)).1,ok.exfs b (by rw[<-hX];show C),.inl (by rw[<-hX];show C),λx c e=>(ok.exf b (by rw[<-hX];show C)).2 x c e,λp hp=>?_];rw[<-hX] at hp;show bH (show p∈([]:Z (av×Obj)) from hp) (by simp)
 let⟨YJ,⟨m0,w0⟩,turn⟩:=q s2.heap.objs.size Ä;let loop:∀s5:aH,s5={s3 with heap:=h4,toks:=s3.toks+([]:Z (ai×aw)).length} ->
   gF .(t) X.A (.compLoop .(q) 0 (.ref it) (.ref s2.heap.objs.size) (HV scope (gr X.env scope.names []) s3.heap.objs.size X.env))
    (RR (.ref s2.heap.objs.size) s3.heap.objs.size) s5:=by
  intro s5 hs5;show RN (λn s'=>∃i ys Z5 H',YS X' [] Z5 H' s'/\tn i s'.heap/\(∀b∈fp,H' b=B)/\YJ i n ys Z5 H') ?_ m0 #[0,[],iN fv L,_,hs5▸I4,hs5▸st4,λb C=>(f3 b C).1,w0];rintro n s6 ⟨i,ys,ZO,H6,I6,st6,fr6,w6⟩;let⟨ha6,turn6⟩:=turn i n ys ZO H6 w6;rw[<-henv];rcases turn6 with⟨stop,qn⟩|⟨go,step⟩
  .let d:=T.done X' ĭ hw hK hcalm i [] s6 ZO H6 (λ_ _=>False) I6 (Ť fr6) st6 stop;rw[hA] at d;show Zf d λr s7 #[hr,I7]=>?_;subst hr;let⟨m7,hn7,_⟩:=I7.loc;let hl:X'.env.locals=s3.heap.objs.size:=by rw[henv];rfl
   show hRR _ _ H6 s7 m7 (hl▸hn7) (λh' hs'=>?_) ?_ qn
   .rw[<-hX] at I7;show S4 I3 f3 (qx _) I7 hs'
   .exact I3.fpOk (qx _) (by let:=I7.free;rw[hl] at this;show this)
  .let d:=T.item X' ĭ hw hK hcalm i [] s6 ZO H6 (λ_ _=>False) I6 (Ť fr6) st6 go;rw[hA] at d;show Zf d λr s7 #[u,hr,h7]=>?_;subst hr;show Zf h7 λ_ s8 #[x,H8,I8,r8,y8,st8,fr8]=>?_;let I8':=I8.pinned (Ť fr8) (T.obj _ _ st8);let dg:=bg _ s8 ZO H8 x u _ I8' r8 (step x H8 y8);rw[ĭ,hw,hA,hxe] at dg;show Zf dg λ_ s9 #[σ9,H9,I9,q9]=>?_;let dt:=bt _ s9 σ9 H9 _ I9 q9;rw[ĭ,hw,hA,hxe] at dt;show Zf dt λb s10 #[H10,I10,q10]=>?_;let again:∀{ZY:St}{H7:Hp}{s7:aH}{ys':Z V},YS X' ([]++rL fp s8.heap) ZY H7 s7->(∃m',m'<n/\YJ (i+1) m' ys' ZY H7)->∃m,m<n/\∃i ys Z5 H',YS X' [] Z5 H' s7/\tn i s7.heap/\(∀b∈fp,H' b=B)/\YJ i m ys Z5 H':=λ{ZY H7 s7 ys'}I7 n7=>by let⟨m',hm,w7⟩:=n7;show#[m',hm,i+1,ys',ZY,H7,I7.unpinned,T.keep _ _ _ st8 λb C o e=>(I7.pin (b,o) (qS _ (qS _ (vY C e)))).1,λb C=>?_,w7];let⟨o,e,_⟩:=T.obj _ _ st8 b C;show(I7.pin (b,o) (qS _ (qS _ (vY C e)))).2.1
   cases b with
   |false=>
    rw[qZ qu] at q10 ⊢;show again I10 q10
   |true=>
    rw[qY W] at q10 ⊢;let de:=be _ s10 σ9 H10 _ I10 q10;rw[ĭ,hw,hA,hxe] at de;show Zf de λv s11 #[y,H11,I11,r11,ha11,hz11,n11]=>?_;let da:=Gr _ s11 σ9 H11 (.ref s2.heap.objs.size) [y] (.ref s2.heap.objs.size) [v] (λ_ H'=>H'=YZ H11 s2.heap.objs.size (.lst (ys++[y]))) I11 W (.cons r11 .nil) #[_,ys,y,W,W,ha11,hz11,W];rw[ĭ,hw,hA,hxe] at da;show Zf da λ_ s12 #[_,H12,I12,_,e12]=>?_;subst e12;show again I12 n11
 show codeAny_compStart_list (loop _ W) (T.self _ 0 _ _ _ st4 (loop _ W))
def Go(hc:X.calm=ah)(S:Zd X scope)(F:Ğ X N' scope fv)(hi:PI X tg iter wi)(C:PB X N' scope tg ō ő g tc te)(hs:∀x,kJ iter X.env x=bd x:=by intro _;rfl):
  PE X .(q) (tLC wi g tc te fv):=by
 intro Z' s L H Q I h;rw[eval_ListComp];show WB W hs (GM I S) S.kind S.names (Zf (hi Z' s L H _ I h) λx s1 h1=>Zf h1 λitv s2 h2=>?_);let⟨it,fp,tn,ao,H1,e,I2,T,st2,f2,q⟩:=h2;subst e;show B2 hc S F C I2 T st2 f2 q ?_;intro a hb H' s' m hn hI hCL hq;show#[m,hn,λh' hs'=>#[.ref a,H',hI h' hs',W,hq]]
def B6{y:ai}(hN:X.N.Nodup)(hy:X.N[i]?=U y)(hyl:X.env.scope.names.lookup y=U .local)(hc:X.calm=ah)(S:Zd X scope)(F:Ğ X N' scope fv)(hi:PI X tg iter wi)(C:PB X N' scope tg ō ő g tc te)
  (hsw:dq .(q) (U (.Name y py)) Œ.line X.env=bd ah)
  (hs:∀x,kJ iter X.env x=bd x:=by intro _;rfl):
  PS X (.Assign [.Name y py] .(q) Œ) (rA (tLC wi g tc te fv) (rM i)):=by
 intro Z' s L H D I h;rw[exec_Assign_Name_used _ _ _ _ hsw];show qy (HU (qy ?_));show qy (iQ (WB W hs (GM I S) S.kind S.names
  (Zf (hi Z' s L H _ I h) λx s1 h1=>Zf h1 λitv s2 h2=>?_)) (λ_ s' hq=>qB (qB hq)) λ_ _ e=>e)
 let⟨it,fp,tn,ao,H1,e,I2,T,st2,f2,q⟩:=h2;subst e;show B2 hc S F C I2 T st2 f2 q ?_;intro a hb H' s' m hn hI hCL hq;let I':YS X Z' L H' s':=hI s'.heap (A8 _ _);show V1 ?_;show Cm (v:=.ref a) I' hN hy (.inl hyl) W (λs'' I'' υ=>?_) (.inr hyl);let⟨ad,ŭ,had⟩:=υ;let⟨f0,f1,f2',f3,f4,f5⟩:=hCL;let Ô:hb≠ad:=by
  rcases had with z|z
  .rw[z];show f1
  .exact λe=>f4 y ad z e.symm
 show#[m,hn.sameBut ŭ Ô,λh' hs'=>?_];show#[_,H',I''.turned (λb o C e=>(hs'.2 b C).trans e) f0 f1 f3 f4 f5,hq]
end
noncomputable def Its(x:ai):It:=#[λi _=>i<x.cps.size,λi H v H'=>H'=H/\∃c,x.cps[i]?=U c/\v=.str ⟨#[c]⟩,λi _=>i=x.cps.size]
def R3{YK:wu}{n:ai}{it:aw}{Q:lY->aH->Prop}(hQ:Q () s):aL YK A (AE (.Name n p) it u) Q us s:=qB hQ
def Eu{n:ai}{ty:cW}(it:av)(x:ai)(t:Tok)
  (YJ:∀A:cH,A.handled=B->pL P w A it [it] [it] x.cps.size (SignAt x) (λi h=>h.IsStrIter it ty x t i))
  (sf:∀(A:cH)(i:ag)(s:aH)(Q:aw->aH->Prop)(us:aw->aH->Prop),s.heap.IsStrIter it ty x t i->Q (.ref it) s->aL (aM P w) A (l0 (.ref it)) Q us s):ī P w K (.Name n p) (Its x) [it] it (λi h=>h.IsStrIter it ty x t i) where
 mem:=by simp
 obj:=λi h st b C=>by
  let e:b=it:=by simpa using C
  subst e;let⟨o,e,c,d⟩:=st;show#[o,e,λv z=>by rw[d] at z;cases z]
 keep:=λi h h' st k=>by let⟨o,e,r⟩:=st;show#[o,k it (by simp) o e,r]
 item:=by intro X hP hw hK hc i Z' s L H us I hf st hg;subst hP hw hK;let⟨f0,f1,f2,f3,f4,f5⟩:=hf it (by simp);show(YJ X.A (I.ok.hd hc)).item i s _ _ hg st λv h' tk hv ù kk=>?_;let⟨c,u,hcc,rfl⟩:=hv;let I1:YS X Z' L H {s with heap:=h',toks:=tk}:=I.turned (λb o C e=>kk b o (by simpa using C) e) f0 f1 f3 f4 f5;show#[_,W,R3 #[.str ⟨#[c]⟩,H,I1,#[_,W],#[W,c,hcc,W],ù,λb C=>(hf b C).1]]
 done:=by intro X hP hw hK hc i Z' s L H us I hf st hg;subst hP hw hK;let⟨f0,f1,f2,f3,f4,f5⟩:=hf it (by simp);let hi:i=x.cps.size:=hg;subst hi;show(YJ X.A (I.ok.hd hc)).done s _ _ st λh' tk kk=>#[W,I.turned (λb o C e=>kk b o (by simpa using C) e) f0 f1 f3 f4 f5]
 self:=sf
def Jq(te:TE):TI:=λL H R=>te L H λv H1=>∃x,v=.str x/\R (Its x) H1
def UE{n:ai}(he:PE X e te):PI X (.Name n p) e (Jq te):=by
 intro Z' s L H R I h;show Zf (he Z' s L H _ I h) λv s1 #[y,H1,I1,r1,q1]=>?_;let⟨x,e,q⟩:=q1;subst e;let⟨t,rfl⟩:=r1;let Zz:∀(ty:cW)(o:Obj),(s1.heap.push o).IsStrIter s1.heap.objs.size ty x t 0->ī X.prog X.w X.K (.Name n p) (Its x) [s1.heap.objs.size] s1.heap.objs.size (λi h=>h.IsStrIter s1.heap.objs.size ty x t i)->
   PIE X Z' L (.Name n p) R (.ref s1.heap.objs.size) {s1 with heap:=s1.heap.push o}:=λty o st T=>by
  show#[s1.heap.objs.size,[s1.heap.objs.size],_,_,H1,W,I1.kept λb o e=>qv _ e,T,st,λb C=>?_,q];let e:b=s1.heap.objs.size:=by simpa using C
  subst e;show I1.fpOk (qx _) (I1.hok.fresh (qx _))
 cases ha:x.cps.all (· < 128)
 .exact wpAny_pyIter_wide ha (Zz _ _ #[_,qH _ W,W,W] (Eu _ x t (λA' hA=>Walks.strWide hA _ x t) λ_ _ _ _ _ st h=>wpAny_pyIter_striter_wide st h))
 .exact wpAny_pyIter_ascii ha (Zz _ _ #[_,qH _ W,W,W] (Eu _ x t (λA' hA=>Walks.strAscii hA _ x t) λ_ _ _ _ _ st h=>wpAny_pyIter_striter_ascii st h))
def Ite(K:aT)(a:av):It:=
 #[λi H=>∃xs x,ñ K H a xs/\xs[i]?=U x,λi H v H'=>∃T x,v=.ref T/\H T=B/\H'=YZ H T (.tup [.int i,x])/\∀xs,ñ K H a xs->xs[i]?=U x,λi H=>∃xs,ñ K H a xs/\xs.length<=i]
variable{ű:Z Expr}
def QK{k1:ag}(e it a:av)(ņ:e≠it):
  ī P w K (.Tuple ű k1 pos) (Ite K a) [e,it] e (λi h=>(∃Ż,IsEnum h e it i Ż)/\h.IsListIter it a i) where
 mem:=by simp
 obj:=λi h st b C=>by
  let⟨⟨Ż,he⟩,o,ho,c,d⟩:=st;rcases cm.mp C with z|z
  .subst z;show#[_,he,λv z=>by cases z]
  .let z':b=it:=by simpa using z
   subst z';show#[o,ho,λv z=>by rw[d] at z;cases z]
 keep:=λi h h' st k=>by let⟨⟨Ż,he⟩,hi⟩:=st;show#[#[Ż,k e (by simp) _ he],hi.at λo x=>k it (by simp) o x]
 item:=by
  intro X hP hw hK hc i Z' s L H us I hf st hg;subst hP hw hK;let⟨xs,x,hq,hx⟩:=hg;let⟨YY,rv,p,hz⟩:=I.list hq;let⟨u,hu,ru⟩:=rv.get hx;let⟨⟨Ż,he⟩,hit⟩:=st;let⟨e0,e1,e2,e3,e4,e5⟩:=hf e (by simp);let⟨f0,f1,f2,f3,f4,f5⟩:=hf it (by simp);let helt:e<s.heap.objs.size:=qw he;let hilt:it<s.heap.objs.size:=by let⟨_,x,_⟩:=hit;show qw x
  show wpAny_pyNext_enum_item he hit p.isList (by simpa using hu) ņ λh' ho hit' hT ô hk=>?_;show#[_,W,wpAny_letOwnedTupleGo_enum ho λh2 he2 ſ=>?_];let hs2':gW e h' h2:=ſ;let kk:∀b o,b≠e->b≠it->s.heap.get? b=U o->h2.get? b=U o:=λb o h1 h3 q=>(hs2'.2 b h1).trans (hk b o h1 h3 q);let hT2:h2.get? s.heap.objs.size=U {cls:=.type "tuple",data:=.seq [.int i s.toks,u].toArray}:=(hs2'.2 _ (AD helt)).trans hT;let nH:H s.heap.objs.size=B:=I.fresh;let I1:YS X Z' L (YZ H s.heap.objs.size (.tup [.int i,x])) {s with heap:=h2,toks:=s.toks+1}:=by
   let ne:∀b o,H b=U o->b≠e/\b≠it:=λb o q=>#[λz=>(by rw[z,e0] at q;cases q),λz=>(by rw[z,f0] at q;cases q)];show I.step (ch:=[e,it]) (λb C=>?_) (λb o _ _ hc q _=>kk b o (λz=>hc (by simp[z])) (λz=>hc (by simp[z])) q) (λb o _ _ hc q _=>#[o.slots,kk b o (λz=>hc (by simp[z])) (λz=>hc (by simp[z])) q]) (λb o _ q n=>?_)
    (λb o hc q=>#[o,kk b o (λz=>hc (by simp[z])) (λz=>hc (by simp[z])) q]) (λb ys q=>?_) (λb o y q=>?_) (λb ps q=>#[#[],?_]) (λm hm=>?_) (λb v q=>?_) I.bare
   .rcases cm.mp C with z|z
    .subst z;show#[e3,e1,e4,e5]
    .let z':b=it:=by simpa using z
     subst z';show#[f3,f1,f4,f5]
   .rw[aE (qD (qw q))];show n
   .rw[aE (bJ q nH)];show q
   .rw[aE (bJ q nH)];show q
   .rw[aE (bJ q nH),q];simp
   .obtain⟨o,es,ep,q,r⟩:=hm;show#[o,es,ep,kk _ o (dj e1) (dj f1) q,r]
   .by_cases C:b=s.heap.objs.size
    .subst C;rw[bf] at q;cases q;show#[by show 2<=aK;decide,[.int i s.toks,u],.cons #[_,W] (.cons ru .nil),#[_,hT2,W,_,W]]
    .rw[aE C] at q;show(I.hok b v q).stay (λc v hc r=>?_) (λc r=>by rw[aE (bJ r nH)];show r) λc ys r=>by rw[aE (bJ r nH)];show r
     rcases hc with z|z
     .rw[z] at r ⊢;show kk b v (ne b _ q).1 (ne b _ q).2 r
     .exact kk c v (ne c _ z).1 (ne c _ z).2 r
  show#[.ref s.heap.objs.size,_,I1,W,#[_,x,W,nH,W,λys hy=>by rw[I.list_inj hy hq];show hx],#[#[_,by simpa using he2],hit'.at λo y=>(hs2'.2 it ņ.symm).trans y],λb C=>?_];rcases cm.mp C with z|z
  .subst z;rw[aE (qD helt)];show e0
  .let z':b=it:=by simpa using z
   subst z';rw[aE (qD hilt)];show f0
 done:=by intro X hP hw hK hc i Z' s L H us I hf st hg;subst hP hw hK;let⟨xs,hq,hx⟩:=hg;let⟨YY,rv,p,hz⟩:=I.list hq;let⟨⟨Ż,he⟩,hit⟩:=st;let⟨f0,f1,f2,f3,f4,f5⟩:=hf it (by simp);let hl:=rv.length;show wpAny_pyNext_enum_end (I.ok.hd hc) he hit p.isList (by simp;ext) λh' eb=>#[W,I.turned (λb o C e=>eb b o C e) f0 f1 f3 f4 f5]
 self:=λA i s Q us st h=>by let⟨⟨Ż,he⟩,_⟩:=st;show WC he h
def U4(K:aT)(ta:TA):TI:=λL H R=>ta L H λvs H1=>∃a,vs=[.ref a]/\(∃xs,ñ K H1 a xs)/\R (Ite K a) H1
def MR{a:Expr}{ta:TA}{k1:ag}(hg:Gl X "enumerate")(hm:X.mg "enumerate"=B)(ha:PA X [a] ta)(hs:aP [a] X.env=[(ar,eval a X.env)]:=by rfl):
  PI X (.Tuple ű k1 tpos) (.Call (.Name "enumerate" p) [a] [] pos) (U4 X.K ta):=by
 intro Z' s L H R I h;show Call_ (mR I hg hm Yu (AF (Zf (ha pos Z' s L H _ I h) λE s1 #[vs,H1,I1,r1,q1]=>?_) hs W));let⟨l,e,⟨xs,hq⟩,q⟩:=q1;subst e;let⟨u,rfl,r2⟩:=eR r1;cases r2;let⟨YY,rv,pl,hz⟩:=I1.list hq;show call_enumerate_list pl.isList λh' he hit ô hk=>?_;let I2:YS X Z' L H1 {s1 with heap:=h'}:=I1.kept hk;show WC he ?_;show#[s1.heap.objs.size+1,[s1.heap.objs.size+1,s1.heap.objs.size],_,_,H1,W,I2,QK _ _ l (Nat.succ_ne_self _),#[#[_,he],hit],λb C=>?_,q];rcases cm.mp C with z|z
 .subst z;show I1.fpOk (kO _) (I1.hok.fresh (kO _))
 .let z':b=s1.heap.objs.size:=by simpa using z
  subst z';show I1.fpOk (qx _) (I1.hok.fresh (qx _))
inductive D where
 |non|bl (b:aJ)|int (i:aj)|str (x:ai)|tup (l:Z D)|lst (l:Z D)|scr (ns:Z aj)
 |dk (l:Z (YQ×D))|fdk (l:Z (YQ×D))|dt (l:Z (Z YQ×D))|fdt (l:Z (Z YQ×D))|ins (c:ai) (fs:Z (ai×D))|ty (n:cW)
def cx:YQ->D
 |.inl i=>.int i
 |.inr x=>.str x
structure Cn where
 cls:ai->au av
 self:au av:=B
mutual
inductive ZD(O:Cn)(K:aT)(G:Hp):V->D->Prop where
 |non:ZD O K G .non .non
 |bl (b:aJ):ZD O K G (.bl b) (.bl b)
 |int (i:aj):ZD O K G (.int i) (.int i)
 |str (x:ai):ZD O K G (.str x) (.str x)
 |ty (n:cW):ZD O K G (.ty n) (.ty n)
 |tup {a:av} {vs:Z V} {ds:Z D}:G a=U (.tup vs)->YN O K G vs ds->ZD O K G (.ref a) (.tup ds)
 |lst {a:av} {vs:Z V} {ds:Z D}:G a=U (.lst vs)->YN O K G vs ds->ZD O K G (.ref a) (.lst ds)
 |scr {a:av} {ns:Z aj}:ñ K G a (ns.map V.int)->ZD O K G (.ref a) (.scr ns)
 |dk {a:av} {E:Z (YQ×V)} {YL:Z (YQ×D)}:G a=U (.dK E)->E.map (·.1)=YL.map (·.1)->YN O K G (E.map (·.2)) (YL.map (·.2))->ZD O K G (.ref a) (.dk YL)
 |fdk {a:av} {o:Obj} {E:Z (YQ×V)} {YL:Z (YQ×D)}:G a=U (.frz o (.dK E))->E.map (·.1)=YL.map (·.1)->YN O K G (E.map (·.2)) (YL.map (·.2))->ZD O K G (.ref a) (.fdk YL)
 |dt {a:av} {E:Z (Z YQ×V)} {YL:Z (Z YQ×D)}:G a=U (.dT E)->E.map (·.1)=YL.map (·.1)->YN O K G (E.map (·.2)) (YL.map (·.2))->ZD O K G (.ref a) (.dt YL)
 |fdt {a:av} {o:Obj} {E:Z (Z YQ×V)} {YL:Z (Z YQ×D)}:G a=U (.frz o (.dT E))->E.map (·.1)=YL.map (·.1)->YN O K G (E.map (·.2)) (YL.map (·.2))->ZD O K G (.ref a) (.fdt YL)
 |ins {a hb dx:av} {c:ai} {E:Z (ai×V)} {fs:Z (ai×D)}:G a=U (.ins hb dx E)->O.cls c=U hb->E.map (·.1)=fs.map (·.1)->YN O K G (E.map (·.2)) (fs.map (·.2))->ZD O K G (.ref a) (.ins c fs)
inductive YN(O:Cn)(K:aT)(G:Hp):Z V->Z D->Prop where
 |nil:YN O K G [] []
 |cons {v:V} {d:D} {vs:Z V} {ds:Z D}:ZD O K G v d->YN O K G vs ds->YN O K G (v::vs) (d::ds)
end
variable{O Z3:Cn}{G G' G1:Hp}{d:D}{ds:Z D}
section
variable{G2:Hp}
def ZD.tr(s:aY G G')(hc:Z3.cls=O.cls)(r:ZD O K G v d):ZD Z3 K G' v d:=
 r.rec .non .bl .int .str .ty (λh _ i=>.tup (s _ _ h) i) (λh _ i=>.lst (s _ _ h) i) (λh=>.scr (s.seq h)) (λh e _ i=>.dk (s _ _ h) e i) (λh e _ i=>.fdk (s _ _ h) e i) (λh e _ i=>.dt (s _ _ h) e i) (λh e _ i=>.fdt (s _ _ h) e i) (λh c e _ i=>.ins (s _ _ h) (by rw[hc];show c) e i) .nil λ_ _ a b=>.cons a b
def YN.tr{Z3:Cn}(s:aY G G')(hc:Z3.cls=O.cls):∀{vs:Z V}{ds:Z D},YN O K G vs ds->YN Z3 K G' vs ds
 |_,_,.nil=>.nil
 |_,_,.cons h r=>.cons (h.tr s hc) (r.tr s hc)
def ZD.mono(r:ZD O K G v d)(s:aY G G'):ZD O K G' v d:=r.tr s W
def YN.mono(r:YN O K G vs ds)(s:aY G G'):YN O K G' vs ds:=r.tr s W
def ZD.re{Z3:Cn}(hc:Z3.cls=O.cls){v:V}{d:D}(r:ZD O K G v d):ZD Z3 K G v d:=r.tr (aY.refl _) hc
def YN.re{Z3:Cn}(hc:Z3.cls=O.cls){vs:Z V}{ds:Z D}(r:YN O K G vs ds):YN Z3 K G vs ds:=r.tr (aY.refl _) hc
def YN.length:∀{vs:Z V}{ds:Z D},YN O K G vs ds->vs.length=ds.length
 |_,_,.nil=>rfl
 |_,_,.cons _ r=>by rw[qj,qj,r.length]
def YN.get:∀{vs:Z V}{ds:Z D}{i:ag}{d:D},YN O K G vs ds->ds[i]?=U d->∃v,vs[i]?=U v/\ZD O K G v d
 |_,_,_,_,.nil,e=>by simp at e
 |_,_,0,_,.cons r _,e=>by simp at e;subst e;show#[_,W,r]
 |_,_,i+1,d,.cons _ t,e=>by let⟨u,h1,h2⟩:=YN.get t (by simpa using e);show#[u,by simpa using h1,h2]
def YN.append:∀{vs ws:Z V}{ds es:Z D},YN O K G vs ds->YN O K G ws es->YN O K G (vs++ws) (ds++es)
 |_,_,_,_,.nil,s=>s
 |_,_,_,_,.cons r t,s=>.cons r (t.append s)
def YN.take:∀{vs:Z V}{ds:Z D}(n:ag),YN O K G vs ds->YN O K G (vs.take n) (ds.take n)
 |_,_,0,_=>.nil
 |_,_,_+1,.nil=>.nil
 |_,_,n+1,.cons r t=>.cons r (t.take n)
def YN.drop:∀{vs:Z V}{ds:Z D}(n:ag),YN O K G vs ds->YN O K G (vs.drop n) (ds.drop n)
 |_,_,0,r=>r
 |_,_,_+1,.nil=>.nil
 |_,_,n+1,.cons _ t=>t.drop n
def YN.ints:∀(ns:Z aj),YN O K G (ns.map V.int) (ns.map D.int)
 |[]=>.nil
 |n::r=>.cons (.int n) (YN.ints r)
def YN.rep{vs:Z V}{ds:Z D}(h:YN O K G vs ds):∀k:ag,YN O K G (bU k vs).flatten (bU k ds).flatten
 |0=>.nil
 |k+1=>by rw[ma,ma,pE,pE];show h.append (YN.rep h k)
noncomputable def kyV:V->aJ
 |.int _=>ah
 |.str _=>ah
 |_=>ar
def kyT:HO->aJ
 |.tup vs=>vs.all kyV
 |_=>ar
structure Step(G H G' H':Hp):Prop where
 hh:aY H H'
 gg:aY G G'
 gh:aY G' H'
 out:∀a o,H a=U o->kyT o=ar->G' a=G a
def Step.refl(gh:aY G H):Step G H G H:=#[.refl _,.refl _,gh,λ_ _ _ _=>rfl]
def Step.trans(a:Step G H G1 H1)(b:Step G1 H1 G2 H2):Step G H G2 H2:=
 #[a.hh.trans b.hh,a.gg.trans b.gg,b.gh,λc o e k=>(b.out c o (a.hh c o e) k).trans (a.out c o e k)]
def Step.new{p:av}{o:HO}(gh:aY G H)(hp:H p=B):Step G H (YZ G p o) (YZ H p o):=by
 let gp:G p=B:=gh.free hp;show#[λb u e=>?_,λb u e=>?_,λb u e=>?_,λb u e _=>?_]
 .rw[aE (bJ e hp)];show e
 .rw[aE (bJ e gp)];show e
 .by_cases C:b=p
  .subst C;rw[bf] at e ⊢;show e
  .rw[aE C] at e ⊢;show gh b u e
 .rw[aE (bJ e hp)]
def Step.newOwn{p:av}{o:HO}(gh:aY G H)(hp:H p=B):Step G H G (YZ H p o):=by
 show#[λb u e=>?_,.refl _,λb u e=>?_,λ_ _ _ _=>rfl]
 .rw[aE (bJ e hp)];show e
 .rw[aE (bJ (gh b u e) hp)];show gh b u e
end
inductive Á where
 |d (d:D)|k (YL:Z (YQ×D))|t (YL:Z (Z YQ×D))
inductive Slot where
 |sh (d:D)
 |own (ds:Z D)
 |obj (c:ai) (fs:Z (ai×D))
 |objd (c:ai) (fs:Z (ai×D)) (n:ai) (YL:Z (YQ×D))
 |odk (YL:Z (YQ×D))
 |odt (YL:Z (Z YQ×D))
 |fo (s:aJ) (c:ai) (fs:Z (ai×Á))
abbrev bB:=Z (au Slot)
noncomputable def gN:D->aJ
 |.non=>ah
 |.bl _=>ah
 |.int _=>ah
 |.str _=>ah
 |_=>ar
def ot(H:Hp):Z av->Z (Z V)->Prop
 |[],[]=>True
 |p::ps,vs::Ν=>H p=U (.lst vs)/\ot H ps Ν
 |_,_=>False
def uU(O:Cn)(K:aT)(G:Hp):Z (Z V)->Z (Z D)->Prop
 |[],[]=>True
 |vs::Ν,ds::dss=>YN O K G vs ds/\uU O K G Ν dss
 |_,_=>False
def ot.mem{H:Hp}:∀{ps:Z av}{Ν:Z (Z V)},ot H ps Ν->∀b∈ps,∃o,H b=U o/\kyT o=ar
 |[],_,_,b,C=>by cases C
 |p::ps,[],h,b,C=>h.elim
 |p::ps,vs::Ν,h,b,C=>by
  rcases cm.mp C with rfl|C
  .exact#[_,h.1,W]
  .exact h.2.mem b C
def ot.stay{H H':Hp}:∀{ps:Z av}{Ν:Z (Z V)},ot H ps Ν->(∀b∈ps,H' b=H b)->ot H' ps Ν
 |[],[],_,_=>trivial
 |[],_::_,h,_=>h.elim
 |p::ps,[],h,_=>h.elim
 |p::ps,vs::Ν,h,e=>#[(e p qh).trans h.1,h.2.stay λb C=>e b (qi _ C)]
def uU.map{O:Cn}{K:aT}{G G':Hp}(f:∀{vs:Z V}{ds:Z D},YN O K G vs ds->YN O K G' vs ds):∀{Ν:Z (Z V)}{dss:Z (Z D)},uU O K G Ν dss->uU O K G' Ν dss
 |[],[],_=>trivial
 |[],_::_,h=>h.elim
 |_::_,[],h=>h.elim
 |_::_,_::_,h=>#[f h.1,h.2.map f]
inductive Ð(O:Cn)(K:aT)(G H:Hp):V->Á->Z av->Prop where
 |d {v:V} {d:D}:ZD O K G v d->Ð O K G H v (.d d) []
 |k {q:av} {E:Z (YQ×V)} {YL:Z (YQ×D)}:H q=U (.dK E)->E.map (·.1)=YL.map (·.1)->YN O K G (E.map (·.2)) (YL.map (·.2))->Ð O K G H (.ref q) (.k YL) [q]
 |t {q:av} {E:Z (Z YQ×V)} {YL:Z (Z YQ×D)}:H q=U (.dT E)->E.map (·.1)=YL.map (·.1)->YN O K G (E.map (·.2)) (YL.map (·.2))->Ð O K G H (.ref q) (.t YL) [q]
inductive YW(O:Cn)(K:aT)(G H:Hp):Z V->Z Á->Z av->Prop where
 |nil:YW O K G H [] [] []
 |cons {v:V} {f:Á} {p:Z av} {vs:Z V} {fs:Z Á} {ps:Z av}:Ð O K G H v f p->YW O K G H vs fs ps->YW O K G H (v::vs) (f::fs) (p++ps)
def Ð.mem{v:V}{f:Á}{p:Z av}(r:Ð O K G H v f p):∀b∈p,∃o,H b=U o/\kyT o=ar:=by
 cases r with
 |d _=>intro b C;cases C
 |k h _ _=>intro b C;rw[bM.mp C];show#[_,h,W]
 |t h _ _=>intro b C;rw[bM.mp C];show#[_,h,W]
def Ð.stay{f:Á}{p:Z av}(r:Ð O K G H v f p)(gg:aY G G')(hh:∀b∈p,H' b=H b):Ð O K G' H' v f p:=by
 cases r with
 |d h=>show .d (h.mono gg)
 |k h a c=>show .k ((hh _ qh).trans h) a (c.mono gg)
 |t h a c=>show .t ((hh _ qh).trans h) a (c.mono gg)
def Ð.uniq{f:Á}{p q:Z av}(r:Ð O K G H v f p)(s:Ð O K G H v f q):p=q:=by cases r<;>cases s<;>rfl
def YW.mem:∀{vs:Z V}{fs:Z Á}{ps:Z av},YW O K G H vs fs ps->∀b∈ps,∃o,H b=U o/\kyT o=ar
 |_,_,_,.nil,b,C=>by cases C
 |_,_,_,.cons r t,b,C=>(cY.mp C).elim (r.mem b) (t.mem b)
def YW.stay:∀{vs:Z V}{fs:Z Á}{ps:Z av},YW O K G H vs fs ps->aY G G'->(∀b∈ps,H' b=H b)->YW O K G' H' vs fs ps
 |_,_,_,.nil,_,_=>.nil
 |_,_,_,.cons r t,gg,hh=>.cons (r.stay gg λb C=>hh b (nD _ C)) (t.stay gg λb C=>hh b (qS _ C))
def YW.uniq:∀{vs:Z V}{fs:Z Á}{ps qs:Z av},YW O K G H vs fs ps->YW O K G H vs fs qs->ps=qs
 |_,_,_,_,.nil,.nil=>rfl
 |_,_,_,_,.cons r t,.cons r' t'=>by rw[r.uniq r',t.uniq t']
inductive SR(O:Cn)(K:aT)(Z9 G H:Hp):Slot->V->Z av->Prop where
 |sh {d:D} {v:V}:ZD O K G v d->SR O K Z9 G H (.sh d) v []
 |own {a:av} {vs:Z V} {ds:Z D}:Z9 a=B->G a=B->H a=U (.lst vs)->YN O K G vs ds->SR O K Z9 G H (.own ds) (.ref a) [a]
 |obj {c:ai} {a hb dx:av} {vs:Z (ai×V)} {fs:Z (ai×D)}:O.cls c=U hb->Z9 a=B->G a=B->H a=U (.ins hb dx vs)->vs.map (·.1)=fs.map (·.1)->YN O K G (vs.map (·.2)) (fs.map (·.2))->O.self=U a->SR O K Z9 G H (.obj c fs) (.ref a) [a]
 |objd {c n:ai} {a hb dx p:av} {vs:Z (ai×V)} {fs:Z (ai×D)} {E:Z (YQ×V)} {YL:Z (YQ×D)}:O.cls c=U hb->Z9 a=B->G a=B->H a=U (.ins hb dx (vs++[(n,.ref p)]))->vs.map (·.1)=fs.map (·.1)->YN O K G (vs.map (·.2)) (fs.map (·.2))->
   Z9 p=B->G p=B->H p=U (.dK E)->E.map (·.1)=YL.map (·.1)->YN O K G (E.map (·.2)) (YL.map (·.2))->O.self=U a->SR O K Z9 G H (.objd c fs n YL) (.ref a) [a,p]
 |odk {a:av} {E:Z (YQ×V)} {YL:Z (YQ×D)}:Z9 a=B->G a=B->H a=U (.dK E)->E.map (·.1)=YL.map (·.1)->YN O K G (E.map (·.2)) (YL.map (·.2))->SR O K Z9 G H (.odk YL) (.ref a) [a]
 |odt {a:av} {E:Z (Z YQ×V)} {YL:Z (Z YQ×D)}:Z9 a=B->G a=B->H a=U (.dT E)->E.map (·.1)=YL.map (·.1)->YN O K G (E.map (·.2)) (YL.map (·.2))->SR O K Z9 G H (.odt YL) (.ref a) [a]
 |fo {s:aJ} {c:ai} {a hb dx:av} {vs:Z (ai×V)} {fs:Z (ai×Á)} {ps:Z av}:(s=ah->O.self=U a)->O.cls c=U hb->(∀b∈a::ps,Z9 b=B/\G b=B)->(a::ps).Nodup->H a=U (.ins hb dx vs)->vs.map (·.1)=fs.map (·.1)->YW O K G H (vs.map (·.2)) (fs.map (·.2)) ps->SR O K Z9 G H (.fo s c fs) (.ref a) (a::ps)
variable{Z9:Hp}
section
variable{s:Slot}
def SR.fpt(r:SR O K Z9 G H s v fp):∀b∈fp,Z9 b=B/\G b=B/\∃o,H b=U o/\kyT o=ar:=by
 cases r with
 |sh r=>intro b C;cases C
 |own h1 h2 h3 _=>intro b C;rw[bM.mp C];show#[h1,h2,_,h3,W]
 |obj _ h1 h2 h3 _ _ _=>intro b C;rw[bM.mp C];show#[h1,h2,_,h3,W]
 |objd _ h1 h2 h3 _ _ q1 q2 q3 _ _ _=>
  intro b C;rcases cm.mp C with rfl|C
  .exact#[h1,h2,_,h3,W]
  .rw[bM.mp C];show#[q1,q2,_,q3,W]
 |odk h1 h2 h3 _ _=>intro b C;rw[bM.mp C];show#[h1,h2,_,h3,W]
 |odt h1 h2 h3 _ _=>intro b C;rw[bM.mp C];show#[h1,h2,_,h3,W]
 |fo _ _ h1 h2 h3 _ h4=>
  intro b C;show#[(h1 b C).1,(h1 b C).2,?_];rcases cm.mp C with rfl|C
  .exact#[_,h3,W]
  .exact h4.mem b C
def SR.stay(r:SR O K Z9 G H s v fp)(gg:aY G G')(hg:∀b∈fp,G' b=B)(hh:∀b∈fp,H' b=H b):SR O K Z9 G' H' s v fp:=by
 cases r with
 |sh r=>show .sh (r.mono gg)
 |own h1 h2 h3 h4=>show .own h1 (hg _ (bM.mpr W)) ((hh _ (bM.mpr W)).trans h3) (h4.mono gg)
 |obj c h1 h2 h3 h4 h5 hs=>show .obj c h1 (hg _ (bM.mpr W)) ((hh _ (bM.mpr W)).trans h3) h4 (h5.mono gg) hs
 |objd c h1 h2 h3 h4 h5 q1 q2 q3 q4 q5 hs=>
  show .objd c h1 (hg _ qh) ((hh _ qh).trans h3) h4 (h5.mono gg) q1 (hg _ (qi _ qh)) ((hh _ (qi _ qh)).trans q3) q4 (q5.mono gg) hs
 |odk h1 h2 h3 h4 h5=>show .odk h1 (hg _ (bM.mpr W)) ((hh _ (bM.mpr W)).trans h3) h4 (h5.mono gg)
 |odt h1 h2 h3 h4 h5=>show .odt h1 (hg _ (bM.mpr W)) ((hh _ (bM.mpr W)).trans h3) h4 (h5.mono gg)
 |fo y c h1 h2 h3 h4 h5=>show .fo y c (λb C=>#[(h1 b C).1,hg b C]) h2 ((hh _ qh).trans h3) h4 (h5.stay gg λb C=>hh b (qi _ C))
def SR.stepS(r:SR O K Z9 G H s v fp)(t:Step G H G' H'):SR O K Z9 G' H' s v fp:=r.stay t.gg (λb C=>by
 let⟨_,h2,o,h3,h4⟩:=r.fpt b C;show(t.out b o h3 h4).trans h2) (λb C=>by
 let⟨_,_,o,h3,_⟩:=r.fpt b C;rw[h3];show t.hh b o h3)
end
def SR.uniq{O:Cn}{K:aT}{Z9 G H:Hp}{s:Slot}{v:V}{fp fq:Z av}(r:SR O K Z9 G H s v fp)(q:SR O K Z9 G H s v fq):fp=fq:=by
 cases r with
 |sh r=>cases q;rfl
 |own h1 h2 h3 _=>cases q;rfl
 |obj _ h1 h2 h3 _ _ _=>cases q;rfl
 |objd _ h1 h2 h3 _ _ q1 q2 q3 _ _ _=>
  cases q with
  |objd _ _ _ k3 _ _ _ _ _ _ _ _=>
   rw[h3] at k3;let z:=(HO.ins.inj (qI k3)).2.2;let z2:=(List.append_inj' z W).2;cases z2;rfl
 |odk h1 h2 h3 _ _=>cases q;rfl
 |odt h1 h2 h3 _ _=>cases q;rfl
 |fo _ _ _ _ h3 _ h5=>
  cases q with
  |fo _ _ _ _ k3 _ k5=>
   rw[h3] at k3;cases k3;rw[h5.uniq k5]
structure í(O:Cn)(K:aT)(Z9 G H:Hp)(Y:bB)(L:St):Prop where
 len:Y.length=L.length
 sl:∃İ:ag->Z av,(∀(i:ag)s,Y[i]?=U (U s)->∃v,L[i]?=U (U v)/\SR O K Z9 G H s v (İ i)) /\
  ∀(i j:ag)s t,i≠j->Y[i]?=U (U s)->Y[j]?=U (U t)->∀b∈İ i,b∉İ j
structure At(O:Cn)(K:aT)(Z8 Z9 G H:Hp)(Y:bB)(L:St):Prop where
 st:Step Z8 Z9 G H
 env:í O K Z9 G H Y L
def fJ(Y:bB):Prop:=∀(i:ag)s,Y[i]?=U (U s)->∃d,s=.sh d
variable{Z8:Hp}{Y:bB}{fp':Z av}
def í.ofSh(len:Y.length=L.length)(no:fJ Y)(sh:∀(i:ag)d,Y[i]?=U (U (.sh d))->∃v,L[i]?=U (U v)/\ZD O K G v d):í O K Z9 G H Y L :=
 #[len,λ_=>[],λi s e=>by let⟨d,rfl⟩:=no i s e;let⟨v,h1,h2⟩:=sh i d e;show#[v,h1,.sh h2],λ_ _ _ _ _ _ _ b C=>by cases C]
def í.sh(us:í O K Z9 G H Y L)(i:ag)(d:D)(e:Y[i]?=U (U (.sh d))):∃v,L[i]?=U (U v)/\ZD O K G v d:=by
 let⟨İ,h,_⟩:=us.sl;let⟨v,h1,h2⟩:=h i _ e;generalize İ i=fp at h2;cases h2 with
 |sh r=>show#[v,h1,r]
def í.own(us:í O K Z9 G H Y L)(i:ag)(ds:Z D)(e:Y[i]?=U (U (.own ds))):∃a vs,L[i]?=U (U (.ref a))/\Z9 a=B/\G a=B/\H a=U (.lst vs)/\YN O K G vs ds:=by
 let⟨İ,h,_⟩:=us.sl;let⟨v,h1,h2⟩:=h i _ e;generalize İ i=fp at h2;cases h2 with
 |own q1 q2 q3 q4=>show#[_,_,h1,q1,q2,q3,q4]
def At.gh(A:At O K Z8 Z9 G H Y L):aY G H:=A.st.gh
def At.step(A:At O K Z8 Z9 G H Y L)(s:Step G H G' H'):At O K Z8 Z9 G' H' Y L:=by
 let⟨İ,h,ap⟩:=A.env.sl;show#[A.st.trans s,A.env.len,İ,λi t e=>by let⟨v,h1,h2⟩:=h i t e;show#[v,h1,h2.stepS s],ap]
def At.put(A:At O K Z8 Z9 G H Y L){s':Slot}{v':V} 
  (hfp:fp=[]\/∃s v,Y[i]?=U (U s)/\L[i]?=U (U v)/\SR O K Z9 G H s v fp)
  (hH:∀b o,H b=U o->b∉fp->H' b=U o)(hS:SR O K Z9 G' H' s' v' fp')(hn:∀b∈fp',b∈fp\/H b=B)
  (gg:aY G G')(gh:aY G' H')(out:∀b o,H b=U o->b∉fp->kyT o=ar->G' b=G b)(out2:∀b∈fp,Z9 b=B):At O K Z8 Z9 G' H' (Y.set i (U s')) (L.set i (U v')):=by
 let⟨İ,h,ap⟩:=A.env.sl;let hl:=A.env.len;let Ż:∀b∈fp,∀j t,j≠i->Y[j]?=U (U t)->b∉İ j:=λb C j t hj e=>by
  rcases hfp with rfl|⟨s,v,h1,h2,h3⟩
  .cases C
  .obtain⟨v2,h4,h5⟩:=h i s h1;rw[h2] at h4;cases h4;let efp:fp=İ i:=h3.uniq h5;subst efp;show ap i j s t (dj hj) h1 e b C
 let slj:∀(j:ag)t,j≠i->Y[j]?=U (U t)->∃v,L[j]?=U (U v)/\SR O K Z9 G' H' t v (İ j):=λj t hj e=>by
  let⟨v,h1,h2⟩:=h j t e;show#[v,h1,h2.stay gg (λb C=>?_) (λb C=>?_)]
  .obtain⟨_,q2,o,q3,q4⟩:=h2.fpt b C;show(out b o q3 (λz=>Ż b z j t hj e C) q4).trans q2
  .obtain⟨_,_,o,q3,_⟩:=h2.fpt b C;rw[q3];show hH b o q3 λz=>Ż b z j t hj e C
 let no2:∀b o,Z9 b=U o->b∉fp:=λb o e z=>by rw[out2 b z] at e;cases e
 let ý:Step Z8 Z9 G' H':=#[λb o e=>hH b o (A.st.hh b o e) (no2 b o e),A.st.gg.trans gg,gh,λb o e k=>(out b o (A.st.hh b o e) (no2 b o e) k).trans (A.st.out b o e k)];show#[ý,by simp[hl],λj=>if j=i then fp' else İ j,λj t e=>?_,λj k t u hjk e1 e2 b C=>?_]
 .by_cases hj:j=i
  .subst hj;let Zu:j < Y.length:=by
    rcases kS j Y.length with q|q
    .exact q
    .rw[wE (by simp;ext)] at e;cases e
   rw[pi Zu] at e;cases e;show ∃v,_/\SR _ _ _ _ _ _ v (if j=j then fp' else İ j);rw[qY W];show#[v',by rw[pi .(c)],hS]
  .rw[qz (dj hj)] at e ⊢;show ∃v,_/\SR _ _ _ _ _ _ v (if j=i then fp' else İ j);rw[qZ hj];show slj j t hj e
 .let cross:∀{k:ag}{u:Slot},k≠i->Y[k]?=U (U u)->∀b∈fp',b∉İ k:=λ{k u}hk e b C ŏ=>by
   rcases hn b C with z|z
   .exact Ż b z k u hk e ŏ
   .obtain⟨v,_,q⟩:=h k u e;let⟨_,_,o,q3,_⟩:=q.fpt b ŏ;rw[z] at q3;cases q3
  replace C:b∈(if j=i then fp' else İ j):=C
  show b∉(if k=i then fp' else İ k);by_cases hj:j=i
  .subst hj;let hk:k≠j:=dj hjk;rw[qY W] at C;rw[qZ hk];rw[qz hjk] at e2;show cross hk e2 b C
  .rw[qZ hj] at C;rw[qz (dj hj)] at e1;by_cases hk:k=i
   .subst hk;rw[qY W];exactλz=>cross hj e1 b z C
   .rw[qZ hk];rw[qz (dj hk)] at e2;show ap j k t u hjk e1 e2 b C
def At.setSh(A:At O K Z8 Z9 G H Y L)(r:ZD O K G v d):At O K Z8 Z9 G H (Y.set i (U (.sh d))) (L.set i (U v)):=
 A.put (.inl W) (λb o e _=>e) (.sh r) (λb C=>by cases C) (.refl _) A.gh (λ_ _ _ _ _=>rfl) (λb C=>by cases C)
def At.setOwn(A:At O K Z8 Z9 G H Y L)(ha:H a=B)(r:YN O K G vs ds):At O K Z8 Z9 G (YZ H a (.lst vs)) (Y.set i (U (.own ds))) (L.set i (U (.ref a))):=by let h0:Z9 a=B:=A.st.hh.free ha;let hg:G a=B:=A.gh.free ha;show A.put (.inl W) (λb o e _=>by rw[aE (bJ e ha)];show e) (.own h0 hg bf r) (λb C=>.inr (by rw[bM.mp C];show ha)) (.refl _) (λb o e=>?_) (λ_ _ _ _ _=>rfl) (λb C=>by cases C);rw[aE (bJ e hg)];show A.gh b o e
def Ui{l:Z α}{x:α}(h:l[i]?=U x):l.set i x=l:=by
 apply WD;intro j;by_cases hj:j=i
 .subst hj;rw[pi (eV.mp h).1,h]
 .rw[qz (dj hj)]
def At.ch(A:At O K Z8 Z9 G H Y L){s s':Slot}(hi:Y[i]?=U (U s))(hv:L[i]?=U (U v))(hs:SR O K Z9 G H s v fp)
  (hH:∀b o,H b=U o->b∉fp->H' b=U o)(hS:SR O K Z9 G' H' s' v fp')(hn:∀b∈fp',b∈fp\/H b=B)
  (gg:aY G G')(gh:aY G' H')(out:∀b o,H b=U o->b∉fp->kyT o=ar->G' b=G b):At O K Z8 Z9 G' H' (Y.set i (U s')) L:=by
 let:=A.put (.inr #[s,v,hi,hv,hs]) hH hS hn gg gh out λb C=>(hs.fpt b C).1
 rwa [Ui hv] at this
def At.get(A:At O K Z8 Z9 G H Y L){s:Slot}(hi:Y[i]?=U (U s)):∃v fp,L[i]?=U (U v)/\SR O K Z9 G H s v fp:=by let⟨İ,h,_⟩:=A.env.sl;let⟨v,h1,h2⟩:=h i s hi;show#[v,_,h1,h2]
def At.chOwn(A:At O K Z8 Z9 G H Y L){es:Z D}{ws:Z V}(hi:Y[i]?=U (U (.own ds)))(ha:L[i]?=U (U (.ref a)))(r:YN O K G ws es):At O K Z8 Z9 G (YZ H a (.lst ws)) (Y.set i (U (.own es))) L:=by
 let⟨v,fp,h1,h2⟩:=A.get hi;rw[ha] at h1;cases h1;cases h2 with
 |own q1 q2 q3 q4=>
  show A.ch hi ha (.own q1 q2 q3 q4) (λb o e C=>?_) (.own q1 q2 bf r) (λb C=>.inl C) (.refl _) (λb o e=>?_) (λ_ _ _ _ _=>rfl)
  .rw[aE (λz=>C (bM.mpr z))];show e
  .rw[aE (bJ e q2)];show A.gh b o e
def At.freeze(A:At O K Z8 Z9 G H Y L)(hi:Y[i]?=U (U (.own ds))):∃G',aY G G'/\At O K Z8 Z9 G' H (Y.set i (U (.sh (.lst ds)))) L:=by
 let⟨v,fp,h1,h2⟩:=A.get hi;cases h2 with
 |own q1 q2 q3 q4=>
  rename_i a vs;let sm:aY G (YZ G a (.lst vs)):=λb o e=>by rw[aE (bJ e q2)];show e
  show#[YZ G a (.lst vs),sm,A.ch hi h1 (.own q1 q2 q3 q4) (λb o e C=>e) (.sh (.lst bf (q4.mono sm))) (λb C=>by cases C) sm (λb o e=>?_) (λb o e C _=>?_)]
  .by_cases C:b=a
   .subst C;rw[bf] at e;cases e;show q3
   .rw[aE C] at e;show A.gh b o e
  .rw[aE (λz=>C (bM.mpr z))]
mutual
inductive NewL(H G:Hp):V->D->Prop where
 |flat {v:V} {d:D}:gN d=ah->NewL H G v d
 |tup {a:av} {vs:Z V} {ds:Z D}:G a=U (.tup vs)->ś H G vs ds->NewL H G (.ref a) (.tup ds)
 |lst {a:av} {vs:Z V} {ds:Z D}:G a=U (.lst vs)->H a=B->ś H G vs ds->NewL H G (.ref a) (.lst ds)
inductive ś(H G:Hp):Z V->Z D->Prop where
 |nil:ś H G [] []
 |cons {v:V} {d:D} {vs:Z V} {ds:Z D}:NewL H G v d->ś H G vs ds->ś H G (v::vs) (d::ds)
end
inductive Fl where
 |nx|bk|ct|rt (d:D)|ow (ds:Z D)|nw (d:D)|od (YL:Z (YQ×D))
abbrev FE:=bB->au D
abbrev FT:=bB->au aJ
abbrev FA:=bB->au (Z D)
abbrev FS:=bB->au (Fl×bB)
inductive TD(O:Cn)(K:aT)(f:FE)(L:St)(H:Hp)(Q:VK):Prop where
 |mk:∀Z8 Z9 G Y d,At O K Z8 Z9 G H Y L->f Y=U d->(∀v G' H',Step G H G' H'->ZD O K G' v d->Q v H')->TD O K f L H Q
inductive TDt(O:Cn)(K:aT)(f:FT)(L:St)(H:Hp)(Q:aJ->Hp->Prop):Prop where
 |mk:∀Z8 Z9 G Y b,At O K Z8 Z9 G H Y L->f Y=U b->(∀G' H',Step G H G' H'->Q b H')->TDt O K f L H Q
inductive TDa(O:Cn)(K:aT)(f:FA)(L:St)(H:Hp)(Q:Z V->Hp->Prop):Prop where
 |mk:∀Z8 Z9 G Y ds,At O K Z8 Z9 G H Y L->f Y=U ds->(∀vs G' H',Step G H G' H'->YN O K G' vs ds->Q vs H')->TDa O K f L H Q
def S0(O:Cn)(K:aT)(us:gb)(Z9 G' H':Hp)(Z5:St):Fl->Prop
 |.nx=>us.nx Z5 H'
 |.bk=>us.bk Z5 H'
 |.ct=>us.ct Z5 H'
 |.rt d=>∀v,ZD O K G' v d->us.rt v H'
 |.ow ds=>∀p vs,Z9 p=B->G' p=B->H' p=U (.lst vs)->YN O K G' vs ds->us.rt (.ref p) H'
 |.nw d=>∀v,ZD O K G' v d->NewL Z9 G' v d->us.rt v H'
 |.od YL=>∀p E,Z9 p=B->G' p=B->H' p=U (.dK E)->E.map (·.1)=YL.map (·.1)->YN O K G' (E.map (·.2)) (YL.map (·.2))->us.rt (.ref p) H'
inductive Η(O:Cn)(K:aT)(g:FS)(us:gb)(L:St)(H:Hp):Prop where
 |mk:∀Z8 Z9 G Y fl Y',At O K Z8 Z9 G H Y L->g Y=U (fl,Y')->(∀Z5 G' H',aY G G'->At O K Z8 Z9 G' H' Y' Z5->S0 O K us Z9 G' H' Z5 fl)->Η O K g us L H
inductive TDo(O:Cn)(K:aT)(f:FA)(L:St)(H:Hp)(Q:VK):Prop where
 |mk:∀Z8 Z9 G Y ds,At O K Z8 Z9 G H Y L->f Y=U ds->(∀p vs G' H',Step G H G' H'->H' p=B->YN O K G' vs ds->Q (.ref p) (YZ H' p (.lst vs)))->TDo O K f L H Q
structure DE(O:Cn)(X:Cx)(e:Expr)(f:FE):Prop where
 out:PE X e (TD O X.K f)
structure DT(O:Cn)(X:Cx)(e:Expr)(f:FT):Prop where
 out:PT X e (TDt O X.K f)
structure DW(O:Cn)(X:Cx)(e:Expr)(f:FT):Prop where
 out:PW X e (TDt O X.K f)
structure DA(O:Cn)(X:Cx)(es:Z Expr)(f:FA):Prop where
 out:PA X es (TDa O X.K f)
structure DS(O:Cn)(X:Cx)(st:Stmt)(g:FS):Prop where
 out:PS X st (Η O X.K g)
structure Ø(O:Cn)(X:Cx)(st:Z Stmt)(g:FS):Prop where
 out:Ś X st (Η O X.K g)
structure DO(O:Cn)(X:Cx)(e:Expr)(f:FA):Prop where
 out:PE X e (TDo O X.K f)
variable{fa fb fc f:FE}
section
variable{a c:Expr}
def PE.imp{t t':TE}(h:PE X e t)(i:∀L H Q,t' L H Q->t L H Q):PE X e t':=λZ' s L H Q I q=>h Z' s L H Q I (i _ _ _ q)
def PT.imp{t t':TT}(h:PT X e t)(i:∀L H Q,t' L H Q->t L H Q):PT X e t':=λZ' s L H Q I q=>h Z' s L H Q I (i _ _ _ q)
def PW.imp{t t':TT}(h:PW X e t)(i:∀L H Q,t' L H Q->t L H Q):PW X e t':=λwh Z' s L H Q I q=>h wh Z' s L H Q I (i _ _ _ q)
def PA.imp{t t':TA}(h:PA X es t)(i:∀L H Q,t' L H Q->t L H Q):PA X es t':=λp Z' s L H Q I q=>h p Z' s L H Q I (i _ _ _ q)
def PS.imp{st:Stmt}{t t':TS}(h:PS X st t)(i:∀us L H,t' us L H->t us L H):PS X st t':=λZ' s L H us I q=>h Z' s L H us I (i _ _ _ q)
def Ś.imp{st:Z Stmt}{t t':TS}(h:Ś X st t)(i:∀us L H,t' us L H->t us L H):Ś X st t':=λZ' s L H us I q=>h Z' s L H us I (i _ _ _ q)
noncomputable def M(i:ag):FE:=λY=>match Y[i]? with
 |some (U (.sh d))=>U d
 |_=>B
def RQ(h:M i Y=U d):Y[i]?=U (U (.sh d)):=by
 unfold M at h;split at h
 .rename_i e;cases h;show e
 .cases h
def bR(i:ag)(hN:X.N[i]?=U x:=by rfl)(hv:ŋ X.env.scope x:=by ac_nf)(hd:.(r)=ar:=by decide)
  (À:(x==("__classdict__":ai))=ar:=by decide):DE O X (.Name x pos) (M i):=⟨(fM hN hv hd À).imp λL H Q #[Z8,Z9,G,Y,d,A,h,k]=>by
 let⟨v,h1,h2⟩:=A.env.sh i d (RQ h);show#[v,h1,k v G H (.refl A.gh) h2]⟩
noncomputable def vC(d:D):FE:=λ_=>U d
def TD.const(r:∀G,ZD O X.K G v d)(h:PE X e (tC v)):DE O X e (vC d):=⟨h.imp λL H Q #[Z8,Z9,G,Y,d',A,h,k]=>by cases h;show k v G H (.refl A.gh) (r G)⟩
def oJ{i j}:DE O X (.Constant (.int i) j pos) (vC (.int i)):=TD.const (λ_=>.int i) GA
def yy{i j}:DE O X (.Constant (.bool i) j pos) (vC (.bl i)):=TD.const (λ_=>.bl i) Vy
def yn{j}:DE O X (.Constant .none j pos) (vC .non):=TD.const (λ_=>.non) SJ
def uj{i j}:DE O X (.Constant (.str i) j pos) (vC (.str i)):=TD.const (λ_=>.str i) Kh
def VH{i:aj}{t:Tok}(hg:Gl X x)(hm:X.mg x=U (.int i t))(hd:.(r)=ar:=by decide):DE O X (.Name x pos) (vC (.int i)):=TD.const (λ_=>.int i) (L8 hg hm #[t,W] hd)
noncomputable def b2(g:D->D->au D)(fa fb:FE):FE:=λY=>(fa Y).bind λx=>(fb Y).bind λy=>g x y
noncomputable def b1(g:D->au D)(fa:FE):FE:=λY=>(fa Y).bind g
def f9(O:Cn)(K:aT)(g:D->D->au D)(r:R2):Prop:=
 ∀{G H v u x y z},aY G H->ZD O K G v x->ZD O K G u y->g x y=U z->∀Q:VK,(∀w G' H',Step G H G' H'->ZD O K G' w z->Q w H')->r v u H Q
def TD.two{g:D->D->au D}{r:R2}(hr:f9 O X.K g r):∀L H Q,TD O X.K (b2 g fa fb) L H Q->tOp r (TD O X.K fa) (TD O X.K fb) L H Q:=by
 rintro L H Q ⟨Z8,Z9,G,Y,d,A,h,k⟩;unfold b2 at h;cases ha:fa Y with
 |none=>rw[ha] at h;cases h
 |some x=>
  cases C:fb Y with
  |none=>rw[ha] at h;simp only[qc,C,Option.bind_none] at h;cases h
  |some y=>
   simp only[ha,C,qc] at h;show#[Z8,Z9,G,Y,x,A,ha,λv G1 H1 s1 r1=>#[Z8,Z9,G1,Y,y,A.step s1,C,λu G2 H2 s2 r2=>?_]];show hr s2.gh (r1.mono s2.gg) r2 h Q λw G' H' s r=>k w G' H' ((s1.trans s2).trans s) r
def mK{op:Operator}{g:D->D->au D}{r:R2}(ho:Å X (gX op) r)(hr:f9 O X.K g r)(ha:DE O X a fa)(C:DE O X b fb):DE O X (.BinOp a op b pos) (b2 g fa fb):=⟨(Je ho ha.1 C.1).imp (TD.two hr)⟩
noncomputable def aS:D->D->au D
 |.int i,.int j=>U (.int (i+j))
 |.str x,.str y=>if x.length+y.length<=aK then U (.str (x++y)) else B
 |.lst x,.lst y=>if x.length+y.length<=aK then U (.lst (x++y)) else B
 |_,_=>B
noncomputable def io:D->D->au D
 |.int i,.int j=>U (.int (i-j))
 |_,_=>B
noncomputable def kx(x:ai)(n:ag):ai:=⟨(bU n x.cps.toList).flatten.toArray⟩
def cJ:D->D->au D
 |.int i,.int j=>if (-(2 ^ 64)<i/\i<2 ^ 64)\/(-(2 ^ 64)<j/\j<2 ^ 64) then U (.int (i*j)) else B
 |.lst x,.int j=>if -(2 ^ 63)<=j/\j<2 ^ 63/\x.length*j.toNat<=aK then U (.lst (bU j.toNat x).flatten) else B
 |.str x,.int j=>if 0<=j/\j<1000/\x.length<1000 then U (.str (kx x j.toNat)) else B
 |_,_=>B
noncomputable def jD:D->D->au D
 |.int i,.int j=>if 0<j/\j<1073741824 then U (.int (i / j)) else B
 |_,_=>B
noncomputable def e6:D->D->au D
 |.int i,.int j=>if 0<j then U (.int (i%j)) else B
 |_,_=>B
noncomputable def kh:D->D->au D
 |.int i,.int j=>if 0<=j/\j<=1000000/\i.natAbs<2 ^ 64 then U (.int (i ^ j.toNat)) else B
 |_,_=>B
def ZD.int_inv{i:aj}(r:ZD O K G v (.int i)):v=.int i:=by cases r;rfl
def ZD.str_inv{i:ai}(r:ZD O K G v (.str i)):v=.str i:=by cases r;rfl
def ZD.bl_inv{i:aJ}(r:ZD O K G v (.bl i)):v=.bl i:=by cases r;rfl
def ZD.lst_inv(r:ZD O K G v (.lst ds)):∃a vs,v=.ref a/\G a=U (.lst vs)/\YN O K G vs ds:=by cases r;show#[_,_,W,by assumption,by assumption]
def ZD.tup_inv(r:ZD O K G v (.tup ds)):∃a vs,v=.ref a/\G a=U (.tup vs)/\YN O K G vs ds:=by cases r;show#[_,_,W,by assumption,by assumption]
def ZD.scr_inv{ns:Z aj}(r:ZD O K G v (.scr ns)):∃a,v=.ref a/\ñ K G a (ns.map V.int):=by cases r;show#[_,W,by assumption]
def ip{Q:VK}(gh:aY G H)(r:YN O K G vs ds)(k:∀w G' H',Step G H G' H'->ZD O K G' w (.lst ds)->Q w H'):∀p,H p=B->Q (.ref p) (YZ H p (.lst vs)):=λp hp=>by let s:=Step.new (o:=.lst vs) gh hp;show k _ _ _ s (.lst bf (r.mono s.gg))
def uK{Q:VK}(gh:aY G H)(r:YN O K G vs ds)(k:∀w G' H',Step G H G' H'->ZD O K G' w (.tup ds)->Q w H'):∀p,H p=B->Q (.ref p) (YZ H p (.tup vs)):=λp hp=>by let s:=Step.new (o:=.tup vs) gh hp;show k _ _ _ s (.tup bf (r.mono s.gg))
def JN:f9 O K aS (λx y H Q=>(ź (λi j=>V.int (i+j)) x y H Q\/(∃i j,x=.str i/\y=.str j/\i.length+j.length<=aK/\Q (.str (i++j)) H))\/xB x y H Q):=by
 intro G H v u x y z gh r1 r2 h Q k;unfold aS at h;split at h
 .cases h;cases r1.int_inv;cases r2.int_inv;show .inl (.inl #[_,_,W,W,k _ G H (.refl gh) (.int _)])
 .split at h
  .cases h;cases r1.str_inv;cases r2.str_inv;show .inl (.inr #[_,_,W,W,by assumption,k _ G H (.refl gh) (.str _)])
  .cases h
 .split at h
  .rename_i hz;cases h;let⟨a,vs,rfl,ha,ra⟩:=r1.lst_inv;let⟨b,E,rfl,C,rb⟩:=r2.lst_inv;show .inr #[a,b,vs,E,W,W,gh _ _ ha,gh _ _ C,by rw[ra.length,rb.length];show hz,ip gh (ra.append rb) k]
  .cases h
 .cases h
def Ja:Å X (gX .Add) (λx y H Q=>(ź (λi j=>V.int (i+j)) x y H Q\/(∃i j,x=.str i/\y=.str j/\i.length+j.length<=aK/\Q (.str (i++j)) H))\/xB x y H Q):=(Qn.or OJ).or Qw
def zg(ha:DE O X a fa)(C:DE O X b fb):DE O X (.BinOp a .Add b pos) (b2 aS fa fb):=mK Ja JN ha C
def TY{g:D->D->au D}{o:aj->aj->aj}(hg:∀x y z,g x y=U z->∃i j,x=.int i/\y=.int j/\z=.int (o i j)):f9 O K g (ź λi j=>V.int (o i j)):=by intro G H v u x y z gh r1 r2 h Q k;let⟨i,j,rfl,rfl,rfl⟩:=hg x y z h;cases r1.int_inv;cases r2.int_inv;show#[_,_,W,W,k _ G H (.refl gh) (.int _)]
def yS{g:D->D->au D}{hb:aj->aj->Prop}{o:aj->aj->aj}(hg:∀x y z,g x y=U z->∃i j,x=.int i/\y=.int j/\hb i j/\z=.int (o i j)):f9 O K g (rI hb λi j=>V.int (o i j)):=by intro G H v u x y z gh r1 r2 h Q k;let⟨i,j,rfl,rfl,hc,rfl⟩:=hg x y z h;cases r1.int_inv;cases r2.int_inv;show#[_,_,W,W,hc,k _ G H (.refl gh) (.int _)]
def LB(ha:DE O X a fa)(C:DE O X b fb):DE O X (.BinOp a .Sub b pos) (b2 io fa fb):=mK OI (TY λx y z h=>by unfold io at h;split at h<;>cases h;show#[_,_,W,W,W]) ha C
def NE(ha:DE O X a fa)(C:DE O X b fb):DE O X (.BinOp a .FloorDiv b pos) (b2 jD fa fb):=mK Kq (yS λx y z h=>by
 unfold jD at h;split at h
 .split at h<;>cases h;show#[_,_,W,W,by assumption,W]
 .cases h) ha C
def Qp(ha:DE O X a fa)(C:DE O X b fb):DE O X (.BinOp a .Mod b pos) (b2 e6 fa fb):=mK Nd (yS λx y z h=>by
 unfold e6 at h;split at h
 .split at h<;>cases h;show#[_,_,W,W,by assumption,W]
 .cases h) ha C
def Jm(ha:DE O X a fa)(C:DE O X b fb):DE O X (.BinOp a .Pow b pos) (b2 kh fa fb):=mK TQ (yS λx y z h=>by
 unfold kh at h;split at h
 .split at h<;>cases h;show#[_,_,W,W,by assumption,W]
 .cases h) ha C
def F9(a:bK ag):∀(k:ag)(YT:Z ag),(bU k a).foldl (·++·) YT.toArray=(YT++(bU k a.toList).flatten).toArray
 |0,YT=>by simp
 |k+1,YT=>by
  rw[ma,gc,ma,pE,<-pF,<-F9 a k (YT++a.toList)]
  congr 1
  simp
def F6:R2:=λx y H Q=>∃z n,x=.str z/\y=.int n/\0<=n/\n<1000/\z.length<1000/\Q (.str (kx z n.toNat)) H
def Ni:Å X (gX .Mult) F6:=by
 intro Z' s L H x y v u Q I rx ry h;let⟨z,n,rfl,rfl,h0,h1,h2,q⟩:=h;let⟨t,rfl⟩:=rx;let⟨t',rfl⟩:=ry;let hl:z.length*n.toNat<=1000000:=qO (A9 (sK h2) (show n.toNat<=1000 by ext)) .(b);let e0:(bU n.toNat z.cps).foldl (·++·) #[]=(kx z n.toNat).cps:=by let:=F9 z.cps n.toNat [];simpa[kx] using this
 show PySem.P.mul_str ?_ (λh _=>?_) (λ_ _=>?_) ?_
 .rw[qP .(c),qP .(c)];rfl
 .let e:(z.length:aj)*n=((z.length*n.toNat:ag):aj):=by rw[Int.natCast_mul];congr 1;ext
  let:(z.length:aj)<=(2 ^ 63-1:aj) / n:=Int.le_ediv_of_mul_le .(c) (by rw[e];ext);ext
 .unfold Yv;show qP (by let:=eW;ext)
 .split
  .let:n=0:=by ext
   subst this;show#[by decide,#[.str _,H,I.tok _,#[_,W],by simpa[kx,jV] using q]]
  .split
   .rename_i hc;let ez:kx z n.toNat=z:=by
     rcases Bb _ _▸hc with e|e
     .let:n=1:=by simpa using e
      subst this;simp[kx]
     .let hz:z.cps=#[]:=by
       let:z.cps.size=0:=by simpa[sT] using e
       show Array.eq_empty_of_size_eq_zero this
      cases z;simp only at hz;subst hz;simp[kx]
    show#[.str _,H,I,#[_,W],by rw[<-ez];show q]
   .rw[e0];show#[?_,#[.str _,H,I.tok _,#[_,W],q]];let e1:(kx z n.toNat).length=n.toNat*z.length:=by show(bU n.toNat z.cps.toList).flatten.toArray.size=_;rw[qC,FJ];simp[sT]
    rw[e1,Wq];let:=eW;ext
def UR:f9 O K cJ (λx y H Q=>(rI wk (λi j=>V.int (i*j)) x y H Q\/CN x y H Q)\/F6 x y H Q):=by
 intro G H v u x y z gh r1 r2 h Q k;unfold cJ at h;split at h
 .split at h
  .cases h;cases r1.int_inv;cases r2.int_inv;show .inl (.inl #[_,_,W,W,by assumption,k _ G H (.refl gh) (.int _)])
  .cases h
 .split at h
  .rename_i hz;cases h;let⟨a,vs,rfl,ha,ra⟩:=r1.lst_inv;cases r2.int_inv;show .inl (.inr #[a,_,vs,W,W,gh _ _ ha,hz.1,hz.2.1,by rw[ra.length];show hz.2.2,ip gh (ra.rep _) k])
  .cases h
 .split at h
  .rename_i hz;cases h;cases r1.str_inv;cases r2.int_inv;show .inr #[_,_,W,W,hz.1,hz.2.1,hz.2.2,k _ G H (.refl gh) (.str _)]
  .cases h
 .cases h
def Lb(ha:DE O X a fa)(C:DE O X b fb):DE O X (.BinOp a .Mult b pos) (b2 cJ fa fb):=mK ((UZ.or Sm).or Ni) UR ha C
end
variable{ft gt:FT}{fr:FA}
section
variable{a c:Expr}
def ZD.non_inv(r:ZD O K G v .non):v=.non:=by cases r;rfl
noncomputable def ltS(x y:ai):aJ:=decide (x.cps.toList<y.cps.toList)
def ü:D->D->au D
 |.int i,.int j=>U (.bl (decide (i<j)))
 |.str x,.str y=>U (.bl (ltS x y))
 |_,_=>B
def Î:D->D->au D
 |.int i,.int j=>U (.bl (decide (i<=j)))
 |.str x,.str y=>U (.bl (!ltS y x))
 |_,_=>B
noncomputable def Ő:D->D->au D
 |.int i,.int j=>U (.bl (decide (j<i)))
 |_,_=>B
noncomputable def geD:D->D->au D
 |.int i,.int j=>U (.bl (decide (j<=i)))
 |_,_=>B
noncomputable def eqS:D->D->au aJ
 |.int i,.int j=>U (decide (i=j))
 |.bl i,.bl j=>U (decide (i=j))
 |.str i,.str j=>U (decide (i=j))
 |.non,.non=>U ah
 |.non,.int _=>U ar|.int _,.non=>U ar|.non,.bl _=>U ar|.bl _,.non=>U ar|.non,.str _=>U ar|.str _,.non=>U ar
 |.int _,.str _=>U ar|.str _,.int _=>U ar|.bl _,.str _=>U ar|.str _,.bl _=>U ar
 |_,_=>B
def î(x y:D):au D:=(eqS x y).map D.bl
def neD(x y:D):au D:=(eqS x y).map λb=>D.bl (!b)
def C5{u:V}{x y:D}{k:aJ}(r1:ZD O K G v x)(r2:ZD O K G u y)(h:eqS x y=U k):zQ v u=ah/\decide (v=u)=k:=by
 unfold eqS at h;split at h<;>cases h
 .cases r1.int_inv;cases r2.int_inv;show#[W,by simp]
 .cases r1.bl_inv;cases r2.bl_inv;show#[W,by simp]
 .cases r1.str_inv;cases r2.str_inv;show#[W,by simp]
 .cases r1.non_inv;cases r2.non_inv;show#[W,by simp]
 .cases r1.non_inv;cases r2.int_inv;show#[W,by simp]
 .cases r1.int_inv;cases r2.non_inv;show#[W,by simp]
 .cases r1.non_inv;cases r2.bl_inv;show#[W,by simp]
 .cases r1.bl_inv;cases r2.non_inv;show#[W,by simp]
 .cases r1.non_inv;cases r2.str_inv;show#[W,by simp]
 .cases r1.str_inv;cases r2.non_inv;show#[W,by simp]
 .cases r1.int_inv;cases r2.str_inv;show#[W,by simp]
 .cases r1.str_inv;cases r2.int_inv;show#[W,by simp]
 .cases r1.bl_inv;cases r2.str_inv;show#[W,by simp]
 .cases r1.str_inv;cases r2.bl_inv;show#[W,by simp]
def Rc:f9 O K î rEq:=by
 intro G H v u x y z gh r1 r2 h Q k;unfold î at h;cases e:eqS x y with
 |none=>rw[e] at h;cases h
 |some b=>
  rw[e] at h;cases h;let⟨h1,h2⟩:=C5 r1 r2 e;show#[h1,by rw[h2];show k _ G H (.refl gh) (.bl _)]
def RM:f9 O K neD rNe:=by
 intro G H v u x y z gh r1 r2 h Q k;unfold neD at h;cases e:eqS x y with
 |none=>rw[e] at h;cases h
 |some b=>
  rw[e] at h;cases h;let⟨h1,h2⟩:=C5 r1 r2 e;show#[h1,by rw[h2];show k _ G H (.refl gh) (.bl _)]
def Dy{g:D->D->au D}{o:aj->aj->aJ}(hg:∀x y z,g x y=U z->∃i j,x=.int i/\y=.int j/\z=.bl (o i j)):f9 O K g (ź λi j=>V.bl (o i j)):=by intro G H v u x y z gh r1 r2 h Q k;let⟨i,j,rfl,rfl,rfl⟩:=hg x y z h;cases r1.int_inv;cases r2.int_inv;show#[_,_,W,W,k _ G H (.refl gh) (.bl _)]
def IU:Å X (dM .LtE) (λx y H Q=>∃i j,x=.str i/\y=.str j/\Q (.bl (!ltS j i)) H):=by intro Z' s L H x y v u Q I rx ry h;let⟨i,j,rfl,rfl,q⟩:=h;let⟨t,rfl⟩:=rx;let⟨t',rfl⟩:=ry;show PySem.P.le_str (cN I q (by simp[ltS]))
def J0:f9 O K ü (λx y H Q=>ź (λi j=>V.bl (decide (i<j))) x y H Q\/∃i j,x=.str i/\y=.str j/\Q (.bl (decide (i.cps.toList<j.cps.toList))) H):=by
 intro G H v u x y z gh r1 r2 h Q k;unfold ü at h;split at h<;>cases h
 .cases r1.int_inv;cases r2.int_inv;show .inl #[_,_,W,W,k _ G H (.refl gh) (.bl _)]
 .cases r1.str_inv;cases r2.str_inv;show .inr #[_,_,W,W,k _ G H (.refl gh) (.bl _)]
def K9:f9 O K Î (λx y H Q=>ź (λi j=>V.bl (decide (i<=j))) x y H Q\/∃i j,x=.str i/\y=.str j/\Q (.bl (!ltS j i)) H):=by
 intro G H v u x y z gh r1 r2 h Q k;unfold Î at h;split at h<;>cases h
 .cases r1.int_inv;cases r2.int_inv;show .inl #[_,_,W,W,k _ G H (.refl gh) (.bl _)]
 .cases r1.str_inv;cases r2.str_inv;show .inr #[_,_,W,W,k _ G H (.refl gh) (.bl _)]
structure Zx(O:Cn)(X:Cx)(op:CmpOp)(g:D->D->au D):Prop where
 ex:∃r,Å X (dM op) r/\f9 O X.K g r
def Hj:Zx O X .Lt ü:=#[_,JO.or IW,J0]
def oB:Zx O X .LtE Î:=#[_,RT.or IU,K9]
def BN:Zx O X .Gt Ő:=#[_,Tr,Dy λx y z h=>by unfold Ő at h;split at h<;>cases h;show#[_,_,W,W,W]]
def D9:Zx O X .GtE geD:=#[_,UU,Dy λx y z h=>by unfold geD at h;split at h<;>cases h;show#[_,_,W,W,W]]
def uL:Zx O X .Eq î:=#[_,MJ,Rc]
def zb:Zx O X .NotEq neD:=#[_,KC,RM]
def zP{g:D->D->au D}(h:Zx O X op g)(ha:DE O X a fa)(C:DE O X b fb)(hm:sN op b=ar):DE O X (.Compare a [op] [b] pos) (b2 g fa fb):=⟨by let⟨r,ho,hr⟩:=h.ex;show(PR ho ha.1 C.1 hm).imp (TD.two hr)⟩
noncomputable def ŉ(g g':D->D->au D)(fa fb fc:FE):FE:=λY=>(fa Y).bind λx=>(fb Y).bind λy=>(g x y).bind λz=>match z with
 |.bl ah=>(fc Y).bind λw=>g' y w
 |.bl ar=>U (.bl ar)
 |_=>B
def TD.chain{g g':D->D->au D}{r:R2}(hr:f9 O X.K g r)(hr':f9 O X.K g' r'):∀L H Q,TD O X.K (ŉ g g' fa fb fc) L H Q->yg r r' (TD O X.K fa) (TD O X.K fb) (TD O X.K fc) L H Q:=by
 rintro L H Q ⟨Z8,Z9,G,Y,d,A,h,k⟩;let⟨x,ha,h⟩:=ZE h;let⟨y,C,h⟩:=ZE h;let⟨z,hz,h⟩:=ZE h;show#[Z8,Z9,G,Y,x,A,ha,λv G1 H1 s1 r1=>#[Z8,Z9,G1,Y,y,A.step s1,C,λu G2 H2 s2 r2=>?_]];show hr s2.gh (r1.mono s2.gg) r2 hz _ λw G3 H3 s3 r3=>?_;split at h
 .cases r3.bl_inv;let⟨w,hc,h⟩:=ZE h;show#[ah,W,lc #[Z8,Z9,G3,Y,w,((A.step s1).step s2).step s3,hc,λq G4 H4 s4 r4=>?_]];show hr' s4.gh ((r2.mono s3.gg).mono s4.gg) r4 h Q λw' G' H' s r=>k w' G' H' ((((s1.trans s2).trans s3).trans s4).trans s) r
 .cases r3.bl_inv;cases h;show#[ar,W,lB (k _ G3 H3 ((s1.trans s2).trans s3) (.bl _))]
 .cases h
def Ly{g g':D->D->au D}(h:Zx O X op g)(h':Zx O X θ g')(ha:DE O X a fa)(C:DE O X b fb)(hc:DE O X c fc)(hm:AG [op,θ] [b,c]=ar:=by with_unfolding_all rfl):
  DE O X (.Compare a [op,θ] [b,c] pos) (ŉ g g' fa fb fc):=⟨by
 let⟨r,ho,hr⟩:=h.ex;let⟨r',Ĕ,hr'⟩:=h'.ex;show(O6 ho Ĕ ha.1 C.1 hc.1 hm).imp (TD.chain hr hr')⟩
noncomputable def YX(f:FE):FT:=λY=>(f Y).bind λd=>match d with
 |.bl b=>U b
 |_=>B
def TDt.val:∀L H Q,TDt O X.K (YX f) L H Q->TD O X.K f L H λx H'=>∃k,x=.bl k/\Q k H':=by rintro L H Q ⟨Z8,Z9,G,Y,b,A,h,k⟩;let⟨d,hd,h⟩:=ZE h;split at h<;>cases h;show#[Z8,Z9,G,Y,_,A,hd,λv G' H' s r=>#[b,r.bl_inv,k G' H' s]]
def ny{g:D->D->au D}(h:Zx O X op g)(ha:DE O X a fa)(C:DE O X b fb)(hm:sN op b=ar):DT O X (.Compare a [op] [b] pos) (YX (b2 g fa fb)):=⟨by let⟨r,ho,hr⟩:=h.ex;show(Ua ho ha.1 C.1 hm).imp λL H Q q=>TD.two hr L H _ (TDt.val L H Q q)⟩
def Vl{g g':D->D->au D}(h:Zx O X op g)(h':Zx O X θ g')(ha:DE O X a fa)(C:DE O X b fb)(hc:DE O X c fc)(hm:AG [op,θ] [b,c]=ar:=by with_unfolding_all rfl):
  DT O X (.Compare a [op,θ] [b,c] pos) (YX (ŉ g g' fa fb fc)):=⟨by
 let⟨r,ho,hr⟩:=h.ex;let⟨r',Ĕ,hr'⟩:=h'.ex;show(UT ho Ĕ ha.1 C.1 hc.1 hm).imp λL H Q q=>TD.chain hr hr' L H _ (TDt.val L H Q q)⟩
def iH(h:DE O X e f)(he:∀ă,isTrue e X.env ă=(do let v ←ă;pj e.pos;lZ [v] (truthy v)):=by intro _;rfl):DT O X e (YX f):=⟨(Sl h.1 he).imp TDt.val⟩
noncomputable def bE(f:FT):FT:=λY=>(f Y).map (!·)
noncomputable def f'(f g:FT):FT:=λY=>(f Y).bind λb=>if b=ah then g Y else U ar
noncomputable def Ã(f g:FT):FT:=λY=>(f Y).bind λb=>if b=ah then U ah else g Y
variable{bX:Z Expr}
def DW.dt(h:DW O X e ft):DT O X e ft:=⟨h.1.pt⟩
def iY(h:DT O X a ft):DT O X (.UnaryOp .Not a pos) (bE ft):=⟨(NQ h.1).imp λL H Q=>by rintro⟨Z8,Z9,G,Y,b,A,h,k⟩;let⟨c,hc,h⟩:=Za h;show#[Z8,Z9,G,Y,c,A,hc,λG' H' s=>by show Q (!c) H';rw[h];show k G' H' s]⟩
def Ad(h:DT O X a ft):DW O X (.BoolOp .And [a] pos) ft:=⟨Ml h.1⟩
def je(h:DT O X a ft):DW O X (.BoolOp .Or [a] pos) ft:=⟨Si h.1⟩
def u6(h:DT O X a ft)(h':DW O X (.BoolOp .And (b::bX) pos) gt):DW O X (.BoolOp .And (a::b::bX) pos) (f' ft gt):=⟨(J3 h.1 h'.1).imp λL H Q=>by
 rintro⟨Z8,Z9,G,Y,r,A,h,k⟩;let⟨c,hc,h⟩:=ZE h;show#[Z8,Z9,G,Y,c,A,hc,λG1 H1 s1=>?_];cases c with
 |true=>show lc #[Z8,Z9,G1,Y,r,A.step s1,by simpa using h,λG' H' s=>k G' H' (s1.trans s)]
 |false=>
  rw[qZ qu] at h;cases h;show lB (k _ _ s1)⟩
def hZ(h:DT O X a ft)(h':DW O X (.BoolOp .Or (b::bX) pos) gt):DW O X (.BoolOp .Or (a::b::bX) pos) (Ã ft gt):=⟨(RZ h.1 h'.1).imp λL H Q=>by
 rintro⟨Z8,Z9,G,Y,r,A,h,k⟩;let⟨c,hc,h⟩:=ZE h;show#[Z8,Z9,G,Y,c,A,hc,λG1 H1 s1=>?_];cases c with
 |false=>show lB #[Z8,Z9,G1,Y,r,A.step s1,by simpa using h,λG' H' s=>k G' H' (s1.trans s)]
 |true=>
  rw[qY W] at h;cases h;show lc (k _ _ s1)⟩
noncomputable def cu(fa fb:FE):FE:=λY=>(fa Y).bind λd=>match d with
 |.bl ah=>fb Y
 |.bl ar=>U (.bl ar)
 |_=>B
noncomputable def orD(fa fb:FE):FE:=λY=>(fa Y).bind λd=>match d with
 |.bl ah=>U (.bl ah)
 |.bl ar=>fb Y
 |_=>B
noncomputable def yz(fa:FE):FE:=λY=>(fa Y).bind λd=>match d with
 |.bl b=>U (.bl (!b))
 |_=>B
def yH{op}(h:DE O X a fa):DE O X (.BoolOp op [a] pos) fa:=⟨Tn h.1⟩
def tX(ha:DE O X a fa)(C:DE O X (.BoolOp .And (b::bX) pos) fb):DE O X (.BoolOp .And (a::b::bX) pos) (cu fa fb):=⟨(Su ha.1 C.1).imp λL H Q=>by
 rintro⟨Z8,Z9,G,Y,d,A,h,k⟩;let⟨x,hx,h⟩:=ZE h;show#[Z8,Z9,G,Y,x,A,hx,λv G1 H1 s1 r1=>?_];split at h
 .cases r1.bl_inv;show#[ah,W,lc #[Z8,Z9,G1,Y,d,A.step s1,h,λw G' H' s r=>k w G' H' (s1.trans s) r]]
 .cases r1.bl_inv;cases h;show#[ar,W,lB (k _ G1 H1 s1 (.bl _))]
 .cases h⟩
def NP(ha:DE O X a fa)(C:DE O X (.BoolOp .Or (b::bX) pos) fb):DE O X (.BoolOp .Or (a::b::bX) pos) (orD fa fb):=⟨(Ud ha.1 C.1).imp λL H Q=>by
 rintro⟨Z8,Z9,G,Y,d,A,h,k⟩;let⟨x,hx,h⟩:=ZE h;show#[Z8,Z9,G,Y,x,A,hx,λv G1 H1 s1 r1=>?_];split at h
 .cases r1.bl_inv;cases h;show#[ah,W,lc (k _ G1 H1 s1 (.bl _))]
 .cases r1.bl_inv;show#[ar,W,lB #[Z8,Z9,G1,Y,d,A.step s1,h,λw G' H' s r=>k w G' H' (s1.trans s) r]]
 .cases h⟩
def RP(ha:DE O X a fa):DE O X (.UnaryOp .Not a pos) (yz fa):=⟨(O5 ha.1).imp λL H Q=>by
 rintro⟨Z8,Z9,G,Y,d,A,h,k⟩;let⟨x,hx,h⟩:=ZE h;show#[Z8,Z9,G,Y,x,A,hx,λv G1 H1 s1 r1=>?_];split at h
 .cases r1.bl_inv;cases h;show#[_,W,k _ G1 H1 s1 (.bl _)]
 .cases h⟩
noncomputable def Ŭ(ft:FT)(fa fb:FE):FE:=λY=>(ft Y).bind λc=>if c=ah then fa Y else fb Y
def t7(hc:DT O X c ft)(ha:DE O X a fa)(C:DE O X b fb):DE O X (.IfExp c a b pos) (Ŭ ft fa fb):=⟨(Pv hc.1 ha.1 C.1).imp λL H Q=>by
 rintro⟨Z8,Z9,G,Y,d,A,h,k⟩;let⟨x,hx,h⟩:=ZE h;show#[Z8,Z9,G,Y,x,A,hx,λG1 H1 s1=>?_];cases x with
 |true=>show lc #[Z8,Z9,G1,Y,d,A.step s1,by simpa using h,λw G' H' s r=>k w G' H' (s1.trans s) r]
 |false=>show lB #[Z8,Z9,G1,Y,d,A.step s1,by simpa using h,λw G' H' s r=>k w G' H' (s1.trans s) r]⟩
noncomputable def aq:FA:=λ_=>U []
noncomputable def J(fa:FE)(fr:FA):FA:=λY=>(fa Y).bind λx=>(fr Y).map (x::·)
def cE:DA O X [] aq:=⟨jJ.imp λL H Q=>by rintro⟨Z8,Z9,G,Y,d,A,h,k⟩;cases h;show k _ G H (.refl A.gh) .nil⟩
def cw(ha:DE O X e fa)(hr:DA O X es fr)(hs:aP (e::es) X.env=(ar,eval e X.env)::aP es X.env:=by rfl):DA O X (e::es) (J fa fr):=⟨(jh ha.1 hr.1 hs).imp λL H Q=>by rintro⟨Z8,Z9,G,Y,d,A,h,k⟩;let⟨x,hx,h⟩:=ZE h;let⟨xs,hxs,h⟩:=Za h;subst h;show#[Z8,Z9,G,Y,x,A,hx,λv G1 H1 s1 r1=>#[Z8,Z9,G1,Y,xs,A.step s1,hxs,λvs G2 H2 s2 r2=>k _ G2 H2 (s1.trans s2) (.cons (r1.mono s2.gg) r2)]]⟩
noncomputable def ZA(fr:FA):FA:=λY=>(fr Y).bind λl=>if l.length<=aK then U l else B
noncomputable def aQ(fr:FA):FE:=λY=>(fr Y).map D.lst
noncomputable def bo(fr:FA):FE:=λY=>(fr Y).map D.tup
def DO.de(h:DO O X e fr):DE O X e (aQ fr):=⟨h.1.imp λL H Q=>by rintro⟨Z8,Z9,G,Y,d,A,h,k⟩;let⟨ds,hd,rfl⟩:=Za h;show#[Z8,Z9,G,Y,ds,A,hd,λp vs G' H' s hp r=>ip s.gh r (λw G2 H2 s2 r2=>k w G2 H2 (s.trans s2) r2) p hp]⟩
def yp(h:DA O X es fr):DO O X (.List es pos) (ZA fr):=⟨(Pb h.1).imp λL H Q=>by
 rintro⟨Z8,Z9,G,Y,d,A,h,k⟩;let⟨ds,hd,h⟩:=ZE h;split at h
 .rename_i hz;cases h;show#[Z8,Z9,G,Y,d,A,hd,λvs G' H' s r=>#[by rw[r.length];show hz,λp hp=>k p vs G' H' s hp r]]
 .cases h⟩
def D7{x1}(h:DA O X es fr):DE O X (.Tuple es x1 pos) (bo (ZA fr)):=⟨(N0 h.1).imp λL H Q=>by
 rintro⟨Z8,Z9,G,Y,d,A,h,k⟩;let⟨ds',þ,rfl⟩:=Za h;let⟨ds,hd,h⟩:=ZE þ;split at h
 .rename_i hz;cases h;show#[Z8,Z9,G,Y,ds',A,hd,λvs G' H' s r=>#[by rw[r.length];show hz,uK s.gh r λw G2 H2 s2 r2=>k w G2 H2 (s.trans s2) r2]]
 .cases h⟩
def Am(O:Cn)(K:aT)(g:Z D->au D)(r:Z V->Hp->VK->Prop):Prop:=
 ∀{G H vs ds z},aY G H->YN O K G vs ds->g ds=U z->∀Q:VK,(∀w G' H',Step G H G' H'->ZD O K G' w z->Q w H')->r vs H Q
noncomputable def cF(g:Z D->au D)(fr:FA):FE:=λY=>(fr Y).bind g
def TD.call{g:Z D->au D}{r:Z V->Hp->VK->Prop}(hr:Am O X.K g r):∀L H Q,TD O X.K (cF g fr) L H Q->tCB r (TDa O X.K fr) L H Q:=by rintro L H Q ⟨Z8,Z9,G,Y,d,A,h,k⟩;let⟨ds,hd,h⟩:=ZE h;show#[Z8,Z9,G,Y,ds,A,hd,λvs G1 H1 s1 r1=>hr s1.gh r1 h Q λw G' H' s r=>k w G' H' (s1.trans s) r]
structure ğ(O:Cn)(X:Cx)(id:cW)(g:Z D->au D):Prop where
 ex:∃r,dZ X (.builtin id) r/\Am O X.K g r
structure TyD(O:Cn)(X:Cx)(id:cW)(g:Z D->au D):Prop where
 ex:∃r,dZ X (.type id) r/\Am O X.K g r
def dF{id:cW}{g:Z D->au D}(hc:ğ O X id g)(hg:Gl X x)(hm:X.mg x=B)(hv:eq x=U (.builtin id))(ha:DA O X (e::es) fr)(hn:x≠"__name__":=by decide)(õ:.(r)=ar:=by decide)
  (he:aP (e::es) X.env=(ar,eval e X.env)::aP es X.env:=by rfl)(Zo:(ci pos (aP es X.env)).any (·.1)=ar:=by rfl):DE O X (.Call (.Name x p) (e::es) [] pos) (cF g fr):=⟨by
 let⟨r,h1,h2⟩:=hc.ex;show(yO h1 hg hm hv ha.1 hn õ he Zo).imp (TD.call h2)⟩
def gm{id:cW}{g:Z D->au D}(hc:TyD O X id g)(hg:Gl X x)(hm:X.mg x=B)(hv:eq x=U (.type id))(ha:DA O X (e::es) fr)(hn:x≠"__name__":=by decide)(õ:.(r)=ar:=by decide)
  (he:aP (e::es) X.env=(ar,eval e X.env)::aP es X.env:=by rfl)(Zo:(ci pos (aP es X.env)).any (·.1)=ar:=by rfl):DE O X (.Call (.Name x p) (e::es) [] pos) (cF g fr):=⟨by
 let⟨r,h1,h2⟩:=hc.ex;show(wf h1 hg hm hv ha.1 hn õ he Zo).imp (TD.call h2)⟩
def nj{n:cW}(hg:Gl X x)(hm:X.mg x=B)(hv:eq x=U (.type n))(hn:x≠"__name__":=by decide)(hd:.(r)=ar:=by decide):DE O X (.Name x pos) (vC (.ty n)):=TD.const (λ_=>.ty n) (NX hg hm hv W hn hd)
def YN.one(r:YN O K G vs [d]):∃v,vs=[v]/\ZD O K G v d:=by
 cases r with
 |cons h t=>cases t;show#[_,W,h]
def YN.two{d':D}(r:YN O K G vs [d,d']):∃v u,vs=[v,u]/\ZD O K G v d/\ZD O K G u d':=by
 cases r with
 |cons h t=>cases t with
  |cons h2 t2=>cases t2;show#[_,_,W,h,h2]
noncomputable def kF:Z D->au D
 |[.int i,.int j]=>U (.int (if j > i then j else i))
 |_=>B
def Pd(hc:X.calm=ah):ğ O X "max" kF:=#[_,UW hc,λ{G H vs ds z}gh r h Q k=>by unfold kF at h;split at h<;>cases h;let⟨v,u,rfl,r1,r2⟩:=r.two;cases r1.int_inv;cases r2.int_inv;show#[_,_,W,k _ G H (.refl gh) (.int _)]]
noncomputable def iJ:Z D->au D
 |[.int i,.int j]=>U (.int (if j<i then j else i))
 |_=>B
def Mz(hc:X.calm=ah):ğ O X "min" iJ:=#[_,Vb hc,λ{G H vs ds z}gh r h Q k=>by unfold iJ at h;split at h<;>cases h;let⟨v,u,rfl,r1,r2⟩:=r.two;cases r1.int_inv;cases r2.int_inv;show#[_,_,W,k _ G H (.refl gh) (.int _)]]
noncomputable def b8:Z D->au D
 |[.str x]=>if x.length<=aK then U (.int (x.length:ag)) else B
 |[.lst l]=>U (.int (l.length:ag))
 |[.tup l]=>U (.int (l.length:ag))
 |[.scr l]=>U (.int (l.length:ag))
 |_=>B
def VC:ğ O X "len" b8:=#[_,R0,λ{G H vs ds z}gh r h Q k=>by
 unfold b8 at h;split at h
 .split at h
  .cases h;let⟨v,rfl,r1⟩:=r.one;cases r1.str_inv;show#[_,_,W,#[by assumption,W],k _ G H (.refl gh) (.int _)]
  .cases h
 .cases h;let⟨v,rfl,r1⟩:=r.one;let⟨a,vs,rfl,ha,rv⟩:=r1.lst_inv;show#[_,_,W,.inl #[vs,.inl (.inl (gh _ _ ha)),W],k _ G H (.refl gh) (by rw[rv.length];show .int _)]
 .cases h;let⟨v,rfl,r1⟩:=r.one;let⟨a,vs,rfl,ha,rv⟩:=r1.tup_inv;show#[_,_,W,.inr #[vs,.inl (.inl (gh _ _ ha)),W],k _ G H (.refl gh) (by rw[rv.length];show .int _)]
 .cases h;let⟨v,rfl,r1⟩:=r.one;let⟨a,rfl,ha⟩:=r1.scr_inv;show#[_,_,W,.inl #[_,gh.seq ha,W],k _ G H (.refl gh) (by rw[qg];show .int _)]
 .cases h]
noncomputable def ŷ:D->au cW
 |.non=>U "NoneType"
 |.bl _=>U "bool"
 |.int _=>U "int"
 |.str _=>U "str"
 |.lst _=>U "list"
 |.tup _=>U "tuple"
 |.dk _=>U "dict"
 |.dt _=>U "dict"
 |_=>B
noncomputable def fY(t c:cW):au aJ:=if (sJ t==sJ c)=ah then U ah else if PySem.W.kitMeta c=ah then ti (λx=>x.contains (sJ c)) (PySem.fastBuiltinMro t) else B
def eF:Z D->au D
 |[d,.ty c]=>(ŷ d).bind λt=>(fY t c).map D.bl
 |_=>B
def Nl{t:cW}(gh:aY G H)(r:ZD O K G v d)(h:ŷ d=U t):ö K H v (.type t):=by
 unfold ŷ at h;split at h<;>cases h
 .cases r.non_inv;show .non
 .cases r.bl_inv;show .bl _
 .cases r.int_inv;show .int _
 .cases r.str_inv;show .str _
 .obtain⟨a,vs,rfl,ha,_⟩:=r.lst_inv;show .lst (gh _ _ ha)
 .obtain⟨a,vs,rfl,ha,_⟩:=r.tup_inv;show .tup (gh _ _ ha)
 .cases r with
  |dk h _ _=>show .dK (gh _ _ h)
 .cases r with
  |dt h _ _=>show .dT (gh _ _ h)
def Tx:ğ O X "isinstance" eF:=by
 show#[λvs H Q=>∃v t c b,vs=[v,.ty c]/\ö X.K H v (.type t)/\V6 X.K (.type t) (.type c)=U b/\Q (.bl b) H,?_,?_]
 .intro Z' s L H xs E Q I r h;let⟨v,t,c,b,rfl,ty,hk,q⟩:=h;let⟨u,w',rfl,r1,r2⟩:=zU r;cases r2;show QT I r1 ty hk λtk=>#[.bl b,H,I.tok tk,W,q]
 .intro G H vs ds z gh r h Q k;unfold eF at h;split at h
  .obtain⟨t,ht,h⟩:=ZE h;let⟨b,C,rfl⟩:=Za h;let⟨v,u,rfl,r1,r2⟩:=r.two;cases r2;show#[v,t,_,b,W,Nl gh r1 ht,C,k _ G H (.refl gh) (.bl _)]
  .cases h
end
variable{β:Type}{fh:bB->au (au aj)}{fo:FE}
section
variable{a c:Expr}
def YN.atI{K:aT}{G:Hp}{vs:Z V}{ds:Z D}{i:aj}{d:D}(r:YN O K G vs ds)(h:L2.atI ds i=U d):∃v,L2.atI vs i=U v/\ZD O K G v d:=by
 unfold L2.atI at h ⊢;rw[r.length];cases e:ixN ds.length i with
 |none=>rw[e] at h;cases h
 |some j=>
  rw[e] at h;let⟨v,h1,h2⟩:=r.get h;show#[v,h1,h2]
def La(g:α->β)(xs:Z α)(i:aj):L2.atI (xs.map g) i=(L2.atI xs i).map g:=by
 unfold L2.atI;rw[qg];cases ixN xs.length i with
 |none=>rfl
 |some j=>simp
def YR:D->D->au D
 |.lst l,.int i=>atI l i
 |.tup l,.int i=>atI l i
 |.scr l,.int i=>(atI l i).map D.int
 |.str x,.int i=>if x.length<=aK then (atI x.cps.toList i).map λc=>D.str ⟨#[c]⟩ else B
 |_,_=>B
def Rl:f9 O K YR (rIx K):=by
 intro G H v u x y z gh r1 r2 h Q k;unfold YR at h;split at h
 .obtain⟨a,vs,rfl,ha,rv⟩:=r1.lst_inv;cases r2.int_inv;let⟨w,hw,Ò⟩:=rv.atI h;show .inl #[a,vs,_,w,W,W,.inl (.inl (gh _ _ ha)),hw,k w G H (.refl gh) Ò]
 .obtain⟨a,vs,rfl,ha,rv⟩:=r1.tup_inv;cases r2.int_inv;let⟨w,hw,Ò⟩:=rv.atI h;show .inr (.inl #[a,vs,_,w,W,W,.inl (.inl (gh _ _ ha)),hw,k w G H (.refl gh) Ò])
 .obtain⟨a,rfl,ha⟩:=r1.scr_inv;cases r2.int_inv;let⟨n,hn,rfl⟩:=Za h;show .inl #[a,_,_,.int n,W,W,gh.seq ha,by rw[La,hn];rfl,k _ G H (.refl gh) (.int _)]
 .split at h
  .cases r1.str_inv;cases r2.int_inv;let⟨n,hn,rfl⟩:=Za h;show .inr (.inr #[_,_,n,W,W,by assumption,hn,k _ G H (.refl gh) (.str _)])
  .cases h
 .cases h
def uT(ha:DE O X a fa)(C:DE O X b fb)(hs:GR b:=by intro _ _;rfl):DE O X (.Subscript a b pos) (b2 YR fa fb):=⟨(Vm Qm ha.1 C.1 hs).imp (TD.two Rl)⟩
def df(xs:Z α)(lo hi:au aj):Z α:=(xs.drop (HT.sIx xs.length 0 lo)).take (HT.sIx xs.length xs.length hi-HT.sIx xs.length 0 lo)
def JD(g:α->β)(xs:Z α)(lo hi:au aj):df (xs.map g) lo hi=(df xs lo hi).map g:=by unfold df;simp
def YN.cut(r:YN O K G vs ds)(lo hi:au aj):YN O K G (oF vs lo hi) (df ds lo hi):=by unfold oF df;rw[r.length];show(r.drop _).take _
def nq(x:ai)(lo hi:au aj):ai:=⟨(df x.cps.toList lo hi).toArray⟩
def EB(lo hi:au aj)(n:ag):HX lo hi 1 n=(cC (HT.sIx n n hi-HT.sIx n 0 lo)).map (HT.sIx n 0 lo+·):=by
 rw[<-Wj];let h1:∀(o:au aj)(d:ag),d<=n->(match o with|none=>(d:aj)|some i=>if (1:aj) > 0 then max 0 (min (if i<0 then i+(n:aj) else i) n) else max (-1) (min (if i<0 then i+(n:aj) else i) ((n:aj)-1)))=((HT.sIx n d o:ag):aj):=λo d hd=>by
  cases o with
  |none=>simp[HT.sIx]
  |some i=>
   simp only[HT.sIx,show(1:aj) > 0 by decide,cI];by_cases h:i<0
   .simp only[h,cI];ext
   .simp only[h,cK];ext
 let e0:=h1 lo 0 (fy _);let e1:=h1 hi n (qx _);rw[<-e0,<-e1];rfl
def CQ(x:ai)(lo hi:au aj):HY x lo hi=nq x lo hi:=by
 let key:(HX lo hi 1 x.length).filterMap (x.cps[·]?)=df x.cps.toList lo hi:=by rw[EB,AN];unfold df;rw[show x.cps.toList.length=x.length by simp[sT]]
 unfold HY nq;split
 .rename_i h;rw[<-key];let hl:(HX lo hi 1 x.length).length=x.length:=by simpa using h
  rw[EB] at hl ⊢;rw[AN];rw[qg,qW] at hl;let C:HT.sIx x.length x.length hi<=x.length:=by
   cases hi with
   |none=>simp[HT.sIx]
   |some i=>simp only[HT.sIx];split<;>ext
  let h0:HT.sIx x.length 0 lo=0\/x.length=0:=by ext
  let hx:x.cps.toList.length=x.length:=by simp[sT]
  let e:(x.cps.toList.drop (HT.sIx x.length 0 lo)).take (HT.sIx x.length x.length hi-HT.sIx x.length 0 lo)=x.cps.toList:=by
   rcases h0 with h0|h0
   .rw[h0,pM];rw[h0] at hl;show kT .(c)
   .let:x.cps.toList=[]:=Bc.mp .(c);rw[this];simp
  rw[e]
 .rw[key]
noncomputable def pN:bB->au (au aj):=λ_=>U B
noncomputable def pS(f:FE):bB->au (au aj):=λY=>(f Y).bind λd=>match d with
 |.int i=>U (U i)
 |_=>B
inductive TDp(O:Cn)(K:aT)(f:bB->au (au aj))(L:St)(H:Hp)(Q:au aj->Hp->Prop):Prop where
 |mk:∀Z8 Z9 G Y o,At O K Z8 Z9 G H Y L->f Y=U o->(∀G' H',Step G H G' H'->Q o H')->TDp O K f L H Q
structure DP(O:Cn)(X:Cx)(e:au Expr)(f:bB->au (au aj)):Prop where
 out:PO X e (TDp O X.K f)
def uF:DP O X B pN:=⟨λZ' s L H Q I #[Z8,Z9,G,Y,o,A,h,k]=>by cases h;show UQ Z' s L H Q I (k G H (.refl A.gh))⟩
def uq(h:DE O X e f):DP O X (U e) (pS f):=⟨λZ' s L H Q I #[Z8,Z9,G,Y,o,A,q,k]=>by let⟨d,hd,q⟩:=ZE q;split at q<;>cases q;show OP h.1 Z' s L H Q I #[Z8,Z9,G,Y,_,A,hd,λv G' H' s r=>#[_,r.int_inv,k G' H' s]]⟩
def MZ:SlR X (λx lo hi H Q=>∃z,x=.str z/\z.length<=aK/\Q (.str (nq z lo hi)) H):=by
 intro Z' s L H x v vl vu lo hi sl Q I rx hs pl pu h;let⟨z,rfl,hz,q⟩:=h;let⟨t,rfl⟩:=rx;show#["str",_,PySem.F.slot_str_getitem.lookup,wC _ _ _,?_];obtain⟨l,rfl,el⟩:∃l:au (aj×Tok),vl=partValue l/\l.map (·.1)=lo:=by
  cases pl with
  |none=>show#[B,W,W]
  |int i t=>show#[U (i,t),W,W]
 obtain⟨u,rfl,eu⟩:∃l:au (aj×Tok),vu=partValue l/\l.map (·.1)=hi:=by
  cases pu with
  |none=>show#[B,W,W]
  |int i t=>show#[U (i,t),W,W]
 show wpAny_getItem_str_slice (st:=B) hs W ?_;let e:(if ((ti (λx=>x.fst) (B:au (aj×Tok))).getD 1==1 && (slicePicked z l u B).length==z.length)=ah then z else {cps:=(List.filterMap (λx=>z.cps[x]?) (slicePicked z l u B)).toArray})=nq z lo hi:=by
  let e0:HY z (l.map (·.1)) (u.map (·.1))=nq z lo hi:=by rw[el,eu];show CQ z lo hi
  show e0
 show post_val_or_str #[?_,λt' k=>?_]
 .rw[e,<-CQ];show qO (Txt.slice_le z _ _) hz
 .rw[e];show#[.str _,H,I.tok k,#[_,W],q]
def lG(lo hi:au aj):D->au D
 |.lst l=>U (.lst (df l lo hi))
 |.scr l=>U (.lst ((df l lo hi).map D.int))
 |.tup l=>if HT.sIx l.length 0 lo=0/\HT.sIx l.length l.length hi=l.length then B else U (.tup (df l lo hi))
 |.str x=>if x.length<=aK then U (.str (nq x lo hi)) else B
 |_=>B
def Õ(f:FE)(fl fh:bB->au (au aj)):FE:=λY=>(f Y).bind λd=>(fl Y).bind λl=>(fh Y).bind λh=>lG l h d
variable{fl:bB->au (au aj)}{lo hi:au Expr}
def zE(he:DE O X e f)(hl:DP O X lo fl)(hh:DP O X hi fh):DE O X (.Subscript e (.Slice lo hi B p2) pos) (Õ f fl fh):=⟨(VI (UI.or (Vz.or MZ)) he.1 hl.1 hh.1).imp λL H Q=>by
 rintro⟨Z8,Z9,G,Y,d,A,h,k⟩;let⟨x,hx,h⟩:=ZE h;let⟨l,hl,h⟩:=ZE h;let⟨u,hu,h⟩:=ZE h;show#[Z8,Z9,G,Y,x,A,hx,λv G1 H1 s1 r1=>#[Z8,Z9,G1,Y,l,A.step s1,hl,λG2 H2 s2=>#[Z8,Z9,G2,Y,u,(A.step s1).step s2,hu,λG3 H3 s3=>?_]]];let s:=(s1.trans s2).trans s3;let r:=r1.mono (s2.gg.trans s3.gg);let gh:=s3.gh;unfold lG at h;split at h
 .cases h;let⟨a,vs,rfl,ha,rv⟩:=r.lst_inv;show .inl #[a,vs,W,.inl (.inl (gh _ _ ha)),ip gh (rv.cut l u) λw G4 H4 s4 r4=>k w G4 H4 (s.trans s4) r4]
 .cases h;let⟨a,rfl,ha⟩:=r.scr_inv;show .inl #[a,_,W,gh.seq ha,ip gh ?_ λw G4 H4 s4 r4=>k w G4 H4 (s.trans s4) r4];show YN O X.K G3 (df _ l u) _;rw[JD];show YN.ints _
 .split at h
  .cases h
  .rename_i hw;cases h;let⟨a,vs,rfl,ha,rv⟩:=r.tup_inv;show .inr (.inl #[a,vs,W,.inl (.inl (gh _ _ ha)),by rw[rv.length];show hw,uK gh (rv.cut l u) λw G4 H4 s4 r4=>k w G4 H4 (s.trans s4) r4])
 .split at h
  .cases h;cases r.str_inv;show .inr (.inr #[_,W,by assumption,k _ _ _ s (.str _)])
  .cases h
 .cases h⟩
structure MtD(O:Cn)(X:Cx)(T id:cW)(g:D->Z D->au D):Prop where
 ex:∃r,MtR X id r/\∀{G H v x vs ds z},aY G H->ZD O X.K G v x->YN O X.K G vs ds->g x ds=U z->∀Q:VK,(∀w G' H',Step G H G' H'->ZD O X.K G' w z->Q w H')->r v vs H Q
 ty:∀{G H v x ds z},aY G H->ZD O X.K G v x->g x ds=U z->tyV X.K T v H
noncomputable def mF(g:D->Z D->au D)(f:FE)(fr:FA):FE:=λY=>(f Y).bind λd=>(fr Y).bind λds=>g d ds
variable{o:Expr}
def R7{T id:cW}{g:D->Z D->au D}(pa:PlainAttrs T)(slot:Bd T name id)(hty:typeOf (.builtin id)=bd (.type "method_descriptor"))(hm:MtD O X T id g)(ho:DE O X o fo)(ha:DA O X (e::es) fr)
  (ę:jt o name X.env (eval o X.env)=eval o X.env:=by rfl)
  (Ů:((ci Zg (aP (e::es) X.env)).all (λx=>!x.1) && (jX Zg (jY [] X.env)).all (λx=>x.1.isSome)
   && decide ((e::es).length+([]:Z iT).length+(if ([]:Z iT).isEmpty then 0 else 1)<30))=ah:=by rfl)
  (ĕ:(Zj.endLine==Zg.line)=ah:=by rfl)(hs:aP (e::es) X.env=(ar,eval e X.env)::aP es X.env:=by rfl)(è:(ci Zg (aP es X.env)).any (·.1)=ar:=by rfl):
  DE O X (.Call (.Attribute o name Zj) (e::es) [] Zg) (mF g fo fr):=⟨by
 let⟨r,h1,h2⟩:=hm.ex;show(zN pa slot hty h1 ho.1 ha.1 ę Ů ĕ hs è).imp λL H Q=>?_;rintro⟨Z8,Z9,G,Y,d,A,h,k⟩;let⟨x,hx,h⟩:=ZE h;let⟨ds,hd,h⟩:=ZE h;show#[Z8,Z9,G,Y,x,A,hx,λv G1 H1 s1 r1=>#[hm.ty s1.gh r1 h,Z8,Z9,G1,Y,ds,A.step s1,hd,λvs G2 H2 s2 r2=>h2 s2.gh (r1.mono s2.gg) r2 h Q λw G3 H3 s3 r3=>k w G3 H3 ((s1.trans s2).trans s3) r3]]⟩
noncomputable def iz:Z D->au (Z ai)
 |[]=>U []
 |.str x::r=>(iz r).map (x::·)
 |_::_=>B
def sG:D->Z D->au D
 |.str sep,[.lst l]=>(iz l).bind λys=>if (ys.map (·.length)).sum+ys.length*sep.length<=16777216 then U (.str (HZ sep ys)) else B
 |_,_=>B
def yj{K:aT}{G:Hp}:∀{vs:Z V}{ds:Z D}{ys:Z ai},YN O K G vs ds->iz ds=U ys->vs=ys.map V.str
 |_,[],ys,r,h=>by cases r;cases h;rfl
 |_,d::ds,ys,.cons h1 h2,h=>by
  cases d with
  |str x=>
   let⟨zs,hz,rfl⟩:=Za (h);rw[h1.str_inv,yj h2 hz];rfl
  |_=>cases h
def GK:∀{ys:Z ai}{E:Z aw},bj (ys.map V.str) E->wF E ys:=by
 intro Y7
 induction Y7 with
 |nil=>
  intro _ r;rw[qQ] at r;cases r;show .nil
 |cons y ys ih=>
  intro _ r;rw[qp] at r;cases r with
  |cons r1 r2=>
   let⟨t,e⟩:=r1;subst e;show .cons y t (ih r2)
def Tp:MtD O X "str" "str.join" sG:=by
 show#[#[λv vs H Q=>∃sep a ys,v=.str sep/\vs=[.ref a]/\H a=U (.lst (ys.map V.str))/\(ys.map (·.length)).sum+ys.length*sep.length<=16777216/\Q (.str (HZ sep ys)) H,?_,?_],?_]
 .intro Z' s L H x xs v E Q I rx rs h;let⟨sep,a,ys,rfl,rfl,ha,hz,q⟩:=h;let⟨t,rfl⟩:=rx;let⟨u,rfl,ru⟩:=eR rs;cases ru;let⟨YY,rv,pl,_⟩:=I.list (.inl (.inl ha));show join_list pl.isList (GK rv) hz λt' k=>#[.str _,H,I.tok k,#[_,W],q]
 .intro G H v x vs ds z gh r1 r2 h Q k;unfold sG at h;split at h
  .obtain⟨ys,hy,h⟩:=ZE h;split at h
   .cases h;cases r1.str_inv;let⟨v,rfl,r3⟩:=r2.one;let⟨a,ws,rfl,ha,Ò⟩:=r3.lst_inv;show#[_,a,ys,W,W,?_,by assumption,k _ G H (.refl gh) (.str _)];rw[<-yj Ò hy];show gh _ _ ha
   .cases h
  .cases h
 .intro G H v x ds z gh r h;unfold sG at h;split at h
  .cases r.str_inv;show W
  .cases h
noncomputable def jL:Z D->au (Z aJ)
 |[]=>U []
 |.bl x::r=>(jL r).map (x::·)
 |_::_=>B
def zn{K:aT}{G:Hp}:∀{vs:Z V}{ds:Z D}{ys:Z aJ},YN O K G vs ds->jL ds=U ys->vs=ys.map V.bl
 |_,[],ys,r,h=>by cases r;cases h;rfl
 |_,d::ds,ys,.cons h1 h2,h=>by
  cases d with
  |bl x=>
   let⟨zs,hz,rfl⟩:=Za (h);rw[h1.bl_inv,zn h2 hz];rfl
  |_=>cases h
def eQ:Z D->au D
 |[.lst l]=>(jL l).map λbs=>D.bl (bs.all id)
 |_=>B
def yA:Z D->au D
 |[.lst l]=>(jL l).map λbs=>D.bl (bs.any id)
 |_=>B
def B8:∀{bs:Z aJ}{E:Z aw},bj (bs.map V.bl) E->E=bs.map lU:=by
 intro Y7
 induction Y7 with
 |nil=>
  intro _ r;rw[qQ] at r;cases r;rfl
 |cons y ys ih=>
  intro _ r;rw[qp] at r;cases r with
  |cons r1 r2=>cases r1;rw[ih r2];rfl
def R8(bs:Z aJ):(cC bs.length).all (λi=>bs.getD i ar)=bs.all id:=by
 rw[kK,gE,gE];constructor
 .intro h x hx;let⟨i,hi,e⟩:=wG.mp hx;let:=h i (fj.mpr hi);simp[tj,hi] at this;rw[<-e];show this
 .intro h i hi;let Ħ:=fj.mp hi;let:=h (bs[i]) (nP Ħ);simp[tj,Ħ];show this
def LD(bs:Z aJ):(cC bs.length).any (λi=>bs.getD i ar)=bs.any id:=by
 rw[kK,mf,mf];constructor
 .rintro⟨i,hi,h⟩;let Ħ:=fj.mp hi;show#[bs[i],nP Ħ,?_];simpa[tj,Ħ] using h
 .rintro⟨x,hx,h⟩;let⟨i,hi,e⟩:=wG.mp hx;show#[i,fj.mpr hi,?_];simp[tj,hi,e];show h
def FF{bs:Z aJ}:TruthOf prog w A (λi v=>(bs.map lU).toArray[i]?=U v) (λi=>bs.getD i ar):=λi v s Q us hP hQ=>by
 let hP':(bs.map lU)[i]?=U v:=by simpa using hP
 rw[qm] at hP';let⟨b,C,rfl⟩:=Za hP';let:bs.getD i ar=b:=by simp[tj,C]
 let hQ':Q (bs.getD i ar) s:=hQ;rw[this] at hQ';show kH hQ'
def gu(hc:X.calm=ah):ğ O X "all" eQ:=by
 show#[λvs H Q=>∃(a:av)(bs:Z aJ),vs=[.ref a]/\H a=U (.lst (bs.map V.bl))/\Q (.bl (bs.all id)) H,?_,?_]
 .intro Z' s L H xs E Q I r h;let⟨a,bs,rfl,ha,q⟩:=h;let⟨u,rfl,ru⟩:=eR r;cases ru;let⟨YY,rv,pl,_⟩:=I.list (.inl (.inl ha));let e:=B8 rv;subst e;show call_all_walk (nQ pl.isList ?_);let ne:a≠s.heap.objs.size:=by let⟨o,_,h1,_⟩:=pl;show qD (qw h1)
  show#[s.heap.objs.size,_,_,_,_,_,λi=>bs.getD i ar,W,tp (show X.A.in1.handled=B from I.ok.hd hc) s.heap.objs.size a ne (bs.map lU).toArray,#[#[_,qH _ W,W,W],pl.isList.at λo q=>qv _ q],FF,λh' tk hk=>?_];let e2:(bs.map lU).toArray.size=bs.length:=by simp
  rw[e2,R8];show#[.bl _,H,I.kept λb o z=>hk b o ?_ (qv _ z),W,q];intro z';let:b=s.heap.objs.size:=by simpa using z'
  show bH (qw z) (by rw[this];show gU _)
 .intro G H vs ds z gh r h Q k;unfold eQ at h;split at h
  .obtain⟨bs,C,rfl⟩:=Za h;let⟨v,rfl,r1⟩:=r.one;let⟨a,ws,rfl,ha,Ò⟩:=r1.lst_inv;show#[a,bs,W,?_,k _ G H (.refl gh) (.bl _)];rw[<-zn Ò C];show gh _ _ ha
  .cases h
def SV(hc:X.calm=ah):ğ O X "any" yA:=by
 show#[λvs H Q=>∃(a:av)(bs:Z aJ),vs=[.ref a]/\H a=U (.lst (bs.map V.bl))/\Q (.bl (bs.any id)) H,?_,?_]
 .intro Z' s L H xs E Q I r h;let⟨a,bs,rfl,ha,q⟩:=h;let⟨u,rfl,ru⟩:=eR r;cases ru;let⟨YY,rv,pl,_⟩:=I.list (.inl (.inl ha));let e:=B8 rv;subst e;show call_any_walk (nQ pl.isList ?_);let ne:a≠s.heap.objs.size:=by let⟨o,_,h1,_⟩:=pl;show qD (qw h1)
  show#[s.heap.objs.size,_,_,_,_,_,λi=>bs.getD i ar,W,tp (show X.A.in1.handled=B from I.ok.hd hc) s.heap.objs.size a ne (bs.map lU).toArray,#[#[_,qH _ W,W,W],pl.isList.at λo q=>qv _ q],FF,λh' tk hk=>?_];let e2:(bs.map lU).toArray.size=bs.length:=by simp
  rw[e2,LD];show#[.bl _,H,I.kept λb o z=>hk b o ?_ (qv _ z),W,q];intro z';let:b=s.heap.objs.size:=by simpa using z'
  show bH (qw z) (by rw[this];show gU _)
 .intro G H vs ds z gh r h Q k;unfold yA at h;split at h
  .obtain⟨bs,C,rfl⟩:=Za h;let⟨v,rfl,r1⟩:=r.one;let⟨a,ws,rfl,ha,Ò⟩:=r1.lst_inv;show#[a,bs,W,?_,k _ G H (.refl gh) (.bl _)];rw[<-zn Ò C];show gh _ _ ha
  .cases h
end
structure Yd(O:Cn)(K:aT)(ao:It)(G:Hp)(ds:Z D):Prop where
 go:∀(i:ag)d G2 H2,ds[i]?=U d->aY G G2->aY G2 H2->ao.go i H2/\∀x H3,ao.yld i H2 x H3->∃G3,Step G2 H2 G3 H3/\ZD O K G3 x d
 stop:∀G2 H2,aY G G2->aY G2 H2->ao.stop ds.length H2
inductive TDi(O:Cn)(K:aT)(f:FA)(L:St)(H:Hp)(R:It->Hp->Prop):Prop where
 |mk:∀Z8 Z9 G Y ds,At O K Z8 Z9 G H Y L->f Y=U ds->(∀ao G' H',Step G H G' H'->Yd O K ao G' ds->R ao H')->TDi O K f L H R
structure DI(O:Cn)(X:Cx)(tg e:Expr)(f:FA):Prop where
 out:PI X tg e (TDi O X.K f)
def PI.imp{t t':TI}(h:PI X tg e t)(i:∀L H R,t' L H R->t L H R):PI X tg e t':=λZ' s L H R I q=>h Z' s L H R I (i _ _ _ q)
variable{fi:FA}{gs:FGs}{fe:FE}{Y1:bB}
section
variable{a c:Expr}
def Qb{a:av}(h:G a=U (.tup vs))(r:YN O K G vs ds):Yd O K (Itt K a) G ds:=by show#[λi d G2 H2 hd g1 g2=>?_,λG2 H2 g1 g2=>#[vs,.inl (.inl (g2 _ _ (g1 _ _ h))),by rw[r.length];show qx _]];let⟨v,hv,rv⟩:=r.get hd;show#[#[vs,v,.inl (.inl (g2 _ _ (g1 _ _ h))),hv],λx H3 #[e1,e2]=>?_];subst e1;let:=e2 vs (.inl (.inl (g2 _ _ (g1 _ _ h))));rw[hv] at this;cases this;show#[G2,.refl g2,rv.mono g1]
def Hl{a:av}(h:ñ K G a vs)(r:YN O K G vs ds):Yd O K (Ite K a) G (ds.mapIdx λi d=>D.tup [.int i,d]):=by show#[λi d G2 H2 hd g1 g2=>?_,λG2 H2 g1 g2=>#[vs,g2.seq (g1.seq h),by rw[tq,r.length];show qx _]];rw[WE] at hd;let⟨d',þ,rfl⟩:=Za hd;let⟨v,hv,rv⟩:=r.get þ;show#[#[vs,v,g2.seq (g1.seq h),hv],λx H3 #[T,y,e0,hT,e1,e2]=>?_];subst e0;let:=e2 vs (g2.seq (g1.seq h));rw[hv] at this;cases this;subst e1;let s:=Step.new (o:=.tup [.int i,v]) g2 hT;show#[_,s,.tup bf (.cons (.int _) (.cons ((rv.mono g1).mono s.gg) .nil))]
noncomputable def rh:D->au (Z D)
 |.lst l=>U l
 |.tup l=>U l
 |.scr l=>U (l.map D.int)
 |_=>B
def ZF(f:FE):FA:=λY=>(f Y).bind rh
def M0{l:Expr}{tl:TE}(hl:PE X l tl):PI X tg l (λL H R=>tl L H λx H1=>(∃a,x=.ref a/\(∃xs,ñ X.K H1 a xs)/\R (Itl X.K a) H1)\/(∃a,x=.ref a/\(∃xs,Ţ X.K H1 a xs)/\R (Itt X.K a) H1)):=by
 intro Z' s L H R I h;show Zf (hl Z' s L H _ I h) λv s1 #[x,H1,I1,r1,q1]=>?_;rcases q1 with⟨a,e,⟨xs,hq⟩,q⟩|⟨a,e,⟨xs,hq⟩,q⟩
 .subst e;cases r1;let⟨YY,rv,p,hz⟩:=I1.list hq;show nQ p.isList ?_;show#[s1.heap.objs.size,[s1.heap.objs.size],_,_,H1,W,I1.kept λb o e=>qv _ e,Sf a _,#[_,qH _ W,W,W],λb C=>?_,q];let e:b=s1.heap.objs.size:=by simpa using C
  subst e;show I1.fpOk (qx _) (I1.hok.fresh (qx _))
 .subst e;cases r1;let⟨YY,rv,p,hz⟩:=I1.tuple hq;show wpAny_pyIter_tuple (p) ?_;show#[s1.heap.objs.size,[s1.heap.objs.size],_,_,H1,W,I1.kept λb o e=>qv _ e,NO a _,#[_,qH _ W,W,W],λb C=>?_,q];let e:b=s1.heap.objs.size:=by simpa using C
  subst e;show I1.fpOk (qx _) (I1.hok.fresh (qx _))
def mD(h:DE O X iter f):DI O X tg iter (ZF f):=⟨(M0 h.1).imp λL H R=>by
 rintro⟨Z8,Z9,G,Y,ds,A,h,k⟩;let⟨d,hd,h⟩:=ZE h;show#[Z8,Z9,G,Y,d,A,hd,λv G' H' s r=>?_];unfold rh at h;split at h
 .cases h;let⟨a,vs,rfl,ha,rv⟩:=r.lst_inv;show .inl #[a,W,#[vs,.inl (.inl (s.gh _ _ ha))],k _ G' H' s ?_];show#[λi d G2 H2 hd g1 g2=>?_,λG2 H2 g1 g2=>#[vs,.inl (.inl (g2 _ _ (g1 _ _ ha))),by rw[rv.length];show qx _]];let⟨v,hv,rv'⟩:=rv.get hd;show#[#[vs,v,.inl (.inl (g2 _ _ (g1 _ _ ha))),hv],λx H3 #[e1,e2]=>?_];subst e1;let:=e2 vs (.inl (.inl (g2 _ _ (g1 _ _ ha))));rw[hv] at this;cases this;show#[G2,.refl g2,rv'.mono g1]
 .cases h;let⟨a,vs,rfl,ha,rv⟩:=r.tup_inv;show .inr #[a,W,#[vs,.inl (.inl (s.gh _ _ ha))],k _ G' H' s (Qb ha rv)]
 .rename_i l;cases h;let⟨a,rfl,ha⟩:=r.scr_inv;show .inl #[a,W,#[_,s.gh.seq ha],k _ G' H' s ?_];show#[λi d G2 H2 hd g1 g2=>?_,λG2 H2 g1 g2=>#[_,g2.seq (g1.seq ha),by simp]];rw[qm] at hd;let⟨n,hn,rfl⟩:=Za hd;let hv:(List.map V.int l)[i]?=U (V.int n):=by rw[qm,hn];rfl
  show#[#[_,_,g2.seq (g1.seq ha),hv],λx H3 #[e1,e2]=>?_];subst e1;let:=e2 _ (g2.seq (g1.seq ha));rw[hv] at this;cases this;show#[G2,.refl g2,.int _]
 .cases h⟩
noncomputable def xH:D->au (Z D)
 |.str x=>U (x.cps.toList.map λc=>D.str ⟨#[c]⟩)
 |_=>B
def itS(f:FE):FA:=λY=>(f Y).bind xH
def M3{n:ai}{q:dn}(h:DE O X iter f):DI O X (.Name n q) iter (itS f):=⟨(UE h.1).imp λL H R=>by
 rintro⟨Z8,Z9,G,Y,ds,A,h,k⟩;let⟨d,hd,h⟩:=ZE h;show#[Z8,Z9,G,Y,d,A,hd,λv G' H' s r=>?_];unfold xH at h;split at h<;>cases h;cases r.str_inv;rename_i x;show#[x,W,k _ G' H' s #[λi d G2 H2 hd g1 g2=>?_,λG2 H2 g1 g2=>?_]]
 .rw[qm] at hd;let⟨c,hc,rfl⟩:=Za hd;let χ:x.cps[i]?=U c:=by simpa using hc
  show#[(ge.mp χ).1,λy H3 #[e1,c2,h2,e2]=>?_];subst e1;subst e2;rw[χ] at h2;cases h2;show#[G2,.refl g2,.str _]
 .show _=x.cps.size;simp⟩
noncomputable def yV:D->au (Z D)
 |.lst l=>U (l.mapIdx λi d=>D.tup [.int i,d])
 |.scr l=>U ((l.map D.int).mapIdx λi d=>D.tup [.int i,d])
 |_=>B
def itE(f:FE):FA:=λY=>(f Y).bind yV
def VF{k1:ag}(hg:Gl X "enumerate")(hm:X.mg "enumerate"=B)(h:DE O X a f)(hs:aP [a] X.env=[(ar,eval a X.env)]:=by rfl)(hs0:aP ([a]:Z Expr) X.env=(ar,eval a X.env)::aP [] X.env:=by rfl):
  DI O X (.Tuple ű k1 tpos) (.Call (.Name "enumerate" p) [a] [] pos) (itE f):=⟨(MR hg hm (jh h.1 jJ hs0) hs).imp λL H R=>by
 rintro⟨Z8,Z9,G,Y,ds,A,h,k⟩;let⟨d,hd,h⟩:=ZE h;show#[Z8,Z9,G,Y,d,A,hd,λv G' H' s r=>?_];unfold yV at h;split at h
 .cases h;let⟨a,vs,rfl,ha,rv⟩:=r.lst_inv;show#[a,W,#[vs,.inl (.inl (s.gh _ _ ha))],k _ G' H' s (Hl (.inl (.inl ha)) rv)]
 .cases h;let⟨a,rfl,ha⟩:=r.scr_inv;show#[a,W,#[_,s.gh.seq ha],k _ G' H' s (Hl ha (YN.ints _))]
 .cases h⟩
def Ek:Yd O K (Itr lo n) G ((cC n).map λi:ag=>D.int (lo+i)):=by
 show#[λi d G2 H2 hd g1 g2=>?_,λG2 H2 g1 g2=>?_]
 .rw[qm] at hd;let⟨j,hj,rfl⟩:=Za hd;let hi:i<n:=by let:=(eV.mp hj).1;simpa using this
  let e:j=i:=by simpa[hi] using hj.symm
  subst e;show#[hi,λx H3 #[e1,e2]=>?_];subst e1;subst e2;show#[G2,.refl g2,.int _]
 .show n<=_;simp
noncomputable def fE:Z D->au (Z D)
 |[.int j]=>if -(2 ^ 62)<=j/\j<2 ^ 62 then U ((cC j.toNat).map λi:ag=>D.int (0+i)) else B
 |_=>B
noncomputable def mE:Z D->au (Z D)
 |[.int i,.int j]=>if -(2 ^ 62)<=i/\i<2 ^ 62 /\ -(2 ^ 62)<=j/\j<2 ^ 62 then U ((cC (j-i).toNat).map λk:ag=>D.int (i+k)) else B
 |_=>B
noncomputable def ģ(g:Z D->au (Z D))(fr:FA):FA:=λY=>(fr Y).bind g
def Qs(hg:Gl X "range")(hm:X.mg "range"=B)(h:DA O X [a] fr)(hs:aP [a] X.env=[(ar,eval a X.env)]:=by rfl):DI O X tg (.Call (.Name "range" p) [a] [] pos) (ģ fE fr):=⟨(OO hg hm h.1 hs).imp λL H R=>by
 rintro⟨Z8,Z9,G,Y,ds,A,h,k⟩;let⟨d,hd,h⟩:=ZE h;show#[Z8,Z9,G,Y,d,A,hd,λv G' H' s r=>?_];unfold fE at h;split at h
 .split at h
  .rename_i hz;cases h;let⟨v,rfl,r1⟩:=r.one;cases r1.int_inv;show#[_,W,hz.1,hz.2,k _ G' H' s Ek]
  .cases h
 .cases h⟩
def UK(hg:Gl X "range")(hm:X.mg "range"=B)(h:DA O X [a,b] fr)(hs:aP [a,b] X.env=[(ar,eval a X.env),(ar,eval b X.env)]:=by rfl)(ſ:aP [b] X.env=[(ar,eval b X.env)]:=by rfl):DI O X tg (.Call (.Name "range" p) [a,b] [] pos) (ģ mE fr):=⟨(MA hg hm h.1 hs ſ).imp λL H R=>by
 rintro⟨Z8,Z9,G,Y,ds,A,h,k⟩;let⟨d,hd,h⟩:=ZE h;show#[Z8,Z9,G,Y,d,A,hd,λv G' H' s r=>?_];unfold mE at h;split at h
 .split at h
  .rename_i hz;cases h;let⟨v,u,rfl,r1,r2⟩:=r.two;cases r1.int_inv;cases r2.int_inv;show#[_,_,W,hz,k _ G' H' s Ek]
  .cases h
 .cases h⟩
abbrev FG:=D->bB->au bB
abbrev FGs:=Z D->bB->au bB
inductive TDg(O:Cn)(K:aT)(g:FG)(v:V)(L:St)(H:Hp)(Q:St->Hp->Prop):Prop where
 |mk:∀Z8 Z9 G Y d Y',At O K Z8 Z9 G H Y L->ZD O K G v d->g d Y=U Y'->(∀Z5,At O K Z8 Z9 G H Y' Z5->Q Z5 H)->TDg O K g v L H Q
inductive TDgs(O:Cn)(K:aT)(g:FGs)(vs:Z V)(L:St)(H:Hp)(Q:St->Hp->Prop):Prop where
 |mk:∀Z8 Z9 G Y ds Y',At O K Z8 Z9 G H Y L->YN O K G vs ds->g ds Y=U Y'->(∀Z5,At O K Z8 Z9 G H Y' Z5->Q Z5 H)->TDgs O K g vs L H Q
structure DG(O:Cn)(X:Cx)(tg:Expr)(g:FG):Prop where
 pg:PG X tg (TDg O X.K g)
 no:∀d Y Y',g d Y=U Y'->fJ Y->fJ Y'
structure DGs(O:Cn)(X:Cx)(ts:Z Expr)(g:FGs):Prop where
 pg:PGs X ts (TDgs O X.K g)
 no:∀d Y Y',g d Y=U Y'->fJ Y->fJ Y'
def PG.imp{t t':TG}(h:PG X tg t)(i:∀v L H Q,t' v L H Q->t v L H Q):PG X tg t':=λZ' s L H v u Q I r q=>h Z' s L H v u Q I r (i _ _ _ _ q)
def PGs.imp{ts:Z Expr}{t t':TGs}(h:PGs X ts t)(i:∀v L H Q,t' v L H Q->t v L H Q):PGs X ts t':=λZ' s L H v u Q I r q=>h Z' s L H v u Q I r (i _ _ _ _ q)
noncomputable def aB(i:ag):FG:=λd Y=>U (Y.set i (U (.sh d)))
def L1(h:fJ Y):fJ (Y.set i (U (.sh d))):=λj ds e=>by
 by_cases hj:j=i
 .subst hj;rw[List.getElem?_set,qY W] at e;split at e<;>cases e;show#[_,W]
 .rw[qz (dj hj)] at e;show h j ds e
def k0(i:ag)(hN:X.N.Nodup)(hi:X.N[i]?=U x:=by rfl)(hx:Loc X.env.scope x:=by ac_nf)(hf:X.fn x=ah\/X.env.scope.names.lookup x=U .local:=by ac_nf):DG O X (.Name x pos) (aB i):=by
 show#[(Nk hN hi hx hf).imp λv L H Q=>?_,λd Y Y' e h=>?_]
 .rintro⟨Z8,Z9,G,Y,d,Y',A,r,h,k⟩;cases h;show k _ (A.setSh r)
 .cases e;show L1 h
noncomputable def ce:FGs:=λds Y=>match ds with
 |[]=>U Y
 |_=>B
noncomputable def aX(g:FG)(gs:FGs):FGs:=λds Y=>match ds with
 |d::r=>(g d Y).bind λY'=>gs r Y'
 |_=>B
def yk:DGs O X [] ce:=by
 show#[NN.imp λvs L H Q=>?_,λd Y Y' e h=>?_]
 .rintro⟨Z8,Z9,G,Y,ds,Y',A,r,h,k⟩;unfold ce at h;split at h<;>cases h;cases r;show#[W,k L A]
 .unfold ce at e;split at e<;>cases e;show h
def j9{ts:Z Expr}{g:FG}(h1:DG O X e g)(h2:DGs O X ts gs)(hs:(fR (e::ts) X.env).map (·.2)=pp e X.env::(fR ts X.env).map (·.2):=by rfl):DGs O X (e::ts) (aX g gs):=by
 show#[(Us h1.pg h2.pg hs).imp λvs L H Q=>?_,λds Y Y' e h=>?_]
 .rintro⟨Z8,Z9,G,Y,ds,Y',A,r,h,k⟩;unfold aX at h;split at h
  .obtain⟨Y1,h1,h⟩:=ZE h;cases r with
   |cons r1 r2=>show#[_,_,W,Z8,Z9,G,Y,_,Y1,A,r1,h1,λZ1 A1=>#[Z8,Z9,G,Y1,_,Y',A1,r2,h,k]]
  .cases h
 .unfold aX at e;split at e
  .obtain⟨Y1,e1,e⟩:=ZE e;show h2.no _ _ _ e (h1.no _ _ _ e1 h)
  .cases e
noncomputable def cj(n:ag)(gs:FGs):FG:=λd Y=>match d with
 |.tup ds=>if ds.length=n then gs ds Y else B
 |_=>B
def FP{ts:Z Expr}{k:ag}(hc:X.calm=ah)(h:DGs O X ts gs)(hn:(fR ts X.env).length=n:=by rfl)(ý:(fR ts X.env).findIdx? (·.1)=B:=by rfl):DG O X (.Tuple ts k pos) (cj n gs):=by
 show#[(Nz hc h.pg hn ý).imp λv L H Q=>?_,λds Y Y' e q=>?_]
 .rintro⟨Z8,Z9,G,Y,d,Y',A,r,h,k⟩;unfold cj at h;split at h
  .split at h
   .rename_i hl;let⟨a,vs,rfl,ha,rv⟩:=r.tup_inv;show#[a,vs,W,.inl (.inl (A.gh _ _ ha)),by rw[rv.length];show hl,Z8,Z9,G,Y,_,Y',A,rv,h,k]
   .cases h
  .cases h
 .unfold cj at e;split at e
  .split at e
   .exact h.no _ _ _ e q
   .cases e
  .cases e
def ca(g:FG)(ft:FT)(fe:FE):Z D->bB->au (Z D)
 |[],_=>U []
 |x::xs,Y=>(g x Y).bind λY1=>(ft Y1).bind λb=>if b=ah then (fe Y1).bind λd=>(ca g ft fe xs Y1).map (d::·) else ca g ft fe xs Y1
noncomputable def eY(fv:Z (au ag))(Y:bB):bB:=fv.map λo=>o.bind λj=>match Y[j]? with
 |some (U (.sh d))=>U (.sh d)
 |_=>B
def ba(fi:FA)(g:FG)(ft:FT)(fe:FE)(fv:Z (au ag)):FA:=λY=>(fi Y).bind λxs=>if xs.length<=aK then ca g ft fe xs (eY fv Y) else B
structure DTs(O:Cn)(X:Cx)(es:Z Expr)(f:FT):Prop where
 out:PTs X es (TDt O X.K f)
def PTs.imp{t t':TT}(h:PTs X es t)(i:∀L H Q,t' L H Q->t L H Q):PTs X es t':=λZ' s L H Q I q=>h Z' s L H Q I (i _ _ _ q)
noncomputable def tT:FT:=λ_=>U ah
def lR:DTs O X [] tT:=⟨Q4.imp λL H Q=>by rintro⟨Z8,Z9,G,Y,b,A,h,k⟩;cases h;show k G H (.refl A.gh)⟩
def uf(h:DT O X c ft):DTs O X [c] ft:=⟨SN h.1⟩
variable{g:FG}
structure DB(O:Cn)(X:Cx)(N':Z ai)(scope:Scope)(tg:Expr)(ō:Z Expr)(ő:Expr)(g:FG)(ft:FT)(fe:FE):Prop where
 out:∀(cl:Z (ai×av))(hb:av)(Z6:aH)(Z9:Hp)(fp:Z av),DG O (i6 X N' scope cl hb Z6 Z9 fp) tg g/\DTs O (i6 X N' scope cl hb Z6 Z9 fp) ō ft/\DE O (i6 X N' scope cl hb Z6 Z9 fp) ő fe
def DB.pb(h:DB O X N' scope tg ō ő g ft fe):PB X N' scope tg ō ő (TDg O X.K g) (TDt O X.K ft) (TD O X.K fe):=λcl hb Z6 Z9 fp=>#[(h.1 cl hb Z6 Z9 fp).1.pg,(h.1 cl hb Z6 Z9 fp).2.1.1,(h.1 cl hb Z6 Z9 fp).2.2.1]
def CC(A:At O K Z8 Z9 G H Y L):At O K G H G H (eY fv Y) (iN fv L)/\fJ (eY fv Y):=by
 let no:fJ (eY fv Y):=λi ds e=>by
  unfold eY at e;rw[qm] at e;let⟨o,ho,e⟩:=Za e;cases o with
  |none=>cases e
  |some j=>
   simp only[qc] at e;split at e<;>cases e;show#[_,W]
 show#[#[.refl A.gh,.ofSh (by simp[eY,iN]) no λi d e=>?_],no];unfold eY at e;unfold iN;rw[qm] at e ⊢;let⟨o,ho,e⟩:=Za e;rw[ho];cases o with
 |none=>cases e
 |some j=>
  simp only[qc] at e;split at e
  .rename_i d' þ;cases e;let⟨v,h1,h2⟩:=A.env.sh j d þ;show#[v,by simp[h1],h2]
  .cases e
def Fv{ao:It}{Z1:St}{xs:Z D}{Q:VK}{YT:av}(no:∀d Y Y',g d Y=U Y'->fJ Y->fJ Y')(A0:At O X.K G1 H1 G1 H1 Y1 Z1)(no0:fJ Y1)(ρ:Yd O X.K ao G1 xs)(hz:xs.length<=aK)(h:ca g ft fe xs Y1=U ds)(Ä:H1 YT=B)
  (k:∀p vs G' H',Step G1 H1 G' H'->H' p=B->YN O X.K G' vs ds->Q (.ref p) (YZ H' p (.lst vs))):LcW ao (TDg O X.K g) (TDt O X.K ft) (TD O X.K fe) YT Q Z1 H1:=by
 let gacc:G1 YT=B:=A0.gh.free Ä;show#[λi m ys Z5 H'=>m=xs.length-i/\i<=xs.length/\ys.length<=i/\∃G' Y' done bX,At O X.K G1 H1 G' H' Y' Z5/\fJ Y'/\H' YT=U (.lst ys)/\G' YT=B/\YN O X.K G' ys done/\ca g ft fe (xs.drop i) Y'=U bX/\done++bX=ds,?_,?_]
 .refine#[xs.length,W,fy _,qx _,G1,Y1,[],ds,?_,no0,bf,gacc,.nil,by rw[pM];show h,W];let sn:=Step.newOwn (o:=.lst []) A0.gh Ä;show#[sn,.ofSh A0.env.len no0 A0.env.sh]
 .rintro i m ys Z5 H' ⟨hm,hi,hyi,G',Y',done,bX,A',no',Ř,gacc',ry,hr,hd⟩;subst hm;show#[Ř,?_];by_cases Zu:i<xs.length
  .right
   let hxi:xs[i]?=U xs[i]:=by simp[Zu]
   let⟨go,yl⟩:=ρ.go i _ G' H' hxi A'.st.gg A'.gh;show#[go,λx H2 hy=>?_];let⟨G2,s2,r2⟩:=yl x H2 hy;let A2:=A'.step s2;let hdr:xs.drop i=xs[i]::xs.drop (i+1):=tt Zu;rw[hdr] at hr;let⟨Y2,h1,hr⟩:=ZE hr;let⟨b,h2,hr⟩:=ZE hr;show#[G1,H1,G2,Y',_,Y2,A2,r2,h1,λZU A3=>#[G1,H1,G2,Y2,b,A3,h2,λG4 H4 s4=>?_]];let no1:=no _ _ _ h1 no';let hH4:H4 YT=U (.lst ys):=s4.hh _ _ (s2.hh _ _ Ř);let hG4:G4 YT=B:=(s4.out _ _ (s2.hh _ _ Ř) W).trans ((s2.out _ _ Ř W).trans gacc');cases b with
   |false=>
    rw[qZ qu] at hr;show lB #[xs.length-(i+1),by ext,W,Zu,by ext,G4,Y2,done,bX,A3.step s4,no1,hH4,hG4,(ry.mono s2.gg).mono s4.gg,hr,hd]
   |true=>
    rw[qY W] at hr;let⟨d,h3,hr⟩:=ZE hr;let⟨zs,h5,rfl⟩:=Za hr;show lc #[G1,H1,G4,Y2,d,A3.step s4,h3,λv G5 H5 s5 r5=>?_];let A5:=(A3.step s4).step s5;let hH5:H5 YT=U (.lst ys):=s5.hh _ _ hH4;let hG5:G5 YT=B:=(s5.out _ _ hH4 W).trans hG4;show#[hH5,by ext,xs.length-(i+1),by ext,W,Zu,by rw[ql,pH];ext,G5,Y2,done++[d],zs,?_,no1,bf,hG5,((((ry.mono s2.gg).mono s4.gg).mono s5.gg).append (.cons r5 .nil)),h5,by rw[pF];show hd];show#[#[λb o e=>?_,A5.st.gg,λb o e=>?_,A5.st.out],.ofSh A5.env.len no1 A5.env.sh]
    .rw[aE (bJ e Ä)];show A5.st.hh b o e
    .rw[aE (bJ e hG5)];show A5.st.gh b o e
  .left
   let e:i=xs.length:=by ext
   subst e;rw[wH] at hr;cases hr;rw[iS] at hd;subst hd;show#[ρ.stop G' H' A'.st.gg A'.gh,?_];let hf:H'=YZ (λb=>if b=YT then B else H' b) YT (.lst ys):=by
    funext b
    by_cases C:b=YT
    .subst C;rw[bf];show Ř
    .rw[aE C,qZ C]
   rw[hf];show k YT ys G' (λb=>if b=YT then B else H' b) #[λb o e=>?_,A'.st.gg,λb o e=>?_,A'.st.out] (qY W) ry
   .show(if b=YT then B else H' b)=U o;rw[qZ (bJ e Ä)];show A'.st.hh b o e
   .show(if b=YT then B else H' b)=U o;rw[qZ (bJ e gacc')];show A'.st.gh b o e
def yZ(no:∀d Y Y',g d Y=U Y'->fJ Y->fJ Y'):∀L H Q,TDo O X.K (ba fi g ft fe fv) L H Q->tLC (TDi O X.K fi) (TDg O X.K g) (TDt O X.K ft) (TD O X.K fe) fv L H Q:=by
 rintro L H Q ⟨Z8,Z9,G,Y,ds,A,h,k⟩;let⟨xs,hx,h⟩:=ZE h;split at h
 case isFalse=>cases h
 rename_i hz;show#[Z8,Z9,G,Y,xs,A,hx,λao G1 H1 s1 ρ YT Ä=>?_];let⟨A0,no0⟩:=CC (A.step s1);show Fv no A0 no0 ρ hz h Ä λp vs G' H' s2 hp r=>k p vs G' H' (s1.trans s2) hp r
def SE(hc:X.calm=ah)(S:Zd X scope)(F:Ğ X N' scope fv)(hi:DI O X tg iter fi)(C:DB O X N' scope tg ō ő g ft fe)(hs:∀x,kJ iter X.env x=bd x:=by intro _;rfl):
  DO O X .(q) (ba fi g ft fe fv):=⟨(Go hc S F hi.1 C.pb hs).imp (yZ (C.1 [] 0 X.Z6 X.Z9 []).1.no)⟩
end
variable{g g':FS}{sts:Z Stmt}{gg:FG}{vp:dn}
section
variable{a c:Expr}{st:Stmt}
noncomputable def aV:FS:=λY=>U (.nx,Y)
def ay(g g':FS):FS:=λY=>(g Y).bind λr=>match r.1 with
 |.nx=>g' r.2
 |fl=>U (fl,r.2)
def cR:Ø O X [] aV:=⟨Qu.imp λus L H=>by rintro⟨Z8,Z9,G,Y,fl,Y',A,h,k⟩;cases h;show k L G H (.refl _) A⟩
def bx(h:DS O X st g):Ø O X [st] g:=⟨OQ h.1⟩
def aG(h1:DS O X st g)(h2:Ø O X sts g'):Ø O X (st::sts) (ay g g'):=⟨(LO h1.1 h2.1).imp λus L H=>by
 rintro⟨Z8,Z9,G,Y,fl,Y',A,h,k⟩;let⟨⟨fl1,Y1⟩,h1,h⟩:=ZE h;show#[Z8,Z9,G,Y,fl1,Y1,A,h1,λZ1 G1 H1 sm A1=>?_];cases fl1 with
 |nx=>show#[Z8,Z9,G1,Y1,fl,Y',A1,h,λZ5 G' H' sm' A'=>k Z5 G' H' (sm.trans sm') A']
 |bk=>cases h;show k Z1 G1 H1 sm A1
 |ct=>cases h;show k Z1 G1 H1 sm A1
 |rt d=>cases h;show k Z1 G1 H1 sm A1
 |ow d=>cases h;show k Z1 G1 H1 sm A1
 |nw d=>cases h;show k Z1 G1 H1 sm A1
 |od d=>cases h;show k Z1 G1 H1 sm A1⟩
noncomputable def aF(f:FE):FS:=λY=>(f Y).map λd=>(.rt d,Y)
def cV(h:DE O X e f):DS O X (.Return (U e) pos) (aF f):=⟨(Hg h.1).imp λus L H=>by rintro⟨Z8,Z9,G,Y,fl,Y',A,h,k⟩;let⟨d,hd,h⟩:=Za h;cases h;show#[Z8,Z9,G,Y,d,A,hd,λv G' H' s r=>k L G' H' s.gg (A.step s) v r]⟩
noncomputable def aR(i:ag)(f:FE):FS:=λY=>(f Y).map λd=>(.nx,Y.set i (U (.sh d)))
def fZ(i:ag)(hN:X.N.Nodup)(h:DE O X e f)(hi:X.N[i]?=U x:=by rfl)(hx:Loc X.env.scope x:=by ac_nf)(hs:dq e (U (.Name x Zk)) pos.line X.env=bd ar:=by rfl)(hf:X.fn x=ah\/X.env.scope.names.lookup x=U .local:=by ac_nf):
  DS O X (.Assign [.Name x Zk] e pos) (aR i f):=⟨(mP hN hi hx h.1 hs hf).imp λus L H=>by
 rintro⟨Z8,Z9,G,Y,fl,Y',A,h,k⟩;let⟨d,hd,h⟩:=Za h;cases h;show#[Z8,Z9,G,Y,d,A,hd,λv G' H' s r=>k _ G' H' s.gg ((A.step s).setSh r)]⟩
noncomputable def e7(i:ag)(f:FA):FS:=λY=>(f Y).map λd=>(.nx,Y.set i (U (.own d)))
def CU:∀us L H,Η O X.K (e7 i fr) us L H->rA (TDo O X.K fr) (rM i) us L H:=by rintro us L H ⟨Z8,Z9,G,Y,fl,Y',A,h,k⟩;let⟨d,hd,h⟩:=Za h;cases h;show#[Z8,Z9,G,Y,d,A,hd,λp vs G' H' s hp r=>k _ G' _ s.gg ((A.step s).setOwn hp r)]
def OD(i:ag)(hN:X.N.Nodup)(h:DO O X e fr)(hi:X.N[i]?=U x:=by rfl)(hx:Loc X.env.scope x:=by ac_nf)(hs:dq e (U (.Name x Zk)) pos.line X.env=bd ar:=by rfl)(hf:X.fn x=ah\/X.env.scope.names.lookup x=U .local:=by ac_nf):
  DS O X (.Assign [.Name x Zk] e pos) (e7 i fr):=⟨(mP hN hi hx h.1 hs hf).imp CU⟩
def Ub:∀us L H,Η O X.K (aR i (aQ fr)) us L H->rA (TDo O X.K fr) (rM i) us L H:=by rintro us L H ⟨Z8,Z9,G,Y,fl,Y',A,h,k⟩;let⟨d,hd,h⟩:=Za h;let⟨ds,þ,rfl⟩:=Za hd;cases h;show#[Z8,Z9,G,Y,ds,A,þ,λp vs G' H' s hp r=>?_];let s2:=Step.new (o:=.lst vs) s.gh hp;show k _ _ _ (s.gg.trans s2.gg) (((A.step s).step s2).setSh (.lst bf (r.mono s2.gg)))
def KZ(i:ag){y:ai}(hN:X.N.Nodup)(hc:X.calm=ah)(S:Zd X scope)(F:Ğ X N' scope fv)(hi:DI O X tg iter fi)(C:DB O X N' scope tg ō ő gg ft fe)
  (hy:X.N[i]?=U y:=by rfl)(hyl:X.env.scope.names.lookup y=U .local:=by rfl)(hsw:dq .(q) (U (.Name y py)) Œ.line X.env=bd ah:=by rfl)(hs:∀x,kJ iter X.env x=bd x:=by intro _;rfl):
  DS O X (.Assign [.Name y py] .(q) Œ) (aR i (aQ (ba fi gg ft fe fv))):=⟨(B6 hN hy hyl hc S F hi.1 C.pb hsw hs).imp λus L H q=>yZ (C.1 [] 0 X.Z6 X.Z9 []).1.no L H _ (Ub us L H q)⟩
def Uq(i:ag){y:ai}(hN:X.N.Nodup)(hc:X.calm=ah)(S:Zd X scope)(F:Ğ X N' scope fv)(hi:DI O X tg iter fi)(C:DB O X N' scope tg ō ő gg ft fe)
  (hy:X.N[i]?=U y:=by rfl)(hyl:X.env.scope.names.lookup y=U .local:=by rfl)(hsw:dq .(q) (U (.Name y py)) Œ.line X.env=bd ah:=by rfl)(hs:∀x,kJ iter X.env x=bd x:=by intro _;rfl):
  DS O X (.Assign [.Name y py] .(q) Œ) (e7 i (ba fi gg ft fe fv)):=⟨(B6 hN hy hyl hc S F hi.1 C.pb hsw hs).imp λus L H q=>yZ (C.1 [] 0 X.Z6 X.Z9 []).1.no L H _ (CU us L H q)⟩
noncomputable def gI(i:ag)(f:FE):FS:=λY=>match Y[i]? with
 |some (U (.own ds))=>(f Y).bind λd=>if ds.length<aK then U (.nx,Y.set i (U (.own (ds++[d])))) else B
 |_=>B
def Km(i:ag)(h:DE O X e f)(hN:X.N[i]?=U x:=by rfl)(hv:ŋ X.env.scope x:=by ac_nf)(hd:.(r)=ar:=by decide)
  (À:(x==("__classdict__":ai))=ar:=by decide)
  (ę:jt (.Name x vp) "append" X.env (eval (.Name x vp) X.env)=eval (.Name x vp) X.env:=by rfl)
  (Ů:((ci Zg (aP [e] X.env)).all (λx=>!x.1) && (jX Zg (jY [] X.env)).all (λx=>x.1.isSome)
   && decide ([e].length+([]:Z iT).length+(if ([]:Z iT).isEmpty then 0 else 1)<30))=ah:=by rfl)
  (ĕ:(Zj.endLine==Zg.line)=ah:=by rfl)(hs:aP [e] X.env=(ar,eval e X.env)::aP [] X.env:=by rfl)(è:(ci Zg (aP [] X.env)).any (·.1)=ar:=by rfl)
  (hsw:dq (.Call (.Attribute (.Name x vp) "append" Zj) [e] [] Zg) B pos.line X.env=bd ar:=by rfl):
  DS O X (.Expr (.Call (.Attribute (.Name x vp) "append" Zj) [e] [] Zg) pos) (gI i f):=⟨(rO (zN WF Wm PySem.F.type_list_append Gr (fM hN hv hd À) (jh h.1 jJ hs) ę Ů ĕ hs è) hsw).imp λus L H=>by
  rintro⟨Z8,Z9,G,Y,fl,Y',A,h,k⟩;unfold gI at h;split at h
  .rename_i ds hi;let⟨d,hd,h⟩:=ZE h;split at h
   .rename_i hz;cases h;let⟨a,vs,h1,h2,h3,h4,h5⟩:=A.env.own i ds hi;show#[.ref a,h1,.inl #[W,vs,.inl (.inl h4)],Z8,Z9,G,Y,d,A,hd,λv G1 H1 s1 r1=>?_];let A1:=A.step s1;show#[a,vs,v,W,W,s1.hh _ _ h4,by rw[h5.length];show hz,?_];show k L G1 _ s1.gg (A1.chOwn hi h1 ((h5.mono s1.gg).append (.cons r1 .nil)))
   .cases h
  .cases h⟩
noncomputable def fC(i:ag)(g:FS):FS:=λY=>match Y[i]? with
 |some (U (.own ds))=>g (Y.set i (U (.sh (.lst ds))))
 |_=>B
def Η.frz(i:ag):∀us L H,Η O X.K (fC i g) us L H->Η O X.K g us L H:=by
 rintro us L H ⟨Z8,Z9,G,Y,fl,Y',A,h,k⟩;unfold fC at h;split at h
 .rename_i ds hi;let⟨G',sm,A'⟩:=A.freeze hi;show#[Z8,Z9,G',_,fl,Y',A',h,λZ1 G1 H1 sm1 A1=>k Z1 G1 H1 (sm.trans sm1) A1]
 .cases h
def uv(i:ag)(h:Ø O X sts g):Ø O X sts (fC i g):=⟨h.1.imp (Η.frz i)⟩
noncomputable def ZG(ft:FT)(g g':FS):FS:=λY=>(ft Y).bind λc=>if c=ah then g Y else g' Y
def cO{sa sb:Z Stmt}(hc:DT O X c ft)(ha:Ø O X sa g)(C:Ø O X sb g'):DS O X (.If c sa sb pos) (ZG ft g g'):=⟨(NJ hc.1 ha.1 C.1).imp λus L H=>by
 rintro⟨Z8,Z9,G,Y,fl,Y',A,h,k⟩;let⟨x,hx,h⟩:=ZE h;show#[Z8,Z9,G,Y,x,A,hx,λG1 H1 s1=>?_];cases x with
 |true=>show lc #[Z8,Z9,G1,Y,fl,Y',A.step s1,by simpa using h,λZU G2 H2 sm2 A2=>k ZU G2 H2 (s1.gg.trans sm2) A2]
 |false=>show lB #[Z8,Z9,G1,Y,fl,Y',A.step s1,by simpa using h,λZU G2 H2 sm2 A2=>k ZU G2 H2 (s1.gg.trans sm2) A2]⟩
noncomputable def oM(gg:FG)(f:FE):FS:=λY=>(f Y).bind λd=>(gg d Y).map λY'=>(.nx,Y')
def yw(h:DE O X e f)(hg:DG O X tg gg)(hs:swapsWithSole [tg] e pos.line X.env=bd ar:=by rfl)(hw:swappedStores [tg] e X.env=bd B:=by rfl)
  (h1:(fR [tg] X.env).map (·.2)=[pp tg X.env]:=by rfl):DS O X (.Assign [tg] e pos) (oM gg f):=⟨(Tz h.1 hg.pg hs hw h1).imp λus L H=>by
 rintro⟨Z8,Z9,G,Y,fl,Y',A,h,k⟩;let⟨d,hd,h⟩:=ZE h;let⟨Y1,h1,h⟩:=Za h;cases h;show#[Z8,Z9,G,Y,d,A,hd,λv G' H' s r=>#[Z8,Z9,G',Y,d,Y',A.step s,r,h1,λZ5 A'=>k Z5 G' H' s.gg A']]⟩
def eB(gg:FG)(body:FS):Z D->FS
 |[],Y=>U (.nx,Y)
 |x::xs,Y=>(gg x Y).bind λY1=>(body Y1).bind λr=>match r.1 with
  |.nx=>eB gg body xs r.2
  |.ct=>eB gg body xs r.2
  |.bk=>U (.nx,r.2)
  |.rt d=>U (.rt d,r.2)
  |.ow d=>U (.ow d,r.2)
  |.nw d=>U (.nw d,r.2)
  |.od d=>U (.od d,r.2)
def bT(fi:FA)(gg:FG)(body:FS):FS:=λY=>(fi Y).bind λxs=>eB gg body xs Y
def c8{body:Z Stmt}(hp:PassesOwn .(t) X.A X.env X.xe)(hc:X.calm=ah)(hi:DI O X tg iter fi)(hg:DG O X tg gg)(C:Ø O X body g)(hs:∀x,kJ iter X.env x=bd x:=by intro _;rfl):
  DS O X (.For tg iter body [] pos) (bT fi gg g):=⟨(Le hp hc hi.1 hg.pg C.1 hs).imp λus L H=>by
 rintro⟨Z8,Z9,G,Y,fl,Y',A,h,k⟩;let⟨xs,hx,h⟩:=ZE h;show#[Z8,Z9,G,Y,xs,A,hx,λao G1 H1 s1 ρ=>?_];show#[λi m Z5 H'=>m=xs.length-i/\i<=xs.length/\∃G' Y1,aY G1 G'/\At O X.K Z8 Z9 G' H' Y1 Z5/\eB gg g (xs.drop i) Y1=U (fl,Y'),#[xs.length,W,fy _,G1,Y,.refl _,A.step s1,by rw[pM];show h],?_];rintro i m Z5 H' ⟨rfl,hi,G',Y1,sm,A',hr⟩;by_cases Zu:i<xs.length
 .right
  let hxi:xs[i]?=U xs[i]:=by simp[Zu]
  let⟨go,yl⟩:=ρ.go i _ G' H' hxi sm A'.gh;let hdr:xs.drop i=xs[i]::xs.drop (i+1):=tt Zu;rw[hdr] at hr;let⟨Y2,h2,hr⟩:=ZE hr;let⟨⟨fl3,Y3⟩,h3,hr⟩:=ZE hr;show#[go,λZV H3=>(fl3=.nx\/fl3=.ct)/\∃G3,aY G1 G3/\At O X.K Z8 Z9 G3 H3 Y3 ZV,λZV H3 #[hfl,G3,sm3,A3]=>?_,λx H2 hy=>?_]
  .refine#[xs.length-(i+1),by ext,W,Zu,G3,Y3,sm3,A3,?_];rcases hfl with e|e<;>subst e<;>show hr
  .obtain⟨G2,s2,r2⟩:=yl x H2 hy;show#[Z8,Z9,G2,Y1,_,Y2,A'.step s2,r2,h2,λZU A2=>#[Z8,Z9,G2,Y2,fl3,Y3,A2,h3,λZV G3 H3 sm3 A3=>?_]];let smm:aY G1 G3:=(sm.trans s2.gg).trans sm3;cases fl3 with
   |nx=>show#[.inl W,G3,smm,A3]
   |ct=>show#[.inr W,G3,smm,A3]
   |bk=>cases hr;show k ZV G3 H3 (s1.gg.trans smm) A3
   |rt d=>cases hr;show k ZV G3 H3 (s1.gg.trans smm) A3
   |ow d=>cases hr;show k ZV G3 H3 (s1.gg.trans smm) A3
   |nw d=>cases hr;show k ZV G3 H3 (s1.gg.trans smm) A3
   |od d=>cases hr;show k ZV G3 H3 (s1.gg.trans smm) A3
 .left
  let e:i=xs.length:=by ext
  subst e;rw[wH] at hr;cases hr;show#[ρ.stop G' H' sm A'.gh,k Z5 G' H' (s1.gg.trans sm) A']⟩
end
variable{fk:FE}
section
variable{a c:Expr}{fw:FE}
inductive spF(O:Cn)(K:aT)(n:ag)(F:Z D->au D)(vs:Z V)(H:Hp)(Q:VK)(_e3:XK):Prop where
 |mk:∀G ds d,aY G H->YN O K G vs ds->ds.length=n->F ds=U d->(∀v G' H',Step G H G' H'->ZD O K G' v d->Q v H')->spF O K n F vs H Q _e3
noncomputable def aO(n:ag)(g:FS):Z D->au D:=λds=>(g (ds.map (λd=>U (Slot.sh d))++bU n B)).bind λr=>match r.1 with
 |.rt d=>U d
 |.nx=>U .non
 |_=>B
def ui{m:ag}(gh:aY G H)(r:YN O K G vs ds)(hm:m=N.length-vs.length):At O K G H G H (ds.map (λd=>U (Slot.sh d))++bU m B) (dX N vs):=by
 let no:fJ (ds.map (λd=>U (Slot.sh d))++bU m B):=λi es e=>by
  by_cases hi:i<ds.length
  .rw[qA (by simpa using hi),qm] at e;let⟨d,_,e⟩:=Za e;cases e;show#[_,W]
  .rw[qM (by simpa using hi),wA] at e;split at e<;>cases e
 show#[.refl gh,.ofSh (by simp[dX,r.length,hm]) no λi d e=>?_];by_cases hi:i<ds.length
 .rw[qA (by simpa using hi),qm] at e;let⟨d',hd,e⟩:=Za e;cases e;let⟨v,hv,rv⟩:=r.get hd;show#[v,?_,rv];unfold dX;rw[qA (by rw[qg,r.length];show hi),qm,hv];rfl
 .rw[qM (by simpa using hi),wA] at e;split at e<;>cases e
def Ş.okD{st:Stmt}{f:av}{k:ag}(F:Ş K x qual st f fd)(S:ZC N ps (aD st))
  (Y6:∀(Y0:aw)(A:cH)(outer:Z cA)(s:aH)(H:Hp)(us:XK),ZH k .(j)->
   Ø O .(i).nox (bZ st) g):Zt P w K mg base ø (k+1) f fd ps (spF O K ps.length (aO (N.length-ps.length) g)):=by
 show F.ok S (λvs H Q us h=>?_) (λY0 A outer s H vs Q us hr h=>?_)
 .obtain⟨G,ds,d,_,r,hl,_⟩:=h;rw[r.length,hl]
 .obtain⟨G,ds,d,gh,r,hl,hd,k⟩:=h;show#[_,(Y6 Y0 A outer s H us hr).1,?_];let⟨⟨fl,Y'⟩,hg,hd⟩:=ZE hd;show#[G,H,G,_,fl,Y',ui gh r (by rw[r.length,hl]),hg,λZ5 G' H' sm A'=>?_];cases fl with
  |rt d'=>cases hd;exactλv rv=>k v G' H' A'.st rv
  |nx=>cases hd;show k .non G' H' A'.st .non
  |bk=>cases hd
  |ct=>cases hd
  |ow d=>cases hd
  |nw d=>cases hd
  |od d=>cases hd
def Lc{k:ag}{fx:av}{F:Z D->au D}(Fo:Zt X.prog X.w X.K X.mg X.base ø k fx fd ps (spF O X.K n F))(hr:ZH k X.A)(hg:Gl X x)(hm:X.mg x=U (.ref fx))(hk:fS X.K (.ref fx)=ah)(C:ff X.K fd ps [])
  (ha:DA O X (e::es) fr)(hn:∀Y ds,fr Y=U ds->ds.length=n)(õ:.(r)=ar:=by decide)(he:aP (e::es) X.env=(ar,eval e X.env)::aP es X.env:=by rfl)(Zo:(ci pos (aP es X.env)).any (·.1)=ar:=by rfl):
  DE O X (.Call (.Name x p) (e::es) [] pos) (cF F fr):=⟨(As Fo hr hg hm hk C .nil ko ha.1 õ he Zo).imp λL H Q=>by
 rintro⟨Z8,Z9,G,Y,d,A,h,k⟩;let⟨ds,hd,h⟩:=ZE h;show#[Z8,Z9,G,Y,ds,A,hd,λvs G1 H1 s1 r1=>?_];rw[iS];show#[G1,ds,d,s1.gh,r1,hn Y ds hd,h,λv G' H' s r=>k v G' H' (s1.trans s) r]⟩
def U0(h:aq Y=U ds):ds.length=0:=by cases h;rfl
def m9(hn:∀Y ds,fr Y=U ds->ds.length=n):∀Y ds,J fa fr Y=U ds->ds.length=n+1:=λY ds h=>by let⟨x,hx,h⟩:=ZE h;let⟨xs,hxs,rfl⟩:=Za h;rw[qj,hn Y xs hxs]
end
structure η(O:Cn)(P:dD)(w:cD)(K:aT)(mg:ai->au aw)(base:Heap)(x:ai)(n k:ag)(F:Z D->au D):Prop where
 ex:∃f fd ps,Zt P w K mg base ø k f fd ps (spF O K n F)/\mg x=U (.ref f)/\fS K (.ref f)=ah/\ff K fd ps []
structure Zm(K:aT)(mg:ai->au aw)(x:ai)(st:Stmt):Prop where
 ex:∃f fd,Ş K x x st f fd/\mg x=U (.ref f)
def o8{k:ag}{F:Z D->au D}(hb:η O X.prog X.w X.K X.mg X.base x n k F)(hr:ZH j X.A)(hk:k<=j)(hg:Gl X x)(ha:DA O X (e::es) fr)(hn:∀Y ds,fr Y=U ds->ds.length=n)
  (õ:.(r)=ar:=by decide)(he:aP (e::es) X.env=(ar,eval e X.env)::aP es X.env:=by rfl)(Zo:(ci pos (aP es X.env)).any (·.1)=ar:=by rfl):
  DE O X (.Call (.Name x p) (e::es) [] pos) (cF F fr):=by
 let⟨f,fd,ps,h1,h2,h3,h4⟩:=hb.ex;show Lc h1 (hr.mono hk) hg h2 h3 h4 ha hn õ he Zo
def Zm.cal{st:Stmt}{k:ag}(F:Zm K mg x st)(S:ZC N ps (aD st))
  (C:∀(kV Zp pm:aw)(an:au av)(Y0 ct:aw)(E:Z aw),E.length=ps.length->eN (cZ x x (c7 st) (bZ st) (aD st) .none kV Zp pm an Y0 ct) #[E,[]]=bd (ps.zip E))
  (Y6:∀(f:av)(Y0:aw)(A:cH)(outer:Z cA)(s:aH)(H:Hp)(us:XK),ZH k (A.deeper (dc x (aD st) s.heap.objs.size f Y0))->
   Ø O (dy ø P w K mg base N x (aD st) f Y0 A outer s H us).nox (bZ st) g):η O P w K mg base x ps.length (k+1) (aO (N.length-ps.length) g):=by
 let⟨f,fd,h1,h2⟩:=F.ex;show#[f,fd,ps,h1.okD S (Y6 f),h2,h1.kp,h1.binds C]
def Zm.mk'{h:Heap}{st:Stmt}{f:av}{kV:aw}(X:K.In h)(G:h.Ns fK mg)(a:tu K fK x=U (U (.ref f)))
  (l:K.lookup f=U #[oc,od,.func (cZ x x (c7 st) (bZ st) (aD st) .none kV Zp pm an Y0 ct),ŕ])(c:nI K Y0 x=ah)(k:fS K (.ref f)=ah):Zm K mg x st:=
 #[f,_,z7 l c k,tw X G a]
noncomputable def vt(names:Z (ai×ir))(outer:Z (ai×ir)):aJ:=
 names.all λy=>y.2 != .cell && (y.2 != .local || names.lookup y.1==U .local) && (y.2 != .free || outer.lookup y.1==U .cell || outer.lookup y.1==U .free)
def Zd.of(hk:scope.kind=.function)(h:vt scope.names X.env.scope.names=ah):Zd X scope:=by
 unfold vt at h;rw[gE] at h;show#[hk,λy hy e=>?_,λy hy e=>?_,λy hy e=>?_]
 .let:=h y hy;rw[e] at this;simp at this
 .let:=h y hy;rw[e] at this;simpa using this
 .let:=h y hy;rw[e] at this;simpa[Env.kindOf] using this
noncomputable def t4(N':Z ai)(fv:Z (au ag))(N:Z ai)(outer names:Z (ai×ir)):aJ:=
 fv.length==N'.length && (N'.zip fv).all λy=>match y.2 with
  |none=>ah
  |some j=>N[j]?==U y.1 && (outer.lookup y.1==U .cell || outer.lookup y.1==U .free) && names.lookup y.1==U .free
def Ğ.of(h:t4 N' fv X.N X.env.scope.names scope.names=ah):Ğ X N' scope fv:=by
 unfold t4 at h;rw[dB,gE] at h;let⟨h1,h2⟩:=h;show#[by simpa using h1,λi j x e1 e2=>?_];let hm:(x,U j)∈N'.zip fv:=by show wI.mpr #[i,?_];rw[List.getElem?_zip_eq_some];show#[e1,e2]
 let:=h2 _ hm;simp only[dB,Bb,kL] at this;show#[this.1.1,this.1.2,this.2]
mutual
def Ö:D->au wJ
 |.non=>U .none
 |.bl b=>U (.bool b)
 |.int i=>U (.int i)
 |.str x=>U (.str x)
 |.tup l=>(gq l).map PyData.tuple
 |.lst l=>(gq l).map PyData.list
 |.scr ns=>U (.list (ns.map WG))
 |_=>B
def gq:Z D->au (Z wJ)
 |[]=>U []
 |d::r=>(Ö d).bind λp=>(gq r).map (p::·)
end
def Ow{h:Heap}:∀{ns:Z aj}{E:Z aw},bj (ns.map V.int) E->∃as,Ia h E (ns.map WG) as:=by
 intro Y7
 induction Y7 with
 |nil=>
  intro _ r;rw[qQ] at r;cases r;show#[_,.nil]
 |cons n ns ih=>
  intro _ r;rw[qp] at r;cases r with
  |cons r1 r2=>
   let⟨t,e⟩:=r1;subst e;let⟨as,q⟩:=ih r2;show#[_,.cons (.int n t) q]
def ZD.reads(I:YS X Z' L H s)(gh:aY G H){p:wJ}(r:ZD O X.K G v d):bI v u->Ö d=U p->∃as,Reads s.heap u p as:=by
 show r.rec (motive_2:=λvs ds _=>∀E ps,bj vs E->gq ds=U ps->∃as,Ia s.heap E ps as) ?_ ?_ ?_ ?_ ?_ ?_ ?_ ?_ ?_ ?_ ?_ ?_ ?_ ?_ ?_ u p
 .intro u p r h;cases r;rw[Ö] at h;cases h;show#[_,.none]
 .intro b u p r h;cases r;rw[Ö] at h;cases h;show#[_,.bool b]
 .intro i u p r h;let⟨t,rfl⟩:=r;rw[Ö] at h;cases h;show#[_,.int i t]
 .intro x u p r h;let⟨t,rfl⟩:=r;rw[Ö] at h;cases h;show#[_,.str x t]
 .intro n u p r h;rw[Ö] at h;cases h;all_goals (intros;contradiction)
 .intro a vs ds ha _ i u p r h;cases r;rw[Ö] at h;let⟨ps,hp,rfl⟩:=Za h;let⟨YY,rv,⟨o,e1,e2,n,e3⟩,_⟩:=I.tuple (.inl (.inl (gh _ _ ha)));let⟨as,q⟩:=i _ _ rv hp;show#[_,.tuple e1 e2 e3 (by simpa using q)]
 .intro a vs ds ha _ i u p r h;cases r;rw[Ö] at h;let⟨ps,hp,rfl⟩:=Za h;let⟨YY,rv,⟨o,n,e1,e2,_,e3⟩,_⟩:=I.list (.inl (.inl (gh _ _ ha)));let⟨as,q⟩:=i _ _ rv hp;show#[_,.list e1 e2 e3 (by simpa using q)]
 .intro a ns hs u p r h;cases r;rw[Ö] at h;cases h;let⟨YY,rv,⟨o,n,e1,e2,_,e3⟩,_⟩:=I.list (gh.seq hs);let⟨as,q⟩:=Ow rv;show#[_,.list e1 e2 e3 (by simpa using q)]
 iterate 5
  .intros
   rename_i h;rw[Ö] at h;cases h;all_goals (intros;contradiction)
 .intro E ps r h;cases r;rw[gq] at h;cases h;show#[_,.nil]
 .intro v d vs ds _ _ i1 i2 E ps r h;cases r with
  |cons q1 q2=>
   rw[gq] at h;let⟨p,hp,h⟩:=ZE h;let⟨ps,hps,rfl⟩:=Za h;let⟨as,a1⟩:=i1 _ _ q1 hp;let⟨bs,a2⟩:=i2 _ _ q2 hps;show#[_,.cons a1 a2]
def YN.reads(I:YS X Z' L H s)(gh:aY G H):∀{vs:Z V}{ds:Z D}{E:Z aw}{ps:Z wJ},YN O X.K G vs ds->bj vs E->gq ds=U ps->∃as,Ia s.heap E ps as
 |_,_,_,_,.nil,r,h=>by cases r;rw[gq] at h;cases h;show#[_,.nil]
 |_,_,_,_,.cons r1 r2,r,h=>by
  cases r with
  |cons q1 q2=>
   rw[gq] at h;let⟨p,hp,h⟩:=ZE h;let⟨ps,hps,rfl⟩:=Za h;let⟨as,a1⟩:=ZD.reads I gh r1 q1 hp;let⟨bs,a2⟩:=YN.reads I gh r2 q2 hps;show#[_,.cons a1 a2]
section
variable{a c:Expr}
noncomputable def eqX(x y:D):au aJ:=(Ö x).bind λp=>(Ö y).bind λq=>if fL p=ah/\fL q=ah then U (jv p q) else B
def vN(x y:D):au D:=(eqX x y).map D.bl
def o6(x y:D):au D:=(eqX x y).map λb=>D.bl (!b)
def rX(O:Cn)(K:aT)(neg:aJ):R2:=λx y H Q=>∃G d e b,aY G H/\ZD O K G x d/\ZD O K G y e/\eqX d e=U b/\Q (.bl (if neg then !b else b)) H
def wY{x y:D}{b:aJ}(h:eqX x y=U b):∃p q,Ö x=U p/\Ö y=U q/\fL p=ah/\fL q=ah/\b=jv p q:=by
 let⟨p,hp,h⟩:=ZE h;let⟨q,hq,h⟩:=ZE h;split at h
 .rename_i hz;cases h;show#[p,q,hp,hq,hz.1,hz.2,W]
 .cases h
def UA(hu:X.A.units+64<ck):Å X (dM .Eq) (rX O X.K ar):=by intro Z' s L H x y v u Q I rx ry h;let⟨G,d,e,b,gh,r1,r2,C,q⟩:=h;let⟨p,q',hp,hq,s1,s2,rfl⟩:=wY C;let⟨as,a1⟩:=r1.reads I gh rx hp;let⟨bs,a2⟩:=r2.reads I gh ry hq;show eq_dataH a1 a2 s1 s2 hu #[.bl _,H,I,W,q]
def Rh(hu:X.A.units+64<ck):Å X (dM .NotEq) (rX O X.K ah):=by intro Z' s L H x y v u Q I rx ry h;let⟨G,d,e,b,gh,r1,r2,C,q⟩:=h;let⟨p,q',hp,hq,s1,s2,rfl⟩:=wY C;let⟨as,a1⟩:=r1.reads I gh rx hp;let⟨bs,a2⟩:=r2.reads I gh ry hq;show ne_dataH a1 a2 s1 s2 hu #[.bl _,H,I,W,q]
def U3(hu:X.A.units+64<ck):Zx O X .Eq vN:=#[_,UA hu,λ{G H v u x y z}gh r1 r2 h Q k=>by let⟨b,C,rfl⟩:=Za h;show#[G,x,y,b,gh,r1,r2,C,k _ G H (.refl gh) (.bl _)]]
def RO(hu:X.A.units+64<ck):Zx O X .NotEq o6:=#[_,Rh hu,λ{G H v u x y z}gh r1 r2 h Q k=>by let⟨b,C,rfl⟩:=Za h;show#[G,x,y,b,gh,r1,r2,C,k _ G H (.refl gh) (.bl _)]]
noncomputable def inX(x y:D):au aJ:=(Ö x).bind λp=>(Ö y).bind λq=>match q with
 |.list l=>if fL p=ah/\nR l=ah then U (l.any λz=>jv z p) else B
 |_=>B
def iC(x y:D):au D:=(inX x y).map D.bl
def iL(x y:D):au D:=(inX x y).map λb=>D.bl (!b)
def Cp(O:Cn)(K:aT)(neg:aJ):R2:=λx y H Q=>∃G d e b,aY G H/\ZD O K G x d/\ZD O K G y e/\inX d e=U b/\Q (.bl (if neg then !b else b)) H
def Fq{x y:D}{b:aJ}(h:inX x y=U b):∃p l,Ö x=U p/\Ö y=U (.list l)/\fL p=ah/\nR l=ah/\b=l.any λz=>jv z p:=by
 let⟨p,hp,h⟩:=ZE h;let⟨q,hq,h⟩:=ZE h;split at h
 .split at h
  .rename_i hz;cases h;show#[p,_,hp,hq,hz.1,hz.2,W]
  .cases h
 .cases h
def DH{p:wJ}(h:fL p=ah):p.canLay0=ah/\p.depth<=64:=by unfold fL at h;rw[dB] at h;show#[h.1,fT h.2]
def OA(hu:X.A.units+66<ck):Å X (dM .In) (Cp O X.K ar):=by intro Z' s L H x y v u Q I rx ry h;let⟨G,d,e,b,gh,r1,r2,C,q⟩:=h;let⟨p,l,hp,hq,s1,s2,rfl⟩:=Fq C;let⟨as,a1⟩:=r1.reads I gh rx hp;let⟨bs,a2⟩:=r2.reads I gh ry hq;let⟨c1,c2⟩:=DH s1;show SeqAt.in_list_reads a2 a1 s2 c1 .(c) #[.bl _,H,I,W,q]
def PU(hu:X.A.units+66<ck):Å X (dM .NotIn) (Cp O X.K ah):=by intro Z' s L H x y v u Q I rx ry h;let⟨G,d,e,b,gh,r1,r2,C,q⟩:=h;let⟨p,l,hp,hq,s1,s2,rfl⟩:=Fq C;let⟨as,a1⟩:=r1.reads I gh rx hp;let⟨bs,a2⟩:=r2.reads I gh ry hq;let⟨c1,c2⟩:=DH s1;show SeqAt.notIn_list_reads a2 a1 s2 c1 .(c) #[.bl _,H,I,W,q]
def C1(hu:X.A.units+66<ck):Zx O X .In iC:=#[_,OA hu,λ{G H v u x y z}gh r1 r2 h Q k=>by let⟨b,C,rfl⟩:=Za h;show#[G,x,y,b,gh,r1,r2,C,k _ G H (.refl gh) (.bl _)]]
def DK(hu:X.A.units+66<ck):Zx O X .NotIn iL:=#[_,PU hu,λ{G H v u x y z}gh r1 r2 h Q k=>by let⟨b,C,rfl⟩:=Za h;show#[G,x,y,b,gh,r1,r2,C,k _ G H (.refl gh) (.bl _)]]
def cg{k:ag}(hr:ZH k X.A):X.A.units+66<ck:=by let:=hr.un;ext
def rF{k:ag}(hr:ZH k X.A):X.A.units+64<ck:=by let:=hr.un;ext
noncomputable def mX(d:D):aJ:=match d with
 |.non=>ah
 |_=>ar
def Ē(x y:D):au D:=match y with
 |.non=>U (.bl (mX x))
 |_=>B
def iG(x y:D):au D:=match y with
 |.non=>U (.bl (!mX x))
 |_=>B
def EV(r:ZD O K G v d):decide (v=.non)=mX d:=by cases r<;>simp[mX]
def FW:Zx O X .Is Ē:=#[_,Px,λ{G H v u x y z}gh r1 r2 h Q k=>by unfold Ē at h;split at h<;>cases h;show#[r2.non_inv,by rw[EV r1];show k _ G H (.refl gh) (.bl _)]]
def Et:Zx O X .IsNot iG:=#[_,Pz,λ{G H v u x y z}gh r1 r2 h Q k=>by unfold iG at h;split at h<;>cases h;show#[r2.non_inv,by rw[EV r1];show k _ G H (.refl gh) (.bl _)]]
end
variable{fx:FE}
section
variable{a c o i:Expr}
def Step.back(gh:aY G H)(s1:aY G G1)(s:Step G1 H G' H'):Step G H G H':=#[s.hh,.refl _,(s1.trans s.gg).trans s.gh,λ_ _ _ _=>rfl]
def ZD.flat(r:ZD O K G v d)(h:gN d=ah):ZD O K G' v d:=by
 cases r with
 |non=>show .non
 |bl b=>show .bl b
 |int i=>show .int i
 |str x=>show .str x
 |_=>cases h
noncomputable def hU(i:ag)(f:FE):FS:=λY=>match Y[i]? with
 |some (U (.own ds))=>(f Y).bind λd=>match d with
  |.lst l=>if ds.length+l.length<=aK then U (.nx,Y.set i (U (.own (ds++l)))) else B
  |_=>B
 |_=>B
def uy(i:ag)(h:DE O X e f)(hN:X.N[i]?=U x:=by rfl)(hv:ŋ X.env.scope x:=by ac_nf)(hd:.(r)=ar:=by decide)
  (À:(x==("__classdict__":ai))=ar:=by decide)
  (ę:jt (.Name x vp) "extend" X.env (eval (.Name x vp) X.env)=eval (.Name x vp) X.env:=by rfl)
  (Ů:((ci Zg (aP [e] X.env)).all (λx=>!x.1) && (jX Zg (jY [] X.env)).all (λx=>x.1.isSome)
   && decide ([e].length+([]:Z iT).length+(if ([]:Z iT).isEmpty then 0 else 1)<30))=ah:=by rfl)
  (ĕ:(Zj.endLine==Zg.line)=ah:=by rfl)(hs:aP [e] X.env=(ar,eval e X.env)::aP [] X.env:=by rfl)(è:(ci Zg (aP [] X.env)).any (·.1)=ar:=by rfl)
  (hsw:dq (.Call (.Attribute (.Name x vp) "extend" Zj) [e] [] Zg) B pos.line X.env=bd ar:=by rfl):
  DS O X (.Expr (.Call (.Attribute (.Name x vp) "extend" Zj) [e] [] Zg) pos) (hU i f):=⟨(rO (zN WF Wn PySem.F.type_list_extend Se (fM hN hv hd À) (jh h.1 jJ hs) ę Ů ĕ hs è) hsw).imp λus L H=>by
  rintro⟨Z8,Z9,G,Y,fl,Y',A,h,k⟩;unfold hU at h;split at h
  .rename_i ds hi;let⟨d,hd,h⟩:=ZE h;split at h
   .rename_i l;split at h
    .rename_i hz;cases h;let⟨a,vs,h1,h2,h3,h4,h5⟩:=A.env.own i ds hi;show#[.ref a,h1,.inl #[W,vs,.inl (.inl h4)],Z8,Z9,G,Y,_,A,hd,λv G1 H1 s1 r1=>?_];let A1:=A.step s1;let⟨b,E,rfl,C,rb⟩:=r1.lst_inv;show#[a,b,vs,E,W,W,s1.hh _ _ h4,s1.gh _ _ C,by rw[h5.length,rb.length];show hz,?_];show k L G1 _ s1.gg (A1.chOwn hi h1 ((h5.mono s1.gg).append rb))
    .cases h
   .cases h
  .cases h⟩
noncomputable def yu:Z D->au D
 |[.lst l]=>U (.tup l)
 |[.tup l]=>U (.tup l)
 |_=>B
def K8:TyD O X "tuple" yu:=#[_,JF,λ{G H vs ds z}gh r h Q k=>by
 unfold yu at h;split at h<;>cases h
 .obtain⟨v,rfl,r1⟩:=r.one;let⟨a,E,rfl,ha,ra⟩:=r1.lst_inv;show#[a,E,W,.inl #[.inl (.inl (gh _ _ ha)),uK gh ra k]]
 .obtain⟨v,rfl,r1⟩:=r.one;let⟨a,E,rfl,ha,ra⟩:=r1.tup_inv;show#[a,E,W,.inr #[.inl (.inl (gh _ _ ha)),k _ G H (.refl gh) (.tup ha ra)]]]
noncomputable def yc:Z D->au D
 |[.lst l]=>U (.lst l)
 |[.tup l]=>U (.lst l)
 |[.scr l]=>U (.lst (l.map D.int))
 |_=>B
def Va:TyD O X "list" yc:=#[_,U6,λ{G H vs ds z}gh r h Q k=>by
 unfold yc at h;split at h<;>cases h
 .obtain⟨v,rfl,r1⟩:=r.one;let⟨a,E,rfl,ha,ra⟩:=r1.lst_inv;show#[a,E,W,.inl (.inl (.inl (gh _ _ ha))),ip gh ra k]
 .obtain⟨v,rfl,r1⟩:=r.one;let⟨a,E,rfl,ha,ra⟩:=r1.tup_inv;show#[a,E,W,.inr (.inl (.inl (gh _ _ ha))),ip gh ra k]
 .obtain⟨v,rfl,r1⟩:=r.one;let⟨a,rfl,ha⟩:=r1.scr_inv;show#[a,_,W,.inl (gh.seq ha),ip gh (YN.ints _) k]]
noncomputable def bc[dE κ](YL:Z (κ×α))(k:κ):au α:=(YL.find? λkv=>decide (kv.1=k)).map (·.2)
noncomputable def bW[dE κ](YL:Z (κ×α))(k:κ)(v:α):Z (κ×α):=
 if (YL.any λkv=>decide (kv.1=k))=ah then YL.map (λkv=>if kv.1=k then (kv.1,v) else kv) else YL++[(k,v)]
def nr{κ:Type}[dE κ]{K:aT}{G:Hp}{k:κ}:∀{E:Z (κ×V)}{YL:Z (κ×D)},E.map (·.1)=YL.map (·.1)->YN O K G (E.map (·.2)) (YL.map (·.2))->
  (bc YL k=B/\fX E k=B)\/∃d v,bc YL k=U d/\fX E k=U v/\ZD O K G v d
 |[],[],_,_=>.inl #[W,W]
 |[],_::_,e,_=>by cases e
 |_::_,[],e,_=>by cases e
 |(k1,v)::E,(k2,d)::YL,e,r=>by
  let e1:k1=k2:=(dN e).1;let e2:E.map (·.1)=YL.map (·.1):=(dN e).2;subst e1;cases r with
  |cons r1 r2=>
   by_cases h:k1=k
   .exact .inr #[d,v,by simp[bc,eX,h],uZ h,r1]
   .let:=nr (k:=k) e2 r2;rw[uD h];simpa[bc,eX,h] using this
def FI{κ:Type}[dE κ]{k:κ}{α β:Type}:∀{E:Z (κ×α)}{YL:Z (κ×β)},E.map (·.1)=YL.map (·.1)->(E.any λkv=>decide (kv.1=k))=(YL.any λkv=>decide (kv.1=k))
 |[],[],_=>rfl
 |[],_::_,e=>by cases e
 |_::_,[],e=>by cases e
 |(k1,v)::E,(k2,d)::YL,e=>by let e1:k1=k2:=(dN e).1;subst e1;rw[kQ,kQ,FI (dN e).2]
def CO{κ:Type}[dE κ]{K:aT}{G:Hp}{k:κ}{v:V}{d:D}(rv:ZD O K G v d):∀{E:Z (κ×V)}{YL:Z (κ×D)},E.map (·.1)=YL.map (·.1)->YN O K G (E.map (·.2)) (YL.map (·.2))->
  (E.map λkv=>if kv.1=k then (kv.1,v) else kv).map (·.1)=(YL.map λkv=>if kv.1=k then (kv.1,d) else kv).map (·.1)/\YN O K G ((E.map λkv=>if kv.1=k then (kv.1,v) else kv).map (·.2)) ((YL.map λkv=>if kv.1=k then (kv.1,d) else kv).map (·.2))
 |[],[],_,_=>#[W,.nil]
 |[],_::_,e,_=>by cases e
 |_::_,[],e,_=>by cases e
 |(k1,u)::E,(k2,x)::YL,e,r=>by
  let e1:k1=k2:=(dN e).1;let e2:E.map (·.1)=YL.map (·.1):=(dN e).2;subst e1;cases r with
  |cons r1 r2=>
   let⟨h1,h2⟩:=CO (k:=k) rv e2 r2;by_cases h:k1=k
   .subst h;simp only[qp,cI];show#[by rw[h1],.cons rv h2]
   .simp only[qp,qZ h];show#[by rw[h1],.cons r1 h2]
def o5[dE κ]{k:κ}(rv:ZD O K G v d){E:Z (κ×V)}{YL:Z (κ×D)}(e:E.map (·.1)=YL.map (·.1))(r:YN O K G (E.map (·.2)) (YL.map (·.2))):
  (putK E k v).map (·.1)=(bW YL k d).map (·.1)/\YN O K G ((putK E k v).map (·.2)) ((bW YL k d).map (·.2)):=by
 unfold putK bW;rw[FI e];split
 .exact CO rv e r
 .simp only[dU,qp,qQ];show#[by rw[e],r.append (.cons rv .nil)]
def gK:D->au YQ
 |.int i=>U (.inl i)
 |.str x=>U (.inr x)
 |_=>B
def fg:Z D->au (Z YQ)
 |[]=>U []
 |d::r=>(gK d).bind λk=>(fg r).map (k::·)
def lz{k:YQ}(r:ZD O K G v d)(h:gK d=U k):v=kV k:=by
 unfold gK at h;split at h<;>cases h
 .exact r.int_inv
 .exact r.str_inv
def kD{K:aT}{G:Hp}:∀{vs:Z V}{ds:Z D}{ks:Z YQ},YN O K G vs ds->fg ds=U ks->vs=ks.map kV
 |_,[],ks,r,h=>by cases r;cases h;rfl
 |_,d::ds,ks,.cons h1 h2,h=>by let⟨k,hk,h⟩:=ZE h;let⟨zs,hz,rfl⟩:=Za h;rw[lz h1 hk,kD h2 hz];rfl
def jP(d k:D):au (au D):=match d,k with
 |.dk l,k=>(gK k).map (bc l)
 |.fdk l,k=>(gK k).map (bc l)
 |.dt l,.tup t=>(fg t).map (bc l)
 |.fdt l,.tup t=>(fg t).map (bc l)
 |_,_=>B
def F8{k:D}{r:au D}(gh:aY G H)(rv:ZD O K G v d)(h:jP d k=U r):∃a,v=.ref a/\IsD H a:=by
 unfold jP at h;split at h
 .cases rv with
  |dk h _ _=>show#[_,W,.inl #[_,.inl (gh _ _ h)]]
 .cases rv with
  |fdk h _ _=>show#[_,W,.inl #[_,.inr #[_,gh _ _ h]]]
 .cases rv with
  |dt h _ _=>show#[_,W,.inr #[_,.inl (gh _ _ h)]]
 .cases rv with
  |fdt h _ _=>show#[_,W,.inr #[_,.inr #[_,gh _ _ h]]]
 .cases h
def su{k:D}{r:au D}(gh:aY G H)(rv:ZD O K G v d)(ry:ZD O K G y k)(h:jP d k=U r):
  ∃a o,v=.ref a/\f8 H a y o/\((r=B/\o=B)\/∃w z,r=U z/\o=U w/\ZD O K G w z):=by
 unfold jP at h;split at h
 .obtain⟨kk,hk,rfl⟩:=Za h;cases rv with
  |dk h1 h2 h3=>
   let ey:=lz ry hk;subst ey;show#[_,_,W,f8.k (gh _ _ h1),?_];rcases nr h2 h3 with⟨q1,q2⟩|⟨z,w,q1,q2,q3⟩
   .exact .inl #[q1,q2]
   .exact .inr #[w,z,q1,q2,q3]
 .obtain⟨kk,hk,rfl⟩:=Za h;cases rv with
  |fdk h1 h2 h3=>
   let ey:=lz ry hk;subst ey;show#[_,_,W,.inl #[_,kk,.inr #[_,gh _ _ h1],W,W],?_];rcases nr h2 h3 with⟨q1,q2⟩|⟨z,w,q1,q2,q3⟩
   .exact .inl #[q1,q2]
   .exact .inr #[w,z,q1,q2,q3]
 .obtain⟨kk,hk,rfl⟩:=Za h;cases rv with
  |dt h1 h2 h3=>
   let⟨b,ys,rfl,C,rb⟩:=ry.tup_inv;let ey:=kD rb hk;subst ey;show#[_,_,W,f8.t (gh _ _ h1) (gh _ _ C),?_];rcases nr h2 h3 with⟨q1,q2⟩|⟨z,w,q1,q2,q3⟩
   .exact .inl #[q1,q2]
   .exact .inr #[w,z,q1,q2,q3]
 .obtain⟨kk,hk,rfl⟩:=Za h;cases rv with
  |fdt h1 h2 h3=>
   let⟨b,ys,rfl,C,rb⟩:=ry.tup_inv;let ey:=kD rb hk;subst ey;show#[_,_,W,.inr #[_,kk,_,.inr #[_,gh _ _ h1],W,gh _ _ C,W],?_];rcases nr h2 h3 with⟨q1,q2⟩|⟨z,w,q1,q2,q3⟩
   .exact .inl #[q1,q2]
   .exact .inr #[w,z,q1,q2,q3]
 .cases h
def aU(d k:D):au D:=(jP d k).bind id
def Ec(hu:X.A.units+66<ck)(ho:DE O X o fo)(hi:DE O X i fi')(hs:zG i:=by intro _ _;rfl):DE O X (.Subscript o i pos) (b2 aU fo fi'):=⟨(Kz .(c) ho.1 hi.1 hs).imp λL H Q=>by
 rintro⟨Z8,Z9,G,Y,d,A,h,k⟩;let⟨x,hx,h⟩:=ZE h;let⟨y,hy,h⟩:=ZE h;show#[Z8,Z9,G,Y,x,A,hx,λv G1 H1 s1 r1=>#[Z8,Z9,G1,Y,y,A.step s1,hy,λu G2 H2 s2 r2=>?_]];let⟨r,hr,h⟩:=ZE h;let⟨a,ov,rfl,hg,hc⟩:=su s2.gh (r1.mono s2.gg) r2 hr;rcases hc with⟨rfl,_⟩|⟨w,z,rfl,rfl,Ò⟩
 .cases h
 .cases h;show#[a,w,W,hg,k w G2 H2 (s1.trans s2) Ò]⟩
def xZ(d k:D):au D:=(jP d k).map λr=>r.getD .non
def BH(hu:X.A.units+66<ck)(ho:DE O X o fo)(he:DE O X e f)(m:M1 X o "get" Zj e Zg:=by show#[W,W,W,W]):DE O X (.Call (.Attribute o "get" Zj) [e] [] Zg) (b2 xZ fo f):=⟨(Qy .(c) ho.1 he.1 m).imp λL H Q=>by
 rintro⟨Z8,Z9,G,Y,d,A,h,k⟩;let⟨x,hx,h⟩:=ZE h;let⟨y,hy,h⟩:=ZE h;let⟨r,hr,rfl⟩:=Za h;show#[Z8,Z9,G,Y,x,A,hx,λv G1 H1 s1 r1=>?_];let⟨a0,e0,d0⟩:=F8 s1.gh r1 hr;show#[a0,e0,d0,Z8,Z9,G1,Y,y,A.step s1,hy,λu G2 H2 s2 r2=>?_];let⟨a,ov,e1,hg,hc⟩:=su s2.gh (r1.mono s2.gg) r2 hr;subst e0;cases e1;rcases hc with⟨rfl,rfl⟩|⟨w,z,rfl,rfl,Ò⟩
 .exact#[B,hg,k _ G2 H2 (s1.trans s2) .non]
 .exact#[U w,hg,k w G2 H2 (s1.trans s2) Ò]⟩
def wo(d k x:D):au D:=(jP d k).map λr=>r.getD x
noncomputable def b3(g:D->D->D->au D)(fa fb fc:FE):FE:=λY=>(fa Y).bind λx=>(fb Y).bind λy=>(fc Y).bind λz=>g x y z
def CB(hu:X.A.units+66<ck)(ho:DE O X o fo)(he:DE O X e f)(hf:DE O X c fc)(m:M2 X o "get" Zj e c Zg:=by show#[W,W,W,W]):DE O X (.Call (.Attribute o "get" Zj) [e,c] [] Zg) (b3 wo fo f fc):=⟨(Qe .(c) ho.1 he.1 hf.1 m).imp λL H Q=>by
 rintro⟨Z8,Z9,G,Y,d,A,h,k⟩;let⟨x,hx,h⟩:=ZE h;let⟨y,hy,h⟩:=ZE h;let⟨z,hz,h⟩:=ZE h;let⟨r,hr,rfl⟩:=Za h;show#[Z8,Z9,G,Y,x,A,hx,λv G1 H1 s1 r1=>?_];let⟨a0,e0,d0⟩:=F8 s1.gh r1 hr;show#[a0,e0,d0,Z8,Z9,G1,Y,y,A.step s1,hy,λu G2 H2 s2 r2=>#[Z8,Z9,G2,Y,z,(A.step s1).step s2,hz,λw3 G3 H3 s3 r3=>?_]];let⟨a,ov,e1,hg,hc⟩:=su s3.gh (r1.mono (s2.gg.trans s3.gg)) (r2.mono s3.gg) hr;subst e0;cases e1;rcases hc with⟨rfl,rfl⟩|⟨w,z,rfl,rfl,Ò⟩
 .exact#[B,hg,k _ G3 H3 ((s1.trans s2).trans s3) r3]
 .exact#[U w,hg,k w G3 H3 ((s1.trans s2).trans s3) Ò]⟩
def o3(k d:D):au D:=(jP d k).map λr=>.bl r.isSome
def mL(k d:D):au D:=(jP d k).map λr=>.bl (!r.isSome)
def Dm(O:Cn)(K:aT)(neg:aJ):R2:=λy x H Q=>∃G k d r,aY G H/\ZD O K G y k/\ZD O K G x d/\jP d k=U r/\Q (.bl (if neg then !r.isSome else r.isSome)) H
def S2(hu:X.A.units+66<ck):Å X (dM .In) (Dm O X.K ar):=by
 intro Z' s L H x y v u Q I rx ry h;let⟨G,kd,d,r,gh,r1,r2,hr,q⟩:=h;let⟨a,ov,rfl,hg,hc⟩:=su gh r2 r1 hr;cases ry;let e:ov.isSome=r.isSome:=by rcases hc with⟨rfl,rfl⟩|⟨w,z,rfl,rfl,_⟩<;>rfl
 show MD .(c) I hg rx λs3 I3=>#[.bl _,H,I3,W,by rw[e];show q]
def PJ(hu:X.A.units+66<ck):Å X (dM .NotIn) (Dm O X.K ah):=by
 intro Z' s L H x y v u Q I rx ry h;let⟨G,kd,d,r,gh,r1,r2,hr,q⟩:=h;let⟨a,ov,rfl,hg,hc⟩:=su gh r2 r1 hr;cases ry;let e:ov.isSome=r.isSome:=by rcases hc with⟨rfl,rfl⟩|⟨w,z,rfl,rfl,_⟩<;>rfl
 show JC .(c) I hg rx λs3 I3=>#[.bl _,H,I3,W,by rw[e];show q]
def Dd(hu:X.A.units+66<ck):Zx O X .In o3:=#[_,S2 hu,λ{G H v u x y z}gh r1 r2 h Q k=>by let⟨r,hr,rfl⟩:=Za h;show#[G,x,y,r,gh,r1,r2,hr,k _ G H (.refl gh) (.bl _)]]
def xx(hu:X.A.units+66<ck):Zx O X .NotIn mL:=#[_,PJ hu,λ{G H v u x y z}gh r1 r2 h Q k=>by let⟨r,hr,rfl⟩:=Za h;show#[G,x,y,r,gh,r1,r2,hr,k _ G H (.refl gh) (.bl _)]]
noncomputable def sNo:FS:=λ_=>B
def K7{st:Stmt}:DS O X st sNo:=⟨λZ' s L H us I q=>by let⟨Z8,Z9,G,Y,fl,Y',A,h,k⟩:=q;cases h⟩
end
structure CF(O:Cn)(K:aT)(c:ai)(Zn:Z ai):Prop where
 ex:∃hb,O.cls c=U hb/\Μ K hb/\∀f∈Zn,lQ K hb f
variable{Zn:Z ai}{ap:dn}{ke:Expr}
section
variable{a c o i:Expr}{fv:FE}{cl fl n:ai}
def kz{K:aT}{G:Hp}{k:ai}:∀{E:Z (ai×V)}{fs:Z (ai×D)},E.map (·.1)=fs.map (·.1)->YN O K G (E.map (·.2)) (fs.map (·.2))->
  (fs.lookup k=B/\E.lookup k=B)\/∃d v,fs.lookup k=U d/\E.lookup k=U v/\ZD O K G v d
 |[],[],_,_=>.inl #[W,W]
 |[],_::_,e,_=>by cases e
 |_::_,[],e,_=>by cases e
 |(k1,v)::E,(k2,d)::fs,e,r=>by
  let e1:k1=k2:=(dN e).1;let e2:E.map (·.1)=fs.map (·.1):=(dN e).2;subst e1;cases r with
  |cons r1 r2=>
   by_cases h:k=k1
   .subst h;show .inr #[d,v,by simp[c9],by simp[c9],r1]
   .let C:(k==k1)=ar:=by simpa using h
    let:=kz (k:=k) e2 r2;simpa[c9,C] using this
def rj{f:ai}:∀{fs:Z (ai×V)},fs.lookup f=B->fD f v fs=fs++[(f,v)]:=by
 intro Y7
 induction Y7 with
 |nil=>
  intro _;show W
 |cons x0 r ih=>
  let⟨g,x⟩:=x0;intro h;by_cases e:f=g
  .subst e;simp[c9] at h
  .let C:(f==g)=ar:=by simpa using e
   rw[fD,qZ (λz=>e z.symm),ih (by simpa[c9,C] using h)];rfl
noncomputable def Df(c f:ai):D->au D
 |.ins c' fs=>if c'=c then fs.lookup f else B
 |_=>B
def bG(c f:ai)(fo:FE):FE:=λY=>(fo Y).bind (Df c f)
def QO(hc:CF O X.K cl Zn)(hf:fl∈Zn)(ho:DE O X o fo)(C:jt o fl X.env (eval o X.env)=eval o X.env:=by rfl):DE O X (.Attribute o fl pos) (bG cl fl fo):=⟨(ux ho.1 C).imp λL H Q=>by
 rintro⟨Z8,Z9,G,Y,d,A,h,k⟩;let⟨x,hx,hq⟩:=ZE h;clear h;show#[Z8,Z9,G,Y,x,A,hx,λv G1 H1 s1 r1=>?_];unfold Df at hq;split at hq
 .split at hq
  .rename_i ec;subst ec;let⟨hb,q1,q2,q3⟩:=hc.ex;cases r1 with
   |ins h1 h2 h3 h4=>
    rw[q1] at h2;cases h2;rcases kz h3 h4 with⟨z1,_⟩|⟨d',v',z1,z2,z3⟩
    .rw[z1] at hq;cases hq
    .rw[z1] at hq;cases hq;show#[_,hb,_,_,v',W,s1.gh _ _ h1,q2,q3 fl hf,z2,k v' G1 H1 s1 z3]
  .cases hq
 .cases hq⟩
noncomputable def C6(f:ai):Slot->au D
 |.obj _ fs=>fs.lookup f
 |.objd _ fs n _=>if f=n then B else fs.lookup f
 |_=>B
noncomputable def Ti:Slot->au ai
 |.obj c _=>U c
 |.objd c _ _ _=>U c
 |_=>B
def jG(c f:ai)(i:ag):FE:=λY=>match Y[i]? with
 |some (U s)=>if Ti s=U c then C6 f s else B
 |_=>B
def N7{vs:Z (ai×V)}{f:ai}{w:V}(h:vs.lookup f=U v):(vs++[(n,w)]).lookup f=U v:=by
 induction vs with
 |nil=>cases h
 |cons p r ih=>
  let⟨g,x⟩:=p;by_cases e:f=g
  .subst e;simpa[c9] using h
  .let C:(f==g)=ar:=by simpa using e
   simp only[qr,c9,C] at h ⊢;show ih h
def uV(i:ag)(hc:CF O X.K cl Zn)(hf:fl∈Zn)(hN:X.N[i]?=U x:=by rfl)(hv:ŋ X.env.scope x:=by ac_nf)(hd:.(r)=ar:=by decide)
  (À:(x==("__classdict__":ai))=ar:=by decide)(C:jt (.Name x vp) fl X.env (eval (.Name x vp) X.env)=eval (.Name x vp) X.env:=by rfl):DE O X (.Attribute (.Name x vp) fl pos) (jG cl fl i):=⟨(ux (fM hN hv hd À) C).imp λL H Q=>by
 rintro⟨Z8,Z9,G,Y,d,A,h,k⟩;unfold jG at h;split at h
 .rename_i s hi;split at h
  .rename_i hcl;let⟨hb,q1,q2,q3⟩:=hc.ex;let⟨v,fp,h1,h2⟩:=A.get hi;cases h2 with
   |sh _=>cases h
   |own _ _ _ _=>cases h
   |odk _ _ _ _ _=>cases h
   |odt _ _ _ _ _=>cases h
   |fo _ _ _ _ _ _ _=>cases h
   |obj g1 g2 g3 g4 g5 g6 g7=>
    cases hcl;rw[q1] at g1;cases g1;let h:c9 fl _=U d:=h;rcases kz g5 g6 with⟨z1,_⟩|⟨d',v',z1,z2,z3⟩
    .rw[z1] at h;cases h
    .rw[z1] at h;cases h;show#[_,h1,_,hb,_,_,v',W,g4,q2,q3 fl hf,z2,k v' G H (.refl A.gh) z3]
   |objd g1 g2 g3 g4 g5 g6 _ _ _ _ _ g7=>
    cases hcl;rw[q1] at g1;cases g1;unfold C6 at h;simp only at h;split at h
    .cases h
    .rcases kz g5 g6 with⟨z1,_⟩|⟨d',v',z1,z2,z3⟩
     .rw[z1] at h;cases h
     .rw[z1] at h;cases h;show#[_,h1,_,hb,_,_,v',W,g4,q2,q3 fl hf,N7 z2,k v' G H (.refl A.gh) z3]
  .cases h
 .cases h⟩
noncomputable def ig(c f:ai)(i:ag)(fv:FE):FS:=λY=>(fv Y).bind λd=>match Y[i]? with
 |some (U (.obj c' fs))=>if c'=c/\fs.lookup f=B/\fs.length<100 then U (.nx,Y.set i (U (.obj c (fs++[(f,d)])))) else B
 |_=>B
def jQ(i:ag)(hc:CF O X.K cl Zn)(hf:fl∈Zn)(ú:DE O X Zh fv)(hN:X.N[i]?=U x:=by rfl)(hv:ŋ X.env.scope x:=by ac_nf)(hd:.(r)=ar:=by decide)
  (À:(x==("__classdict__":ai))=ar:=by decide)(hs:dq Zh (U (.Attribute (.Name x vp) fl Zk)) pos.line X.env=bd ar:=by rfl):DS O X (.Assign [.Attribute (.Name x vp) fl Zk] Zh pos) (ig cl fl i fv):=⟨(sg (fM hN hv hd À) ú.1 hs).imp λus L H=>by
 rintro⟨Z8,Z9,G,Y,flw,Y',A,h,k⟩;let⟨d,hd,h⟩:=ZE h;split at h
 .rename_i c' fs hi;split at h
  .rename_i hz;let⟨rfl,Ġ,hz3⟩:=hz;cases h;let⟨hb,q1,q2,q3⟩:=hc.ex;show#[Z8,Z9,G,Y,d,A,hd,λv G1 H1 s1 r1=>?_];let A1:=A.step s1;let⟨w,fp,h1,h2⟩:=A1.get hi;cases h2 with
   |obj g1 g2 g3 g4 g5 g6 g7=>
    rename_i a C' dx vs;let ÿ:=g1;rw[q1] at g1;cases g1;let hl:vs.lookup fl=B:=by
     rcases kz g5 g6 with⟨_,z2⟩|⟨d',v',z1,_,_⟩
     .exact z2
     .rw[z1] at Ġ;cases Ġ
    let Y5:vs.length=fs.length:=by simpa using bP cM g5
    show#[_,h1,a,hb,dx,vs,W,g4,q2,q3 fl hf,by ext,?_];rw[rj hl];show k L G1 _ s1.gg (A1.ch hi h1 (.obj ÿ g2 g3 g4 g5 g6 g7) (λb o e C=>?_) (.obj ÿ g2 g3 bf (by simp[g5]) (by simpa using g6.append (.cons r1 .nil)) g7) (λb C=>.inl C) (.refl _) (λb o e=>?_) (λ_ _ _ _ _=>rfl))
    .rw[aE (λz=>C (bM.mpr z))];show e
    .rw[aE (bJ e g3)];show A1.gh b o e
  .cases h
 .cases h⟩
noncomputable def oo(c f:ai)(i:ag):FS:=λY=>match Y[i]? with
 |some (U (.obj c' fs))=>if c'=c/\fs.lookup f=B/\fs.length<100 then U (.nx,Y.set i (U (.objd c fs f []))) else B
 |_=>B
def Of(i:ag)(hc:CF O X.K cl Zn)(hf:fl∈Zn){dp:dn}(hN:X.N[i]?=U x:=by rfl)(hv:ŋ X.env.scope x:=by ac_nf)(hd:.(r)=ar:=by decide)
  (À:(x==("__classdict__":ai))=ar:=by decide)(hs:dq (.Dict [] [] dp) (U (.Attribute (.Name x vp) fl Zk)) pos.line X.env=bd ar:=by rfl):DS O X (.Assign [.Attribute (.Name x vp) fl Zk] (.Dict [] [] dp) pos) (oo cl fl i):=⟨(sg (fM hN hv hd À) zL hs).imp λus L H=>by
 rintro⟨Z8,Z9,G,Y,flw,Y',A,h,k⟩ p hp;unfold oo at h;split at h
 .rename_i c' fs hi;split at h
  .rename_i hz;let⟨rfl,Ġ,hz3⟩:=hz;cases h;let⟨hb,q1,q2,q3⟩:=hc.ex;let⟨w,fp,h1,h2⟩:=A.get hi;cases h2 with
   |obj g1 g2 g3 g4 g5 g6 g7=>
    rename_i a C' dx vs;let ÿ:=g1;rw[q1] at g1;cases g1;let hl:vs.lookup fl=B:=by
     rcases kz g5 g6 with⟨_,z2⟩|⟨d',v',z1,_,_⟩
     .exact z2
     .rw[z1] at Ġ;cases Ġ
    let Y5:vs.length=fs.length:=by simpa using bP cM g5
    let Ĭ:a≠p:=bJ g4 hp;show#[_,h1,a,hb,dx,vs,W,by rw[aE Ĭ];show g4,q2,q3 fl hf,by ext,?_];rw[rj hl];let hp0:Z9 p=B:=A.st.hh.free hp;let hpg:G p=B:=A.gh.free hp;show k L G _ (.refl _) (A.ch hi h1 (.obj ÿ g2 g3 g4 g5 g6 g7) (λb o e C=>?_) (.objd ÿ g2 g3 bf g5 g6 hp0 hpg (by rw[aE Ĭ.symm,bf]) W .nil g7) (λb C=>?_) (.refl _) (λb o e=>?_) (λ_ _ _ _ _=>rfl))
    .rw[aE (λz=>C (bM.mpr z)),aE (bJ e hp)];show e
    .rcases cm.mp C with rfl|C
     .exact .inl (bM.mpr W)
     .rw[bM.mp C];show .inr hp
    .rw[aE (bJ e g3),aE (bJ e hpg)];show A.gh b o e
  .cases h
 .cases h⟩
def mW(c f:ai)(i:ag)(fk fv:FE):FS:=λY=>(fv Y).bind λd=>(fk Y).bind λkd=>(gK kd).bind λk=>match Y[i]? with
 |some (U (.objd c' fs n YL))=>if c'=c/\n=f/\fs.lookup f=B/\YL.length<100000 then U (.nx,Y.set i (U (.objd c fs n (bW YL k d)))) else B
 |_=>B
def Jl{vs:Z (ai×V)}{f:ai}{w:V}(h:vs.lookup f=B):(vs++[(f,w)]).lookup f=U w:=by
 induction vs with
 |nil=>simp[c9]
 |cons p r ih=>
  let⟨g,x⟩:=p;by_cases e:f=g
  .subst e;simp[c9] at h
  .let C:(f==g)=ar:=by simpa using e
   simp only[qr,c9,C] at h ⊢;show ih h
def Nf(i:ag)(hu:X.A.units+66<ck)(hc:CF O X.K cl Zn)(hf:fl∈Zn)(hk:DE O X ke fk)(ú:DE O X Zh fv)(hN:X.N[i]?=U x:=by rfl)(hv:ŋ X.env.scope x:=by ac_nf)(hd:.(r)=ar:=by decide)
  (À:(x==("__classdict__":ai))=ar:=by decide)(C:jt (.Name x vp) fl X.env (eval (.Name x vp) X.env)=eval (.Name x vp) X.env:=by rfl)(hs:dq Zh (U (.Subscript (.Attribute (.Name x vp) fl ap) ke Zk)) pos.line X.env=bd ar:=by rfl):
  DS O X (.Assign [.Subscript (.Attribute (.Name x vp) fl ap) ke Zk] Zh pos) (mW cl fl i fk fv):=⟨(yT .(c) (ux (fM hN hv hd À) C) hk.1 ú.1 hs).imp λus L H=>by
 rintro⟨Z8,Z9,G,Y,flw,Y',A,h,k⟩;let⟨d,hd,ha⟩:=ZE h;clear h;let⟨kd,ġ,š⟩:=ZE ha;clear ha;let⟨kk,Β,hq⟩:=ZE š;clear š;split at hq
 .rename_i c' fs n YL hi;split at hq
  .rename_i hz;let⟨rfl,rfl,Ġ,hz3⟩:=hz;cases hq;let⟨hb,q1,q2,q3⟩:=hc.ex;show#[Z8,Z9,G,Y,d,A,hd,λv G1 H1 s1 r1=>?_];let A1:=A.step s1;let⟨w,fp,h1,h2⟩:=A1.get hi;cases h2 with
   |objd g1 g2 g3 g4 g5 g6 y1 y2 y3 y4 y5 g7=>
    rename_i a C' dx p vs E;let ÿ:=g1;rw[q1] at g1;cases g1;let hl:vs.lookup n=B:=by
     rcases kz g5 g6 with⟨_,z2⟩|⟨d',v',z1,_,_⟩
     .exact z2
     .rw[z1] at Ġ;cases Ġ
    show#[_,h1,a,hb,dx,_,.ref p,W,g4,q2,q3 n hf,Jl hl,Z8,Z9,G1,Y,kd,A1,ġ,λu G2 H2 s2 r2=>?_];let A2:=A1.step s2;let eu:=lz r2 Β;subst eu;let Ń:H2 p=U (.dK E):=s2.hh _ _ y3;let ĩ:H2 a=U (.ins hb dx (vs++[(n,.ref p)])):=s2.hh _ _ g4;let ga2:G2 a=B:=(s2.out _ _ g4 W).trans g3;let gp2:G2 p=B:=(s2.out _ _ y3 W).trans y2;let Ĭ:a≠p:=xG ĩ Ń (by intro z;cases z);let Y5:E.length=YL.length:=by simpa using bP cM y4
    let⟨w1,w2⟩:=o5 (r1.mono s2.gg) y4 (y5.mono s2.gg);show#[p,_,W,ji.k Ń (by let:=eW;ext),?_];show k L G2 _ (s1.gg.trans s2.gg) (A2.ch hi h1 (.objd ÿ g2 ga2 ĩ g5 (g6.mono s2.gg) y1 gp2 Ń y4 (y5.mono s2.gg) g7) (λb o e C=>?_) (.objd ÿ g2 ga2 (by rw[aE Ĭ];show ĩ) g5 (g6.mono s2.gg) y1 gp2 bf w1 w2 g7) (λb C=>.inl C) (.refl _) (λb o e=>?_) (λ_ _ _ _ _=>rfl))
    .rw[aE (λz=>C (by rw[z];show qi _ qh))];show e
    .rw[aE (bJ e gp2)];show A2.gh b o e
  .cases hq
 .cases hq⟩
noncomputable def Co:Slot->au D
 |.obj c fs=>U (.ins c fs)
 |.objd c fs n YL=>U (.ins c (fs++[(n,.dk YL)]))
 |_=>B
def At.done(A:At O K Z8 Z9 G H Y L){i:ag}{s:Slot}(hi:Y[i]?=U (U s))(hd:Co s=U d):∃a G',O.self=U a/\Step Z8 Z9 G' H/\ZD O K G' (.ref a) d:=by
 let⟨v,fp,h1,h2⟩:=A.get hi;cases h2 with
 |sh _=>cases hd
 |own _ _ _ _=>cases hd
 |odk _ _ _ _ _=>cases hd
 |odt _ _ _ _ _=>cases hd
 |fo _ _ _ _ _ _ _=>cases hd
 |obj g1 g2 g3 g4 g5 g6 g7=>
  cases hd;rename_i a hb dx vs fs;let sm:aY G (YZ G a (.ins hb dx vs)):=λb o e=>by rw[aE (bJ e g3)];show e
  show#[a,YZ G a (.ins hb dx vs),g7,#[A.st.hh,A.st.gg.trans sm,λb o e=>?_,λb o e ek=>?_],.ins bf g1 g5 (g6.mono sm)]
  .by_cases C:b=a
   .subst C;rw[bf] at e;cases e;show g4
   .rw[aE C] at e;show A.gh b o e
  .rw[aE (bJ e g2)];show A.st.out b o e ek
 |objd g1 g2 g3 g4 g5 g6 y1 y2 y3 y4 y5 g7=>
  cases hd;rename_i n a hb dx p vs fs E YL;let Ĭ:a≠p:=xG g4 y3 (by intro z;cases z);let sm:aY G (YZ (YZ G p (.dK E)) a (.ins hb dx (vs++[(n,.ref p)]))):=λb o e=>by rw[aE (bJ e g3),aE (bJ e y2)];show e
  show#[a,_,g7,#[A.st.hh,A.st.gg.trans sm,λb o e=>?_,λb o e ek=>?_],.ins bf g1 (by simp[g5]) ?_]
  .by_cases C:b=a
   .subst C;rw[bf] at e;cases e;show g4
   .rw[aE C] at e;by_cases į:b=p
    .subst į;rw[bf] at e;cases e;show y3
    .rw[aE į] at e;show A.gh b o e
  .rw[aE (bJ e g2),aE (bJ e y1)];show A.st.out b o e ek
  .let r2:ZD O K (YZ (YZ G p (.dK E)) a (.ins hb dx (vs++[(n,.ref p)]))) (.ref p) (.dk YL):=.dk (by rw[aE Ĭ.symm,bf]) y4 (y5.mono sm);simpa using(g6.mono sm).append (.cons r2 .nil)
end
noncomputable def Cn.mk1(O:Cn)(x:av):Cn:=#[O.cls,U x]
variable{c:ai}
section
variable{x:av}
def ZD.to1(x:av)(r:ZD O K G v d):ZD (O.mk1 x) K G v d:=ZD.re (O:=O) (Z3:=O.mk1 x) W r
def YN.to1{v:Z V}{d:Z D}(x:av)(r:YN O K G v d):YN (O.mk1 x) K G v d:=YN.re (O:=O) (Z3:=O.mk1 x) W r
def ZD.of1(r:ZD (O.mk1 x) K G v d):ZD O K G v d:=ZD.re (O:=O.mk1 x) (Z3:=O) W r
def YN.of1{v:Z V}{d:Z D}(r:YN (O.mk1 x) K G v d):YN O K G v d:=YN.re (O:=O.mk1 x) (Z3:=O) W r
def CF.re(h:CF O K c Zn)(x:av):CF (O.mk1 x) K c Zn:=⟨h.ex⟩
def Dr{F:Z D->au D}{Q:VK}{us:XK}(x:av)(h:spF (O.mk1 x) K n F vs H Q us):spF O K n F vs H Q us:=by let⟨G,ds,d,h1,h2,h3,h4,k⟩:=h;show#[G,ds,d,h1,h2.of1,h3,h4,λv G' H' s r=>k v G' H' s (r.to1 x)]
def η.re{y:ai}{k:ag}{F:Z D->au D}(hb:η O P w K mg base y n k F)(x:av):η (O.mk1 x) P w K mg base y n k F:=by let⟨f,fd,ps,h1,h2,h3,h4⟩:=hb.ex;show#[f,fd,ps,h1.imp λvs H Q us q=>Dr x q,h2,h3,h4]
structure Í(O:Cn)(P:dD)(w:cD)(K:aT)(mg:ai->au aw)(base:Heap)(c m:ai)(n k:ag)(F:Z D->au D):Prop where
 ex:∃hb f fd ps,O.cls c=U hb/\Μ K hb/\Meth K hb m f/\Zt P w K mg base ø k f fd ps (spF O K n F)/\ff K fd ps []
def Í.re{k:ag}{F:Z D->au D}(hb:Í O P w K mg base c m n k F)(x:av):Í (O.mk1 x) P w K mg base c m n k F:=by let⟨hb,f,fd,ps,h0,h1,h2,h3,h4⟩:=hb.ex;show#[hb,f,fd,ps,h0,h1,h2,h3.imp λvs H Q us q=>Dr x q,h4]
inductive spI(O:Cn)(K:aT)(hb:av)(n:ag)(F:Z D->au D)(vs:Z V)(H:Hp)(Q:VK)(_e3:XK):Prop where
 |mk:∀x dx H1 G ds d E,vs=.ref x::E->H=YZ (YZ H1 dx (.own x)) x (.ins hb dx [])->H1 x=B->H1 dx=B->dx≠x->aY G H1->YN O K G E ds->ds.length=n->F ds=U d->(∀G' H',Step G H1 G' H'->ZD O K G' (.ref x) d->Q .non H')->spI O K hb n F vs H Q _e3
structure CalI(O:Cn)(P:dD)(w:cD)(K:aT)(mg:ai->au aw)(base:Heap)(c:ai)(n k:ag)(F:Z D->au D):Prop where
 ex:∃hb f fd ps,O.cls c=U hb/\Mk K hb f/\mg c=U (.ref hb)/\Zt P w K mg base ø k f fd ps (spI O K hb n F)/\ff K fd ps []
end
section
variable{o:Expr}
noncomputable def bp(c m:ai)(F:Z D->au D)(fo:FE)(fr:FA):FE:=λY=>(fo Y).bind λd=>match d with
 |.ins c' fs=>if c'=c/\fs.lookup m=B then (fr Y).bind λds=>F (d::ds) else B
 |_=>B
def VQ{k:ag}{F:Z D->au D}(hb:Í O X.prog X.w X.K X.mg X.base c m (n+1) k F)(hr:ZH j X.A)(hk:k<=j)(ho:DE O X o fo)(ha:DA O X (e::es) fr)(hn:∀Y ds,fr Y=U ds->ds.length=n)
  (ý:aP (e::es) X.env=(ar,eval e X.env)::aP es X.env:=by rfl)(Zo:(ci pos (aP es X.env)).any (·.1)=ar:=by rfl)
  (ht:eval (.Call (.Attribute o m Zj) (e::es) [] pos) X.env=(do
   let ov ←eval o X.env
   pj Zj.atName
   let (f,first) ←lZ [ov] (pw ov m pl)
   wz pos f first (ci pos (aP (e::es) X.env)) (jX pos (jY [] X.env))):=by rfl):
  DE O X (.Call (.Attribute o m Zj) (e::es) [] pos) (bp c m F fo fr):=⟨by
 let⟨Ca,f,fd,ps,h0,h1,h2,h3,h4⟩:=hb.ex;show(Fk ho.1 h1 h2 h3 (hr.mono hk) h4 .nil ko ha.1 ý Zo ht).imp λL H Q=>?_;rintro⟨Z8,Z9,G,Y,d,A,h,k⟩;let⟨x,hx,hq⟩:=ZE h;clear h;show#[Z8,Z9,G,Y,x,A,hx,λv G1 H1 s1 r1=>?_];split at hq
 .rename_i c' fs;split at hq
  .rename_i hz;let⟨rfl,Ġ⟩:=hz;let⟨ds,ā,hF⟩:=ZE hq;let r1':=r1;cases r1 with
   |ins g1 g2 g3 g4=>
    rw[h0] at g2;cases g2;rename_i _ _ us0;let hl:c9 m us0=B:=by
     rcases kz g3 g4 with⟨_,z2⟩|⟨d',v',z1,_,_⟩
     .exact z2
     .rw[z1] at Ġ;cases Ġ
    show#[_,_,_,W,s1.gh _ _ g1,hl,Z8,Z9,G1,Y,ds,A.step s1,ā,λvs G2 H2 s2 r2=>?_];rw[iS];show#[G2,_,d,s2.gh,.cons (r1'.mono s2.gg) r2,by rw[qj,hn Y ds ā],hF,λv G' H' s r=>k v G' H' ((s1.trans s2).trans s) r]
  .cases hq
 .cases hq⟩
def MB{k:ag}{F:Z D->au D}(hb:Í O X.prog X.w X.K X.mg X.base c m 1 k F)(hr:ZH j X.A)(hk:k<=j)(ho:DE O X o fo)
  (ht:eval (.Call (.Attribute o m Zj) [] [] pos) X.env=(do
   let ov ←eval o X.env
   pj Zj.atName
   let (f,first) ←lZ [ov] (pw ov m pl)
   wz pos f first (ci pos (aP [] X.env)) (jX pos (jY [] X.env))):=by rfl):
  DE O X (.Call (.Attribute o m Zj) [] [] pos) (bp c m F fo aq):=⟨by
 let⟨Ca,f,fd,ps,h0,h1,h2,h3,h4⟩:=hb.ex;show(Pj ho.1 h1 h2 h3 (hr.mono hk) h4 .nil ko ht).imp λL H Q=>?_;rintro⟨Z8,Z9,G,Y,d,A,h,k⟩;let⟨x,hx,hq⟩:=ZE h;clear h;show#[Z8,Z9,G,Y,x,A,hx,λv G1 H1 s1 r1=>?_];split at hq
 .rename_i c' fs;split at hq
  .rename_i hz;let⟨rfl,Ġ⟩:=hz;let⟨ds,ā,hF⟩:=ZE hq;cases ā;let r1':=r1;cases r1 with
   |ins g1 g2 g3 g4=>
    rw[h0] at g2;cases g2;rename_i _ _ us0;let hl:c9 m us0=B:=by
     rcases kz g3 g4 with⟨_,z2⟩|⟨d',v',z1,_,_⟩
     .exact z2
     .rw[z1] at Ġ;cases Ġ
    show#[_,_,_,W,s1.gh _ _ g1,hl,?_];show#[G1,_,d,s1.gh,.cons r1' .nil,W,hF,λv G' H' s r=>k v G' H' (s1.trans s) r]
  .cases hq
 .cases hq⟩
def T2{k:ag}{F:Z D->au D}(hb:CalI O X.prog X.w X.K X.mg X.base c n k F)(hr:ZH j X.A)(hk:k+1<=j)(hg:Gl X c)(ha:DA O X (e::es) fr)(hn:∀Y ds,fr Y=U ds->ds.length=n)
  (õ:(c==("__debug__":ai))=ar:=by decide)(he:aP (e::es) X.env=(ar,eval e X.env)::aP es X.env:=by rfl)(Zo:(ci pos (aP es X.env)).any (·.1)=ar:=by rfl):
  DE O X (.Call (.Name c p) (e::es) [] pos) (cF F fr):=⟨by
 let⟨Ca,f,fd,ps,h0,h1,h2,h3,h4⟩:=hb.ex;show(yN h1 h3 (hr.mono hk) hg h2 h4 .nil ko ha.1 õ he Zo).imp λL H Q=>?_;rintro⟨Z8,Z9,G,Y,d,A,h,k⟩;let⟨ds,hd,hq⟩:=ZE h;show#[Z8,Z9,G,Y,ds,A,hd,λvs G1 H1 s1 r1 x dx hx hdx Ô=>?_];rw[iS];show#[x,dx,H1,G1,ds,d,vs,W,W,hx,hdx,Ô,s1.gh,r1,hn Y ds hd,hq,λG' H' s r=>#[W,k _ G' H' (s1.trans s) r]]⟩
end
def vc(n:ag)(c:ai)(g:FS):Z D->au D:=λds=>(g (U (.obj c [])::ds.map (λd=>U (Slot.sh d))++bU n B)).bind λr=>match r.1 with
 |.nx=>match r.2[0]? with
  |some (U s)=>Co s
  |_=>B
 |_=>B
variable{s0:ai}
def Ş.okI{st:Stmt}{f:av}{k:ag}(F:Ş K x qual st f fd)(S:ZC N (s0::ps) (aD st))(hC:O.cls c=U hb)
  (Y6:∀(y:av)(Y0:aw)(A:cH)(outer:Z cA)(s:aH)(H:Hp)(us:XK),ZH k .(j)->
   Ø (O.mk1 y) .(i).nox (bZ st) g):Zt P w K mg base ø (k+1) f fd (s0::ps) (spI O K hb ps.length (vc (N.length-(ps.length+1)) c g)):=by
 show F.ok S (λvs H Q us h=>?_) (λY0 A outer s H vs Q us hr h=>?_)
 .obtain⟨y,dx,H1,G,ds,d,E,rfl,_,_,_,_,_,r,hl,_⟩:=h;rw[qj,r.length,hl,qj]
 .obtain⟨y,dx,H1,G,ds,d,E,rfl,rfl,hx,hdx,Ô,gh,r,hl,hd,k⟩:=h;show#[_,(Y6 y Y0 A outer s _ us hr).1,?_];let⟨⟨fl,Y'⟩,hg,hd⟩:=ZE hd;let s1:=Step.newOwn (o:=.own y) gh hdx;let hx1:(YZ H1 dx (.own y)) y=B:=by rw[aE (dj Ô)];show hx
  let s2:=s1.trans (Step.newOwn (o:=.ins hb dx []) s1.gh hx1);let Y5:E.length=ds.length:=r.length;let A0:At (O.mk1 y) K G H1 G (YZ (YZ H1 dx (.own y)) y (.ins hb dx [])) (U (.obj c [])::ds.map (λd=>U (Slot.sh d))++bU (N.length-(ps.length+1)) B) (dX N (.ref y::E)):=by
   show#[s2,by simp[dX,Y5,hl],λi=>if i=0 then [y] else [],λi t e=>?_,λi j t u hij e1 e2 b C=>?_]
   .cases i with
    |zero=>
     cases e;show#[.ref y,W,.obj hC hx (gh.free hx) bf W .nil W]
    |succ i=>
     let e:(ds.map (λd=>U (Slot.sh d))++bU (N.length-(ps.length+1)) B)[i]?=U (U t):=e;by_cases hi:i<ds.length
     .rw[qA (by simpa using hi),qm] at e;let⟨d',þ,e⟩:=Za e;cases e;let⟨v,hv,rv⟩:=r.get þ;show#[v,?_,.sh (rv.to1 y)];show((E.map U)++_)[i]?=U (U v);rw[qA (by rw[qg,Y5];show hi),qm,hv];rfl
     .rw[qM (by simpa using hi),wA] at e;split at e<;>cases e
   .let C:b∈(if i=0 then [y] else []):=C;show b∉(if j=0 then [y] else []);by_cases hi:i=0
    .subst hi;rw[qZ (dj hij)];exactλz=>by cases z
    .rw[qZ hi] at C;cases C
  show#[G,H1,G,_,fl,Y',A0,hg,λZ5 G' H' sm A'=>?_];cases fl with
  |nx=>
   simp only at hd;split at hd
   .rename_i sl hs;let⟨a,G2,e1,st2,rp⟩:=A'.done hs hd;cases e1;show k G2 H' st2 rp.of1
   .cases hd
  |rt d'=>cases hd
  |ow d'=>cases hd
  |nw d'=>cases hd
  |od d'=>cases hd
  |bk=>cases hd
  |ct=>cases hd
structure Y4(K:aT)(hb:av)(c m qual:ai)(st:Stmt):Prop where
 ex:∃f fd,Ş K m qual st f fd/\cv K (.ref hb) m=U (U (.ref f))/\pr K (.ref f)=ah
structure Zy(O:Cn)(K:aT)(mg:ai->au aw)(c:ai)(hb:av):Prop where
 cn:O.cls c=U hb
 cl:Μ K hb
 mgC:mg c=U (.ref hb)
 makes:sP K hb=ah
 kp:fS K (.ref hb)=ah
def Y4.cal{st:Stmt}{k:ag}(Γ:Zy O K mg c hb)(F:Y4 K hb c m qual st)(S:ZC N ps (aD st))
  (C:∀(kV Zp pm:aw)(an:au av)(Y0 ct:aw)(E:Z aw),E.length=ps.length->eN (cZ m qual (c7 st) (bZ st) (aD st) .none kV Zp pm an Y0 ct) #[E,[]]=bd (ps.zip E))
  (Y6:∀(f:av)(Y0:aw)(A:cH)(outer:Z cA)(s:aH)(H:Hp)(us:XK),ZH k .(j)->
   Ø O .(i).nox (bZ st) g):Í O P w K mg base c m ps.length (k+1) (aO (N.length-ps.length) g):=by
 let⟨f,fd,h1,h2,h3⟩:=F.ex;show#[hb,f,fd,ps,Γ.cn,Γ.cl,#[h2,h3,h1.kp],h1.okD S (Y6 f),h1.binds C]
def Y4.calI{st:Stmt}{k:ag}(Γ:Zy O K mg c hb)(F:Y4 K hb c "__init__" qual st)(S:ZC N (s0::ps) (aD st))
  (C:∀(kV Zp pm:aw)(an:au av)(Y0 ct:aw)(E:Z aw),E.length=(s0::ps).length->eN (cZ "__init__" qual (c7 st) (bZ st) (aD st) .none kV Zp pm an Y0 ct) #[E,[]]=bd ((s0::ps).zip E))
  (Y6:∀(f y:av)(Y0:aw)(A:cH)(outer:Z cA)(s:aH)(H:Hp)(us:XK),ZH k .(j)->
   Ø (O.mk1 y) .(i).nox (bZ st) g):CalI O P w K mg base c ps.length (k+1) (vc (N.length-(ps.length+1)) c g):=by
 let⟨f,fd,h1,h2,h3⟩:=F.ex;show#[hb,f,fd,s0::ps,Γ.cn,#[Γ.makes,h2,h3,Γ.kp],Γ.mgC,h1.okI S Γ.cn (Y6 f),h1.binds C]
def Zy.cf(Γ:Zy O K mg c hb)(h:∀f∈Zn,lQ K hb f):CF O K c Zn:=#[hb,Γ.cn,Γ.cl,h]
variable{h:aj}{n0 ep:ag}{YO:bK (au ag)}{hs:Z aj}{I S:av}{wr:Z av}{hashAt:ag->aj}{h0:Heap}{Â:bK (aj×aw)}
namespace ST
def zu(xs:bK ag)(j:ag)(hs:xs.toList.Pairwise (· < ·)):∀(Zs lo hi:ag),hi-lo<=Zs->lo<=hi->hi<=xs.size->(∀i,i<lo->∀v,xs[i]?=U v->v<j)->(∀i,hi<=i->∀v,xs[i]?=U v->j<=v)->
  (Be xs j Zs lo hi<=xs.size)/\(∀i,i<Be xs j Zs lo hi->∀v,xs[i]?=U v->v<j)/\∀i,Be xs j Zs lo hi<=i->∀v,xs[i]?=U v->j<=v
 |0,lo,hi,hf,hl,hh,h1,h2=>by
  let e:lo=hi:=by ext
  subst e;show#[hh,h1,h2]
 |Zs+1,lo,hi,hf,hl,hh,h1,h2=>by
  let mono:∀a b va vb,a<b->xs[a]?=U va->xs[b]?=U vb->va<vb:=λa b va vb Ĩ ha C=>by let:=Ib.mp hs a b;let⟨a1,a2⟩:=ge.mp ha;let⟨b1,b2⟩:=ge.mp C;let q:=this (by simpa using a1) (by simpa using b1) Ĩ;simpa[a2,b2] using q
  unfold Be;by_cases Zu:lo<hi
  .rw[qY Zu];let hget:∃v,xs[(lo+hi) / 2]?=U v:=#[xs[(lo+hi) / 2]'.(c),by simp[show(lo+hi) / 2<xs.size by ext]];let⟨v,hv⟩:=hget;let hd:xs.getD ((lo+hi) / 2) j=v:=by simp[Bf,hv]
   dsimp only;rw[hd];by_cases hvj:v<j
   .rw[qY hvj];show zu xs j hs Zs _ _ .(c) .(c) hh (λi Ħ w hw=>?_) h2;rcases kS i ((lo+hi) / 2) with hi2|hi2
    .exact sW (mono i _ w v hi2 hw hv) hvj
    .let e:i=(lo+hi) / 2:=by ext
     subst e;rw[hv] at hw;cases hw;show hvj
   .rw[qZ hvj];show zu xs j hs Zs _ _ .(c) .(c) .(c) h1 λi Ħ w hw=>?_;rcases kS ((lo+hi) / 2) i with hi2|hi2
    .exact qO .(c) (sK (mono _ i v w hi2 hv hw))
    .let e:i=(lo+hi) / 2:=by ext
     subst e;rw[hv] at hw;cases hw;ext
  .rw[qZ Zu];let e:lo=hi:=by ext
   subst e;show#[hh,h1,h2]
def oQ(xs:bK ag)(j:ag)(hs:xs.toList.Pairwise (· < ·)):bY xs j<=xs.size/\(∀i,i<bY xs j->∀v,xs[i]?=U v->v<j)/\∀i,bY xs j<=i->∀v,xs[i]?=U v->j<=v:=
 zu xs j hs xs.size 0 xs.size (qx _) (fy _) (qx _) (λi h=>bH h (Ic _)) λi h v hv=>by let:=(ge.mp hv).1;ext
def xV(xs:bK ag)(j i:ag)(hs:xs.toList.Pairwise (· < ·))(h:xs[i]?=U j):bY xs j=i:=by
 let⟨h0,h1,h2⟩:=oQ xs j hs;rcases WH (bY xs j) i with hl|hl|hl
 .let hi:=(ge.mp h).1;let hg:xs[bY xs j]?=U (xs[bY xs j]'.(c)):=by simp[show bY xs j<xs.size by ext]
  let q1:=h2 _ (qx _) _ hg;let:=Ib.mp hs (bY xs j) i (by simp;ext) (by simpa using hi) hl;let⟨_,e⟩:=ge.mp h;simp only[WI] at this;ext
 .exact hl
 .let:=h1 i hl j h;ext
structure Tb(t:iw)(es:bK (aj×aw)):Prop where
 full:vk t.mask
 sz:t.place.size=es.size
 dm:t.dummies=#[]
 ri:t.place.toList.Pairwise (· < ·)
 le:∀j∈t.place.toList,j<=t.mask
 few:es.size*5<t.mask*3
 rc:∀(i j:ag)(h:aj)(x:aw),t.place[i]?=U j->es[i]?=U (h,x)->∃n,ao t.mask h n=j/\∀m,m<n->ao t.mask h m∈t.place.toList
section
variable{t:iw}{es:bK (aj×aw)}
def Tb.live(T:Tb t es)(h:t.place[i]?=U j):t.slot j=.live i:=by unfold WJ;rw[xV _ _ _ T.ri h];simp[h]
def Tb.empty(T:Tb t es)(h:j∉t.place.toList):t.slot j=.empty:=by
 unfold WJ;let h1:t.place[bY t.place j]?≠U j:=λe=>h (by rw[<-qJ] at e;show qR e)
 let h2:Bg t.dummies j=ar:=by rw[T.dm];rfl
 simp[h1,h2]
def Tb.occ(T:Tb t es)(h:j∈t.place.toList):∃i:ag,t.place[i]?=U j:=by let⟨i,hi⟩:=wI.mp h;show#[i,by rw[<-qJ];show hi]
def Tb.fits(T:Tb t es):t.fits es.size=ah:=by let h1:=T.sz;let h2:=T.few;simp only[pO,Ie,T.dm,Array.size_empty,dB,kL,gY];ext
def ve:∀(a b:Z ag),a.Nodup->(∀x∈a,x∈b)->a.length<=b.length:=by
 intro Y7
 induction Y7 with
 |nil=>
  intro _ _ _;show fy _
 |cons x r ih=>
  intro b nd h;let hx:=h x qh;let ξ:=eG.mp nd;let:=ih (b.erase x) ξ.2 λy hy=>(List.mem_erase_of_ne (λe=>ξ.1 (by rw[<-e];show hy))).mpr (h y (qi _ hy));let hl:=List.length_erase_of_mem hx;let hp:0<b.length:=List.length_pos_of_mem hx;rw[qj];ext
def Tb.free(T:Tb t es):∃j,j<=t.mask/\decide (j∈t.place.toList)=ar:=by
 by_cases hx:∃j,j<=t.mask/\j∉t.place.toList
 .obtain⟨j,h1,h2⟩:=hx;show#[j,h1,qP h2]
 .exfalso;let all:∀j,j<=t.mask->j∈t.place.toList:=λj hj=>Classical.byContradiction λhn=>hx #[j,hj,hn];let h1:=ve (cC (t.mask+1)) t.place.toList Bh λj hj=>all j (by let:=fj.mp hj;ext);let h2:=T.sz;let h3:=T.few;simp only[qW,fu] at h1;ext
def Tb.first(T:Tb t es)(h:aj):∃n,n<10*(t.mask+15)/\ao t.mask h n∉t.place.toList/\∀m,m<n->ao t.mask h m∈t.place.toList:=by let⟨n,h1,h2,h3⟩:=T.full.first h (λj=>decide (j∈t.place.toList)) T.free;show#[n,h1,WK h2,λm hm=>fT (h3 m hm)]
def gH(p:Pr):Bi:={j:=p.j,more:=p.more,i:=p.i,perturb:=p.pt,dummy:=B}
def Pk(t:iw)(h:aj):t.probeStart h=gH (it t.mask h 0):=rfl
def Gs(t:iw)(p:Pr):t.advance (gH p)=gH (adv t.mask p):=by
 unfold SetTable.advance adv gH;by_cases h:p.more > 0
 .simp only[h,cI]
 .simp only[h,cK]
def Tb.probe_go(T:Tb t es)(hashAt:ag->aj)(h:aj){n0:ag}(hf:ao t.mask h n0∉t.place.toList)(ho:∀m,m<n0->ao t.mask h m∈t.place.toList):∀(Zs n:ag),n<=n0->n0<n+Zs->
  (∃n' i,n<=n'/\n'<n0/\t.place[i]?=U (ao t.mask h n')/\hashAt i=h/\(∀m i,n<=m->m<n'->t.place[i]?=U (ao t.mask h m)->hashAt i≠h)/\Ig t hashAt h Zs (gH (it t.mask h n))=U (.candidate (ao t.mask h n') i (gH (it t.mask h (n'+1))))) \/
  ((∀m i,n<=m->m<n0->t.place[i]?=U (ao t.mask h m)->hashAt i≠h)/\Ig t hashAt h Zs (gH (it t.mask h n))=U (.empty (ao t.mask h n0) B))
 |0,n,h1,h2=>by ext
 |Zs+1,n,h1,h2=>by
  unfold Ig;by_cases hn:n=n0
  .subst hn
   right
   show#[λm i a b=>by ext,?_];let hs:t.slot (gH (it t.mask h n)).j=.empty:=T.empty hf;rw[hs];rfl
  .obtain⟨i,hi⟩:=T.occ (ho n .(c));let hs:t.slot (gH (it t.mask h n)).j=.live i:=T.live hi;rw[hs];dsimp only;by_cases hh:hashAt i=h
   .left
    show#[n,i,qx _,by ext,hi,hh,λm i a b=>by ext,?_];rw[qY (by simpa using hh),Gs];rfl
   .rw[qZ (by simpa using hh),Gs];let inj:∀i',t.place[i']?=U (ao t.mask h n)->i'=i:=λi' h'=>by rw[<-xV _ _ _ T.ri h',<-xV _ _ _ T.ri hi]
    let ext:∀{b:ag},(∀m i,n+1<=m->m<b->t.place[i]?=U (ao t.mask h m)->hashAt i≠h)->∀m i,n<=m->m<b->t.place[i]?=U (ao t.mask h m)->hashAt i≠h:=λ{b}q m i' a c d=>by
     by_cases e:m=n
     .subst e;rw[inj i' d];show hh
     .exact q m i' .(c) c d
    rcases T.probe_go hashAt h hf ho Zs (n+1) .(c) .(c) with⟨n',i',a,b,c,d,e,f⟩|⟨e,f⟩
    .exact .inl #[n',i',by ext,b,c,d,ext e,f]
    .exact .inr #[ext e,f]
def li(xs:bK α)(p:ag)(x:α)(hp:p<=xs.size):(cq xs p x).toList=xs.toList.take p++x::xs.toList.drop p:=by unfold cq;simp[Array.toList_extract,List.extract_eq_take_drop];show kT (by simp)
def G7(l:Z α)(p:ag)(x:α)(hp:p<=l.length)(i:ag):(l.take p++x::l.drop p)[i]?=if i<p then l[i]? else if i=p then U x else l[i-1]?:=by
 by_cases h1:i<p
 .rw[qY h1,qA (by rw[qF];ext),AL h1]
 .rw[qZ h1,qM (by rw[qF];ext),qF,WL hp];by_cases h2:i=p
  .rw[qY h2,h2];simp
  .rw[qZ h2];obtain⟨k,hk⟩:∃k,i-p=k+1:=#[i-p-1,by ext];rw[hk,qe,WM]
   congr 1
   ext
def yP(l:Z α)(p:ag)(x y:α):y∈l.take p++x::l.drop p↔y=x\/y∈l:=by
 rw[cY,qN];constructor
 .rintro(h|h|h)
  .exact .inr (pP h)
  .exact .inl h
  .exact .inr (Ih h)
 .rintro(h|h)
  .exact .inr (.inl h)
  .let:y∈l.take p++l.drop p:=by rw[tz];show h
   rcases cY.mp this with h|h
   .exact .inl h
   .exact .inr (.inr h)
def Tb.put(T:Tb t es){x:aw}(hf:ao t.mask h n0∉t.place.toList)(ho:∀m,m<n0->ao t.mask h m∈t.place.toList)(few:(es.size+1)*5<t.mask*3)(pl:aJ):
  Tb { (t.put (ao t.mask h n0)).1 with plain:=pl} (cq es (t.put (ao t.mask h n0)).2 (h,x)):=by
 let⟨b0,b1,b2⟩:=oQ t.place (ao t.mask h n0) T.ri;let bes:bY t.place (ao t.mask h n0)<=es.size:=by rw[<-T.sz];show b0
 let pl1:(cq t.place (bY t.place (ao t.mask h n0)) (ao t.mask h n0)).toList=t.place.toList.take (bY t.place (ao t.mask h n0))++ao t.mask h n0::t.place.toList.drop (bY t.place (ao t.mask h n0)):=li _ _ _ b0;let el1:(cq es (bY t.place (ao t.mask h n0)) (h,x)).toList=es.toList.take (bY t.place (ao t.mask h n0))++(h,x)::es.toList.drop (bY t.place (ao t.mask h n0)):=li _ _ _ bes;let szp:(cq t.place (bY t.place (ao t.mask h n0)) (ao t.mask h n0)).size=t.place.size+1:=by rw[<-fu,pl1];simp;ext
 let sze:(cq es (bY t.place (ao t.mask h n0)) (h,x)).size=es.size+1:=by rw[<-fu,el1];simp;ext
 show#[T.full,?_,?_,?_,?_,?_,?_]
 .show(cq t.place _ _).size=_;rw[szp];show _=(cq es (bY t.place (ao t.mask h n0)) (h,x)).size;rw[sze,T.sz]
 .show(if Bg t.dummies (ao t.mask h n0)=ah then _ else t.dummies)=#[];rw[T.dm];rfl
 .show(cq t.place (bY t.place (ao t.mask h n0)) (ao t.mask h n0)).toList.Pairwise (· < ·);rw[pl1,List.pairwise_append,List.pairwise_cons];let tk:∀a∈t.place.toList.take (bY t.place (ao t.mask h n0)),a<ao t.mask h n0:=λa ha=>by
   let⟨i,hi⟩:=wI.mp ha;let Ħ:i<bY t.place (ao t.mask h n0):=by let:=(eV.mp hi).1;rw[qF] at this;ext
   rw[AL Ħ,qJ] at hi;show b1 i Ħ a hi
  let dr:∀a∈t.place.toList.drop (bY t.place (ao t.mask h n0)),ao t.mask h n0<a:=λa ha=>by
   let⟨i,hi⟩:=wI.mp ha;rw[WM,qJ] at hi;let h1:=b2 _ (AA _ i) a hi;rcases kS (ao t.mask h n0) a with q|q
   .exact q
   .exact bH (by rw[<-qJ] at hi;let e:a=ao t.mask h n0:=.(c);rw[e] at hi;show qR hi) hf
  show#[T.ri.sublist (nG _ _),#[dr,T.ri.sublist (List.drop_sublist _ _)],λa ha b C=>?_];rcases cm.mp C with e|C
  .rw[e];show tk a ha
  .exact sW (tk a ha) (dr b C)
 .intro j hj;let hj':j∈(cq t.place (bY t.place (ao t.mask h n0)) (ao t.mask h n0)).toList:=hj;rw[pl1,yP] at hj';rcases hj' with e|hj'
  .rw[e];show za _ _ _
  .exact T.le j hj'
 .show(cq es (bY t.place (ao t.mask h n0)) (h,x)).size*5<t.mask*3;rw[sze];show few
 .intro i j h' x' e1 e2;let Ų:(cq t.place (bY t.place (ao t.mask h n0)) (ao t.mask h n0)).toList[i]?=U j:=by rw[qJ];show e1
  let ı:(cq es (bY t.place (ao t.mask h n0)) (h,x)).toList[i]?=U (h',x'):=by rw[qJ];show e2
  rw[pl1,G7 _ _ _ (by simpa using b0)] at Ų;rw[el1,G7 _ _ _ (by simpa using bes)] at ı;let up:∀{n:ag},(∀m,m<n->ao t.mask h' m∈t.place.toList)->∀m,m<n->ao t.mask h' m∈(cq t.place (bY t.place (ao t.mask h n0)) (ao t.mask h n0)).toList:=λq m hm=>by rw[pl1,yP];show .inr (q m hm)
  by_cases c1:i<bY t.place (ao t.mask h n0)
  .rw[qY c1] at Ų ı;rw[qJ] at Ų ı;let⟨n,hn,q⟩:=T.rc i j h' x' Ų ı;show#[n,hn,up q]
  .rw[qZ c1] at Ų ı;by_cases c2:i=bY t.place (ao t.mask h n0)
   .rw[qY c2] at Ų ı;cases Ų;cases ı;show#[n0,W,up ho]
   .rw[qZ c2] at Ų ı;rw[qJ] at Ų ı;let⟨n,hn,q⟩:=T.rc _ j h' x' Ų ı;show#[n,hn,up q]
end
noncomputable def eZ(YO:bK (au ag))(j:ag):aJ:=(YO.getD j (U 0)).isNone
def rD{r:ag}(e:it YK h n=mQ YK (lp YK h r)){k:ag}(hk:k<di YK (lp YK h r).1+1-(lp YK h r).1):ao YK h (n+k)=(lp YK h r).1+k:=by unfold ao;rw[v6,e,vK YK k _ (by show k<=di YK (lp YK h r).1-(lp YK h r).1;ext)];rfl
def TF{r:ag}(e:it YK h n=mQ YK (lp YK h r)):it YK h (n+(di YK (lp YK h r).1+1-(lp YK h r).1))=mQ YK (lp YK h (r+1)):=by
 let hge:(lp YK h r).1<=di YK (lp YK h r).1:=by unfold di;split<;>ext
 let e2:=vK YK (di YK (lp YK h r).1-(lp YK h r).1) (mQ YK (lp YK h r)) (qx _);rw[show n+(di YK (lp YK h r).1+1-(lp YK h r).1)=n+(di YK (lp YK h r).1-(lp YK h r).1)+1 by ext,it,v6,e,e2];unfold adv;rw[qZ (by show ¬((di YK (lp YK h r).1-(lp YK h r).1)-(di YK (lp YK h r).1-(lp YK h r).1) > 0);ext)];rfl
def EW{YK:ag}{h:aj}(YO:bK (au ag)){rs:ag}(τ:eZ YO (lp YK h rs).1=ah):∀(Zs r n:ag),it YK h n=mQ YK (lp YK h r)->r<=rs->rs<r+Zs->(∀m,m<n->eZ YO (ao YK h m)=ar)->
  ∃n',eZ YO (ao YK h n')=ah/\(∀m,m<n'->eZ YO (ao YK h m)=ar)/\tD YK YO Zs (lp YK h r).1 (lp YK h r).2=U (ao YK h n')
 |0,r,n,_,h1,h2,_=>by ext
 |Zs+1,r,n,e,h1,h2,h3=>by
  unfold tD;cases hf:(cC (di YK (lp YK h r).1+1-(lp YK h r).1)).find? (λk=>(YO.getD ((lp YK h r).1+k) (U 0)).isNone) with
  |some k=>
   let hk:=fj.mp (WN hf);let hp:eZ YO ((lp YK h r).1+k)=ah:=by let:=WO hf;show this
   show#[n+k,by rw[rD e hk];show hp,λm hm=>?_,?_]
   .rcases kS m n with c|c
    .exact h3 m c
    .obtain⟨d,rfl⟩:∃d,m=n+d:=#[m-n,by ext];rw[rD e .(c)];let⟨as,bs,Ĩ,Ó⟩:=(List.find?_eq_some_iff_append.mp hf).2;let hd:d∈as:=by
      let hl:as=cC k:=by
       let Y5:as.length=k:=by
        let:(cC (di YK (lp YK h r).1+1-(lp YK h r).1))[as.length]?=U k:=by rw[Ĩ];simp
        rw[List.getElem?_range] at this
        .exact qI this
        .let:=bP cM Ĩ;simp at this;ext
       let:=bP (nS k) Ĩ;rw[List.take_range,WL .(c),<-Y5,List.take_left'] at this
       .rw[Y5] at this;show this.symm
       .rfl
      rw[hl];show fj.mpr .(c)
     let:=Ó d hd;show Ii.mpr (λz=>by rw[show(YO.getD ((lp YK h r).1+d) (U 0)).isNone=ah from z] at this;cases this)
   .rw[rD e hk]
  |none=>
   let hn:∀k,k<di YK (lp YK h r).1+1-(lp YK h r).1->eZ YO (ao YK h (n+k))=ar:=λk hk=>by rw[rD e hk];let:=Bj.mp hf k (fj.mpr hk);show Ii.mpr this
   let hge:(lp YK h r).1<=di YK (lp YK h r).1:=by unfold di;split<;>ext
   let hr:r≠rs:=λz=>by subst z;let:=hn 0 .(c);rw[rD e .(c),Nat.add_zero,τ] at this;cases this
   show EW YO τ Zs (r+1) _ (TF e) .(c) .(c) λm hm=>by
    rcases kS m n with c|c
    .exact h3 m c
    .obtain⟨d,rfl⟩:∃d,m=n+d:=#[m-n,by ext];show hn d .(c)
def vk.free(F:vk YK)(h:aj)(YO:bK (au ag))(hf:∃j,j<=YK/\eZ YO j=ah):
  ∃n,eZ YO (ao YK h n)=ah/\(∀m,m<n->eZ YO (ao YK h m)=ar)/\tD YK YO (nT YK) (fQ h%(YK+1)) (fQ h)=U (ao YK h n):=by
 let⟨j,hj,hjf⟩:=hf;let⟨m,hm,e⟩:=F.reach (yB YK h 13) hj;let hl:(lp YK h (13+m)).1=j:=by rw[Aj,e]
 show EW YO (by rw[hl];show hjf) (nT YK) 0 0 W (fy _) (by unfold nT;ext) λm hm=>bH hm (Ic _)
structure ε(YK:ag)(hs:Z aj)(YO:bK (au ag)):Prop where
 sz:YO.size=YK+1
 lt:∀(j k:ag),YO[j]?=U (U k)->k<hs.length
 on:∀k,k<hs.length->∃j:ag,YO[j]?=U (U k)
 inj:∀(j j' k:ag),YO[j]?=U (U k)->YO[j']?=U (U k)->j=j'
 rc:∀(j k:ag)h,YO[j]?=U (U k)->hs[k]?=U h->∃n,ao YK h n=j/\∀m,m<n->eZ YO (ao YK h m)=ar
def p8:eZ YO j=ah↔YO[j]?=U B:=by
 unfold eZ;rw[Bf];cases e:YO[j]? with
 |none=>simp
 |some o=>cases o<;>simp
def ε.empty(YK:ag):ε YK [] (WP (YK+1) B):=by
 let no:∀(j k:ag),(WP (YK+1) (B:au ag))[j]?=U (U k)->False:=λj k h=>by rw[Array.getElem?_replicate] at h;split at h<;>cases h
 show#[by simp,λj k h=>(no j k h).elim,λk h=>bH h (Ic _),λj _ k h _=>(no j k h).elim,λj k _ h _=>(no j k h).elim]
def ε.room(Γ:ε YK hs YO)(hr:hs.length<=YK):∃j,j<=YK/\eZ YO j=ah:=by
 by_cases hx:∃j,j<=YK/\eZ YO j=ah
 .exact hx
 .exfalso;let all:∀j,j<=YK->∃k,YO[j]?=U (U k):=λj hj=>by
   let h1:eZ YO j≠ah:=λz=>hx #[j,hj,z];let h2:j<YO.size:=by rw[Γ.sz];ext
   cases q:YO[j] with
   |none=>show bH (p8.mpr (by simp[h2,q])) h1
   |some k=>show#[k,by simp[h2,q]]
  let pig:=ve ((cC (YK+1)).map λj=>((YO[j]?).join).getD 0) (cC hs.length) ?_ ?_
  .rw[qg,qW,qW] at pig;ext
  .refine WQ.mpr (wK.mpr (Ij ?_ Bh));intro a b ha C Ĩ e;let⟨k,hk⟩:=all a (by let:=fj.mp ha;ext);let⟨k',hk'⟩:=all b (by let:=fj.mp C;ext);simp only[hk,hk',WR,WS] at e;subst e;show Ĩ (Γ.inj a b k hk hk')
  .intro x hx';let⟨j,hj,rfl⟩:=bw.mp hx';let⟨k,hk⟩:=all j (by let:=fj.mp hj;ext);simp only[hk,WR,WS];show fj.mpr (Γ.lt j k hk)
def ε.more(Γ:ε YK hs YO)(hf:eZ YO (ao YK h n)=ah)(ho:∀m,m<n->eZ YO (ao YK h m)=ar):
  ε YK (hs++[h]) (YO.setIfInBounds (ao YK h n) (U hs.length)):=by
 let Zu:ao YK h n<YO.size:=by rw[Γ.sz];let:=za YK h n;ext
 let hold:=p8.mp hf;let get:∀j:ag,(YO.setIfInBounds (ao YK h n) (U hs.length))[j]?=if j=ao YK h n then U (U hs.length) else YO[j]?:=λj=>by
  rw[Array.getElem?_setIfInBounds];by_cases e:ao YK h n=j
  .subst e;simp[Zu]
  .rw[qZ e,qZ (dj e)]
 let stay:∀{j k:ag},YO[j]?=U (U k)->(YO.setIfInBounds (ao YK h n) (U hs.length))[j]?=U (U k):=λ{j k}q=>by
  rw[get,qZ]
  .exact q
  .intro e;rw[e,hold] at q;cases q
 let ż:∀{j:ag},eZ YO j=ar->eZ (YO.setIfInBounds (ao YK h n) (U hs.length)) j=ar:=λ{j}q=>by
  show Ii.mpr λz=>?_;let z':=p8.mp z;rw[get] at z';split at z'
  .cases z'
  .rw[p8.mpr z'] at q;cases q
 show#[by simp[Γ.sz],λj k q=>?_,λk hk=>?_,λj j' k q q'=>?_,λj k h' q q'=>?_]
 .rw[get] at q;rw[ql,pH];split at q
  .cases q;ext
  .let:=Γ.lt j k q;ext
 .rw[ql,pH] at hk;by_cases e:k=hs.length
  .exact#[ao YK h n,by rw[get,qY W,e]]
  .obtain⟨j,hj⟩:=Γ.on k .(c);show#[j,stay hj]
 .rw[get] at q q';split at q
  .rename_i c;cases q;split at q'
   .rename_i c';rw[c,c']
   .let:=Γ.lt j' _ q';ext
  .split at q'
   .cases q';let:=Γ.lt j _ q;ext
   .exact Γ.inj j j' k q q'
 .rw[get] at q;split at q
  .rename_i c;cases q;rw[qM (qx _)] at q';simp at q';subst q';show#[n,c.symm,λm hm=>ż (ho m hm)]
  .let hk:=Γ.lt j k q;rw[qA hk] at q';let⟨n',e,r⟩:=Γ.rc j k h' q q';show#[n',e,λm hm=>ż (r m hm)]
def vk.lays(F:vk YK)(hs:bK aj)(hr:hs.size<=YK):∃YO,WT YK hs=U YO/\ε YK hs.toList YO:=by
 let all:∀(bX done:Z aj)(YO:bK (au ag)),ε YK done YO->(done++bX).length<=YK->∃ó,ε YK (done++bX) ó /\
   bX.foldl (λYT h=>do
    let (YO,k) ←YT
    let j ←tD YK YO (nT YK) (fQ h%(YK+1)) (fQ h)
    bd (YO.setIfInBounds j (U k),k+1)) (U (YO,done.length))=U (ó,(done++bX).length):=by
  intro bX
  induction bX with
  |nil=>intro done YO Γ _;show#[YO,by rw[iS];show Γ,by simp]
  |cons h r ih=>
   intro done YO Γ hl;let⟨n,h1,h2,h3⟩:=F.free h YO (Γ.room (by simp at hl;ext));let O':=Γ.more h1 h2;let⟨ó,O2,e⟩:=ih (done++[h]) _ O' (by simpa using hl);show#[ó,by simpa using O2,?_];rw[gc];let e1:(do
    let (YO,k) ←U (YO,done.length)
    let j ←tD YK YO (nT YK) (fQ h%(YK+1)) (fQ h)
    bd (YO.setIfInBounds j (U k),k+1):au (bK (au ag)×ag))=U (YO.setIfInBounds (ao YK h n) (U done.length),done.length+1):=by
    show(tD YK YO (nT YK) (fQ h%(YK+1)) (fQ h) >>= λj=>bd (YO.setIfInBounds j (U done.length),done.length+1))=_;rw[h3];rfl
   rw[e1];rw[ql,pH] at e;rw[e];simp
 let⟨ó,Γ,e⟩:=all hs.toList [] _ (ε.empty YK) (by simpa using hr);show#[ó,?_,by simpa using Γ];unfold WT;rw[<-Array.foldl_toList];let e':=bP (ti (·.1)) e;show e'
def Ju(f:α->au β):∀(l:Z α),(∀k∈l,∃y,f k=U y)->∀i:ag,(l.filterMap f)[i]?=(l[i]?).bind f:=by
 intro Y7
 induction Y7 with
 |nil=>
  intro _ i;simp
 |cons k r ih=>
  intro h i;let⟨y,hy⟩:=h k qh;rw[WU hy];cases i with
  |zero=>simp[hy]
  |succ i=>simp only[qe];show ih (λk hk=>h k (qi _ hk)) i
def Pw(f:α->au β):∀(l:Z α),(∀k∈l,∃y,f k=U y)->(l.filterMap f).length=l.length:=by
 intro Y7
 induction Y7 with
 |nil=>
  intro _;show W
 |cons k r ih=>
  intro h;let⟨y,hy⟩:=h k qh;rw[WU hy,qj,qj,ih λk hk=>h k (qi _ hk)]
noncomputable def fO(YK:ag)(YO:bK (au ag)):Z (ag×ag):=(cC (YK+1)).filterMap λj=>(YO.getD j B).map (j,·)
def iZ(ô:YO.size=YK+1){k:ag}:(j,k)∈fO YK YO↔YO[j]?=U (U k):=by
 unfold fO;rw[sM];constructor
 .rintro⟨j',hj',e⟩;rw[Bf] at e;cases q:YO[j']? with
  |none=>rw[q] at e;cases e
  |some o=>
   rw[q] at e;cases o with
   |none=>cases e
   |some k'=>cases e;show q
 .intro q;let hj:j<YO.size:=(ge.mp q).1;show#[j,fj.mpr .(c),by rw[Bf,q];rfl]
def Ds(YK:ag)(YO:bK (au ag)):((fO YK YO).map (·.1)).Pairwise (· < ·):=by rw[wK];show Yw _ ?_ (WV);intro a a' haa b C b' į;let⟨k,_,rfl⟩:=Za C;let⟨k',_,rfl⟩:=Za į;show haa
def Fs(Γ:ε YK hs YO):((fO YK YO).map (·.2)).Nodup:=by let h1:=wK.mp (Ds YK YO);show WQ.mpr (wK.mpr (Ij ?_ h1));rintro⟨j,k⟩ ⟨j',k'⟩ ha C Zu e;let e':k=k':=e;subst e';let:=Γ.inj j j' k ((iZ Γ.sz).mp ha) ((iZ Γ.sz).mp C);ext
def Ku(Γ:ε YK hs YO):(fO YK YO).length=hs.length:=by
 let h1:=ve ((fO YK YO).map (·.2)) (cC hs.length) (Fs Γ) λk hk=>by let⟨⟨j,k'⟩,hm,rfl⟩:=bw.mp hk;show fj.mpr (Γ.lt j k' ((iZ Γ.sz).mp hm))
 let h2:=ve (cC hs.length) ((fO YK YO).map (·.2)) Bh λk hk=>by let⟨j,hj⟩:=Γ.on k (fj.mp hk);show bw.mpr #[(j,k),(iZ Γ.sz).mpr hj,W]
 rw[qg,qW] at h1 h2;ext
def vk.relaid{t:iw}{es:bK (aj×aw)}{Ç:ag}(F:vk (kU Ç-1))(few:es.size*5<(kU Ç-1)*3):
  ∃t' Ñ,t.relaid (es.map (·.1)) Ç=U (t',Ñ)/\(Ñ.filterMap (es[·]?)).size=es.size/\Tb t' (Ñ.filterMap (es[·]?))/\(∀e,e∈(Ñ.filterMap (es[·]?)).toList↔e∈es.toList)/\t'.mask=kU Ç-1/\t'.led=t.led:=by
 generalize hM:kU Ç-1=YK at F few;let⟨YO,hl,Γ⟩:=F.lays (es.map (·.1)) (by simp;ext);let Y5:(es.map (·.1)).toList.length=es.size:=by simp
 let llen:(fO YK YO).length=es.size:=by rw[Ku Γ,Y5]
 show#[{mask:=YK,place:=((fO YK YO).map (·.1)).toArray,dummies:=#[],finger:=t.finger,led:=t.led,moves:=t.movedTo YK,plain:=t.plain},((fO YK YO).map (·.2)).toArray,?_,?_]
 .unfold WW;rw[hM];unfold WX;rw[hl];rfl
 .let ħ:∀k∈(fO YK YO).map (·.2),∃y,es[k]?=U y:=λk hk=>by let⟨⟨j,k'⟩,hm,rfl⟩:=bw.mp hk;let:=Γ.lt j k' ((iZ Γ.sz).mp hm);rw[Y5] at this;show#[es[k'],by simp[this]]
  let etl:(WY (λx=>es[x]?) ((fO YK YO).map (·.2)).toArray).toList=((fO YK YO).map (·.2)).filterMap (λx=>es[x]?):=by simp
  let esz:(WY (λx=>es[x]?) ((fO YK YO).map (·.2)).toArray).size=es.size:=by rw[<-fu,etl,Pw _ _ ħ,qg,llen]
  show#[esz,#[F,?_,W,?_,?_,?_,?_],λe=>?_,W,W]
  .rw[esz];simp[llen]
  .show((fO YK YO).map (·.1)).toArray.toList.Pairwise (· < ·);show Ds YK YO
  .intro j hj;let hj':j∈(fO YK YO).map (·.1):=hj;let⟨⟨j',k⟩,hm,rfl⟩:=bw.mp hj';let:=(ge.mp ((iZ Γ.sz).mp hm)).1;rw[Γ.sz] at this;show j'<=YK;ext
  .rw[esz];show few
  .intro i j h x e1 e2;let Ų:((fO YK YO).map (·.1))[i]?=U j:=by simpa using e1
   rw[<-qJ,etl,Ju _ _ ħ,qm] at e2;rw[qm] at Ų;let⟨⟨j',k⟩,hm,rfl⟩:=Za Ų;rw[hm] at e2;let ı:es[k]?=U (h,x):=e2;let ho:=(iZ Γ.sz).mp (qR hm);let⟨n,hn,q⟩:=Γ.rc j' k h ho (by simp[ı]);show#[n,hn,λm hm'=>?_];let Α:=q m hm';let hle:=za YK h m;let Zu:ao YK h m<YO.size:=by rw[Γ.sz];ext
   cases c:YO[ao YK h m] with
   |none=>
    rw[p8.mpr (by simp[Zu,c])] at Α;cases Α
   |some k'=>
    show bw.mpr #[(ao YK h m,k'),(iZ Γ.sz).mpr (by simp[Zu,c]),W]
  .rw[etl,sM];constructor
   .rintro⟨k,_,hk⟩;rw[<-qJ] at hk;show qR hk
   .intro he;let⟨k,hk⟩:=wI.mp he;rw[qJ] at hk;let Zu:=(ge.mp hk).1;let⟨j,hj⟩:=Γ.on k (by rw[Y5];show Zu);show#[k,bw.mpr #[(j,k),(iZ Γ.sz).mpr hj,W],hk]
def Mk(YK:ag):Prop:=YK=7\/YK=31\/YK=127\/YK=511
def Mk.full(h:Mk YK):vk YK:=by
 rcases h with h|h|h|h<;>subst h
 .exact xh
 .exact JX
 .exact N9
 .exact T3
def Mk.grow(h:Mk YK)(h1:n*5<YK*3)(h2:¬(n+1)*5<YK*3)(hn:n<=300):Mk (kU (tE (n+1))-1)/\(n+1)*5<(kU (tE (n+1))-1)*3/\kU (tE (n+1))<=512:=by
 rcases h with h|h|h|h<;>subst h
 .let:n=4:=by ext
  subst this;show#[.inr (.inl .(b)),by decide,by decide]
 .let:n=18:=by ext
  subst this;show#[.inr (.inr (.inl .(b))),by decide,by decide]
 .let:n=76:=by ext
  subst this;show#[.inr (.inr (.inr .(b))),by decide,by decide]
 .omega
section
variable{R:l5->aH->Prop}{G:bK sL->bK sL->Prop}{P:ag->aw->Prop}{St:ag->aH->Prop}
def Fd(prog:dD)(w:cD)(A:cH)(S:av)(Ba:Heap->Prop)(P:ag->aw->Prop)(n:ag)(ao:ag->Obj->Prop):Prop:=
 ∀(i:ag)(v:aw)(s:aH)(o:Obj)(Q:aJ->aH->Prop)(us:aw->aH->Prop),i<n->P i v->s.heap.get? S=U o->ao i o->Ba s.heap->
  (∀b h' tk o',s.toks<=tk->gW S s.heap h'->h'.get? S=U o'->ao (i+1) o'->Q b {s with heap:=h',toks:=tk})->aL .(z) A (setAdd S v) Q us s
def VP(YJ:WalksS prog w A.in1 I fp wr G n P St)(S:av)(ř:S∉fp)(Ba:Heap->Prop)(hBa:∀h h',Ba h->(∀b o,b∉S::wr->h.get? b=U o->h'.get? b=U o)->Ba h')(ao:ag->Obj->Prop)(Ű:Fd prog w A.in1 S Ba P n ao):
  ∀(k i:ag)(s:aH)(o:Obj),n-i=k->i<=n->St i s->s.heap.get? S=U o->ao i o->Ba s.heap->
   (∀s' o',Moved (S::wr) G s s'->s'.heap.get? S=U o'->ao n o'->R (.ok (.ret .none)) s')->
   gF .(z) A (.builtin "set.update.loop" #[[.ref S,.ref I],[]]) R s:=by
 let hSw:S∉wr:=λh=>ř (YJ.sub _ h);let Ĥ:∀b∈wr,b∈S::wr:=λb C=>qi _ C;intro k
 induction k with
 |zero=>
  intro i s o hk hi ý hS hJ hB hR;let Į:i=n:=by ext
  subst Į;show kW WZ ?_;rw[mi Ik _];show qy (YJ.done s _ _ ý λs' hm=>?_);show qB (hR s' o (hm.mono Ĥ) (hm.heap S _ hSw hS) hJ)
 |succ k ih=>
  intro i s o hk hi ý hS hJ hB hR;let Zu:i<n:=by ext
  show kW WZ ?_;rw[mi Ik _];show qy (YJ.item i s _ _ Zu ý λv s' hP hst' hm=>?_);show qy (qV ?_);show Ű i v s' o _ _ Zu hP (hm.heap S _ hSw hS) hJ (hBa _ _ hB λb o C e=>hm.heap b o (λz=>C (Ĥ b z)) e) λb h' tk o' Ŏ ŭ hS' hJ'=>?_;show qB #[mj Ik _,ih (i+1) _ o' .(c) Zu (YJ.frame _ s' _ _ hst' Ŏ λb C o e=>?_) hS' hJ' ?_ λs'' o'' hm'' hS'' hJ''=>?_]
  .rw[ŭ.2 b (λh:b=S=>ř (by rw[<-h];show C))];show e
  .refine hBa _ _ (hBa _ _ hB λb o C e=>hm.heap b o (λz=>C (Ĥ b z)) e) λb o C e=>?_;rw[ŭ.2 b (λh:b=S=>C (by rw[h];show qh))];show e
  .refine hR s'' o'' (W0 YJ.gtrans ((hm.mono Ĥ).then_heap Ŏ λb o C e=>?_) hm'') hS'' hJ'';rw[ŭ.2 b (λh:b=S=>C (by rw[h];show qh))];show e
end
def NL(a:aw){Q₁:aw->aH->Prop} 
  (h:Q₁ (.ref s.heap.objs.size) {s with heap:=s.heap.push {cls:=.type "set",dict:=B,data:=.set #[] 0 (.fresh 0 0 (!w.params.followText "set-order"))} }):
  gF .(z) A (.call (.builtin "set.__new__") #[[.type "set",a],[]]) (wants Q₁ us) s:=by
 show W1 ?_;show qy (pQ (F.newCall_set_1 a) (qB #[mj W2 _,kW F.entry_set_new ?_]));rw[mi W2 _];unfold Builtin.«set.__new__» Yx;let Ĥ:=sub_set_self;let⟨hp,g,d,tk,os⟩:=s;dsimp only
 wp_walk
 show wL (qB ?_);dsimp only;simp only[newObj];show qy (wpAny_alloc (qB (qB h)))
set_option maxRecDepth 100000 in
set_option maxHeartbeats 3200000 in
def z4(hh:A.handled=B)(hl:s.heap.IsList l items)(ao:ag->Obj->Prop)
  (hJ0:ao 0 {cls:=.type "set",dict:=B,data:=.set #[] 0 (.fresh 0 0 (!w.params.followText "set-order"))})
  (Ű:∀A':cH,A'.units<=A.units+16->Fd prog w A' s.heap.objs.size (λh=>∀b o,b<s.heap.objs.size->s.heap.get? b=U o->h.get? b=U o) (λi v=>items[i]?=U v) items.size ao)
  (h:∀(h':Heap)(tk:ag)(o:Obj),h'.get? s.heap.objs.size=U o->ao items.size o->
   (∀b o,b<s.heap.objs.size->s.heap.get? b=U o->h'.get? b=U o)->Q (.ref s.heap.objs.size) {s with heap:=h',toks:=tk}):
  aL .(z) A (call (.type "set") [.ref l]) Q us s:=by
 let⟨c,tl,hmro⟩:=tF.mro;let hmade:=tF.made;let Ĥ:=tF.sub;show AK (W1 ?_);show qB #[Code.quiet_builtin _ (by decide +kernel),kW F.entry_type_call ?_];rw[Around.under_plain (weight_type_call_type "set" [.ref l] []) W]
 repeat (any_goals (first|assumption|wp_step))
 show pz (NL (.ref l) (us:=us) (Q₁:=λobj Z7=>∃led:aJ,led=(!w.params.followText "set-order")/\obj=.ref s.heap.objs.size/\Z7={s with heap:=s.heap.push {cls:=.type "set",dict:=B,data:=.set #[] 0 (.fresh 0 0 led)} }) #[_,rfl,rfl,rfl]) λr Z7 hr=>?_;cases r with
 |error e=>show hr
 |ok fl=>
  cases fl with
  |ret obj=>
   let⟨led,Ì,rfl,rfl⟩:=hr;rw[<-Ì] at hJ0;let hS:.(w).get? s.heap.objs.size=U {cls:=.type "set",dict:=B,data:=.set #[] 0 (.fresh 0 0 led)}:=qH _ W;let hT:Bk {s with heap:=s.heap.push {cls:=.type "set",dict:=B,data:=.set #[] 0 (.fresh 0 0 led)} } (.ref s.heap.objs.size) "set":=#[_,hS,rfl];let hli:=tF.init.lookup;let hbi:=tF.init.bind (.ref s.heap.objs.size)
   repeat (any_goals (first|assumption|wp_step))
   show pz (W3 (R:=wants (λr Z4=>r=.none/\∃h' tk o,Z4={s with heap:=h',toks:=tk}/\h'.get? s.heap.objs.size=U o/\ao items.size o /\
     (∀b o,b<s.heap.objs.size->s.heap.get? b=U o->h'.get? b=U o)) us) tF.init.plain F.entry_set_init (check_set_init_1 hT ?_)) λr₂ Z4 ZT=>?_
   .obtain⟨ol,hol,hcl,nl,hdl⟩:=hl;let⟨ocls,odict,odata,oslots⟩:=ol;simp only at hcl hdl;subst hcl;subst hdl;let hol':.(w).get? l=U {cls:=.type "list",dict:=odict,data:=.seq items nl,slots:=oslots}:=qv _ hol;let hsls:=F.sub_list_set;let hslf:=F.sub_list_frozenset;let Ô:(sJ "list"==sJ "dict")=ar:=by decide
    let hl1:.(w).IsList l items:=#[_,hol',W,nl,W];unfold Builtin.«set.__init__» noKeywords Yy;generalize hPI:l0=PI
    wp_walk
    subst hPI;show nQ hl1 ?_;show qy (wpAny_runValue ?_);let hlS:l<s.heap.objs.size:=qw hol;let hh3:A.in1.in1.in1.handled=B:=by simp[hh]
    let hneI:l≠.(w).objs.size:=by rw[l7];show qD (pR hlS)
    let ř:s.heap.objs.size∉[.(w).objs.size,l]:=by rw[l7];simp only[qN,bM,qL,or_false,tG];show#[qD (sQ _),AD hlS]
    let hget:(.(w).push {cls:=.type "list_iterator",data:=.fields [.ref l,.int 0 0].toArray}).get? s.heap.objs.size
       = U {cls:=.type "set",dict:=B,data:=.set #[] 0 (.fresh 0 0 led)}:=qv _ hS
    show VP ((tp hh3 _ l hneI items).toS) s.heap.objs.size
     ř (λh=>∀b o,b<s.heap.objs.size->s.heap.get? b=U o->h.get? b=U o) (λh h' hB hk b o C e=>hk b o ?_ (hB b o C e)) ao (Ű _ (by show A.units+3<=_;ext)) (items.size-0) 0 _ _ .(c) (fy _)
     #[#[_,qH _ W,W,W],(hl1.push _)] hget hJ0 (λb o C e=>qv _ (qv _ e)) ?hR
    .let š:b≠s.heap.objs.size:=qD C;let ŏ:b≠.(w).objs.size:=by rw[l7];show qD (pR C)
     simp only[qN,bM,qL,or_false,tG];show#[š,ŏ]
    case hR=>
     intro s' o' hm hS' hJ';let⟨h',g',d',tk',os'⟩:=s';let eg:g'=s.gens:=hm.gens;let ed:d'=s.drawn:=hm.drawn;let eo:os'=s.os:=hm.os;subst eg;subst ed;subst eo;show qB ?_;show qB #[W,h',tk',o',W,hS',hJ',λb o C e=>?_];let š:b≠s.heap.objs.size:=qD C;let ŏ:b≠.(w).objs.size:=by rw[l7];show qD (pR C)
     show hm.heap b o (by simp only[qN,bM,qL,or_false,tG];show#[š,ŏ]) (qv _ (qv _ e))
   .cases r₂ with
    |error e=>show ZT
    |ok ZL =>
     cases ZL with
     |ret r=>
      let⟨rfl,h',tk,o',rfl,hS',hJ',hk'⟩:=ZT
      repeat (any_goals (first|assumption|wp_step))
      show h _ _ _ hS' hJ' hk'
     |_=>show ZT.elim
  |_=>show hr.elim
noncomputable def dd[dE κ](l:Z κ):Z κ:=l.foldl (λa k=>if k∈a then a else a++[k]) []
def sy[dE κ](l:Z κ)(k:κ):dd (l++[k])=if k∈dd l then dd l else dd l++[k]:=by unfold dd;rw[Bl];rfl
def mz[dE κ](l:Z κ):(dd l).length<=l.length:=by
 let key:∀(l a:Z κ),(l.foldl (λa k=>if k∈a then a else a++[k]) a).length<=a.length+l.length:=by
  intro l
  induction l with
  |nil=>intro a;show qx _
  |cons k r ih=>
   intro a;rw[gc];show qO (ih _) ?_;split
   .simp only[qj];ext
   .simp only[ql,qj,qo];ext
 let:=key l [];simpa[dd] using this
section
variable[dE κ]{Zl:KeyKind prog w κ}
def SG{ks:Z κ}{Q:aJ->aH->Prop}(hk:IsTupleKey Zl s.heap ks a)(hsc:∀v k,Zl.is k v=ah->v.scannable=ah)(h:∀b,Q b s):aL .(z) A (hashByValue 8 (.ref a)) Q us s:=by
 let hT:=hk.typeIs;let⟨o,items,n,ho,_,hd,hi⟩:=hk;show qy (AY hT F.slot_tuple_hash.lookup ?_);show qy (pT ho hd ?_);show qy ?_;show aL _ _ (forIn items _ _) _ _ s;rw[<-W4];let ħ:∀v∈items.toList,v.scannable=ah:=by
  let:∀{x:Z κ}{vs:Z aw},ItemsAre Zl x vs->∀v∈vs,v.scannable=ah:=by
   intro x vs q
   induction q with
   |nil=>intro v hv;cases hv
   |cons h1 _ ih=>
    intro v hv;rcases cm.mp hv with rfl|hv
    .exact hsc _ _ h1
    .exact ih v hv
  show this hi
 show Il _ (λbX r s'=>s'=s/\∀v∈bX,v.scannable=ah) _ ?_ ?_ _ _ #[W,ħ]
 .rintro v bX r s' ⟨rfl,hv⟩;rw[W5 _ (hv v qh)];show qy (qB ?_);cases hp:plainKind v with
  |true=>
   simp only[iV,qt,cK];show qB #[W,λu hu'=>hv u (qi _ hu')]
  |false=>
   simp only[mm,cI]
   first|show qB (qB (h _))|show qB (h _)|show qy (qB (qB (qB (h _))))
 .rintro⟨r1,r2⟩ s' ⟨rfl,_⟩
  first|show qB (h _)|(cases r1<;>show qB (h _))
def FY{ks:Z κ}{Q:aJ->aH->Prop}(hk:IsTupleKey Zl s.heap ks a)(h:Q ar s):aL .(z) A (Im 8 (.ref a)) Q us s:=by
 let hT:=hk.typeIs;let⟨o,items,n,ho,_,hd,hi⟩:=hk;unfold Im;show qy (sS hT ?_);dsimp only;rw[qY .(b)];show qy (qB ?_);simp only[iV,qt,cK];show qy (pT ho hd ?_);show qy ?_;rw[<-W4];show Il _ (λbX r s'=>r.1=B/\s'=s/\∀v∈bX,W6 v=ah) _ ?_ ?_ _ _ #[W,W,hi.byValue]
 .rintro v bX r s' ⟨hr,rfl,hv⟩;let e:Im 7 v=bd ar:=by
   let:=hv v qh;cases v with
   |ref b=>simp[W6] at this
   |_=>rfl
  rw[e];show qy (qB ?_);simp only[qt,cK];show qB #[W,W,λu hu'=>hv u (qi _ hu')]
 .rintro⟨r1,r2⟩ s' ⟨hr,rfl,_⟩;simp only at hr;subst hr;show qB h
def N4{ks:Z κ}{Q:aJ->aH->Prop}(hk:IsTupleKey Zl s.heap ks a)(st:Z aw)(ý:∀y∈st,∃k b,y=.ref b/\IsTupleKey Zl s.heap k b)(h:Q ar s):aL .(z) A (searchCouldBeSeen (.ref a) st) Q us s:=by
 show qy ?_;show Il _ (λbX r s'=>r.1=B/\s'=s/\∀y∈bX,∃k b,y=.ref b/\IsTupleKey Zl s.heap k b) _ ?_ ?_ _ _ #[W,W,ý]
 .rintro v bX r s' ⟨hr,rfl,hv⟩;let⟨k,b,rfl,C⟩:=hv v qh;dsimp only;split
  .exact qB #[W,W,λu hu'=>hv u (qi _ hu')]
  .refine qy (W7 hk ?_);simp only[iV,qt,cK];show qy (W7 C ?_);simp only[iV,qt,cK];show qy (FY hk ?_);simp only[qt,cK];show qy (FY C ?_);simp only[qt,cK];show qB #[W,W,λu hu'=>hv u (qi _ hu')]
 .rintro⟨r1,r2⟩ s' ⟨hr,rfl,_⟩;simp only at hr;subst hr;show qB h
end
def ym{t:iw}{es:bK (aj×aw)}(T:Tb t es){p:Bi}{r:au SetTable.Met}(hp:t.probe hashAt h p=r)(hpp:p=gH (it t.mask h n))(hn:n<=n0)(hn0:n0<10*(t.mask+15))
  (hf:ao t.mask h n0∉t.place.toList)(ho:∀m,m<n0->ao t.mask h m∈t.place.toList):
  (∃n' i,n<=n'/\n'<n0/\t.place[i]?=U (ao t.mask h n')/\hashAt i=h/\(∀m i,n<=m->m<n'->t.place[i]?=U (ao t.mask h m)->hashAt i≠h)/\r=U (.candidate (ao t.mask h n') i (gH (it t.mask h (n'+1))))) \/
  ((∀m i,n<=m->m<n0->t.place[i]?=U (ao t.mask h m)->hashAt i≠h)/\r=U (.empty (ao t.mask h n0) B)):=by
 subst hpp;subst hp;show T.probe_go hashAt h hf ho (10*nT t.mask) n hn (by unfold nT;ext)
def Ug{t:iw}{es:bK (aj×aw)}(T:Tb t es){p:Bi}(hp:∀met,t.probe hashAt h p=U met->False)(hpp:p=gH (it t.mask h n))(hn:n<=n0)(hn0:n0<10*(t.mask+15))
  (hf:ao t.mask h n0∉t.place.toList)(ho:∀m,m<n0->ao t.mask h m∈t.place.toList):False:=by
 rcases ym T rfl hpp hn hn0 hf ho with⟨n',i,_,_,_,_,_,g6⟩|⟨_,g2⟩
 .exact hp _ g6
 .exact hp _ g2
section
variable[dE κ]{Zl:KeyKind prog w κ}
def rT(Zl:KeyKind prog w κ)(h:Heap)(es:bK (aj×aw)):Prop:=∀(i:ag)e,es[i]?=U e->∃k b,e=(bL Zl k,.ref b)/\IsTupleKey Zl h k b
def Mk.odd(h:Mk YK):(YK%2==0)=ar:=by rcases h with rfl|rfl|rfl|rfl<;>rfl
def MT{es:bK (aj×aw)}{t:iw}{k:Z κ}{Q:SetFound->aH->Prop}(hu:A.units<ck)(ho:s.heap.get? S=U o)(hd:o.data=.set es ep t)(T:Tb t es)(hM:Mk t.mask)
  (hk:IsTupleKey Zl s.heap k a)(he:rT Zl s.heap es)(hf:ao t.mask (bL Zl k) n0∉t.place.toList)(hocc:∀m,m<n0->ao t.mask (bL Zl k) m∈t.place.toList)(hn0:n0<10*(t.mask+15))
  (hyes:∀(i:ag)(b:av),es[i]?=U (bL Zl k,.ref b)->IsTupleKey Zl s.heap k b->Q (.there B) s)
  (Ó:(∀(i:ag)(b:av),es[i]?=U (bL Zl k,.ref b)->¬IsTupleKey Zl s.heap k b)->Q (.free .(v) ar) s):
  ∀(Zs n:ag)(Ź:au Bi),n0-n<Zs->n<=n0->(Ź.getD (t.probeStart (bL Zl k))=gH (it t.mask (bL Zl k) n))->
   (∀(m i:ag)(b:av),m<n->t.place[i]?=U (ao t.mask (bL Zl k) m)->es[i]?=U (bL Zl k,.ref b)->¬IsTupleKey Zl s.heap k b)->
   aL .(z) A (Io S (.ref a) (bL Zl k) ah Zs Ź) Q us s:=by
 intro Zs
 induction Zs with
 |zero=>intro n Ź h1;ext
 |succ Zs ih=>
  intro n Ź h1 h2 hs hw;show qy (kX ho hd T.fits ?_);dsimp only;let hg:t.gaveWay=ar:=hM.odd;rw[hg];simp only[qt,cK];split
  .rename_i met hp;rcases ym T hp hs h2 hn0 hf hocc with⟨n',i,g1,g2,g3,g4,g5,g6⟩|⟨g1,g2⟩
   .cases g6;let hi:i<es.size:=by let:=(ge.mp g3).1;rw[T.sz] at this;show this
    let ņ:es[i]?=U es[i]:=by simp[hi]
    let⟨k',b,e1,C⟩:=he i _ ņ;rw[e1] at ņ;let hh:bL Zl k'=bL Zl k:=by let g4':((es[i]?).map (·.1)).getD 0=bL Zl k:=g4;rw[ņ] at g4';show g4'
    rw[hh] at ņ;let bX:aL .(z) A (do
      let U (_,y):=es[i]? | unsupported "internal:set-entry"
      let equal ←lZ [y] (eqBool y (.ref a))
      let (Â,_,t') ←setState S
      if ah && equal then return .there B
      let U same:=t'.sameMemory t.moves t.mask|unsupported "set.changed-during-lookup:is-the-new-block-at-the-old-address"
      let still ←match (if same then t'.slot (ao t.mask (bL Zl k) n') else .empty) with
       |.live i'=>match Â[i']? with
        |some (_,y')=>do bd (if ←isSame y' y then U i' else B)
        |none=>bd B
       |_=>bd B
      match still with
      |none=>rule "set.search.anew";Io S (.ref a) (bL Zl k) ah Zs B
      |some i'=>if equal then return .there (U i') else Io S (.ref a) (bL Zl k) ah Zs (U (gH (it t.mask (bL Zl k) (n'+1))))) Q us s:=by
     rw[ņ];dsimp only;show qy (qV (wpAny_eqBool_tuple hu C hk ?_));show qy (kX ho hd T.fits ?_);dsimp only;by_cases Β:k'=k
     .subst Β;rw[qU W];simp only[wM,cI];show qB (hyes i b ņ C)
     .rw[qP Β];simp only[wM,qt,cK];let hsm:t.sameMemory t.moves t.mask=U ah:=by unfold SetTable.sameMemory;simp
      rw[hsm];dsimp only;simp only[cI];rw[T.live g3];dsimp only;rw[ņ];dsimp only;show qy (wpAny_isSame_ref_self ?_);simp only[cI];show qy (qB ?_);dsimp only;show ih (n'+1) _ .(c) .(c) W ?_;intro m i2 b2 hm Ń he2;by_cases h3:m<n
      .exact hw m i2 b2 h3 Ń he2
      .by_cases h4:m=n'
       .subst h4;let ei:i2=i:=by let q1:=T.live Ń;let q2:=T.live g3;rw[q1] at q2;injection q2
        subst ei;rw[ņ] at he2;cases he2;exactλz=>Β (C.inj z)
       .exfalso;show g5 m i2 .(c) .(c) Ń ?_;show((es[i2]?).map (·.1)).getD 0=_;rw[he2];rfl
    cases Ì:t.led with
    |true=>
     simp only[iV,qt,cK];show bX
    |false=>
     simp only[mm,cI];show qy (N4 hk _ (λy hy=>?_) ?_)
     .obtain⟨e,he1,rfl⟩:=bw.mp hy;let he2:e∈es.toList:=by let:=Hw.mp he1;rw[Array.mem_filter] at this;show Hw.mpr this.1
      let⟨j,hj,ej⟩:=wG.mp he2;let⟨k2,b2,q1,q2⟩:=he j e (by rw[<-qJ,qE hj,ej]);show#[k2,b2,by rw[q1],q2]
     .simp only[qt,cK];show bX
   .cases g2;dsimp only;show qB (Ó λi b ņ C=>?_);let hi:i<es.size:=(ge.mp ņ).1;let hpi:t.place[i]?=U t.place[i]! := by
     let:i<t.place.size:=by rw[T.sz];show hi
     simp[this]
    let⟨m,q1,q2⟩:=T.rc i _ _ _ hpi ņ;let Χ:ao t.mask (bL Zl k) m∈t.place.toList:=by rw[q1];rw[<-qJ] at hpi;show qR hpi
    let hm:m<n0:=by
     rcases WH m n0 with z|z|z
     .exact z
     .subst z;show bH Χ hf
     .exact bH (q2 n0 z) hf
    by_cases h3:m<n
    .exact hw m i b h3 (by rw[q1];show hpi) ņ C
    .refine g1 m i .(c) hm (by rw[q1];show hpi) ?_;show((es[i]?).map (·.1)).getD 0=_;rw[ņ];rfl
  .rename_i hp;show(Ug T hp hs h2 hn0 hf hocc).elim
structure TS(Zl:KeyKind prog w κ)(h:Heap)(ks:Z (Z κ))(o:Obj):Prop where
 cls:o.ExactSet
 ex:∃es ep t,o.data=.set es ep t/\Tb t es/\Mk t.mask/\rT Zl h es/\es.size=(dd ks).length/\(∀k∈dd ks,∃(i:ag)(b:av),es[i]?=U (bL Zl k,.ref b)/\IsTupleKey Zl h k b)/\∀(i:ag)(k:Z κ)(b:av),es[i]?=U (bL Zl k,.ref b)->IsTupleKey Zl h k b->k∈dd ks
def IsTupleKey.mono{h:Heap}{k:Z κ}(x:IsTupleKey Zl h k a)(q:∀o,h.get? a=U o->h'.get? a=U o):IsTupleKey Zl h' k a:=by let⟨o,items,n,h1,h2⟩:=x;show#[o,items,n,q o h1,h2]
def mJ{es:bK (aj×aw)}{e:aj×aw}:e∈es.toList↔∃i:ag,es[i]?=U e:=by
 constructor
 .intro h;let⟨i,hi,q⟩:=wG.mp h;show#[i,by rw[<-qJ,qE hi,q]]
 .rintro⟨i,h⟩;rw[<-qJ] at h;show qR h
def QM{ks:Z (Z κ)}{k:Z κ}{es:bK (aj×aw)}(hk:IsTupleKey Zl h0 k a)(hE:rT Zl h0 es)(ô:es.size=(dd ks).length)(Į:∀k∈dd ks,∃(i:ag)(b:av),es[i]?=U (bL Zl k,.ref b)/\IsTupleKey Zl h0 k b)
  (hout:∀(i:ag)(k:Z κ)(b:av),es[i]?=U (bL Zl k,.ref b)->IsTupleKey Zl h0 k b->k∈dd ks)(ń:k∉dd ks)(mem:∀e,e∈Â.toList↔e=(bL Zl k,.ref a)\/e∈es.toList)(size:Â.size=es.size+1):
  rT Zl h0 Â/\Â.size=(dd (ks++[k])).length/\(∀k'∈dd (ks++[k]),∃(i:ag)(b:av),Â[i]?=U (bL Zl k',.ref b)/\IsTupleKey Zl h0 k' b)/\∀(i:ag)(k':Z κ)(b:av),Â[i]?=U (bL Zl k',.ref b)->IsTupleKey Zl h0 k' b->k'∈dd (ks++[k]):=by
 rw[sy,qZ ń];show#[λi e he=>?_,by rw[size,ô,ql,pH],λk' hk'=>?_,λi k' b he C=>?_]
 .rcases(mem e).mp (mJ.mpr #[i,he]) with rfl|q
  .exact#[k,a,W,hk]
  .obtain⟨j,q⟩:=mJ.mp q;show hE j e q
 .rcases cY.mp hk' with q|q
  .obtain⟨i,b,q1,q2⟩:=Į k' q;let⟨j,q3⟩:=mJ.mp ((mem _).mpr (.inr (mJ.mpr #[i,q1])));show#[j,b,q3,q2]
  .rw[bM.mp q];let⟨j,q3⟩:=mJ.mp ((mem _).mpr (.inl rfl));show#[j,a,q3,hk]
 .rcases(mem _).mp (mJ.mpr #[i,he]) with q|q
  .let e:b=a:=by let:=(W8 q).2;injection this
   subst e;show cY.mpr (.inr (bM.mpr (C.inj hk)))
  .obtain⟨j,q⟩:=mJ.mp q;show cY.mpr (.inl (hout j k' b q C))
def vm{h:Heap}{es:bK (aj×aw)}{t t':iw}(ho:h.get? S=U o)(hd:o.data=.set es ep t):(h.update S (Bm Â t')).get? S=U {o with data:=.set Â (ep+1) t'}:=by
 let q:=tH (Bm Â t') ho (by rw[putSet_of Â t' hd];rfl)
 rwa [putSet_of Â t' hd] at q
set_option maxHeartbeats 1000000 in
def L0{ks:Z (Z κ)}{k:Z κ}{Q:aJ->aH->Prop}(hsc:∀v k,Zl.is k v=ah->v.scannable=ah)(hu:A.units<ck)(ho:s.heap.get? S=U o)(T:TS Zl h0 ks o)(hk:IsTupleKey Zl h0 k a)
  (hB:∀b o,h0.get? b=U o->s.heap.get? b=U o)(Y5:ks.length<=300)
  (h:∀b h' tk o',s.toks<=tk->gW S s.heap h'->h'.get? S=U o'->TS Zl h0 (ks++[k]) o'->Q b {s with heap:=h',toks:=tk}):aL .(z) A (setAdd S (.ref a)) Q us s:=by
 let⟨hc,es,ep,t,hd,TB,hM,hE,ô,Į,hout⟩:=T;let up:∀{k:Z κ}{b:av},IsTupleKey Zl h0 k b->IsTupleKey Zl s.heap k b:=λq=>IsTupleKey.mono q λo e=>hB _ _ e;let down:∀{k k':Z κ}{b:av},IsTupleKey Zl h0 k' b->IsTupleKey Zl s.heap k b->k=k':=λq1 q2=>q2.inj (up q1);let hE':rT Zl s.heap es:=λi e he=>by let⟨k,b,q1,q2⟩:=hE i e he;show#[k,b,q1,up q2]
 let hddl:=mz ks;let⟨n0,f1,f2,f3⟩:=TB.first (bL Zl k);show qV (qy (wpAny_pyHash_tuple hu (up hk) ?_));show qV (qy (kX ho hd TB.fits ?_));dsimp only;rw[show byScan (.ref a) es=ar from W];simp only[qt,cK];show qy (MT (s:={s with toks:=s.toks+(k.length+1)}) hu ho hd TB hM (up hk) hE' f2 f3 f1 (λi b ņ C=>?_) (λħ=>?_) 100000 0 B ?_ (fy _) W (λm i b hm=>by ext))
 ·
  dsimp only;let⟨k',b',q1,q2⟩:=hE i _ ņ;let:b'=b:=by let:=(W8 q1).2;injection this with e;show e.symm
  subst this;let ek:=down q2 C;subst ek;let Χ:=hout i k _ ņ q2;show qB (h ar s.heap _ o (by show s.toks<=s.toks+(k.length+1);ext) (A8 S s.heap) ho #[hc,es,ep,t,hd,TB,hM,hE,?_]);rw[sy,qY Χ];show#[ô,Į,hout]
 ·
  dsimp only;let ń:k∉dd ks:=λhm=>by let⟨i,b,q1,q2⟩:=Į k hm;show ħ i b q1 (up q2)
  let Zo:bY t.place .(v)<=es.size:=by let:=(oQ t.place .(v) TB.ri).1;rw[TB.sz] at this;show this
  let Χ:∀e,e∈(cq es (bY t.place .(v)) (bL Zl k,cU a)).toList↔e=(bL Zl k,cU a)\/e∈es.toList:=λe=>by rw[li _ _ _ Zo];show yP _ _ _ _
  let ē:(cq es (bY t.place .(v)) (bL Zl k,cU a)).size=es.size+1:=by let:=bP cM (li es _ (bL Zl k,cU a) Zo);simp only[fu,ql,qj,qF,iu] at this;ext
  let hpsz:(cq t.place (bY t.place .(v)) .(v)).size=es.size+1:=by let:=bP cM (li t.place _ .(v) (by rw[TB.sz];show Zo));let h3:=TB.sz;simp only[fu,ql,qj,qF,iu] at this;ext
  show qy (kX ho hd TB.fits ?_);dsimp only;let Zz:∀(Â:bK (aj×aw))(t':iw)(h':Heap)(o':Obj),Tb t' Â->Mk t'.mask->(∀e,e∈Â.toList↔e=(bL Zl k,cU a)\/e∈es.toList)->Â.size=es.size+1->gW S s.heap h'->h'.get? S=U o'->o'.ExactSet->(∃ep',o'.data=.set Â ep' t')->Q ah {s with heap:=h',toks:=s.toks+(k.length+1)}:=λÂ t' h' o' q1 q2 q3 q4 q5 q6 q7 q8=>by let⟨ep',q8⟩:=q8;let⟨w1,w2,w3,w4⟩:=QM hk hE ô Į hout ń q3 q4;show h ah h' _ o' .(c) q5 q6 #[q7,Â,ep',t',q8,q1,q2,w1,w2,w3,w4]
  let bX:∀pl:aJ,aL .(z) A (do
    storeSet S (cq es (t.put .(v)).2 (bL Zl k,cU a)) { (t.put .(v)).1 with plain:=pl}
    if (!ar && mq { (t.put .(v)).1 with plain:=pl})=ah then do
     setRelay S (tE (es.size+1))
     bd ah
    else bd ah) Q us {s with toks:=s.toks+(k.length+1)}:=λpl=>by
   show qy (Bo ho hd ?_ (by show(cq es (bY t.place .(v)) (bL Zl k,cU a)).size<=aK;rw[ē,eW];ext));let hg1:=vm (Â:=cq es (t.put .(v)).2 (bL Zl k,cU a)) (t':={ (t.put .(v)).1 with plain:=pl}) ho hd;let hsb1:=mr s.heap S (Bm (cq es (t.put .(v)).2 (bL Zl k,cU a)) { (t.put .(v)).1 with plain:=pl});let hdum:(t.put .(v)).1.dummies=#[]:=by show(if Bg t.dummies _ then _ else t.dummies)=#[];rw[TB.dm];rfl
   let ė:Ie { (t.put .(v)).1 with plain:=pl}=es.size+1:=by show(cq t.place _ _).size+(t.put .(v)).1.dummies.size=_;rw[hdum];show hpsz
   by_cases few:(es.size+1)*5<t.mask*3
   .let Ė:mq { (t.put .(v)).1 with plain:=pl}=ar:=by unfold mq;rw[ė];show qP (by show ¬((es.size+1)*5 ≥ t.mask*3);ext)
    rw[Ė];simp only[mm,AW,qt,cK];show qB (Zz _ _ _ _ (TB.put f2 f3 few pl) hM Χ ē hsb1 hg1 hc #[_,W])
   .let Ė:mq { (t.put .(v)).1 with plain:=pl}=ah:=by unfold mq;rw[ė];show qU (by show((es.size+1)*5 ≥ t.mask*3);ext)
    rw[Ė];simp only[mm,W9,cI];let⟨m1,m2,m3⟩:=hM.grow TB.few few .(c);let Ņ:(cq es (t.put .(v)).2 (bL Zl k,cU a)).size=es.size+1:=ē;let⟨t',Ñ,r1,r2,r3,r4,r5,r6⟩:=vk.relaid m1.full (by rw[Ņ];show m2);let hfits:pO { (t.put .(v)).1 with plain:=pl} (cq es (t.put .(v)).2 (bL Zl k,cU a)).size=ah:=by unfold pO;rw[ė,Ņ,dB];let:=TB.few;show#[by rw[kL];show hpsz,qU (by show es.size+1<=t.mask;ext)]
    show qy ?_;show qy (kX hg1 W hfits ?_);dsimp only;rw[qZ (by rw[eW];ext),r1];show qy ?_;show aL _ _ (if ((Ñ.filterMap ((cq es (t.put .(v)).2 (bL Zl k,cU a))[·]?)).size != (cq es (t.put .(v)).2 (bL Zl k,cU a)).size)=ah then _ else _) _ _ _;rw[qZ (by rw[r2];simp)];show qB ?_;dsimp only;show Bo hg1 W ?_ (by rw[r2,Ņ,eW];ext);show qB (Zz _ t' _ _ r3 (by rw[r5];show m1) (λe=>(r4 e).trans (Χ e)) (by rw[r2,Ņ]) (hsb1.trans (mr _ S _)) (vm hg1 W) hc #[_,W])
  split
  .refine qy (SG (up hk) hsc λbv=>?_);cases bv
   .exact bX ar
   .exact bX _
  .refine qy (qB ?_);show bX _
 .show n0-0<100000;let:t.mask<=511:=by rcases hM with e|e|e|e<;>ext
  ext
end
end ST
section
open ST
instance (priority:=high) keyBEq:BEq YQ:=W'
instance (priority:=high) keyLaw:LawfulBEq YQ:=inferInstanceAs (@LawfulBEq YQ W')
def Ef(n:ag)(o:Obj):Prop:=o.ExactSet/\∃es ep t,o.data=.set es ep t/\t.fits es.size=ah/\es.size=n
def m8(p:av)(n:ag):HO:=.ext λh=>∃o,h.get? p=U o/\Ef n o
def Ed(v:aw)(k:YQ)(h:(cS P w).is k v=ah):v.scannable=ah:=by rcases jq h with⟨i,t,rfl,rfl⟩|⟨x,t,rfl,rfl⟩<;>rfl
def LH:Z V->Hp->VK->Prop:=λxs H Q=>∃a vs,xs=[.ref a]/\H a=U (.lst vs)/\vs.length<=300 /\
 ((∃ks:Z YQ,vs=ks.map kV/\∀p,H p=B->Q (.ref p) (YZ H p (m8 p (dd ks).length))) \/
 (∃ts:Z (Z YQ),vs.length=ts.length/\(∀(i:ag)t,ts[i]?=U t->∃b,vs[i]?=U (.ref b)/\H b=U (.tup (t.map kV)))/\∀p,H p=B->Q (.ref p) (YZ H p (m8 p (dd ts).length))))
def Nr(hc:X.calm=ah)(hu:X.A.units+66<ck):dZ X (.type "set") LH:=by
 intro Z' s L H xs E Q I r h;let⟨a,vs,rfl,ha,hl,h⟩:=h;let⟨u,rfl,ru⟩:=eR r;cases ru;let⟨YY,rv,pl,hz⟩:=I.list (.inl (.inl ha));let Y5:=rv.length;let Zz:∀(n:ag)(h':Heap)(tk:ag)(o:Obj),h'.get? s.heap.objs.size=U o->Ef n o->(∀b o,b<s.heap.objs.size->s.heap.get? b=U o->h'.get? b=U o)->
   (∀p,H p=B->Q (.ref p) (YZ H p (m8 p n)))->EP X Z' L Q (.ref s.heap.objs.size) {s with heap:=h',toks:=tk}:=λn h' tk o ho hn hk q=>by
  show#[.ref s.heap.objs.size,_,I.laid (λb u e=>hk b u (qw e) e) (qx _) ?_,W,q _ I.fresh];show#[#[o,ho,hn],#[o,ho],λh1 h2 hp hk2=>?_];let⟨o1,q1,q2⟩:=hp;show#[o1,hk2 o1 q1,q2]
 rcases h with⟨ks,rfl,q⟩|⟨ts,ht,hts,q⟩
 ·
  let hkl:ks.length=YY.length:=by rw[<-Y5,qg]
  show z4 (I.ok.hd hc) pl.isList (λi o=>o.SetObjOf (cS X.prog X.w) (λk=>decide (k∈dd (ks.take i))) (dd (ks.take i)).length) ?_ (λA' hA' i v sh o Q' E' hi hv ho hJ hB hQ=>?_) λh' tk o ho hJ hk=>?_
  .let:=setObjOf_fresh (knd:=cS X.prog X.w) (!X.w.params.followText "set-order");simpa[dd] using this
  .let Ħ:i<ks.length:=by rw[qC] at hi;ext
   let⟨u2,hu2,ru2⟩:=rv.get (i:=i) (x:=kV ks[i]) (by simp[Ħ]);let ev:v=u2:=by
    let ú:YY[i]?=U v:=by simpa using hv
    rw[hu2] at ú;show(qI ú).symm
   subst ev;let ĥ:=jK (P:=X.prog) (w:=X.w) ru2;let hle:(dd (ks.take i)).length<=300:=by let h1:=mz (ks.take i);rw[qF] at h1;rw[qg] at hl;ext
   show qV (qy ((cS X.prog X.w).pyHash ĥ ?_));show wpAny_setAddHashed_of ĥ (Ed _ _ ĥ) (hJ.setOf ho (by unfold scanBound;ext)) (by unfold scanBound;ext) λh' ŭ hS2=>?_;let⟨o',Ĕ,hso⟩:=hS2.objOf;show hQ _ h' _ o' (kO _) ŭ Ĕ ?_;let Ŏ:ks.take (i+1)=ks.take i++[ks[i]]:=by rw[kY,qE Ħ];rfl
   show Obj.SetObjOf (cS X.prog X.w) o' (λk=>decide (k∈dd (nS (i+1) ks))) (dd (nS (i+1) ks)).length;rw[Ŏ,sy];by_cases hm:ks[i]∈dd (ks.take i)
   .rw[qY hm];rw[qY (by simpa using hm)] at hso;let e:(λk'=>decide (k'∈dd (ks.take i)) || decide (k'=ks[i]))=λk'=>decide (k'∈dd (ks.take i)):=by
     funext k'
     by_cases hk':k'=ks[i]
     .subst hk';simp[hm]
     .simp[hk']
    rw[e] at hso;show hso
   .rw[qZ hm];rw[qZ (by simpa using hm)] at hso;let e:(λk'=>decide (k'∈dd (ks.take i)) || decide (k'=ks[i]))=λk'=>decide (k'∈dd (ks.take i)++[ks[i]]):=by
     funext k'
     rw[kK];simp
    rw[e] at hso;simpa using hso
  .let e:ks.take YY.toArray.size=ks:=by rw[qC,<-hkl];show fz
   rw[e] at hJ;let hS:=hJ.setOf ho (by let:=mz ks;rw[qg] at hl;unfold scanBound;ext);let⟨o1,es,ep,t,v0,v1,v2,_,_,_,v3,v4⟩:=hS;rw[ho] at v0;cases v0;show Zz _ h' tk o ho #[v1,es,ep,t,v2,v3,v4] hk q
 ·
  let hkl:ts.length=YY.length:=by rw[<-Y5,ht]
  show z4 (I.ok.hd hc) pl.isList (λi o=>ST.TS (cS X.prog X.w) s.heap (ts.take i) o) ?_ (λA' hA' i v sh o Q' E' hi hv ho hJ hB hQ=>?_) λh' tk o ho hJ hk=>?_
  .refine#[#[W,W,W],#[],0,kZ 0 0 (!X.w.params.followText "set-order"),W,?_,.inl W,λi e he=>by simp at he,W,λk hk=>by simp[dd] at hk,λi k b he=>by simp at he];show#[xh,W,W,by simp[kZ],by simp[kZ],by simp[kZ],λi j h x hp=>by simp[kZ] at hp]
  .let Ħ:i<ts.length:=by rw[qC] at hi;ext
   let⟨b,š,ŏ⟩:=hts i ts[i] (by simp[Ħ]);let⟨u2,hu2,ru2⟩:=rv.get š;let ev:v=u2:=by
    let ú:YY[i]?=U v:=by simpa using hv
    rw[hu2] at ú;show(qI ú).symm
   subst ev;cases ru2;let ĥ:=kq I.hok ŏ;let Ŏ:ts.take (i+1)=ts.take i++[ts[i]]:=by rw[kY,qE Ħ];rfl
   show L0 (λv k=>Ed v k) .(c) ho hJ ĥ (λb' o' e=>hB b' o' (qw e) e) (by rw[qF];let:=hl;ext) λbb h' tk o' h1 h2 h3 h4=>hQ bb h' tk o' h1 h2 h3 (by show ST.TS _ _ (nS (i+1) ts) o';rw[Ŏ];show h4)
  .let e:ts.take YY.toArray.size=ts:=by rw[qC,<-hkl];show fz
   rw[e] at hJ;let⟨χ,es,ep,t,w1,w2,w3,w4,w5,w6,w7⟩:=hJ;show Zz _ h' tk o ho #[χ,es,ep,t,w1,w2.fits,w5] hk q
def Oq:dZ X (.builtin "len") (λxs H Q=>∃p n,xs=[.ref p]/\H p=U (m8 p n)/\n<=300/\Q (.int n) H):=by intro Z' s L H xs E Q I r h;let⟨p,n,rfl,hp,hn,q⟩:=h;let⟨u,rfl,ru⟩:=eR r;cases ru;let⟨⟨o,ho,hex,es,ep,t,w1,w2,w3⟩,_,_⟩:=I.hok p _ hp;show call_len_set ho hex w1 w2 .(c) #[.int n,H,I.tok _,#[_,by rw[w3]],q]
end
variable{Ŕ:dn}
section
open ST
def oK:Z D->au (Z (Z YQ))
 |[]=>U []
 |.tup t::r=>(fg t).bind λk=>(oK r).map (k::·)
 |_::_=>B
def C0{O:Cn}{K:aT}{G H:Hp}(gh:aY G H):∀{vs:Z V}{ds:Z D}{ts:Z (Z YQ)},YN O K G vs ds->oK ds=U ts->vs.length=ts.length/\∀(i:ag)t,ts[i]?=U t->∃b,vs[i]?=U (.ref b)/\H b=U (.tup (t.map kV))
 |_,[],ts,r,h=>by cases r;cases h;show#[W,λi t e=>by simp at e]
 |_,d::ds,ts,.cons h1 h2,h=>by
  cases d with
  |tup t=>
   let⟨k,hk,h⟩:=ZE h;let⟨zs,hz,rfl⟩:=Za h;let⟨a,E,rfl,ha,ra⟩:=h1.tup_inv;let e:=kD ra hk;subst e;let⟨q1,q2⟩:=C0 gh h2 hz;show#[by rw[qj,qj,q1],λi t' e=>?_];cases i with
   |zero=>cases e;show#[a,W,gh _ _ ha]
   |succ i=>show q2 i t' e
  |_=>cases h
def pc:D->au D
 |.lst l=>if l.length<=300 then match fg l with
  |some ks=>U (.int (dd ks).length)
  |none=>(oK l).map λts=>.int (dd ts).length
  else B
 |_=>B
def OX(hc:X.calm=ah)(hu:X.A.units+66<ck)(hgl:Gl X "len")(hml:X.mg "len"=B)(hgs:Gl X "set")(hms:X.mg "set"=B)(h:DE O X e f)
  (h1:aP ([.Call (.Name "set" p2) [e] [] Ŕ]:Z Expr) X.env=(ar,eval (.Call (.Name "set" p2) [e] [] Ŕ) X.env)::aP [] X.env:=by rfl)(h2:(ci pos (aP [] X.env)).any (·.1)=ar:=by rfl)
  (h3:aP ([e]:Z Expr) X.env=(ar,eval e X.env)::aP [] X.env:=by rfl)(h4:(ci Ŕ (aP [] X.env)).any (·.1)=ar:=by rfl):
  DE O X (.Call (.Name "len" p) [.Call (.Name "set" p2) [e] [] Ŕ] [] pos) (b1 pc f):=⟨by
 show(yO Oq hgl hml (by rfl) (jh (wf (Nr hc hu) hgs hms (by rfl) (jh h.1 jJ h3) .(b) .(b) h3 h4) jJ h1) .(b) .(b) h1 h2).imp λL H Q=>?_;rintro⟨Z8,Z9,G,Y,d,A,hq,k⟩;let⟨x,hx,hl⟩:=ZE hq;clear hq;show#[Z8,Z9,G,Y,x,A,hx,λv G1 H1 s1 r1=>?_];unfold pc at hl;split at hl
 .rename_i l;split at hl
  .rename_i hz;let⟨a,vs,rfl,ha,ra⟩:=r1.lst_inv;let go:∀(n:ag),n<=300->d=.int n->∀p,H1 p=B->∃p' n',[V.ref p]=[V.ref p']/\(YZ H1 p (m8 p n)) p'=U (m8 p' n')/\n'<=300/\Q (.int n') (YZ H1 p (m8 p n)):=λn hn ed p hp=>by subst ed;show#[p,n,W,bf,hn,k _ G1 _ (s1.trans (Step.newOwn s1.gh hp)) (.int _)]
   show#[a,vs,W,s1.gh _ _ ha,by rw[ra.length];show hz,?_];split at hl
   .rename_i ks hk;show .inl #[ks,kD ra hk,go _ ?_ (qI hl).symm];let h5:=mz ks;let h6:ks.length=l.length:=by let:=kD ra hk;rw[<-ra.length,this,qg]
    ext
   .obtain⟨ts,ht,e1⟩:=Za hl;let⟨q1,q2⟩:=C0 s1.gh ra ht;show .inr #[ts,q1,q2,go _ ?_ e1.symm];let h5:=mz ts;let h6:=ra.length;ext
  .cases hl
 .cases hl⟩
end
namespace DT
def IT:wB (.type "list") "keys"=bd B:=by rw[tI,tJ];kernel_rfl
def NM:wB (.type "list") "__getattr__"=bd B:=by rw[tI,tJ];kernel_rfl
theorem Kn{u:Tok}{R:l5->aH->Prop}{xs:bK aw}(hx:s.heap.get? l=U {cls:=.type "list",data:=.seq xs n})(hA:A.handled=B)
  (h:∀h' tk e,Heap.NewAttrErr s.heap h' e (.ref l) "keys"->R (.error (.ref e)) {s with heap:=h',toks:=tk}):
  gF .(z) A (.call (.builtin "list.__getattribute__") #[[.ref l,.str "keys" u],[]]) R s:=by
 let⟨hp,g,d,tk,os⟩:=s;let hT:(#[hp,g,d,tk,os]:aH).TypeIs (.ref l) "list":=#[_,hx,W];let f1:=IT;show W3 Bp.plain F.entry_list_ga (Bp.check _ _ _ _ _ _ _ _ hT (F.args_list_getattribute_2 _ _) ?_)
 repeat (any_goals (first|assumption|wp_step))
 let ô:(tK "keys").length+100<=aK:=by rw[PySem.ofString_length];decide
 show wpAny_raiseAttrError hA h ?_;show attrMsg_fits .(b) ô
set_option maxHeartbeats 4000000 in
def PL{Q:au aw->aH->Prop}{xs:bK aw}(hx:s.heap.get? l=U {cls:=.type "list",data:=.seq xs n})(hA:A.handled=B)
  (h:∀h' tk,(∀b ob,s.heap.get? b=U ob->h'.get? b=U ob)->Q B {s with heap:=h',toks:=tk}):
  aL .(z) A (getAttr? (.ref l) "keys") Q us s:=by
 let⟨hp,g,d,tk,os⟩:=s;let hT:∀tk',(#[hp,g,d,tk',os]:aH).TypeIs (.ref l) "list":=λ_=>#[_,hx,W];let f1:=sub_AttributeError;let f2:=Bp.lookup;let f3:=Bp.bind (.ref l);let f5:=NM;show qy (wpAny_mkText ?_);show qy (wN ?_);show qV (qy (sS (hT _) (qy (pQ f2 ?_))));show qy (qB ?_);show qy (wN (qV ?_));show aL _ _ (boundAndCalled _ _ _) _ _ _;show qy (pQ f3 ?_);show AK (Kn hx hA λh' tk' e hn=>?_);let⟨t',u',he⟩:=hn.there;let hE:Bk #[h',g,d,tk',os] (.ref e) "AttributeError":=#[_,he,W];show qy (wO hE f1 ?_);simp only[cI];show qy (pQ f5 ?_);unfold hookOrError attributeErrorLeaves;simp only[mm,cI];show qy (Ip ?_);show qy (wO hE f1 ?_);simp only[cI];show qB (h h' tk' hn.keeps)
def EG:Bq table "dict.update.loop"=U Builtin.«dict.update.loop»:=Xa (by kernel_rfl)
def uG:plainId "dict.update.loop"=ah:=by decide +kernel
section
variable{R:l5->aH->Prop}{G:bK sL->bK sL->Prop}{P:ag->aw->Prop}{St:ag->aH->Prop}
def B7(prog:dD)(w:cD)(A:cH)(S:av)(h0:Heap)(P:ag->aw->Prop)(n:ag)(ao:ag->Obj->Prop):Prop:=
 ∀(i:ag)(b:av)(kv vv:aw)(s:aH)(o:Obj)(Q:lY->aH->Prop)(us:aw->aH->Prop),i<n->P i (.ref b)->h0.IsTuple b [kv,vv].toArray->s.heap.get? S=U o->ao i o->(∀b o,b<h0.objs.size->h0.get? b=U o->s.heap.get? b=U o)->
  (∀h' tk o',s.toks<=tk->gW S s.heap h'->h'.get? S=U o'->ao (i+1) o'->Q () {s with heap:=h',toks:=tk})->aL .(z) A (dictSet S kv vv) Q us s
def Sg(YJ:WalksS prog w A.in1 I fp wr G n P St)(S:av)(ř:S∉fp)(h0:Heap)(hS0:h0.objs.size<=S)(hw0:∀b∈wr,h0.objs.size<=b)(ao:ag->Obj->Prop)(Ű:B7 prog w A.in1 S h0 P n ao)(hP:∀i v,P i v->∃b kv vv,v=.ref b/\h0.IsTuple b [kv,vv].toArray):
  ∀(k i:ag)(c:aj)(s:aH)(o:Obj),n-i=k->i<=n->St i s->s.heap.get? S=U o->ao i o->(∀b o,b<h0.objs.size->h0.get? b=U o->s.heap.get? b=U o)->
   (∀s' o',Moved (S::wr) G s s'->s'.heap.get? S=U o'->ao n o'->R (.ok (.ret .none)) s')->
   gF .(z) A (.builtin "dict.update.loop" #[[.ref S,.ref I,jU c,.none],[]]) R s:=by
 let hSw:S∉wr:=λh=>ř (YJ.sub _ h);let Ĥ:∀b∈wr,b∈S::wr:=λb C=>qi _ C;let keep:∀{h h':Heap},(∀b o,b<h0.objs.size->h0.get? b=U o->h.get? b=U o)->(∀b o,b∉S::wr->h.get? b=U o->h'.get? b=U o)->∀b o,b<h0.objs.size->h0.get? b=U o->h'.get? b=U o:=λq1 q2 b o C e=>q2 b o (λz=>by
  rcases cm.mp z with z|z
  .rw[z] at C;show bH C (HW.mpr hS0)
  .exact bH C (HW.mpr (hw0 b z))) (q1 b o C e)
 intro k
 induction k with
 |zero=>
  intro i c s o hk hi ý hS hJ hB hR;let Į:i=n:=by ext
  subst Į;show kW EG ?_;rw[mi uG _];show qy (YJ.done s _ _ ý λs' hm=>?_);show qy (qB (qB (hR s' o (hm.mono Ĥ) (hm.heap S _ hSw hS) hJ)))
 |succ k ih=>
  intro i c s o hk hi ý hS hJ hB hR;let Zu:i<n:=by ext
  show kW EG ?_;rw[mi uG _];show qy (YJ.item i s _ _ Zu ý λv s' hPv hst' hm=>?_);let⟨b,kv,vv,rfl,C⟩:=hP i v hPv;let hB':=keep hB λb o C e=>hm.heap b o (λz=>C (Ĥ b z)) e;let⟨ob,π,hoc,nn,hod⟩:=C;let hob':s'.heap.get? b=U ob:=hB' b ob (qw π) π;let hTb:s'.TypeIs (.ref b) "tuple":=#[_,hob',hoc];show qy (qV ?_);show qy ?_;show tL ?_;show qy (sS hTb ?_);rw[qY .(b)];show qy (pT hob' hod (qB ?_));show qV (Ű i b kv vv s' o _ _ Zu hPv #[ob,π,hoc,nn,hod] (hm.heap S _ hSw hS) hJ hB' λh' tk o' Ŏ ŭ hS' hJ'=>?_);show qB #[mj uG _,ih (i+1) (c+1) _ o' .(c) Zu (YJ.frame _ s' _ _ hst' Ŏ λb C o e=>?_) hS' hJ' ?_ λs'' o'' hm'' hS'' hJ''=>?_]
  .rw[ŭ.2 b (λh:b=S=>ř (by rw[<-h];show C))];show e
  .refine keep hB' λb o C e=>?_;rw[ŭ.2 b (λh:b=S=>C (by rw[h];show qh))];show e
  .refine hR s'' o'' (W0 YJ.gtrans ((hm.mono Ĥ).then_heap Ŏ λb o C e=>?_) hm'') hS'' hJ'';rw[ŭ.2 b (λh:b=S=>C (by rw[h];show qh))];show e
end
def call_dict_gen{c:ag}(hh:A.handled=B)(hl:s.heap.get? l=U {cls:=.type "list",data:=.seq items c})(ao:ag->Obj->Prop)
  (hJ0:ao 0 {cls:=.type "dict",data:=.dict #[]})
  (Ű:∀A':cH,A'.units<=A.units+16->B7 prog w A' s.heap.objs.size s.heap (λi v=>items[i]?=U v) items.size ao)
  (hP:∀(i:ag)(v:aw),items[i]?=U v->∃b kv vv,v=.ref b/\s.heap.IsTuple b [kv,vv].toArray)
  (h:∀(h':Heap)(tk:ag)(o:Obj),h'.get? s.heap.objs.size=U o->ao items.size o->
   (∀b o,b<s.heap.objs.size->s.heap.get? b=U o->h'.get? b=U o)->Q (.ref s.heap.objs.size) {s with heap:=h',toks:=tk}):
  aL .(z) A (call (.type "dict") [.ref l]) Q us s:=by
 show callType_codes (Q₁:=λobj Z7=>obj=.ref s.heap.objs.size/\Z7={s with heap:=s.heap.push {cls:=.type "dict",data:=.dict #[]} }) F.kt_called_dict (F.kt_typeCall_dict_1 _) F.entry_dict_init (kt_code_dict_new _ #[rfl,rfl]) ?_;rintro obj Z7 ⟨rfl,rfl⟩;let ń:(s.heap.push {cls:=.type "dict",data:=.dict #[]}).get? s.heap.objs.size=U {cls:=.type "dict",data:=.dict #[]}:=qH _ W;let hl1:(s.heap.push {cls:=.type "dict",data:=.dict #[]}).get? l=U {cls:=.type "list",data:=.seq items c}:=qv _ hl;let hT:Bk {s with heap:=s.heap.push {cls:=.type "dict",data:=.dict #[]} } (.ref s.heap.objs.size) "dict":=#[_,ń,rfl];let hTl:Bk {s with heap:=s.heap.push {cls:=.type "dict",data:=.dict #[]} } (.ref l) "list":=#[_,hl1,rfl];show#[hT,F.args_dict_init_2 _ _,?_];show qy ?_;show qy (Xb hT ?_);show qB ?_;show aL _ _ (Yz "dict.__init__" s.heap.objs.size (.ref l) [] .none) _ _ _;show qy (sS hTl ?_);rw[qY .(b)];show qy (PL hl1 hh λh1 tk1 hk1=>?_);simp only[Option.isNone_none,cI];show qy (Iq ?_);let ς:h1.IsList l items:=#[_,hk1 _ _ hl1,W,_,W];show qy (nQ ς ?_);show qB #[mj uG _,?_];let hlS:l<s.heap.objs.size:=qw hl;let hsz1:s.heap.objs.size<h1.objs.size:=qw (hk1 _ _ ń);let hneI:l≠h1.objs.size:=qD (sW hlS hsz1);let ř:s.heap.objs.size∉[h1.objs.size,l]:=by simp only[qN,bM,qL,or_false,tG];show#[qD hsz1,AD hlS]
 let Ż:∀b o,b<s.heap.objs.size->s.heap.get? b=U o->h1.get? b=U o:=λb o _ e=>hk1 _ _ (qv _ e);show Sg ((tp (by simpa using hh) _ l hneI items).toS) s.heap.objs.size ř s.heap (qx _) (λb C=>?_) ao (Ű _ (by show A.units+2<=_;ext)) hP (items.size-0) 0 0 _ _ .(c) (fy _)
  #[#[_,qH _ W,W,W],ς.push _] (qv _ (hk1 _ _ ń)) hJ0 (λb o C e=>qv _ (Ż b o C e)) λs' o' hm hS' hJ'=>?_
 .let:b=h1.objs.size:=by simpa using C
  rw[this];show sK hsz1
 .obtain⟨h',g',d',tk',os'⟩:=s';let eg:g'=s.gens:=hm.gens;let ed:d'=s.drawn:=hm.drawn;let eo:os'=s.os:=hm.os;subst eg;subst ed;subst eo;show#[W,h h' tk' o' hS' hJ' λb o C e=>hm.heap b o ?_ (qv _ (Ż b o C e))];simp only[qN,bM,qL,or_false,tG];show#[qD C,qD (sW C hsz1)]
end DT
section
variable[dE κ]
def Ũ(YL ps:Z (κ×V)):Z (κ×V):=ps.foldl (λYT kv=>putK YT kv.1 kv.2) YL
def En(YL ps:Z (κ×V))(p:κ×V):Ũ YL (ps++[p])=putK (Ũ YL ps) p.1 p.2:=by unfold Ũ;rw[Bl];rfl
def Sx(YL:Z (κ×V))(k:κ)(v:V):(putK YL k v).length<=YL.length+1:=by
 unfold putK;split
 .rw[qg];ext
 .rw[ql,pH];ext
def u9:∀(ps YL:Z (κ×V)),(Ũ YL ps).length<=YL.length+ps.length:=by
 intro Y7
 induction Y7 with
 |nil=>
  intro YL;show qx _
 |cons p ps ih=>
  intro YL;let h1:=ih (putK YL p.1 p.2);let h2:=Sx YL p.1 p.2;show(Ũ (putK YL p.1 p.2) ps).length<=_;rw[qj];ext
end
def Ll:Z V->Hp->VK->Prop:=λxs H Q=>∃(a:av)(vs:Z V)(ps:Z (YQ×V)),xs=[.ref a]/\H a=U (.lst vs)/\vs.length=ps.length/\ps.length<=1000/\(∀(i:ag)p,ps[i]?=U p->∃b,vs[i]?=U (.ref b)/\H b=U (.tup [kV p.1,p.2])) /\
 ∀q,H q=B->Q (.ref q) (YZ H q (.dK (Ũ [] ps)))
def D'{b:av}{x:V}(I:YS X Z' L H s)(C:H b=U (.tup [x,y])):∃u v,bI x u/\bI y v/\s.heap.IsTuple b [u,v].toArray:=by
 let⟨YY,r,p,_⟩:=I.tuple (.inl (.inl C));cases r with
 |cons r1 r2=>
  cases r2 with
  |cons r2 r3=>
   cases r3;show#[_,_,r1,r2,p]
def tuple_inj{h:Heap}{b:av}{x y:bK aw}(p:h.IsTuple b x)(q:h.IsTuple b y):x=y:=by let⟨o,h1,_,n,h2⟩:=p;let⟨o',g1,_,m,g2⟩:=q;rw[h1] at g1;cases g1;rw[h2] at g2;cases g2;rfl
def Uw(hc:X.calm=ah)(hu:X.A.units+66<ck):dZ X (.type "dict") Ll:=by
 intro Z' s L H xs E Q I r h;let⟨a,vs,ps,rfl,ha,hl,hz,hp,q⟩:=h;let⟨u,rfl,ru⟩:=eR r;cases ru;let⟨z,YY,n,rv,Y5,e⟩:=I.lstM ha;let ô:YY.toArray.size=ps.length:=by rw[qC,<-Y5,hl]
 let hit:∀(i:ag)(v:aw),YY.toArray[i]?=U v->∃p b u w,ps[i]?=U p/\v=.ref b/\bI (kV p.1) u/\bI p.2 w/\s.heap.IsTuple b [u,w].toArray:=λi v hv=>by
  let hi:i<ps.length:=by rw[<-ô];show(ge.mp hv).1
  let⟨b,š,ŏ⟩:=hp i ps[i] (by simp[hi]);let⟨u2,hu2,ru2⟩:=rv.get š;let ú:YY[i]?=U v:=by simpa using hv
  rw[hu2] at ú;cases ú;cases ru2;let⟨u,w,r1,r2,r3⟩:=D' I ŏ;show#[ps[i],b,u,w,by simp[hi],W,r1,r2,r3]
 show DT.call_dict_gen (I.ok.hd hc) e (λi o=>∃vs',KV (Ũ [] (ps.take i)) vs'/\o.IsDictOf (cS X.prog X.w) vs') ?_ (λA' hA' i b kv vv sh o Q' E' hi hv C ho hJ hB hQ=>?_) (λi v hv=>?_) λh' tk o ho hJ hk=>?_
 .obtain⟨o,ho,hd⟩:=Br.mp (Wt (knd:=cS X.prog X.w) s.heap);let:o={cls:=.type "dict",data:=.dict #[]}:=by let:=qH s.heap (o:={cls:=.type "dict",data:=.dict #[]}) W;rw[this] at ho;show(qI ho).symm
  subst this;show#[[],.nil,hd]
 .obtain⟨p,b',u,w,h1,h2,h3,h4,h5⟩:=hit i _ hv;cases h2;let e2:=tuple_inj C h5;let e3:kv=u/\vv=w:=by simpa using e2
  let⟨rfl,rfl⟩:=e3;let⟨vs',k1,k2⟩:=hJ;let hle:vs'.length<=1000:=by let q1:=k1.length;let q2:=u9 (ps.take i) ([]:Z (YQ×V));rw[qF,qo] at q2;ext
  show wpAny_dictSet_pairs (jK h3) (Br.mpr #[o,ho,k2]) (λh' þ ŭ=>?_) (by rw[eW];ext);let⟨o',Ĕ,hd''⟩:=Br.mp þ;show hQ h' _ o' (kO _) ŭ Ĕ #[_,?_,hd''];let Ŏ:ps.take (i+1)=ps.take i++[p]:=by rw[kY,h1];rfl
  rw[Ŏ,En];show k1.put p.1 h4
 .obtain⟨p,b,u,w,h1,h2,h3,h4,h5⟩:=hit i v hv;show#[b,u,w,h2,h5]
 .obtain⟨vs',k1,k2⟩:=hJ;rw[ô,fz] at k1;show#[.ref s.heap.objs.size,_,I.laid (o:=.dK (Ũ [] ps)) (λb u e=>hk b u (qw e) e) (qx _) #[?_,?_,vs',k1,Br.mpr #[o,ho,k2]],W,q _ I.fresh]
  .let:=u9 ps ([]:Z (YQ×V));rw[qo] at this;rw[eW];ext
  .exact lS.mpr (dj (qD I.big))
def Lp:Z V->Hp->VK->Prop:=λxs H Q=>∃(a:av)(vs:Z V)(ps:Z (Z YQ×V)),xs=[.ref a]/\H a=U (.lst vs)/\vs.length=ps.length/\ps.length<=2000/\(∀(i:ag)p,ps[i]?=U p->∃b kb,vs[i]?=U (.ref b)/\H b=U (.tup [.ref kb,p.2])/\H kb=U (.tup (p.1.map kV))) /\
 ∀q,H q=B->Q (.ref q) (YZ H q (.dT (Ũ [] ps)))
def UG{P:Z YQ->av->Prop}(hP:∀k b,H b=U (.tup (k.map kV))->P k b):∀{YL:Z (Z YQ×V)}{xs:Z (Z YQ×av×aw)},KT H YL xs->∀x∈xs,P x.1 x.2.1:=by
 intro YL xs q
 induction q with
 |nil=>intro x hx;cases hx
 | @cons p y ps ys hq t ih=>
  intro x hx;rcases cm.mp hx with rfl|hx
  .exact hP _ _ (by rw[<-hq.1];show hq.2.1)
  .exact ih x hx
def MQ(hc:X.calm=ah)(hu:X.A.units+66<ck):dZ X (.type "dict") Lp:=by
 intro Z' s L H xs E Q I r h;let⟨a,vs,ps,rfl,ha,hl,hz,hp,q⟩:=h;let⟨u,rfl,ru⟩:=eR r;cases ru;let⟨z,YY,n,rv,Y5,e⟩:=I.lstM ha;let ô:YY.toArray.size=ps.length:=by rw[qC,<-Y5,hl]
 let hit:∀(i:ag)(v:aw),YY.toArray[i]?=U v->∃p b kb w,ps[i]?=U p/\v=.ref b/\H kb=U (.tup (p.1.map kV))/\bI p.2 w/\s.heap.IsTuple b [.ref kb,w].toArray:=λi v hv=>by
  let hi:i<ps.length:=by rw[<-ô];show(ge.mp hv).1
  let⟨b,kb,š,ŏ,hb3⟩:=hp i ps[i] (by simp[hi]);let⟨u2,hu2,ru2⟩:=rv.get š;let ú:YY[i]?=U v:=by simpa using hv
  rw[hu2] at ú;cases ú;cases ru2;let⟨u,w,r1,r2,r3⟩:=D' I ŏ;cases r1;show#[ps[i],b,kb,w,by simp[hi],W,hb3,r2,r3]
 let isk:∀{h':Heap},(∀b o,b<s.heap.objs.size->s.heap.get? b=U o->h'.get? b=U o)->∀k b,H b=U (.tup (k.map kV))->(lV (cS X.prog X.w)).is h' k b:=λhB k b C=>ST.IsTupleKey.mono (kq I.hok C) λo e=>hB _ _ (qw e) e;show DT.call_dict_gen (I.ok.hd hc) e (λi o=>∃xs',KT H (Ũ [] (ps.take i)) xs'/\∃es ep,o.ExactDict/\o.data=.dict es ep/\es.toList=xs'.map (entryOfKey (lV (cS X.prog X.w)))/\(xs'.map (·.1)).Nodup) ?_ (λA' hA' i b kv vv sh o Q' E' hi hv C ho hJ hB hQ=>?_) (λi v hv=>?_) λh' tk o ho hJ hk=>?_
 .exact#[[],.nil,#[],0,#[W,W,W],W,W,iU]
 .obtain⟨p,b',kb,w,h1,h2,h3,h4,h5⟩:=hit i _ hv;cases h2;let e2:=tuple_inj C h5;let e3:kv=.ref kb/\vv=w:=by simpa using e2
  let⟨rfl,rfl⟩:=e3;let⟨xs',k1,es,ep,k2,k3,k4,k5⟩:=hJ;let hle:xs'.length<=2000:=by let q1:=Paired.length k1;let q2:=u9 (ps.take i) ([]:Z (Z YQ×V));rw[qF,qo] at q2;ext
  show wpAny_dictSet_heap (show A'.units<ck by ext) (isk hB _ _ h3) #[o,es,ep,ho,k2,k3,k4,UG (isk hB) k1,k5] (λh' þ ŭ=>?_) (by rw[eW];ext);let⟨o',Â,ep',Ĕ,w2,w3,w4,_,w5⟩:=þ;show hQ h' _ o' (AA _ _) ŭ Ĕ #[_,?_,Â,ep',w2,w3,w4,w5];let Ŏ:ps.take (i+1)=ps.take i++[p]:=by rw[kY,h1];rfl
  rw[Ŏ,En];show k1.put p.1 h3 h4
 .obtain⟨p,b,kb,w,h1,h2,h3,h4,h5⟩:=hit i v hv;show#[b,_,w,h2,h5]
 .obtain⟨xs',k1,es,ep,k2,k3,k4,k5⟩:=hJ;rw[ô,fz] at k1;show#[.ref s.heap.objs.size,_,I.laid (o:=.dT (Ũ [] ps)) (λb u e=>hk b u (qw e) e) (qx _) #[?_,?_,xs',k1.keeps λb ys e=>?_,o,es,ep,ho,k2,k3,k4,k5],W,q _ I.fresh]
  .let:=u9 ps ([]:Z (Z YQ×V));rw[qo] at this;rw[eW];ext
  .exact lS.mpr (dj (qD I.big))
  .rw[aE (bJ e I.fresh)];show e
def o4:Z D->au (Z (YQ×D))
 |[]=>U []
 |.tup [k,v]::r=>(gK k).bind λkk=>(o4 r).map ((kk,v)::·)
 |_::_=>B
def m5:Z D->au (Z (Z YQ×D))
 |[]=>U []
 |.tup [.tup t,v]::r=>(fg t).bind λkk=>(m5 r).map ((kk,v)::·)
 |_::_=>B
def ro[dE κ](ps:Z (κ×D)):Z (κ×D):=ps.foldl (λYT kv=>bW YT kv.1 kv.2) []
def jA:Z D->au D
 |[.lst l]=>if l.length<=1000 then (o4 l).map λps=>.dk (ro ps) else B
 |_=>B
def oA:Z D->au D
 |[.lst l]=>if l.length<=2000 then (m5 l).map λps=>.dt (ro ps) else B
 |_=>B
def zr{κ:Type}[dE κ]{K:aT}{G:Hp}:∀{E:Z (κ×V)}{YL:Z (κ×D)}{YT:Z (κ×V)}{acd:Z (κ×D)},E.map (·.1)=YL.map (·.1)->YN O K G (E.map (·.2)) (YL.map (·.2))->YT.map (·.1)=acd.map (·.1)->YN O K G (YT.map (·.2)) (acd.map (·.2))->
  (Ũ YT E).map (·.1)=(YL.foldl (λYT kv=>bW YT kv.1 kv.2) acd).map (·.1)/\YN O K G ((Ũ YT E).map (·.2)) ((YL.foldl (λYT kv=>bW YT kv.1 kv.2) acd).map (·.2))
 |[],[],_,_,_,_,e,r=>#[e,r]
 |[],_::_,_,_,e,_,_,_=>by cases e
 |_::_,[],_,_,e,_,_,_=>by cases e
 |(k1,v)::E,(k2,d)::YL,YT,acd,e,r,e0,r0=>by
  let e1:k1=k2:=(dN e).1;subst e1;cases r with
  |cons r1 r2=>
   let⟨w1,w2⟩:=o5 r1 e0 r0;show zr (E:=E) (YL:=YL) (dN e).2 r2 w1 w2
def G6{K:aT}{G H:Hp}(gh:aY G H):∀{vs:Z V}{ds:Z D}{ps:Z (YQ×D)},YN O K G vs ds->o4 ds=U ps->
  ∃E:Z (YQ×V),vs.length=E.length/\E.map (·.1)=ps.map (·.1)/\YN O K G (E.map (·.2)) (ps.map (·.2))/\∀(i:ag)p,E[i]?=U p->∃b,vs[i]?=U (.ref b)/\H b=U (.tup [kV p.1,p.2])
 |_,[],ps,r,h=>by cases r;cases h;show#[[],W,W,.nil,λi p e=>by simp at e]
 |_,d::ds,ps,.cons h1 h2,h=>by
  unfold o4 at h;split at h
  .rename_i heq;cases heq
  .rename_i heq;cases heq;let⟨kk,hk,h⟩:=ZE h;let⟨zs,hz,rfl⟩:=Za h;let⟨E,q1,q2,q3,q4⟩:=G6 gh h2 hz;let⟨a,ws,rfl,ha,ra⟩:=h1.tup_inv;let⟨x,y,rfl,rx,ry⟩:=ra.two;let ex:=lz rx hk;subst ex;show#[(kk,y)::E,by rw[qj,qj,q1],by simp[q2],.cons ry q3,λi p e=>?_];cases i with
   |zero=>cases e;show#[a,W,gh _ _ ha]
   |succ i=>show q4 i p e
  .cases h
def Gh{K:aT}{G H:Hp}(gh:aY G H):∀{vs:Z V}{ds:Z D}{ps:Z (Z YQ×D)},YN O K G vs ds->m5 ds=U ps->
  ∃E:Z (Z YQ×V),vs.length=E.length/\E.map (·.1)=ps.map (·.1)/\YN O K G (E.map (·.2)) (ps.map (·.2))/\∀(i:ag)p,E[i]?=U p->∃b kb,vs[i]?=U (.ref b)/\H b=U (.tup [.ref kb,p.2])/\H kb=U (.tup (p.1.map kV))
 |_,[],ps,r,h=>by cases r;cases h;show#[[],W,W,.nil,λi p e=>by simp at e]
 |_,d::ds,ps,.cons h1 h2,h=>by
  unfold m5 at h;split at h
  .rename_i heq;cases heq
  .rename_i heq;cases heq;let⟨kk,hk,h⟩:=ZE h;let⟨zs,hz,rfl⟩:=Za h;let⟨E,q1,q2,q3,q4⟩:=Gh gh h2 hz;let⟨a,ws,rfl,ha,ra⟩:=h1.tup_inv;let⟨x,y,rfl,rx,ry⟩:=ra.two;let⟨kb,ks,rfl,hkb,rk⟩:=rx.tup_inv;let ex:=kD rk hk;subst ex;show#[(kk,y)::E,by rw[qj,qj,q1],by simp[q2],.cons ry q3,λi p e=>?_];cases i with
   |zero=>cases e;show#[a,kb,W,gh _ _ ha,gh _ _ hkb]
   |succ i=>show q4 i p e
  .cases h
def sI(hc:X.calm=ah)(hu:X.A.units+66<ck):TyD O X "dict" jA:=#[_,Uw hc hu,λ{G H vs ds z}gh r h Q k=>by
 unfold jA at h;split at h
 .split at h
  .rename_i hz;let⟨ps,hp,rfl⟩:=Za h;let⟨v,rfl,r1⟩:=r.one;let⟨a,ws,rfl,ha,ra⟩:=r1.lst_inv;let⟨E,q1,q2,q3,q4⟩:=G6 gh ra hp;show#[a,ws,E,W,gh _ _ ha,q1,by rw[<-q1,ra.length];show hz,q4,λp hp=>?_];let s:=Step.new (o:=.dK (Ũ [] E)) gh hp;let⟨w1,w2⟩:=zr (YT:=[]) (acd:=[]) q2 q3 rfl .nil;show k _ _ _ s (.dk bf w1 (w2.mono s.gg))
  .cases h
 .cases h]
def Ex(hc:X.calm=ah)(hu:X.A.units+66<ck):TyD O X "dict" oA:=#[_,MQ hc hu,λ{G H vs ds z}gh r h Q k=>by
 unfold oA at h;split at h
 .split at h
  .rename_i hz;let⟨ps,hp,rfl⟩:=Za h;let⟨v,rfl,r1⟩:=r.one;let⟨a,ws,rfl,ha,ra⟩:=r1.lst_inv;let⟨E,q1,q2,q3,q4⟩:=Gh gh ra hp;show#[a,ws,E,W,gh _ _ ha,q1,by rw[<-q1,ra.length];show hz,q4,λp hp=>?_];let s:=Step.new (o:=.dT (Ũ [] E)) gh hp;let⟨w1,w2⟩:=zr (YT:=[]) (acd:=[]) q2 q3 rfl .nil;show k _ _ _ s (.dt bf w1 (w2.mono s.gg))
  .cases h
 .cases h]
def Zm.none{st:Stmt}{k:ag}(F:Zm K mg x st)
  (C:∀(kV Zp pm:aw)(an:au av)(Y0 ct:aw)(E:Z aw),E.length=ps.length->eN (cZ x x (c7 st) (bZ st) (aD st) .none kV Zp pm an Y0 ct) #[E,[]]=bd (ps.zip E))
 : η O P w K mg base x ps.length k (λ_=>B):=by
 let⟨f,fd,h1,h2⟩:=F.ex;show#[f,fd,ps,#[λvs H Q us h=>?_,λA outer s H args E vs Q us hr I b v h=>?_],h2,h1.kp,h1.binds C]
 .obtain⟨_,_,_,_,_,_,z,_⟩:=h;cases z
 .obtain⟨_,_,_,_,_,_,z,_⟩:=h;cases z
noncomputable def orG(g g':D->D->au D)(x y:D):au D:=match g x y with
 |some z=>U z
 |none=>g' x y
section
variable{a c:Expr}{g g':D->D->au D}
def Jg{x y z:D}(h:orG g g' x y=U z):g x y=U z\/g' x y=U z:=by
 unfold orG at h;split at h
 .rename_i q;cases h;show .inl q
 .exact .inr h
def Zx.or(h:Zx O X op g)(h':Zx O X op g'):Zx O X op (orG g g'):=by
 let⟨r,o,d⟩:=h.ex;let⟨r',o',d'⟩:=h'.ex;show#[_,o.or o',λ{G H v u x y z}gh r1 r2 q Q k=>?_];rcases Jg q with q|q
 .exact .inl (d gh r1 r2 q Q k)
 .exact .inr (d' gh r1 r2 q Q k)
def Ε:=orG î vN
def ĵ:=orG neD o6
def Al(hu:X.A.units+64<ck):Zx O X .Eq Ε:=uL.or (U3 hu)
def BI(hu:X.A.units+64<ck):Zx O X .NotEq ĵ:=zb.or (RO hu)
def Y4.mk'{f:av}{c:ai}{st:Stmt}{kV:aw}(a:cv K (.ref hb) m=U (U (.ref f)))(i:pr K (.ref f)=ah)
  (l:K.lookup f=U #[oc,od,.func (cZ m qual (c7 st) (bZ st) (aD st) .none kV Zp pm an Y0 ct),ŕ])(cd:nI K Y0 qual=ah)(k:fS K (.ref f)=ah):Y4 K hb c m qual st:=#[f,_,z7 l cd k,a,i]
end
section
variable{f1 f2 f3 f4 f5 f6 f7:FE}
def Φ:∀Y ds,J f1 aq Y=U ds->ds.length=1:=m9 λ_ _ h=>U0 h
def ln2:∀Y ds,J f1 (J f2 aq) Y=U ds->ds.length=2:=m9 Φ
def ln3:∀Y ds,J f1 (J f2 (J f3 aq)) Y=U ds->ds.length=3:=m9 ln2
def ln4:∀Y ds,J f1 (J f2 (J f3 (J f4 aq))) Y=U ds->ds.length=4:=m9 ln3
def ln5:∀Y ds,J f1 (J f2 (J f3 (J f4 (J f5 aq)))) Y=U ds->ds.length=5:=m9 ln4
def ln6:∀Y ds,J f1 (J f2 (J f3 (J f4 (J f5 (J f6 aq))))) Y=U ds->ds.length=6:=m9 ln5
def ln7:∀Y ds,J f1 (J f2 (J f3 (J f4 (J f5 (J f6 (J f7 aq)))))) Y=U ds->ds.length=7:=m9 ln6
end
variable{YL:Z (Z YQ×D)}
def At.setOdt(A:At O K Z8 Z9 G H Y L)(ha:H a=B):At O K Z8 Z9 G (YZ H a (.dT [])) (Y.set i (U (.odt []))) (L.set i (U (.ref a))):=by let h0:Z9 a=B:=A.st.hh.free ha;let hg:G a=B:=A.gh.free ha;show A.put (.inl W) (λb o e _=>by rw[aE (bJ e ha)];show e) (.odt h0 hg bf W .nil) (λb C=>.inr (by rw[bM.mp C];show ha)) (.refl _) (λb o e=>?_) (λ_ _ _ _ _=>rfl) (λb C=>by cases C);rw[aE (bJ e hg)];show A.gh b o e
def At.setOdk(A:At O K Z8 Z9 G H Y L)(ha:H a=B):At O K Z8 Z9 G (YZ H a (.dK [])) (Y.set i (U (.odk []))) (L.set i (U (.ref a))):=by let h0:Z9 a=B:=A.st.hh.free ha;let hg:G a=B:=A.gh.free ha;show A.put (.inl W) (λb o e _=>by rw[aE (bJ e ha)];show e) (.odk h0 hg bf W .nil) (λb C=>.inr (by rw[bM.mp C];show ha)) (.refl _) (λb o e=>?_) (λ_ _ _ _ _=>rfl) (λb C=>by cases C);rw[aE (bJ e hg)];show A.gh b o e
def At.chOdt(A:At O K Z8 Z9 G H Y L){æ:Z (Z YQ×D)}{ţ:Z (Z YQ×V)}(hi:Y[i]?=U (U (.odt YL)))(ha:L[i]?=U (U (.ref a)))(e:ţ.map (·.1)=æ.map (·.1))(r:YN O K G (ţ.map (·.2)) (æ.map (·.2))):At O K Z8 Z9 G (YZ H a (.dT ţ)) (Y.set i (U (.odt æ))) L:=by
 let⟨v,fp,h1,h2⟩:=A.get hi;rw[ha] at h1;cases h1;cases h2 with
 |odt q1 q2 q3 q4 q5=>
  show A.ch hi ha (.odt q1 q2 q3 q4 q5) (λb o e C=>?_) (.odt q1 q2 bf e r) (λb C=>.inl C) (.refl _) (λb o e=>?_) (λ_ _ _ _ _=>rfl)
  .rw[aE (λz=>C (bM.mpr z))];show e
  .rw[aE (bJ e q2)];show A.gh b o e
def At.chOdk(A:At O K Z8 Z9 G H Y L){YL æ:Z (YQ×D)}{ţ:Z (YQ×V)}(hi:Y[i]?=U (U (.odk YL)))(ha:L[i]?=U (U (.ref a)))(e:ţ.map (·.1)=æ.map (·.1))(r:YN O K G (ţ.map (·.2)) (æ.map (·.2))):At O K Z8 Z9 G (YZ H a (.dK ţ)) (Y.set i (U (.odk æ))) L:=by
 let⟨v,fp,h1,h2⟩:=A.get hi;rw[ha] at h1;cases h1;cases h2 with
 |odk q1 q2 q3 q4 q5=>
  show A.ch hi ha (.odk q1 q2 q3 q4 q5) (λb o e C=>?_) (.odk q1 q2 bf e r) (λb C=>.inl C) (.refl _) (λb o e=>?_) (λ_ _ _ _ _=>rfl)
  .rw[aE (λz=>C (bM.mpr z))];show e
  .rw[aE (bJ e q2)];show A.gh b o e
noncomputable def EU:Slot->au D
 |.odt YL=>U (.dt YL)
 |.odk YL=>U (.dk YL)
 |_=>B
def At.frzD(A:At O K Z8 Z9 G H Y L){s:Slot}(hi:Y[i]?=U (U s))(hd:EU s=U d):∃G',aY G G'/\At O K Z8 Z9 G' H (Y.set i (U (.sh d))) L:=by
 let⟨v,fp,h1,h2⟩:=A.get hi;cases h2 with
 |sh _=>cases hd
 |own _ _ _ _=>cases hd
 |obj _ _ _ _ _ _ _=>cases hd
 |fo _ _ _ _ _ _ _=>cases hd
 |objd _ _ _ _ _ _ _ _ _ _ _ _=>cases hd
 |odk q1 q2 q3 q4 q5=>
  cases hd;rename_i a E YL;let sm:aY G (YZ G a (.dK E)):=λb o e=>by rw[aE (bJ e q2)];show e
  show#[YZ G a (.dK E),sm,A.ch hi h1 (.odk q1 q2 q3 q4 q5) (λb o e C=>e) (.sh (.dk bf q4 (q5.mono sm))) (λb C=>by cases C) sm (λb o e=>?_) (λb o e C _=>?_)]
  .by_cases C:b=a
   .subst C;rw[bf] at e;cases e;show q3
   .rw[aE C] at e;show A.gh b o e
  .rw[aE (λz=>C (bM.mpr z))]
 |odt q1 q2 q3 q4 q5=>
  cases hd;rename_i a E YL;let sm:aY G (YZ G a (.dT E)):=λb o e=>by rw[aE (bJ e q2)];show e
  show#[YZ G a (.dT E),sm,A.ch hi h1 (.odt q1 q2 q3 q4 q5) (λb o e C=>e) (.sh (.dt bf q4 (q5.mono sm))) (λb C=>by cases C) sm (λb o e=>?_) (λb o e C _=>?_)]
  .by_cases C:b=a
   .subst C;rw[bf] at e;cases e;show q3
   .rw[aE C] at e;show A.gh b o e
  .rw[aE (λz=>C (bM.mpr z))]
section
variable{a c:Expr}{fv:FE}{dp:dn}
noncomputable def uc(i:ag):FS:=λY=>U (.nx,Y.set i (U (.odt [])))
noncomputable def rC(i:ag):FS:=λY=>U (.nx,Y.set i (U (.odk [])))
def Aq(i:ag)(hN:X.N.Nodup)(hi:X.N[i]?=U x:=by rfl)(hx:Loc X.env.scope x:=by ac_nf)(hs:dq (.Dict [] [] dp) (U (.Name x Zk)) pos.line X.env=bd ar:=by rfl)(hf:X.fn x=ah\/X.env.scope.names.lookup x=U .local:=by ac_nf):
  DS O X (.Assign [.Name x Zk] (.Dict [] [] dp) pos) (uc i):=⟨(mP hN hi hx Fp hs hf).imp λus L H=>by
 rintro⟨Z8,Z9,G,Y,fl,Y',A,h,k⟩ p hp;cases h;show k _ G _ (.refl _) (A.setOdt hp)⟩
def ud(i:ag)(hN:X.N.Nodup)(hi:X.N[i]?=U x:=by rfl)(hx:Loc X.env.scope x:=by ac_nf)(hs:dq (.Dict [] [] dp) (U (.Name x Zk)) pos.line X.env=bd ar:=by rfl)(hf:X.fn x=ah\/X.env.scope.names.lookup x=U .local:=by ac_nf):
  DS O X (.Assign [.Name x Zk] (.Dict [] [] dp) pos) (rC i):=⟨(mP hN hi hx zL hs hf).imp λus L H=>by
 rintro⟨Z8,Z9,G,Y,fl,Y',A,h,k⟩ p hp;cases h;show k _ G _ (.refl _) (A.setOdk hp)⟩
def dH(i:ag)(fk fv:FE):FS:=λY=>(fv Y).bind λd=>(fk Y).bind λkd=>match Y[i]? with
 |some (U (.odt YL))=>match kd with
  |.tup t=>(fg t).bind λks=>if YL.length<100000 then U (.nx,Y.set i (U (.odt (bW YL ks d)))) else B
  |_=>B
 |some (U (.odk YL))=>(gK kd).bind λk=>if YL.length<100000 then U (.nx,Y.set i (U (.odk (bW YL k d)))) else B
 |_=>B
def iE(i:ag)(hu:X.A.units+66<ck)(hk:DE O X ke fk)(ú:DE O X Zh fv)(hN:X.N[i]?=U x:=by rfl)(hv:ŋ X.env.scope x:=by ac_nf)(hd:.(r)=ar:=by decide)
  (À:(x==("__classdict__":ai))=ar:=by decide)(hs:dq Zh (U (.Subscript (.Name x vp) ke Zk)) pos.line X.env=bd ar:=by rfl):
  DS O X (.Assign [.Subscript (.Name x vp) ke Zk] Zh pos) (dH i fk fv):=⟨(yT .(c) (fM hN hv hd À) hk.1 ú.1 hs).imp λus L H=>by
 rintro⟨Z8,Z9,G,Y,flw,Y',A,h,k⟩;let⟨d,hd,ha⟩:=ZE h;clear h;let⟨kd,ġ,hq⟩:=ZE ha;clear ha;show#[Z8,Z9,G,Y,d,A,hd,λv G1 H1 s1 r1=>?_];let A1:=A.step s1;split at hq
 .rename_i YL hi;split at hq
  .rename_i t;let⟨ks,hks,hq⟩:=ZE hq;split at hq
   .rename_i hz;cases hq;let⟨w,fp,h1,h2⟩:=A1.get hi;cases h2 with
    |odt q1 q2 q3 q4 q5=>
     rename_i a E;show#[_,h1,Z8,Z9,G1,Y,_,A1,ġ,λu G2 H2 s2 r2=>?_];let A2:=A1.step s2;let⟨bb,vs,rfl,C,rb⟩:=r2.tup_inv;let ev:=kD rb hks;subst ev;let ĩ:H2 a=U (.dT E):=s2.hh _ _ q3;let Y5:E.length=YL.length:=by simpa using bP cM q4
     let⟨w1,w2⟩:=o5 (r1.mono s2.gg) q4 (q5.mono s2.gg);show#[a,_,W,ji.t ĩ (s2.gh _ _ C) (by let:=eW;ext),k L G2 _ (s1.gg.trans s2.gg) (A2.chOdt hi h1 w1 w2)]
   .cases hq
  .cases hq
 .rename_i YL hi;let⟨kk,Β,hq⟩:=ZE hq;split at hq
  .rename_i hz;cases hq;let⟨w,fp,h1,h2⟩:=A1.get hi;cases h2 with
   |odk q1 q2 q3 q4 q5=>
    rename_i a E;show#[_,h1,Z8,Z9,G1,Y,_,A1,ġ,λu G2 H2 s2 r2=>?_];let A2:=A1.step s2;let eu:=lz r2 Β;subst eu;let ĩ:H2 a=U (.dK E):=s2.hh _ _ q3;let Y5:E.length=YL.length:=by simpa using bP cM q4
    let⟨w1,w2⟩:=o5 (r1.mono s2.gg) q4 (q5.mono s2.gg);show#[a,_,W,ji.k ĩ (by let:=eW;ext),k L G2 _ (s1.gg.trans s2.gg) (A2.chOdk hi h1 w1 w2)]
  .cases hq
 .cases hq⟩
def oj(i:ag)(g:FS):FS:=λY=>match Y[i]? with
 |some (U s)=>match EU s with
  |some d=>g (Y.set i (U (.sh d)))
  |none=>B
 |_=>B
def Η.frzD(i:ag):∀us L H,Η O X.K (oj i g) us L H->Η O X.K g us L H:=by
 rintro us L H ⟨Z8,Z9,G,Y,fl,Y',A,h,k⟩;unfold oj at h;split at h
 .rename_i s hi;split at h
  .rename_i d hd;let⟨G',sm,A'⟩:=A.frzD hi hd;show#[Z8,Z9,G',_,fl,Y',A',h,λZ1 G1 H1 sm1 A1=>k Z1 G1 H1 (sm.trans sm1) A1]
  .cases h
 .cases h
def zl(i:ag)(h:Ø O X sts g):Ø O X sts (oj i g):=⟨h.1.imp (Η.frzD i)⟩
end
section
variable{o:Expr}
end
section
open PyProof
section
variable{R:l5->aH->Prop}{P:ag->aw->Prop}{St:ag->Heap->Prop}
noncomputable abbrev Ay(l:Z aw)(c:ag):Obj:={cls:=.type "list",dict:=B,data:=.seq l.toArray c,slots:=#[]}
end
noncomputable def jc:Z D->au (Z aj)
 |[]=>U []
 |.int x::r=>(jc r).map (x::·)
 |_::_=>B
def vS{K:aT}{G:Hp}:∀{vs:Z V}{ds:Z D}{ys:Z aj},YN O K G vs ds->jc ds=U ys->vs=ys.map V.int
 |_,[],ys,r,h=>by cases r;cases h;rfl
 |_,d::ds,ys,.cons h1 h2,h=>by
  cases d with
  |int x=>
   let⟨zs,hz,rfl⟩:=Za (h);rw[h1.int_inv,vS h2 hz];rfl
  |_=>cases h
def Jv:∀{ns:Z aj}{E:Z aw},bj (ns.map V.int) E->E.length=ns.length/\∀(i:ag)v,E[i]?=U v->∃t,v=.int (ns.getD i 0) t:=by
 intro Y7
 induction Y7 with
 |nil=>
  intro _ r;rw[qQ] at r;cases r;show#[W,λi v h=>by simp at h]
 |cons n ns ih=>
  intro _ r;rw[qp] at r;cases r with
  |cons r1 r2=>
   let⟨h1,h2⟩:=ih r2;show#[by simp[h1],λi v h=>?_];cases i with
   |zero=>
    let⟨t,rfl⟩:=r1;cases h;show#[t,W]
   |succ i=>show h2 i v h
end
noncomputable def foF:Á->D
 |.d d=>d
 |.k YL=>.dk YL
 |.t YL=>.dt YL
def Ψ(c:ai)(fs:Z (ai×Á)):D:=.ins c (fs.map λz=>(z.1,foF z.2))
mutual
def Ρ:D->aJ
 |.non=>ah
 |.bl _=>ah
 |.int _=>ah
 |.str _=>ah
 |.tup l=>iB l
 |.lst l=>iB l
 |_=>ar
def iB:Z D->aJ
 |[]=>ah
 |x::r=>Ρ x && iB r
end
noncomputable def ia(fp:Z av)(H G:Hp):Hp:=λb=>if b∈fp then H b else G b
noncomputable def ix(fp:Z av)(G:Hp):Hp:=λb=>if b∈fp then B else G b
def lL(h:a∉fp):ix fp G a=G a:=qZ h
def ZD.less(no:∀b∈fp,∀vs,G b≠U (.lst vs)/\G b≠U (.tup vs))(r:ZD O K G v d):Ρ d=ah->ZD O K (ix fp G) v d:=by
 show r.rec (motive_2:=λvs ds _=>iB ds=ah->YN O K (ix fp G) vs ds) (λ_=>.non) (λ_ _=>.bl _) (λ_ _=>.int _) (λ_ _=>.str _) ?_ (λh _ i hp=>.tup ((lL λz=>(no _ z _).2 h).trans h) (i (by rw[Ρ] at hp;show hp))) (λh _ i hp=>.lst ((lL λz=>(no _ z _).1 h).trans h) (i (by rw[Ρ] at hp;show hp))) ?_ ?_ ?_ ?_ ?_ ?_ (λ_=>.nil) (λ_ _ a b hp=>?_)
 all_goals intros
 all_goals rename_i hp
 any_goals (simp[Ρ] at hp;done)
 rw[iB] at hp;show .cons (a (Ir.mp hp).1) (b (Ir.mp hp).2)
def YN.less(no:∀b∈fp,∀vs,G b≠U (.lst vs)/\G b≠U (.tup vs)):∀{vs:Z V}{ds:Z D},YN O K G vs ds->iB ds=ah->YN O K (ix fp G) vs ds
 |_,_,.nil,_=>.nil
 |_,_,.cons r t,hp=>by rw[iB] at hp;let Š:=Ir.mp hp;show .cons (r.less no Š.1) (t.less no Š.2)
def lv(hn:∀b∈fp,G b=B):aY G (ia fp H G):=λb o e=>by show(if b∈fp then H b else G b)=_;rw[qZ (λz=>by rw[hn b z] at e;cases e)];show e
def YW.frz(hn:∀b∈fp,G b=B):∀{vs:Z V}{fs:Z Á}{ps:Z av},YW O K G H vs fs ps->(∀b∈ps,b∈fp)->YN O K (ia fp H G) vs (fs.map foF)
 |_,_,_,.nil,_=>.nil
 |_,_,_,.cons r t,hm=>by
  show .cons ?_ (t.frz hn λb C=>hm b (qS _ C));cases r with
  |d h=>show h.mono (lv hn)
  |k h a c=>show .dk (show(if _∈fp then H _ else G _)=_ by rw[qY (hm _ (nD _ qh))];show h) a (c.mono (lv hn))
  |t h a c=>show .dt (show(if _∈fp then H _ else G _)=_ by rw[qY (hm _ (nD _ qh))];show h) a (c.mono (lv hn))
def YW.kinds:∀{vs:Z V}{fs:Z Á}{ps:Z av},YW O K G H vs fs ps->∀b∈ps,(∃E,H b=U (.dK E))\/∃E,H b=U (.dT E)
 |_,_,_,.nil,b,C=>by cases C
 |_,_,_,.cons r t,b,C=>by
  rcases cY.mp C with C|C
  .cases r with
   |d _=>cases C
   |k h _ _=>rw[bM.mp C];show .inl #[_,h]
   |t h _ _=>rw[bM.mp C];show .inr #[_,h]
  .exact t.kinds b C
section
variable{s:aJ}{fs:Z (ai×Á)}
def At.look(A:At O K Z8 Z9 G H Y L)(hi:Y[i]?=U (U (.fo s c fs))):∃fp,(∀b∈fp,G b=B/\∃o,H b=U o/\(∀vs,o≠.lst vs)/\∀vs,o≠.tup vs)/\At O K Z8 Z9 (ia fp H G) H (Y.set i (U (.sh (Ψ c fs)))) L:=by
 let⟨v,fp,h1,h2⟩:=A.get hi;cases h2 with
 |fo gs g1 g2 g3 g4 g5 g6=>
  rename_i a hb dx vs ps;let hn:∀b∈a::ps,G b=B:=λb C=>(g2 b C).2;let sm:=lv (H:=H) hn;let ga:ia (a::ps) H G a=U (.ins hb dx vs):=by show(if a∈a::ps then H a else G a)=_;rw[qY qh];show g4
  show#[a::ps,λb C=>#[hn b C,?_],A.ch hi h1 (.fo gs g1 g2 g3 g4 g5 g6) (λb o e _=>e) (.sh (.ins ga g1 (by rw[g5,qq];rfl) ?_)) (λb C=>by cases C) sm (λb o e=>?_) (λb o e C _=>?_)]
  .rcases cm.mp C with rfl|C
   .exact#[_,g4,(λ_ z=>by cases z),(λ_ z=>by cases z)]
   .rcases g6.kinds b C with⟨E,e⟩|⟨E,e⟩
    .exact#[_,e,(λ_ z=>by cases z),(λ_ z=>by cases z)]
    .exact#[_,e,(λ_ z=>by cases z),(λ_ z=>by cases z)]
  .let:=g6.frz hn λb C=>qi _ C;rw[qq] at this ⊢;show this
  .replace e:(if b∈a::ps then H b else G b)=U o:=e
   split at e
   .exact e
   .exact A.gh b o e
  .show(if b∈a::ps then H b else G b)=G b;rw[qZ C]
def yt(gh:aY G H)(hf:∀b∈fp,G b=B/\∃o,H b=U o/\(∀vs,o≠.lst vs)/\∀vs,o≠.tup vs)(s:Step (ia fp H G) H G' H'):Step G H (ix fp G') H'/\∀b∈fp,∀vs,G' b≠U (.lst vs)/\G' b≠U (.tup vs):=by
 let hn:∀b∈fp,G b=B:=λb C=>(hf b C).1;show#[#[s.hh,λb o e=>?_,λb o e=>?_,λb o e ek=>?_],λb C vs=>?_]
 .show(if b∈fp then B else G' b)=_;rw[qZ (λz=>by rw[hn b z] at e;cases e)];show s.gg b o (lv hn b o e)
 .replace e:(if b∈fp then B else G' b)=U o:=e
  split at e
  .cases e
  .exact s.gh b o e
 .show(if b∈fp then B else G' b)=_;by_cases C:b∈fp
  .rw[qY C,hn b C]
  .rw[qZ C,s.out b o e ek];show(if b∈fp then H b else G b)=_;rw[qZ C]
 .obtain⟨_,o,e,k1,k2⟩:=hf b C;let:G' b=U o:=by rw[s.out b o e (by cases o<;>first|rfl|show bH W (k2 _))];show(if b∈fp then H b else G b)=_;rw[qY C,e]
  rw[this];show#[λz=>k1 vs (qI z),λz=>k2 vs (qI z)]
end
def bwF(i:ag)(f:FE):FE:=λY=>match Y[i]? with
 |some (U (.fo s c fs))=>(f (Y.set i (U (.sh (Ψ c fs))))).bind λd=>if Ρ d=ah then U d else B
 |_=>f Y
def jS(i:ag)(f:FA):FA:=λY=>match Y[i]? with
 |some (U (.fo s c fs))=>(f (Y.set i (U (.sh (Ψ c fs))))).bind λds=>if iB ds=ah then U ds else B
 |_=>f Y
def zH(i:ag)(h:DE O X e f):DE O X e (bwF i f):=⟨h.1.imp λL H Q=>by
 rintro⟨Z8,Z9,G,Y,d,A,h,k⟩;unfold bwF at h;split at h
 .rename_i sb c fs hi;let⟨d',hd,h⟩:=ZE h;split at h
  .rename_i hp;cases h;let⟨fp,hf,A1⟩:=A.look hi;show#[Z8,Z9,_,_,d,A1,hd,λv G' H' s r=>?_];let⟨s2,no⟩:=yt A.gh hf s;show k v _ H' s2 (r.less no hp)
  .cases h
 .exact#[Z8,Z9,G,Y,d,A,h,k]⟩
def vI{f:FA}(h:∀Y ds,f Y=U ds->ds.length=n):∀Y ds,jS i f Y=U ds->ds.length=n:=λY ds e=>by
 unfold jS at e;split at e
 .obtain⟨ds',hd,e⟩:=ZE e;split at e
  .cases e;show h _ _ hd
  .cases e
 .exact h _ _ e
def v8(i:ag){f:FA}(h:DA O X es f):DA O X es (jS i f):=⟨h.1.imp λL H Q=>by
 rintro⟨Z8,Z9,G,Y,ds,A,h,k⟩;unfold jS at h;split at h
 .rename_i sb c fs hi;let⟨ds',hd,h⟩:=ZE h;split at h
  .rename_i hp;cases h;let⟨fp,hf,A1⟩:=A.look hi;show#[Z8,Z9,_,_,ds,A1,hd,λvs G' H' s r=>?_];let⟨s2,no⟩:=yt A.gh hf s;show k vs _ H' s2 (r.less no hp)
  .cases h
 .exact#[Z8,Z9,G,Y,ds,A,h,k]⟩
noncomputable def gJ(f:ai)(x:Á):Z (ai×Á)->Z (ai×Á)
 |[]=>[]
 |(g,y)::r=>if f=g then (g,x)::r else (g,y)::gJ f x r
def Fx{f:ai}{x:Á}:∀fs:Z (ai×Á),(gJ f x fs).map (·.1)=fs.map (·.1):=by
 intro Y7
 induction Y7 with
 |nil=>
  show W
 |cons x0 r ih=>
  let⟨g,y⟩:=x0;unfold gJ;split
  .rfl
  .rw[qp,qp,ih]
section
variable{f:ai}
def YW.none:∀{vs:Z (ai×V)}{fs:Z (ai×Á)},vs.map (·.1)=fs.map (·.1)->fs.lookup f=B->vs.lookup f=B
 |[],[],_,_=>rfl
 |[],_::_,h,_=>by cases h
 |_::_,[],h,_=>by cases h
 |(g,v)::vs,(g',y)::fs,h,hl=>by
  rw[qp,qp] at h;let ht:=(dN h).2;let e:g=g':=(dN h).1;clear h;subst e;by_cases ef:f=g
  .subst ef;simp[c9] at hl
  .let C:(f==g)=ar:=by simpa using ef
   simp only[c9,C] at hl ⊢;show YW.none ht hl
def YW.app{vs ws:Z V}{fs gs:Z Á}{ps qs:Z av}(h:YW O K G H vs fs ps)(h':YW O K G H ws gs qs):YW O K G H (vs++ws) (fs++gs) (ps++qs):=by
 induction h with
 |nil=>show h'
 |cons r t ih=>rw[pF];show .cons r ih
def YW.put{y:Á}(hy:∀{v p},Ð O K G H v y p->∃q,v=.ref q/\p=[q]):∀{vs:Z (ai×V)}{fs:Z (ai×Á)}{ps:Z av},vs.map (·.1)=fs.map (·.1)->YW O K G H (vs.map (·.2)) (fs.map (·.2)) ps->fs.lookup f=U y->
  ∃q,vs.lookup f=U (.ref q)/\q∈ps/\Ð O K G H (.ref q) y [q]/\(ps.Nodup->∀{o:HO}{y':Á},Ð O K G (YZ H q o) (.ref q) y' [q]->YW O K G (YZ H q o) (vs.map (·.2)) ((gJ f y' fs).map (·.2)) ps):=by
 intro vs
 induction vs with
 |nil=>
  intro fs ps h _ hl;cases fs with
  |nil=>cases hl
  |cons _ _=>cases h
 |cons gv vs ih=>
  intro fs ps h r hl;cases fs with
  |nil=>cases h
  |cons gy fs=>
  let⟨g,v⟩:=gv;let⟨g',y2⟩:=gy;rw[qp,qp] at h;let ht:=(dN h).2;let e:g=g':=(dN h).1;clear h;subst e;rw[qp,qp] at r;cases r with
  |cons r1 r2=>
   by_cases ef:f=g
   .subst ef;simp only[c9,beq_self_eq_true] at hl ⊢;cases hl;let⟨q,rfl,rfl⟩:=hy r1;show#[q,W,nD _ qh,r1,λnd o y' e1=>?_];let hs:gJ f y' ((f,y)::fs)=(f,y')::fs:=qY W;rw[hs,qp,qp];show .cons e1 (r2.stay (.refl _) λb C=>aE λz=>?_);subst z;show(eG.mp nd).1 C
   .let C:(f==g)=ar:=by simpa using ef
    simp only[c9,C] at hl ⊢;let⟨q,b1,b2,b3,b6⟩:=ih ht r2 hl;show#[q,b1,qS _ b2,b3,λnd o y' e1=>?_];let hs:gJ f y' ((g,y2)::fs)=(g,y2)::gJ f y' fs:=qZ ef;rw[hs,qp,qp];let ξ:=mv.mp nd;show .cons (r1.stay (.refl _) λb C=>aE λz=>ξ.2.2 b C q b2 z) (b6 ξ.2.1 e1)
def YW.putK{YL:Z (YQ×D)}{vs:Z (ai×V)}{fs:Z (ai×Á)}{ps:Z av}(h:vs.map (·.1)=fs.map (·.1))(r:YW O K G H (vs.map (·.2)) (fs.map (·.2)) ps)(hl:fs.lookup f=U (.k YL)):
  ∃q E,vs.lookup f=U (.ref q)/\q∈ps/\H q=U (.dK E)/\E.map (·.1)=YL.map (·.1)/\YN O K G (E.map (·.2)) (YL.map (·.2)) /\
   (ps.Nodup->∀{ţ:Z (YQ×V)}{æ:Z (YQ×D)},ţ.map (·.1)=æ.map (·.1)->YN O K G (ţ.map (·.2)) (æ.map (·.2))->YW O K G (YZ H q (.dK ţ)) (vs.map (·.2)) ((gJ f (.k æ) fs).map (·.2)) ps):=by
 let⟨q,b1,b2,b3,b4⟩:=YW.put (λr=>by cases r;show#[_,W,W]) h r hl;cases b3 with
 |k a1 a2 a3=>show#[q,_,b1,b2,a1,a2,a3,λnd _ _ e1 e2=>b4 nd (.k bf e1 e2)]
def YW.putT{vs:Z (ai×V)}{fs:Z (ai×Á)}{ps:Z av}(h:vs.map (·.1)=fs.map (·.1))(r:YW O K G H (vs.map (·.2)) (fs.map (·.2)) ps)(hl:fs.lookup f=U (.t YL)):
  ∃q E,vs.lookup f=U (.ref q)/\q∈ps/\H q=U (.dT E)/\E.map (·.1)=YL.map (·.1)/\YN O K G (E.map (·.2)) (YL.map (·.2)) /\
   (ps.Nodup->∀{ţ:Z (Z YQ×V)}{æ:Z (Z YQ×D)},ţ.map (·.1)=æ.map (·.1)->YN O K G (ţ.map (·.2)) (æ.map (·.2))->YW O K G (YZ H q (.dT ţ)) (vs.map (·.2)) ((gJ f (.t æ) fs).map (·.2)) ps):=by
 let⟨q,b1,b2,b3,b4⟩:=YW.put (λr=>by cases r;show#[_,W,W]) h r hl;cases b3 with
 |t a1 a2 a3=>show#[q,_,b1,b2,a1,a2,a3,λnd _ _ e1 e2=>b4 nd (.t bf e1 e2)]
end
section
variable{fv:FE}{fl cl:ai}
noncomputable def kG(c f:ai)(i:ag)(fv:FE):FS:=λY=>(fv Y).bind λd=>match Y[i]? with
 |some (U (.fo s c' fs))=>if c'=c/\fs.lookup f=B/\fs.length<100 then U (.nx,Y.set i (U (.fo s c (fs++[(f,.d d)])))) else B
 |_=>B
def nZ(i:ag)(hc:CF O X.K cl Zn)(hf:fl∈Zn)(ú:DE O X Zh fv)(hN:X.N[i]?=U x:=by rfl)(hv:ŋ X.env.scope x:=by ac_nf)(hd:.(r)=ar:=by decide)
  (À:(x==("__classdict__":ai))=ar:=by decide)(hs:dq Zh (U (.Attribute (.Name x vp) fl Zk)) pos.line X.env=bd ar:=by rfl):DS O X (.Assign [.Attribute (.Name x vp) fl Zk] Zh pos) (kG cl fl i fv):=⟨(sg (fM hN hv hd À) ú.1 hs).imp λus L H=>by
 rintro⟨Z8,Z9,G,Y,flw,Y',A,h,k⟩;let⟨d,hd,h⟩:=ZE h;split at h
 .rename_i sb c' fs hi;split at h
  .rename_i hz;let⟨rfl,Ġ,hz3⟩:=hz;cases h;let⟨hb,q1,q2,q3⟩:=hc.ex;show#[Z8,Z9,G,Y,d,A,hd,λv G1 H1 s1 r1=>?_];let A1:=A.step s1;let⟨w,fp,h1,h2⟩:=A1.get hi;cases h2 with
   |fo gs g1 g2 g3 g4 g5 g6=>
    rename_i a C' dx vs ps;let ÿ:=g1;rw[q1] at g1;cases g1;let hl:=YW.none g5 Ġ;let Y5:vs.length=fs.length:=by simpa using bP cM g5
    let nd:=eG.mp g3;show#[_,h1,a,hb,dx,vs,W,g4,q2,q3 fl hf,by ext,?_];rw[rj hl];let g6':YW O X.K G1 (YZ H1 a (.ins hb dx (vs++[(fl,v)]))) ((vs++[(fl,v)]).map (·.2)) ((fs++[(fl,Á.d d)]).map (·.2)) ps:=by rw[dU,dU];let:=(g6.stay (H':=YZ H1 a (.ins hb dx (vs++[(fl,v)]))) (.refl _) λb C=>aE λz=>nd.1 (by rw[<-z];show C)).app (.cons (.d r1) .nil);simpa using this
    show k L G1 _ s1.gg (A1.ch hi h1 (.fo gs ÿ g2 g3 g4 g5 g6) (λb o e C=>?_) (.fo gs ÿ g2 g3 bf (by simp[g5]) g6') (λb C=>.inl C) (.refl _) (λb o e=>?_) (λ_ _ _ _ _=>rfl))
    .rw[aE (λz=>C (by rw[z];show qh))];show e
    .rw[aE (bJ e (g2 a qh).2)];show A1.gh b o e
  .cases h
 .cases h⟩
noncomputable def gw(c f:ai)(i:ag)(y:Á):FS:=λY=>match Y[i]? with
 |some (U (.fo s c' fs))=>if c'=c/\fs.lookup f=B/\fs.length<100 then U (.nx,Y.set i (U (.fo s c (fs++[(f,y)])))) else B
 |_=>B
def lM(i:ag)(hc:CF O X.K cl Zn)(hf:fl∈Zn){dp:dn}(hN:X.N[i]?=U x:=by rfl)(hv:ŋ X.env.scope x:=by ac_nf)(hd:.(r)=ar:=by decide)
  (À:(x==("__classdict__":ai))=ar:=by decide)(hs:dq (.Dict [] [] dp) (U (.Attribute (.Name x vp) fl Zk)) pos.line X.env=bd ar:=by rfl):DS O X (.Assign [.Attribute (.Name x vp) fl Zk] (.Dict [] [] dp) pos) (gw cl fl i (.k [])):=⟨(sg (fM hN hv hd À) zL hs).imp λus L H=>by
 rintro⟨Z8,Z9,G,Y,flw,Y',A,h,k⟩ p hp;unfold gw at h;split at h
 .rename_i sb c' fs hi;split at h
  .rename_i hz;let⟨rfl,Ġ,hz3⟩:=hz;cases h;let⟨hb,q1,q2,q3⟩:=hc.ex;let⟨w,fp,h1,h2⟩:=A.get hi;let ht:=h2.fpt;cases h2 with
   |fo gs g1 g2 g3 g4 g5 g6=>
    rename_i a C' dx vs ps;let ÿ:=g1;rw[q1] at g1;cases g1;let hl:=YW.none g5 Ġ;let Y5:vs.length=fs.length:=by simpa using bP cM g5
    let nd:=eG.mp g3;let Ĭ:a≠p:=bJ g4 hp;let nps:∀b∈a::ps,b≠p:=λb C=>by let⟨_,_,o,e,_⟩:=ht b C;show bJ e hp
    let hp0:Z9 p=B:=A.st.hh.free hp;let hpg:G p=B:=A.gh.free hp;show#[_,h1,a,hb,dx,vs,W,by rw[aE Ĭ];show g4,q2,q3 fl hf,by ext,?_];rw[rj hl];let g6':YW O X.K G (YZ (YZ H p (.dK [])) a (.ins hb dx (vs++[(fl,.ref p)]))) ((vs++[(fl,V.ref p)]).map (·.2)) ((fs++[(fl,Á.k [])]).map (·.2)) (ps++[p]):=by rw[dU,dU];show(g6.stay (.refl _) λb C=>?_).app (.cons (.k (by rw[aE Ĭ.symm,bf]) W .nil) .nil);rw[aE λz=>nd.1 (by rw[<-z];show C),aE (nps b (qi _ C))]
    show k L G _ (.refl _) (A.ch hi h1 (.fo gs ÿ g2 g3 g4 g5 g6) (λb o e C=>?_) (.fo gs ÿ (λb C=>?_) ?_ bf (by simp[g5]) g6') (λb C=>?_) (.refl _) (λb o e=>?_) (λ_ _ _ _ _=>rfl))
    .rw[aE (λz=>C (by rw[z];show qh)),aE (bJ e hp)];show e
    .rw[<-qr] at C;rcases cY.mp C with C|C
     .exact g2 b C
     .rw[bM.mp C];show#[hp0,hpg]
    .rw[<-qr];show mv.mpr #[g3,eG.mpr #[(λz=>nomatch z),iU],λb C c hc=>by rw[bM.mp hc];show nps b C]
    .rw[<-qr] at C;rcases cY.mp C with C|C
     .exact .inl C
     .rw[bM.mp C];show .inr hp
    .rw[aE (bJ e (g2 a qh).2),aE (bJ e hpg)];show A.gh b o e
  .cases h
 .cases h⟩
end
section
variable{fv:FE}{fl cl:ai}
def VG(i:ag)(hc:CF O X.K cl Zn)(hf:fl∈Zn){dp:dn}(hN:X.N[i]?=U x:=by rfl)(hv:ŋ X.env.scope x:=by ac_nf)(hd:.(r)=ar:=by decide)
  (À:(x==("__classdict__":ai))=ar:=by decide)(hs:dq (.Dict [] [] dp) (U (.Attribute (.Name x vp) fl Zk)) pos.line X.env=bd ar:=by rfl):DS O X (.Assign [.Attribute (.Name x vp) fl Zk] (.Dict [] [] dp) pos) (gw cl fl i (.t [])):=⟨(sg (fM hN hv hd À) Fp hs).imp λus L H=>by
 rintro⟨Z8,Z9,G,Y,flw,Y',A,h,k⟩ p hp;unfold gw at h;split at h
 .rename_i sb c' fs hi;split at h
  .rename_i hz;let⟨rfl,Ġ,hz3⟩:=hz;cases h;let⟨hb,q1,q2,q3⟩:=hc.ex;let⟨w,fp,h1,h2⟩:=A.get hi;let ht:=h2.fpt;cases h2 with
   |fo gs g1 g2 g3 g4 g5 g6=>
    rename_i a C' dx vs ps;let ÿ:=g1;rw[q1] at g1;cases g1;let hl:=YW.none g5 Ġ;let Y5:vs.length=fs.length:=by simpa using bP cM g5
    let nd:=eG.mp g3;let Ĭ:a≠p:=bJ g4 hp;let nps:∀b∈a::ps,b≠p:=λb C=>by let⟨_,_,o,e,_⟩:=ht b C;show bJ e hp
    let hp0:Z9 p=B:=A.st.hh.free hp;let hpg:G p=B:=A.gh.free hp;show#[_,h1,a,hb,dx,vs,W,by rw[aE Ĭ];show g4,q2,q3 fl hf,by ext,?_];rw[rj hl];let g6':YW O X.K G (YZ (YZ H p (.dT [])) a (.ins hb dx (vs++[(fl,.ref p)]))) ((vs++[(fl,V.ref p)]).map (·.2)) ((fs++[(fl,Á.t [])]).map (·.2)) (ps++[p]):=by rw[dU,dU];show(g6.stay (.refl _) λb C=>?_).app (.cons (.t (by rw[aE Ĭ.symm,bf]) W .nil) .nil);rw[aE λz=>nd.1 (by rw[<-z];show C),aE (nps b (qi _ C))]
    show k L G _ (.refl _) (A.ch hi h1 (.fo gs ÿ g2 g3 g4 g5 g6) (λb o e C=>?_) (.fo gs ÿ (λb C=>?_) ?_ bf (by simp[g5]) g6') (λb C=>?_) (.refl _) (λb o e=>?_) (λ_ _ _ _ _=>rfl))
    .rw[aE (λz=>C (by rw[z];show qh)),aE (bJ e hp)];show e
    .rw[<-qr] at C;rcases cY.mp C with C|C
     .exact g2 b C
     .rw[bM.mp C];show#[hp0,hpg]
    .rw[<-qr];show mv.mpr #[g3,eG.mpr #[(λz=>nomatch z),iU],λb C c hc=>by rw[bM.mp hc];show nps b C]
    .rw[<-qr] at C;rcases cY.mp C with C|C
     .exact .inl C
     .rw[bM.mp C];show .inr hp
    .rw[aE (bJ e (g2 a qh).2),aE (bJ e hpg)];show A.gh b o e
  .cases h
 .cases h⟩
def gT(c f:ai)(i:ag)(fk fv:FE):FS:=λY=>(fv Y).bind λd=>(fk Y).bind λkd=>match Y[i]? with
 |some (U (.fo s c' fs))=>if c'=c then match fs.lookup f with
  |some (.k YL)=>(gK kd).bind λk=>if YL.length<100000 then U (.nx,Y.set i (U (.fo s c (gJ f (.k (bW YL k d)) fs)))) else B
  |some (.t YL)=>match kd with
   |.tup t=>(fg t).bind λks=>if YL.length<100000 then U (.nx,Y.set i (U (.fo s c (gJ f (.t (bW YL ks d)) fs)))) else B
   |_=>B
  |_=>B else B
 |_=>B
def j6(i:ag)(hu:X.A.units+66<ck)(hc:CF O X.K cl Zn)(hf:fl∈Zn)(hk:DE O X ke fk)(ú:DE O X Zh fv)(hN:X.N[i]?=U x:=by rfl)(hv:ŋ X.env.scope x:=by ac_nf)(hd:.(r)=ar:=by decide)
  (À:(x==("__classdict__":ai))=ar:=by decide)(C:jt (.Name x vp) fl X.env (eval (.Name x vp) X.env)=eval (.Name x vp) X.env:=by rfl)(hs:dq Zh (U (.Subscript (.Attribute (.Name x vp) fl ap) ke Zk)) pos.line X.env=bd ar:=by rfl):
  DS O X (.Assign [.Subscript (.Attribute (.Name x vp) fl ap) ke Zk] Zh pos) (gT cl fl i fk fv):=⟨(yT .(c) (ux (fM hN hv hd À) C) hk.1 ú.1 hs).imp λus L H=>by
 rintro⟨Z8,Z9,G,Y,flw,Y',A,h,k⟩;let⟨d,hd,ha⟩:=ZE h;clear h;let⟨kd,ġ,hq⟩:=ZE ha;clear ha;split at hq
 .rename_i sb c' fs hi;split at hq
  .rename_i hz;subst hz;let⟨hb,q1,q2,q3⟩:=hc.ex;show#[Z8,Z9,G,Y,d,A,hd,λv G1 H1 s1 r1=>?_];let A1:=A.step s1;let⟨w,fp,h1,h2⟩:=A1.get hi;cases h2 with
   |fo gs g1 g2 g3 g4 g5 g6=>
    rename_i a C' dx vs ps;let ÿ:=g1;rw[q1] at g1;cases g1;let nd:=eG.mp g3;split at hq
    .rename_i YL hl;let⟨kk,Β,hq⟩:=ZE hq;split at hq
     .rename_i hz;cases hq;let⟨p0,_,b1,_⟩:=YW.putK g5 g6 hl;show#[_,h1,a,hb,dx,_,.ref p0,W,g4,q2,q3 fl hf,b1,Z8,Z9,G1,Y,kd,A1,ġ,λu G2 H2 s2 r2=>?_];let A2:=A1.step s2;let eu:=lz r2 Β;subst eu;let hg:∀b∈a::ps,Z9 b=B/\G2 b=B:=λb C=>by
       rcases cm.mp C with rfl|į
       .exact#[(g2 _ C).1,(s2.out _ _ g4 W).trans (g2 _ C).2]
       .obtain⟨o,e,ek⟩:=g6.mem b į;show#[(g2 _ C).1,(s2.out _ _ e ek).trans (g2 _ C).2]
      let ĩ:H2 a=U (.ins hb dx vs):=s2.hh _ _ g4;let g62:YW O X.K G2 H2 (vs.map (·.2)) (fs.map (·.2)) ps:=g6.stay s2.gg λb C=>by let⟨o,e,ek⟩:=g6.mem b C;rw[e];show s2.hh _ _ e
      let⟨p,E,c1,c2,c3,c4,c5,c6⟩:=YW.putK g5 g62 hl;rw[b1] at c1;cases c1;let Y5:E.length=YL.length:=by simpa using bP cM c4
      let⟨w1,w2⟩:=o5 (r1.mono s2.gg) c4 c5;let Ĭ:a≠p0:=λz=>nd.1 (by rw[z];show c2);show#[p0,_,W,ji.k c3 (by let:=eW;ext),?_];show k L G2 _ (s1.gg.trans s2.gg) (A2.ch hi h1 (.fo gs ÿ hg g3 ĩ g5 g62) (λb o e C=>?_) (.fo gs ÿ hg g3 (by rw[aE Ĭ];show ĩ) (by rw[Fx];show g5) (c6 nd.2 w1 w2)) (λb C=>.inl C) (.refl _) (λb o e=>?_) (λ_ _ _ _ _=>rfl))
      .rw[aE (λz=>C (by rw[z];show qi _ c2))];show e
      .rw[aE (bJ e (hg p0 (qi _ c2)).2)];show A2.gh b o e
     .cases hq
    .rename_i YL hl;split at hq
     .rename_i t;let⟨ks,hks,hq⟩:=ZE hq;split at hq
      .rename_i hz;cases hq;let⟨p0,_,b1,_⟩:=YW.putT g5 g6 hl;show#[_,h1,a,hb,dx,_,.ref p0,W,g4,q2,q3 fl hf,b1,Z8,Z9,G1,Y,_,A1,ġ,λu G2 H2 s2 r2=>?_];let A2:=A1.step s2;let⟨bb,us0,rfl,hb0,rb⟩:=r2.tup_inv;let ev:=kD rb hks;subst ev;let hg:∀b∈a::ps,Z9 b=B/\G2 b=B:=λb C=>by
        rcases cm.mp C with rfl|į
        .exact#[(g2 _ C).1,(s2.out _ _ g4 W).trans (g2 _ C).2]
        .obtain⟨o,e,ek⟩:=g6.mem b į;show#[(g2 _ C).1,(s2.out _ _ e ek).trans (g2 _ C).2]
       let ĩ:H2 a=U (.ins hb dx vs):=s2.hh _ _ g4;let g62:YW O X.K G2 H2 (vs.map (·.2)) (fs.map (·.2)) ps:=g6.stay s2.gg λb C=>by let⟨o,e,ek⟩:=g6.mem b C;rw[e];show s2.hh _ _ e
       let⟨p,E,c1,c2,c3,c4,c5,c6⟩:=YW.putT g5 g62 hl;rw[b1] at c1;cases c1;let Y5:E.length=YL.length:=by simpa using bP cM c4
       let⟨w1,w2⟩:=o5 (r1.mono s2.gg) c4 c5;let Ĭ:a≠p0:=λz=>nd.1 (by rw[z];show c2);show#[p0,_,W,ji.t c3 (s2.gh _ _ hb0) (by let:=eW;ext),?_];show k L G2 _ (s1.gg.trans s2.gg) (A2.ch hi h1 (.fo gs ÿ hg g3 ĩ g5 g62) (λb o e C=>?_) (.fo gs ÿ hg g3 (by rw[aE Ĭ];show ĩ) (by rw[Fx];show g5) (c6 nd.2 w1 w2)) (λb C=>.inl C) (.refl _) (λb o e=>?_) (λ_ _ _ _ _=>rfl))
       .rw[aE (λz=>C (by rw[z];show qi _ c2))];show e
       .rw[aE (bJ e (hg p0 (qi _ c2)).2)];show A2.gh b o e
      .cases hq
     .cases hq
    .cases hq
  .cases hq
 .cases hq⟩
end
abbrev Fo:=Z (ai×Á)
structure UPost(O:Cn)(K:aT)(c:ai)(G H G' H':Hp)(fp:Z av)(a:av)(fs:Fo):Prop where
 hH:∀b o,H b=U o->b∉fp->H' b=U o
 gg:aY G G'
 gh:aY G' H'
 out:∀b o,H b=U o->b∉fp->kyT o=ar->G' b=G b
 ob:∃hb dx vs ps,O.cls c=U hb/\(∀b∈a::ps,G' b=B)/\(a::ps).Nodup/\H' a=U (.ins hb dx vs)/\vs.map (·.1)=fs.map (·.1)/\YW O K G' H' (vs.map (·.2)) (fs.map (·.2)) ps/\∀b∈a::ps,b∈fp\/H b=B
inductive spU(O:Cn)(K:aT)(c:ai)(n:ag)(F:Fo->Z D->au (D×Fo))(vs:Z V)(H:Hp)(Q:VK)(_e3:XK):Prop where
 |mk:∀a hb dx E ps fs ws G ds d ê,vs=.ref a::ws->O.cls c=U hb->aY G H->(∀b∈a::ps,G b=B)->(a::ps).Nodup->H a=U (.ins hb dx E)->E.map (·.1)=fs.map (·.1)->YW O K G H (E.map (·.2)) (fs.map (·.2)) ps->YN O K G ws ds->ds.length=n->F fs ds=U (d,ê)->(∀v G' H',UPost O K c G H G' H' (a::ps) a ê->ZD O K G' v d->Q v H')->spU O K c n F vs H Q _e3
def jk(n:ag)(c:ai)(g:FS):Fo->Z D->au (D×Fo):=λfs ds=>(g (U (.fo ah c fs)::(ds.map (λd=>U (Slot.sh d))++bU n B))).bind λ(r:Fl×bB)=>match r.2[0]? with
 |some (U (Slot.fo ah c' ê))=>if c'=c then match r.1 with
  |.rt d=>U (d,ê)
  |.nx=>U (.non,ê)
  |_=>B else B
 |_=>B
def Ð.re{O Z3:Cn}{K:aT}{G H:Hp}(hc:Z3.cls=O.cls){v:V}{f:Á}{p:Z av}(r:Ð O K G H v f p):Ð Z3 K G H v f p:=by
 cases r with
 |d h=>show .d (h.re hc)
 |k a b c=>show .k a b (c.re hc)
 |t a b c=>show .t a b (c.re hc)
def YW.re{O Z3:Cn}{K:aT}{G H:Hp}(hc:Z3.cls=O.cls):∀{vs:Z V}{fs:Z Á}{ps:Z av},YW O K G H vs fs ps->YW Z3 K G H vs fs ps
 |_,_,_,.nil=>.nil
 |_,_,_,.cons r t=>.cons (r.re hc) (t.re hc)
def YW.to1{fs:Z Á}{ps:Z av}(x:av)(r:YW O K G H vs fs ps):YW (O.mk1 x) K G H vs fs ps:=YW.re (O:=O) (Z3:=O.mk1 x) W r
def YW.of1{fs:Z Á}{ps:Z av}{x:av}(r:YW (O.mk1 x) K G H vs fs ps):YW O K G H vs fs ps:=YW.re (O:=O.mk1 x) (Z3:=O) W r
def FX{m:ag}:fJ (ds.map (λd=>U (Slot.sh d))++bU m B):=λi es e=>by
 by_cases hi:i<ds.length
 .rw[qA (by simpa using hi),qm] at e;let⟨d,_,e⟩:=Za e;cases e;show#[_,W]
 .rw[qM (by simpa using hi),wA] at e;split at e<;>cases e
def Kk{E:Z (ai×V)}{ps:Z av}{fs:Fo}{ws:Z V}{m:ag}(gh:aY G H)(hc:O.cls c=U hb)(hg:∀b∈a::ps,G b=B)(nd:(a::ps).Nodup)(ha:H a=U (.ins hb dx E))(hk:E.map (·.1)=fs.map (·.1))(hf:YW O K G H (E.map (·.2)) (fs.map (·.2)) ps)(r:YN O K G ws ds)(hm:m=N.length-(ws.length+1)):
  At (O.mk1 a) K G (ix (a::ps) H) G H (U (.fo ah c fs)::(ds.map (λd=>U (Slot.sh d))++bU m B)) (dX N (.ref a::ws)):=by
 let gl:aY G (ix (a::ps) H):=λb o e=>by rw[lL λz=>by rw[hg b z] at e;cases e];show gh b o e
 let af:=ui (N:=N.tail) (m:=m) gl r (by rw[Bs];ext);let es:dX N (.ref a::ws)=U (.ref a)::dX N.tail ws:=by
  unfold dX;rw[qp,qr,qj,Bs]
  congr 3
  ext
 let lh:aY (ix (a::ps) H) H:=λb o e=>by
  replace e:(if b∈a::ps then B else H b)=U o:=e
  split at e
  .cases e
  .exact e
 show#[#[lh,.refl _,gh,λ_ _ _ _=>rfl],by rw[es,qj,qj,af.env.len],λ|0=>a::ps|_+1=>[],λj s e=>?_,λj k s t hjk e1 e2=>?_]
 .rw[es];cases j with
  |zero=>cases e;show#[_,W,.fo (λ_=>rfl) hc (λb C=>#[qY C,hg b C]) nd ha hk (hf.to1 a)]
  |succ j=>
   let⟨d,rfl⟩:=FX j s e;let⟨v,h1,h2⟩:=af.env.sh j d e;show#[v,h1,.sh (h2.to1 a)]
 .cases j with
  |zero=>
   cases k with
   |zero=>show bH W hjk
   |succ k=>intro b _ C;cases C
  |succ j=>intro b C;cases C
def Ş.okU{st:Stmt}{f:av}{k:ag}(F:Ş K x qual st f fd)(S:ZC N (s0::ps) (aD st))
  (Y6:∀(y:av)(Y0:aw)(A:cH)(outer:Z cA)(s:aH)(H:Hp)(us:XK),ZH k .(j)->
   Ø (O.mk1 y) .(i).nox (bZ st) g):Zt P w K mg base ø (k+1) f fd (s0::ps) (spU O K c ps.length (jk (N.length-(ps.length+1)) c g)):=by
 show F.ok S (λvs H Q us h=>?_) (λY0 A outer s H vs Q us hr h=>?_)
 .obtain⟨a,hb,dx,E,qs,fs,ws,G,ds,d,ê,rfl,_,_,_,_,_,_,_,r,hl,_⟩:=h;rw[qj,qj,r.length,hl]
 .obtain⟨a,hb,dx,E,qs,fs,ws,G,ds,d,ê,rfl,hc,gh,hg,nd,ha,hk,hf,r,hl,hd,k⟩:=h;show#[_,(Y6 a Y0 A outer s H us hr).1,?_];let⟨⟨fl,Y'⟩,C,hq⟩:=ZE hd;clear hd;show#[G,ix (a::qs) H,G,_,fl,Y',Kk gh hc hg nd ha hk hf r (by rw[r.length,hl]),C,λZ5 G' H' sm A'=>?_];let post:∀ê,Y'[0]?=U (U (.fo ah c ê))->UPost O K c G H G' H' (a::qs) a ê:=λê e0=>by
   let⟨v,fp,e1,e2⟩:=A'.get e0;show#[λb o e C=>A'.st.hh b o (by rw[lL C];show e),A'.st.gg,A'.st.gh,λb o e C=>A'.st.out b o (by rw[lL C];show e),?_];cases e2 with
   |fo gs g1 g2 g3 g4 g5 g6=>
    let ea:=gs W;cases ea;show#[_,_,_,_,g1,λb C=>(g2 b C).2,g3,g4,g5,g6.of1,λb C=>?_];let h0:(if b∈a::qs then B else H b)=B:=(g2 b C).1;split at h0
    .exact .inl (by assumption)
    .exact .inr h0
  split at hq
  .rename_i c' fs1 e0;split at hq
   .rename_i hz;subst hz;cases fl with
    |rt d1=>cases hq;exactλv rv=>k v G' H' (post _ e0) (ZD.of1 rv)
    |nx=>cases hq;show k .non G' H' (post _ e0) .non
    |_=>cases hq
   .cases hq
  .cases hq
structure CalU(O:Cn)(P:dD)(w:cD)(K:aT)(mg:ai->au aw)(base:Heap)(x c:ai)(n k:ag)(F:Fo->Z D->au (D×Fo)):Prop where
 ex:∃f fd ps,Zt P w K mg base ø k f fd ps (spU O K c n F)/\mg x=U (.ref f)/\fS K (.ref f)=ah/\ff K fd ps []
structure ð(O:Cn)(P:dD)(w:cD)(K:aT)(mg:ai->au aw)(base:Heap)(c m:ai)(n k:ag)(F:Fo->Z D->au (D×Fo)):Prop where
 ex:∃hb f fd ps,O.cls c=U hb/\Μ K hb/\Meth K hb m f/\Zt P w K mg base ø k f fd ps (spU O K c n F)/\ff K fd ps []
def Ko{F:Fo->Z D->au (D×Fo)}{Q:VK}{us:XK}(y:av)(h:spU (O.mk1 y) K c n F vs H Q us):spU O K c n F vs H Q us:=by let⟨a,hb,dx,E,ps,fs,ws,G,ds,d,ê,h0,h1,h2,h3,h4,h5,h6,h7,h8,h9,h10,k⟩:=h;show#[a,hb,dx,E,ps,fs,ws,G,ds,d,ê,h0,h1,h2,h3,h4,h5,h6,h7.of1,h8.of1,h9,h10,λv G' H' u r=>k v G' H' #[u.hH,u.gg,u.gh,u.out,?_] (r.to1 y)];let⟨hb,dx,vs,ps,b1,b2,b3,b4,b5,b6,b7⟩:=u.ob;show#[hb,dx,vs,ps,b1,b2,b3,b4,b5,b6.to1 y,b7]
def ð.re{k:ag}{F:Fo->Z D->au (D×Fo)}(hb:ð O P w K mg base c m n k F)(y:av):ð (O.mk1 y) P w K mg base c m n k F:=by let⟨hb,f,fd,ps,h0,h1,h2,h3,h4⟩:=hb.ex;show#[hb,f,fd,ps,h0,h1,h2,h3.imp λvs H Q us q=>Ko y q,h4]
def Zm.calU{st:Stmt}{k:ag}(F:Zm K mg x st)(S:ZC N (s0::ps) (aD st))
  (C:∀(kV Zp pm:aw)(an:au av)(Y0 ct:aw)(E:Z aw),E.length=(s0::ps).length->eN (cZ x x (c7 st) (bZ st) (aD st) .none kV Zp pm an Y0 ct) #[E,[]]=bd ((s0::ps).zip E))
  (Y6:∀(f y:av)(Y0:aw)(A:cH)(outer:Z cA)(s:aH)(H:Hp)(us:XK),ZH k (A.deeper (dc x (aD st) s.heap.objs.size f Y0))->
   Ø (O.mk1 y) (dy ø P w K mg base N x (aD st) f Y0 A outer s H us).nox (bZ st) g):CalU O P w K mg base x c ps.length (k+1) (jk (N.length-(ps.length+1)) c g):=by
 let⟨f,fd,h1,h2⟩:=F.ex;show#[f,fd,s0::ps,h1.okU S (Y6 f),h2,h1.kp,h1.binds C]
def Y4.calU{st:Stmt}{k:ag}(Γ:Zy O K mg c hb)(F:Y4 K hb c m qual st)(S:ZC N (s0::ps) (aD st))
  (C:∀(kV Zp pm:aw)(an:au av)(Y0 ct:aw)(E:Z aw),E.length=(s0::ps).length->eN (cZ m qual (c7 st) (bZ st) (aD st) .none kV Zp pm an Y0 ct) #[E,[]]=bd ((s0::ps).zip E))
  (Y6:∀(f y:av)(Y0:aw)(A:cH)(outer:Z cA)(s:aH)(H:Hp)(us:XK),ZH k .(j)->
   Ø (O.mk1 y) .(i).nox (bZ st) g):ð O P w K mg base c m ps.length (k+1) (jk (N.length-(ps.length+1)) c g):=by
 let⟨f,fd,h1,h2,h3⟩:=F.ex;show#[hb,f,fd,s0::ps,Γ.cn,Γ.cl,#[h2,h3,h1.kp],h1.okU S (Y6 f),h1.binds C]
variable{sb:aJ}{ê:Fo}
section
variable{fs:Fo}
def At.upost(A:At O K Z8 Z9 G H Y L){vs:Z (ai×V)}{ps:Z av}(hi:Y[i]?=U (U (.fo sb c fs)))(hv:L[i]?=U (U (.ref a)))(gs:sb=ah->O.self=U a)(g1:O.cls c=U hb)(g2:∀b∈a::ps,Z9 b=B/\G b=B)(g3:(a::ps).Nodup)(g4:H a=U (.ins hb dx vs))(g5:vs.map (·.1)=fs.map (·.1))(g6:YW O K G H (vs.map (·.2)) (fs.map (·.2)) ps)
  (u:UPost O K c G H G' H' (a::ps) a ê):At O K Z8 Z9 G' H' (Y.set i (U (.fo sb c ê))) L:=by
 let⟨C',dx',vs',ps',b1,b2,b3,b4,b5,b6,b7⟩:=u.ob;show A.ch hi hv (.fo gs g1 g2 g3 g4 g5 g6) u.hH (.fo gs b1 (λb C=>#[?_,b2 b C]) b3 b4 b5 b6) b7 u.gg u.gh u.out;rcases b7 b C with z|z
 .exact(g2 b z).1
 .exact A.st.hh.free z
end
section
variable{y:ai}
noncomputable def gO(c m:ai)(i:ag)(F:Fo->Z D->au (D×Fo))(fr:FA):FS:=λY=>match Y[i]? with
 |some (U (.fo s c' fs))=>if c'=c/\fs.lookup m=B then (fr Y).bind λds=>(F fs ds).bind λz=>U (.nx,Y.set i (U (.fo s c z.2))) else B
 |_=>B
def jI{k:ag}(i:ag){F:Fo->Z D->au (D×Fo)}(hb:ð O X.prog X.w X.K X.mg X.base c m n k F)(hr:ZH j X.A)(hk:k<=j)(ha:DA O X (e::es) fr)(hn:∀Y ds,fr Y=U ds->ds.length=n)(hN:X.N[i]?=U x:=by rfl)(hv:ŋ X.env.scope x:=by ac_nf)(hd:.(r)=ar:=by decide)(À:(x==("__classdict__":ai))=ar:=by decide)
  (ý:aP (e::es) X.env=(ar,eval e X.env)::aP es X.env:=by rfl)(Zo:(ci pos (aP es X.env)).any (·.1)=ar:=by rfl)
  (ht:eval (.Call (.Attribute (.Name x vp) m Zj) (e::es) [] pos) X.env=(do
   let ov ←eval (.Name x vp) X.env
   pj Zj.atName
   let (f,first) ←lZ [ov] (pw ov m pl)
   wz pos f first (ci pos (aP (e::es) X.env)) (jX pos (jY [] X.env))):=by rfl)
  (hs:dq (.Call (.Attribute (.Name x vp) m Zj) (e::es) [] pos) B Zk.line X.env=bd ar:=by rfl):
  DS O X (.Expr (.Call (.Attribute (.Name x vp) m Zj) (e::es) [] pos) Zk) (gO c m i F fr):=⟨by
 let⟨Ca,f,fd,ps,h0,h1,h2,h3,h4⟩:=hb.ex;show(rO (Fk (fM hN hv hd À) h1 h2 h3 (hr.mono hk) h4 .nil ko ha.1 ý Zo ht) hs).imp λus L H=>?_;rintro⟨Z8,Z9,G,Y,fl,Y',A,h,k⟩;unfold gO at h;split at h
 .rename_i sb c' fs hi;split at h
  .rename_i hz;let⟨rfl,Ġ⟩:=hz;let⟨ds,ā,h⟩:=ZE h;let⟨⟨d,ê⟩,hF,h⟩:=ZE h;cases h;let⟨w,fp,q1,q2⟩:=A.get hi;cases q2 with
   |fo gs g1 g2 g3 g4 g5 g6=>
    rename_i a C' dx vs qs;let ÿ:=g1;rw[h0] at g1;cases g1;show#[_,q1,a,dx,vs,W,g4,YW.none g5 Ġ,Z8,Z9,G,Y,ds,A,ā,λws G2 H2 s2 r2=>?_];let A2:=A.step s2;rw[iS];let hg:∀b∈a::qs,Z9 b=B/\G2 b=B:=λb C=>by
     rcases cm.mp C with rfl|į
     .exact#[(g2 _ C).1,(s2.out _ _ g4 W).trans (g2 _ C).2]
     .obtain⟨o,e,ek⟩:=g6.mem b į;show#[(g2 _ C).1,(s2.out _ _ e ek).trans (g2 _ C).2]
    let ĩ:H2 a=U (.ins Ca dx vs):=s2.hh _ _ g4;let g62:YW O X.K G2 H2 (vs.map (·.2)) (fs.map (·.2)) qs:=g6.stay s2.gg λb C=>by let⟨o,e,ek⟩:=g6.mem b C;rw[e];show s2.hh _ _ e
    show#[a,Ca,dx,vs,qs,fs,ws,G2,ds,d,ê,W,ÿ,s2.gh,λb C=>(hg b C).2,g3,ĩ,g5,g62,r2,hn Y ds ā,hF,λv G' H' u r=>k L G' H' (s2.gg.trans u.gg) (A2.upost hi q1 gs ÿ hg g3 ĩ g5 g62 u)]
  .cases h
 .cases h⟩
end
structure MPost(O:Cn)(K:aT)(c:ai)(G H G' H':Hp)(x:av)(fs:Fo):Prop where
 hh:aY H H'
 gg:aY G G'
 gh:aY G' H'
 out:∀b o,H b=U o->kyT o=ar->G' b=G b
 ob:∃hb dx vs ps,O.cls c=U hb/\(∀b∈x::ps,H b=B/\G' b=B)/\(x::ps).Nodup/\H' x=U (.ins hb dx vs)/\vs.map (·.1)=fs.map (·.1)/\YW O K G' H' (vs.map (·.2)) (fs.map (·.2)) ps
inductive Ο(O:Cn)(K:aT)(hb:av)(c:ai)(n:ag)(F:Z D->au Fo)(vs:Z V)(H:Hp)(Q:VK)(_e3:XK):Prop where
 |mk:∀x dx H1 G ds fs E,vs=.ref x::E->H=YZ (YZ H1 dx (.own x)) x (.ins hb dx [])->H1 x=B->H1 dx=B->dx≠x->aY G H1->YN O K G E ds->ds.length=n->F ds=U fs->(∀G' H',MPost O K c G H1 G' H' x fs->Q .non H')->Ο O K hb c n F vs H Q _e3
def ie(n:ag)(c:ai)(g:FS):Z D->au Fo:=λds=>(g (U (.fo ah c [])::(ds.map (λd=>U (Slot.sh d))++bU n B))).bind λ(r:Fl×bB)=>match r.1 with
 |.nx=>match r.2[0]? with
  |some (U (Slot.fo ah c' fs))=>if c'=c then U fs else B
  |_=>B
 |_=>B
def Lu{x:av}{E:Z V}{m:ag}(gh:aY G H1)(hc:O.cls c=U hb)(hx:H1 x=B)(hdx:H1 dx=B)(r:YN O K G E ds)(hm:m=N.length-(E.length+1)):
  At (O.mk1 x) K G H1 G (YZ (YZ H1 dx (.own x)) x (.ins hb dx [])) (U (.fo ah c [])::(ds.map (λd=>U (Slot.sh d))++bU m B)) (dX N (.ref x::E)):=by
 let af:=ui (N:=N.tail) (m:=m) gh r (by rw[Bs];ext);let es:dX N (.ref x::E)=U (.ref x)::dX N.tail E:=by
  unfold dX;rw[qp,qr,qj,Bs]
  congr 3
  ext
 let lh:aY H1 (YZ (YZ H1 dx (.own x)) x (.ins hb dx [])):=λb o e=>by rw[aE (bJ e hx),aE (bJ e hdx)];show e
 show#[#[lh,.refl _,gh.trans lh,λ_ _ _ _=>rfl],by rw[es,qj,qj,af.env.len],λ|0=>[x]|_+1=>[],λj s e=>?_,λj k s t hjk e1 e2=>?_]
 .rw[es];cases j with
  |zero=>cases e;show#[_,W,.fo (λ_=>rfl) hc (λb C=>by rw[bM.mp C];show#[hx,gh.free hx]) (eG.mpr #[(λz=>nomatch z),iU]) bf W .nil]
  |succ j=>
   let⟨d,rfl⟩:=FX j s e;let⟨v,h1,h2⟩:=af.env.sh j d e;show#[v,h1,.sh (h2.to1 x)]
 .cases j with
  |zero=>
   cases k with
   |zero=>show bH W hjk
   |succ k=>intro b _ C;cases C
  |succ j=>intro b C;cases C
def t9{m:ag}{Q:VK}{us:XK}(hm:N.length-(n+1)=m)(hc:O.cls c=U hb)(h:Ο O K hb c n (ie m c g) vs H Q us):∃y,Η (O.mk1 y) K g {nx:=λ_ H'=>Q .non H',rt:=Q} (dX N vs) H:=by
 let⟨y,dx,H1,G,ds,fs,E,rfl,rfl,hy,hdy,_,gh,r,hl,hd,k⟩:=h;show#[y,?_];let⟨⟨fl,Y'⟩,C,hq⟩:=ZE hd;clear hd;show#[G,H1,G,_,fl,Y',Lu gh hc hy hdy r (by rw[r.length,hl,hm]),C,λZ5 G' H' sm A'=>?_];cases fl with
 |nx=>
  replace hq:(match Y'[0]? with
   |some (U (Slot.fo ah c' fs))=>if c'=c then U fs else B
   |_=>B)=U fs:=hq
  split at hq
  .rename_i c' fs1 e0;split at hq
   .rename_i hz;subst hz;cases hq;let⟨v,fp,e1,e2⟩:=A'.get e0;cases e2 with
    |fo gs g1 g2 g3 g4 g5 g6=>
     let ea:=gs W;cases ea;show k G' H' #[A'.st.hh,A'.st.gg,A'.st.gh,A'.st.out,_,_,_,_,g1,g2,g3,g4,g5,g6.of1]
   .cases hq
  .cases hq
 |_=>cases hq
def vZ{F:Z D->au Fo}{Q:VK}{us:XK}(h:Ο O K hb c n F vs H Q us):vs.length=n+1:=by let⟨y,dx,H1,G,ds,fs,E,rfl,_,_,_,_,_,r,hl,_⟩:=h;rw[qj,r.length,hl]
def Ş.okIU{st:Stmt}{f:av}{k:ag}(F:Ş K x qual st f fd)(S:ZC N (s0::ps) (aD st))(hc:O.cls c=U hb)
  (Y6:∀(y:av)(Y0:aw)(A:cH)(outer:Z cA)(s:aH)(H:Hp)(us:XK),ZH k .(j)->
   Ø (O.mk1 y) .(i).nox (bZ st) g):Zt P w K mg base ø (k+1) f fd (s0::ps) (Ο O K hb c ps.length (ie (N.length-(ps.length+1)) c g)):=
 F.ok S (λvs H Q us h=>vZ h) λY0 A outer s H vs Q us hr h=>by let⟨y,q⟩:=t9 rfl hc h;show#[_,(Y6 y Y0 A outer s H us hr).1,q]
structure Ê(O:Cn)(P:dD)(w:cD)(K:aT)(mg:ai->au aw)(base:Heap)(c:ai)(n k:ag)(dd:Z D)(F:Z D->au Fo):Prop where
 ex:∃hb f fd ps Zr ds,O.cls c=U hb/\Mk K hb f/\mg c=U (.ref hb)/\Zt P w K mg base ø k f fd ps (Ο O K hb c n F)/\ff K fd ps ds/\bj Zr ds/\∀G,YN O K G Zr dd
def Ê.re{k:ag}{dd:Z D}{F:Z D->au Fo}(hb:Ê O P w K mg base c n k dd F)(y:av):Ê (O.mk1 y) P w K mg base c n k dd F:=by let⟨hb,f,fd,ps,Zr,ds,h0,h1,h2,h3,h4,h5,h6⟩:=hb.ex;show#[hb,f,fd,ps,Zr,ds,h0,h1,h2,h3.imp λvs H Q us q=>?_,h4,h5,λG=>(h6 G).to1 y];let⟨x,dx,H1,G,ds,fs,E,a1,a2,a3,a4,a5,a6,a7,a8,a9,k⟩:=q;show#[x,dx,H1,G,ds,fs,E,a1,a2,a3,a4,a5,a6,a7.of1,a8,a9,λG' H' u=>k G' H' #[u.hh,u.gg,u.gh,u.out,?_]];let⟨hb,dx,vs,ps,b1,b2,b3,b4,b5,b6⟩:=u.ob;show#[hb,dx,vs,ps,b1,b2,b3,b4,b5,b6.to1 y]
def Y4.calIU{st:Stmt}{k:ag}(Γ:Zy O K mg c hb)(F:Y4 K hb c "__init__" qual st)(S:ZC N (s0::ps) (aD st))
  (C:∀(kV Zp pm:aw)(an:au av)(Y0 ct:aw)(E:Z aw),E.length=(s0::ps).length->eN (cZ "__init__" qual (c7 st) (bZ st) (aD st) .none kV Zp pm an Y0 ct) #[E,[]]=bd ((s0::ps).zip E))
  (Y6:∀(f y:av)(Y0:aw)(A:cH)(outer:Z cA)(s:aH)(H:Hp)(us:XK),ZH k .(j)->
   Ø (O.mk1 y) .(i).nox (bZ st) g):Ê O P w K mg base c ps.length (k+1) [] (ie (N.length-(ps.length+1)) c g):=by
 let⟨f,fd,h1,h2,h3⟩:=F.ex;show#[hb,f,fd,s0::ps,[],[],Γ.cn,#[Γ.makes,h2,h3,Γ.kp],Γ.mgC,h1.okIU S Γ.cn (Y6 f),h1.binds C,.nil,λ_=>.nil]
section
variable{y:ai}{dd:Z D}
def Pq{x:av}{fs:Fo}(A:At O K Z8 Z9 G H Y L)(u:MPost O K c G H G' H' x fs):At O K Z8 Z9 G' H' (Y.set j (U (.fo ar c fs))) (L.set j (U (.ref x))):=by let⟨hb,dx,vs,ps,b1,b2,b3,b4,b5,b6⟩:=u.ob;show A.put (.inl W) (λb o e _=>u.hh b o e) (.fo (λz=>by cases z) b1 (λb C=>#[A.st.hh.free (b2 b C).1,(b2 b C).2]) b3 b4 b5 b6) (λb C=>.inr (b2 b C).1) u.gg u.gh (λb o e _=>u.out b o e) (λb C=>by cases C)
def Pa{x:av}{fs:Fo}(gh:aY G H)(u:MPost O K c G H G' H' x fs):∃G2,Step G H G2 H'/\ZD O K G2 (.ref x) (Ψ c fs):=by
 let⟨hb,dx,vs,ps,b1,b2,b3,b4,b5,b6⟩:=u.ob;let hn:∀b∈x::ps,G' b=B:=λb C=>(b2 b C).2;let sm:=lv (H:=H') hn;show#[ia (x::ps) H' G',#[u.hh,u.gg.trans sm,λb o e=>?_,λb o e ek=>?_],?_]
 .replace e:(if b∈x::ps then H' b else G' b)=U o:=e
  split at e
  .exact e
  .exact u.gh b o e
 .show(if b∈x::ps then H' b else G' b)=_;rw[qZ λz=>by rw[(b2 b z).1] at e;cases e];show u.out b o e ek
 .refine .ins (show(if x∈x::ps then H' x else G' x)=_ by rw[qY qh];show b4) b1 (by rw[b5,qq];rfl) ?_;let:=b6.frz hn λb C=>qi _ C;rw[qq] at this ⊢;show this
def n9(c:ai)(j:ag)(F:Z D->au Fo)(dd:Z D)(fr:FA):FS:=λY=>(fr Y).bind λds=>(F (ds++dd)).bind λfs=>U (.nx,Y.set j (U (.fo ar c fs)))
def GY{m k l:ag}(j:ag){F:Z D->au Fo}(hNd:X.N.Nodup)(hb:Ê O X.prog X.w X.K X.mg X.base c n k dd F)(hr:ZH l X.A)(hk:k+1<=l)(hg:Gl X c)(ha:DA O X (e::es) fr)(hn:∀Y ds,fr Y=U ds->ds.length=m)(hm:m+dd.length=n)
  (õ:(c==("__debug__":ai))=ar:=by decide)(he:aP (e::es) X.env=(ar,eval e X.env)::aP es X.env:=by rfl)(Zo:(ci pos (aP es X.env)).any (·.1)=ar:=by rfl)
  (hj:X.N[j]?=U y:=by rfl)(hx:Loc X.env.scope y:=by ac_nf)(hs:dq (.Call (.Name c p) (e::es) [] pos) (U (.Name y py)) Zk.line X.env=bd ar:=by rfl)(hf:X.fn y=ah\/X.env.scope.names.lookup y=U .local:=by ac_nf):
  DS O X (.Assign [.Name y py] (.Call (.Name c p) (e::es) [] pos) Zk) (n9 c j F dd fr):=⟨by
 let⟨Ca,f,fd,ps,Zr,dsV,h0,h1,h2,h3,h4,h5,h6⟩:=hb.ex;show(mP hNd hj hx (yN h1 h3 (hr.mono hk) hg h2 h4 h5 ko ha.1 õ he Zo) hs hf).imp λus L H=>?_;rintro⟨Z8,Z9,G,Y,fl,Y',A,h,k⟩;let⟨ds,ā,h⟩:=ZE h;let⟨fs,hF,h⟩:=ZE h;cases h;show#[Z8,Z9,G,Y,ds,A,ā,λws G1 H1 s1 r1 x dx hx hdx ne=>?_];let A1:=A.step s1;show#[x,dx,H1,G1,ds++dd,fs,ws++Zr,W,W,hx,hdx,ne,s1.gh,r1.append (h6 G1),by rw[ql,hn Y ds ā,hm],hF,λG' H' u=>#[W,k _ G' H' (s1.gg.trans u.gg) (Pq A1 u)]]⟩
def NK{m k l:ag}{F:Z D->au Fo}(hb:Ê O X.prog X.w X.K X.mg X.base c n k dd F)(hr:ZH l X.A)(hk:k+1<=l)(hg:Gl X c)(ha:DA O X (e::es) fr)(hn:∀Y ds,fr Y=U ds->ds.length=m)(hm:m+dd.length=n)
  (õ:(c==("__debug__":ai))=ar:=by decide)(he:aP (e::es) X.env=(ar,eval e X.env)::aP es X.env:=by rfl)(Zo:(ci pos (aP es X.env)).any (·.1)=ar:=by rfl):
  DE O X (.Call (.Name c p) (e::es) [] pos) (cF (λds=>(F (ds++dd)).map (Ψ c)) fr):=⟨by
 let⟨Ca,f,fd,ps,Zr,dsV,h0,h1,h2,h3,h4,h5,h6⟩:=hb.ex;show(yN h1 h3 (hr.mono hk) hg h2 h4 h5 ko ha.1 õ he Zo).imp λL H Q=>?_;rintro⟨Z8,Z9,G,Y,d,A,h,k⟩;let⟨ds,ā,h⟩:=ZE h;let⟨fs,hF,rfl⟩:=Za h;show#[Z8,Z9,G,Y,ds,A,ā,λws G1 H1 s1 r1 x dx hx hdx ne=>?_];show#[x,dx,H1,G1,ds++dd,fs,ws++Zr,W,W,hx,hdx,ne,s1.gh,r1.append (h6 G1),by rw[ql,hn Y ds ā,hm],hF,λG' H' u=>#[W,?_]];let⟨G2,s2,r2⟩:=Pa s1.gh u;show k _ G2 H' (s1.trans s2) r2⟩
end
structure Ŵ(K:aT)(x qual:ai)(st:Stmt)(f:av)(fd:kN)(items:Z aw):Prop where
 ex:∃(oc:aw)(od:au av)(T:av)(kV Zp pm:aw)(an:au av)(Y0 ct:aw)(ŕ:bK (au aw))(to:Obj)(n:ag),
  fd=cZ x qual (c7 st) (bZ st) (aD st) (.ref T) kV Zp pm an Y0 ct/\K.lookup f=U #[oc,od,.func fd,ŕ]/\nI K Y0 qual=ah/\K.lookup T=U to/\to.data=.seq items.toArray n
 kp:fS K (.ref f)=ah
def Ŵ.ok{st:Stmt}{f:av}{items:Z aw}{k:ag}(F:Ŵ K x qual st f fd items)(S:ZC N ps (aD st))(len:∀vs H Q us,sp vs H Q us->vs.length=ps.length)
  (Y6:∀(Y0:aw)(A:cH)(outer:Z cA)(s:aH)(H:Hp)(vs:Z V)(Q:VK)(us:XK),ZH k .(j)->sp vs H Q us->
   ∃t,Ś .(i).nox (bZ st) t/\t {nx:=λ_ H'=>Q .non H',rt:=Q} (dX N vs) H):Zt P w K mg base ø (k+1) f fd ps sp:=by
 let⟨oc,od,T,kV,Zp,pm,an,Y0,ct,ŕ,to,n,rfl,lk,À,_⟩:=F.ex;show El lk À S len λA outer s H vs Q us hr hsp=>?_;let⟨t,h,q⟩:=Y6 Y0 A outer s H vs Q us hr hsp;show#[t,h.nox,q]
def Ŵ.binds{st:Stmt}{f:av}{items:Z aw}(F:Ŵ K x qual st f fd items)
  (h:∀(T:av)(kV Zp pm:aw)(an:au av)(Y0 ct:aw)(E:Z aw),(E++items).length=ps.length->∃k,eN (cZ x qual (c7 st) (bZ st) (aD st) (.ref T) kV Zp pm an Y0 ct) #[E,[]]=nU (.ref T) >>= k/\k (U items.toArray)=bd (ps.zip (E++items))):ff K fd ps items:=by
 let⟨oc,od,T,kV,Zp,pm,an,Y0,ct,ŕ,to,n,rfl,lk,À,lT,dT⟩:=F.ex;intro s E Į hl;let⟨k,h1,h2⟩:=h T kV Zp pm an Y0 ct E hl;show .of_defaults W (Į T to lT) dT h1 h2
structure É(K:aT)(hb:av)(c m qual:ai)(st:Stmt)(Zr:Z V):Prop where
 ex:∃f fd items,Ŵ K m qual st f fd items/\bj Zr items/\cv K (.ref hb) m=U (U (.ref f))/\pr K (.ref f)=ah
def É.mk'{f T:av}{st:Stmt}{items:Z aw}{kV:aw}{to:Obj}(a:cv K (.ref hb) m=U (U (.ref f)))(i:pr K (.ref f)=ah)
  (l:K.lookup f=U #[oc,od,.func (cZ m qual (c7 st) (bZ st) (aD st) (.ref T) kV Zp pm an Y0 ct),ŕ])(cd:nI K Y0 qual=ah)(k:fS K (.ref f)=ah)(lT:K.lookup T=U to)(dT:to.data=.seq items.toArray n)(v:bj Zr items):É K hb c m qual st Zr:=#[f,_,items,#[#[oc,od,T,kV,Zp,pm,an,Y0,ct,ŕ,to,n,W,l,cd,lT,dT],k],v,a,i]
def É.calIU{st:Stmt}{k:ag}{dd:Z D}(Γ:Zy O K mg c hb)(F:É K hb c "__init__" qual st Zr)(Ň:∀G,YN O K G Zr dd)(S:ZC N (s0::ps) (aD st))
  (C:∀(T:av)(kV Zp pm:aw)(an:au av)(Y0 ct:aw)(E items:Z aw),E.length+Zr.length=(s0::ps).length->items.length=Zr.length->∃k,eN (cZ "__init__" qual (c7 st) (bZ st) (aD st) (.ref T) kV Zp pm an Y0 ct) #[E,[]]=nU (.ref T) >>= k/\k (U items.toArray)=bd ((s0::ps).zip (E++items)))
  (Y6:∀(f y:av)(Y0:aw)(A:cH)(outer:Z cA)(s:aH)(H:Hp)(us:XK),ZH k .(j)->
   Ø (O.mk1 y) .(i).nox (bZ st) g):Ê O P w K mg base c ps.length (k+1) dd (ie (N.length-(ps.length+1)) c g):=by
 let⟨f,fd,items,h1,hv,h2,h3⟩:=F.ex;let hl:items.length=Zr.length:=hv.length.symm;show#[hb,f,fd,s0::ps,Zr,items,Γ.cn,#[Γ.makes,h2,h3,Γ.kp],Γ.mgC,h1.ok S (λvs H Q us h=>vZ h) λY0 A outer s H vs Q us hr h=>?_,h1.binds λT kV Zp pm an Y0 ct E hu=>C T kV Zp pm an Y0 ct E items (by rw[<-hl,<-ql];show hu) hl,hv,Ň];let⟨y,q⟩:=t9 rfl Γ.cn h;show#[_,(Y6 f y Y0 A outer s H us hr).1,q]
variable{cp:dn}
section
open PyProof
section
variable{R:l5->aH->Prop}{P:ag->aw->Prop}{St:ag->Heap->Prop}
def Tg(YJ:pL prog w A.in1 I fp wr n P St)(bt:ag->ag->aJ)(kw:Z (ai×aw))(hc:CmpOf prog w A.in1 .Lt P bt)(S:av)(ř:S∉fp):∀(m j:ag)(s:aH)(u:aw)(c:ag),n=j+1+m->
  St (j+1) s.heap->P (gG bt j) u->s.heap.get? S=U (Ay [u,u] c)->
  (∀v h' tk,P (gG bt (j+m)) v->(∀b o,b∉wr->b≠S->s.heap.get? b=U o->h'.get? b=U o)->R (.ok (.ret v)) {s with heap:=h',toks:=tk})->gF .(z) A (.builtin "min.loop" #[[.ref I,.none,.ref S],kw]) R s:=by
 let sw:S∉wr:=λz=>ř (YJ.sub _ z);let nm:(tM "min"++tM ".loop":cW)="min.loop":=by decide
 intro m
 induction m with
 |zero=>
  intro j s u c e st pu so r;show kW Bt (by
   rw[mi mw _];show qy (pT so W ?_);show aL _ A.in1 (wP (kI (.ref I)) _ >>= _) _ _ s;show qy (tL (YJ.done s _ _ (by rw[e];show st) λh' tk kp=>?_));show aL _ A.in1 (updateSeq S (λ_=>#[]) >>= _) _ _ _;let so':=kp S _ sw so;show qy ?_;show Iu so' W (qy (Bu (qB ?_)));show r u _ tk pu λb o C hS z=>(sU _ _ (dj hS)).trans (kp b o C z))
 |succ m ih=>
  intro j s u c e st pu so r;let lt:j+1<n:=by ext
  show kW Bt (by
   rw[mi mw _];show qy (pT so W ?_);show aL _ A.in1 (wP (kI (.ref I)) _ >>= _) _ _ s;show qy (tL (YJ.item (j+1) s _ _ lt st λv h' tk pv ù kp=>?_));let so':=kp S _ sw so;show aL _ A.in1 (wP (lZ [v,v] (richCompare .Lt v u >>= _)) _ >>= _) _ _ _;show qy (tL (qV (qy (hc (j+1) (gG bt j) v u _ _ _ pv pu ?_))));show qy (qV (kH ?_));show qy (Bu (qB ?_));let ae:j+1+m=j+(m+1):=by ext
   by_cases C:bt (j+1) (gG bt j)=ah
   .let ab:gG bt (j+1)=j+1:=by simp only[gG,C,cI]
    simp only[C,cI];show qy ?_;show Iu so' W (qy (Bu ?_));rw[nm];show qB #[mj mw _,ih (j+1) _ v _ .(c) (YJ.frame _ _ _ ù λb hf o z=>?_) (by rw[ab];show pv) (tH _ so' W) λv' h2 t2 p2 k2=>?_]
    .exact(sU _ _ (λq:S=b=>ř (by rw[q];show hf))).trans z
    .exact r v' h2 t2 (by rw[<-ae];show p2) λb o hw hS z=>k2 b o hw hS ((sU _ _ (dj hS)).trans (kp b o hw z))
   .let į:bt (j+1) (gG bt j)=ar:=by simpa using C
    let ab:gG bt (j+1)=gG bt j:=by simp only[gG,į,qt,cK]
    simp only[į,qt,cK];show qy (Bu ?_);rw[nm];show qB #[mj mw _,ih (j+1) _ u c .(c) ù (by rw[ab];show pu) so' λv' h2 t2 p2 k2=>?_];show r v' h2 t2 (by rw[<-ae];show p2) λb o hw hS z=>k2 b o hw hS (kp b o hw z))
def KF(YJ:pL prog w A.in1 I fp wr n P St)(bt:ag->ag->aJ)(kw:Z (ai×aw))(hc:CmpOf prog w A.in1 .Lt P bt)(S:av)(ř:S∉fp)(hn:0<n){c:ag}(st:St 0 s.heap)(so:s.heap.get? S=U (Ay [] c))
  (r:∀v h' tk,P (gG bt (n-1)) v->(∀b o,b∉wr->b≠S->s.heap.get? b=U o->h'.get? b=U o)->R (.ok (.ret v)) {s with heap:=h',toks:=tk}):gF .(z) A (.builtin "min.loop" #[[.ref I,.none,.ref S],kw]) R s:=by
 let sw:S∉wr:=λz=>ř (YJ.sub _ z);let nm:(tM "min"++tM ".loop":cW)="min.loop":=by decide
 show kW Bt (by
  rw[mi mw _];show qy (pT so W ?_);show aL _ A.in1 (wP (kI (.ref I)) _ >>= _) _ _ s;show qy (tL (YJ.item 0 s _ _ hn st λv h' tk pv ù kp=>?_));let so':=kp S _ sw so;show aL _ A.in1 (updateSeq S (λ_=>[v,v].toArray) >>= _) _ _ _;show qy ?_;show Iu so' W ?_;rw[nm];show qB #[mj mw _,Tg YJ bt kw hc S ř (n-1) 0 _ v _ .(c) (YJ.frame _ _ _ ù λb hf o z=>?_) pv (tH _ so' W) λv' h2 t2 p2 k2=>?_]
  .exact(sU _ _ (λq:S=b=>ř (by rw[q];show hf))).trans z
  .exact r v' h2 t2 (by rw[nV] at p2;show p2) λb o hw hS z=>k2 b o hw hS ((sU _ _ (dj hS)).trans (kp b o hw z)))
def VL(YJ:pL prog w A.in1 I fp wr n P St)(x:ai)(d:aw)(kw:Z (ai×aw))(S:av)(ř:S∉fp)(hn:n=0){c:ag}(st:St 0 s.heap)(so:s.heap.get? S=U (Ay [] c))
  (r:∀h' tk,(∀b o,b∉wr->b≠S->s.heap.get? b=U o->h'.get? b=U o)->R (.ok (.ret d)) {s with heap:=h',toks:=tk}):gF .(z) A (.builtin "min.loop" #[[.ref I,.none,.ref S],(x,d)::kw]) R s:=by
 subst hn;show kW Bt (by rw[mi mw _];show qy (pT so W ?_);show aL _ A.in1 (wP (kI (.ref I)) _ >>= _) _ _ s;show qy (tL (YJ.done s _ _ st λh' tk kp=>?_));show qy (Iq ?_);show qB (r h' tk λb o C _ z=>kp b o C z))
end
def TJ(a v:aw):me "min" #[[a],[(tK "default",v)]]:=by unfold me;kernel_rfl
def Mt{x d:aw} 
  (h:aL .(z) A.in1 (l0 x) (λit t=>∃I fp wr n P St bt,it=.ref I/\pL prog w A.in1 I fp wr n P St/\St 0 t.heap/\(∀b∈fp,b<t.heap.objs.size)/\CmpOf prog w A.in1 .Lt P bt /\
   (n=0->∀h' tk,(∀b o,b∉wr->t.heap.get? b=U o->h'.get? b=U o)->Q d {t with heap:=h',toks:=tk}) /\
   (0<n->∀v h' tk,P (gG bt (n-1)) v->(∀b o,b∉wr->t.heap.get? b=U o->h'.get? b=U o)->Q v {t with heap:=h',toks:=tk})) us s):
  aL .(z) A (call (.builtin "min") [x] [(tK "default",d)]) Q us s:=by
 let nm:(tM "min"++tM ".loop":cW)="min.loop":=by decide
 show kmb_tree F.kind_min F.plain_min F.entry_min (TJ _ _) ?_;show aL _ A.in1 (YA "min" ["key","default"] 0 #[[],[(tK "default",d)]] >>= _) _ _ s;show qy (pQ (W) ?_);show qy (qB ?_);show qy (Zf h λit t q=>?_);let⟨I,fp,wr,n,P,St,bt,rfl,YJ,st,hf,hc,q0,q1⟩:=q;let nf:t.heap.objs.size∉fp:=λz=>gU _ (hf _ z);show qy (ju ?_);rw[nm];by_cases hn:n=0
 .exact qB #[mj mw _,VL YJ _ d [] t.heap.objs.size nf hn (YJ.frame _ _ _ st λb _ o z=>qv _ z) (qH _ W) λh' tk kp=>q0 hn h' tk λb o C z=>kp b o C (qD (qw z)) (qv _ z)]
 .exact qB #[mj mw _,KF YJ bt _ hc t.heap.objs.size nf .(c) (YJ.frame _ _ _ st λb _ o z=>qv _ z) (qH _ W) λv h' tk pv kp=>q1 .(c) v h' tk pv λb o C z=>kp b o C (qD (qw z)) (qv _ z)]
noncomputable def yr(ns:Z aj)(i j:ag):aJ:=decide (ns.getD i 0<ns.getD j 0)
def rZ(ns:Z aj):D:=if ns=[] then .non else .int (ns.getD (gG (yr ns) (ns.length-1)) 0)
def o7(ns:Z aj):V:=if ns=[] then .non else .int (ns.getD (gG (yr ns) (ns.length-1)) 0)
def yK:D->au D
 |.lst l=>(jc l).map rZ
 |_=>B
def Ue(t:TE):TE:=λL H Q=>t L H λv H1=>∃(a:av)(ns:Z aj),[v]=[.ref a]/\H1 a=U (.lst (ns.map V.int))/\Q (o7 ns) H1
def OG{t:TE}{kp:dn}(hc:X.calm=ah)(hg:Gl X "min")(hm:X.mg "min"=B)(h:PE X e t)(he:aP [e] X.env=(ar,eval e X.env)::aP [] X.env:=by rfl)(C:ci pos (aP [e] X.env)=(ar,eval e X.env)::ci pos (aP [] X.env):=by rfl)
  (Zo:(ci pos (aP [e] X.env)).any (·.1)=ar:=by rfl):
  PE X (.Call (.Name "min" p) [e] [#[U "default",.Constant .none j cp,kp]] pos) (Ue t):=by
 intro Z' s L H Q I q;show wy (mR I hg hm (by rfl) ?_);show callWith_kw (Zf (jh h jJ he pos Z' s L H (λvs H1=>∃(a:av)(ns:Z aj),vs=[.ref a]/\H1 a=U (.lst (ns.map V.int))/\Q (o7 ns) H1) I q) λE s1 #[vs,H1,I1,r1,q1]=>?_) C Zo;let⟨a,ns,rfl,ha,q2⟩:=q1;let⟨u,rfl,ru⟩:=eR r1;cases ru;show kws_cons (Constant_none (kws_nil ?_));let⟨YY,rv,pl,_⟩:=I1.list (.inl (.inl ha));let⟨vl,vi⟩:=Jv rv;show Mt (nQ pl.isList ?_);let ne:a≠s1.heap.objs.size:=by let⟨o,_,h1,_⟩:=pl;show qD (qw h1)
 let hP:∀(i:ag)v,YY.toArray[i]?=U v->∃t,v=.int (ns.getD i 0) t:=λi v hv=>vi i v (by simpa using hv);let la:a<s1.heap.objs.size:=by let⟨o,_,h1,_⟩:=pl;show qw h1
 let sz:YY.toArray.size=ns.length:=by simp[vl]
 show#[s1.heap.objs.size,_,_,_,_,_,yr ns,W,tp (show X.A.in1.handled=B from I1.ok.hd hc) s1.heap.objs.size a ne YY.toArray,#[#[_,qH _ W,W,W],pl.isList.at λo q=>qv _ q],λb C=>?_,CmpOf.ints_lt (λi=>ns.getD i 0) hP,λhn h' tk hk=>?_,λhn v h' tk pv hk=>?_]
 .rw[l7];simp only[qN,qL,or_false] at C;rcases C with z|z
  .rw[z];show sQ _
  .rw[z];show pR la
 .let e0:ns=[]:=Bc.mp .(c);show#[.non,H1,I1.kept λb o z=>hk b o ?_ (qv _ z),W,?_]
  .intro z';let:b=s1.heap.objs.size:=by simpa using z'
   show bH (qw z) (by rw[this];show gU _)
  .unfold o7 at q2;rw[qY e0] at q2;show q2
 .let e0:ns≠[]:=λz=>by rw[sz,z] at hn;show bH hn .(b)
  let⟨t,rfl⟩:=hP _ _ pv;show#[o7 ns,H1,I1.kept λb o z=>hk b o ?_ (qv _ z),?_,q2]
  .intro z';let:b=s1.heap.objs.size:=by simpa using z'
   show bH (qw z) (by rw[this];show gU _)
  .unfold o7;rw[qZ e0,sz];show#[t,W]
def OS{kp:dn}(hc:X.calm=ah)(hg:Gl X "min")(hm:X.mg "min"=B)(h:DE O X e f)(he:aP [e] X.env=(ar,eval e X.env)::aP [] X.env:=by rfl)(C:ci pos (aP [e] X.env)=(ar,eval e X.env)::ci pos (aP [] X.env):=by rfl)
  (Zo:(ci pos (aP [e] X.env)).any (·.1)=ar:=by rfl):DE O X (.Call (.Name "min" p) [e] [#[U "default",.Constant .none j cp,kp]] pos) (b1 yK f):=⟨(OG hc hg hm h.1 he C Zo).imp λL H Q=>by
 rintro⟨Z8,Z9,G,Y,z,A,hq,k⟩;let⟨d,hd,hi⟩:=ZE hq;show#[Z8,Z9,G,Y,d,A,hd,λv G1 H1 s1 r1=>?_];unfold yK at hi;split at hi
 .obtain⟨ns,hn,rfl⟩:=Za hi;let⟨a,E,rfl,ha,ra⟩:=r1.lst_inv;show#[a,ns,W,by rw[<-vS ra hn];show s1.gh _ _ ha,k _ G1 H1 s1 ?_];unfold o7 rZ;split
  .exact .non
  .exact .int _
 .cases hi⟩
end
section
open PyProof
section
variable{it d:av}{es:bK sZ}{od:Obj}
def DF(hs:(d==iP)=ar)(hod:s.heap.get? d=U od)(hx:od.ExactDict)(Ň:od.data=.dict es ep)
  (hQ:∀h',h'=s.heap.push {cls:=.type "dict_keyiterator",data:=.fields [.ref d,.int 0 0,.int es.size 0,.int ep 0].toArray}->Q (.ref s.heap.objs.size) {s with heap:=h'}):
  aL .(z) A (l0 (.ref d)) Q us s:=by
 let hT:s.TypeIs (.ref d) "dict":=#[od,hod,hx.1];show Iv hT Xc (l9 Xc hT F.entry_dict_iter ?_ (F.args_dict_iter_1 _));show qy (qy (Xb hT ?_));show qB ?_;show aL _ _ (Xd d >>= _) _ _ s;unfold Xd;rw[qZ (by rw[hs];show qu)];show qy (qB (qy (Xe hod Ň (qy (Xf hod Ň (qy (ju (qB
  #[_,W,"dict_keyiterator",_,#[_,qH _ W,W],Iw.lookup,hQ _ W]))))))))
def vx{Q:au aw->aH->Prop}(hh:A.handled=B)(hit:s.heap.IsKeyIter it d i es.size ep)(hod:s.heap.get? d=U od)(Ň:od.data=.dict es ep)
  (hi:∀e h',es[i]?=U e->h'.IsKeyIter it d (i+1) es.size ep->gW it s.heap h'->Q (U e.key) {s with heap:=h'})
  (he:es[i]?=B->∀h',Bv it s.heap h'->Q B {s with heap:=h'}):aL .(z) A (kI (.ref it)) Q us s:=by
 let⟨o,ho,hc,hd⟩:=id hit;let hT:=hit.typeIs;show qy (wN (AO hT Iw
  (l9 Iw hT F.entry_dict_keyiterator_next ?_ (F.args_dict_keyiterator_next_1 _))))
 show qy (qB (qy (qy ?_)));show qy (Ix hT (qB (qy (Iy ho hd ?_))));simp only[show YB "dict_keyiterator"=ar by decide,qt,cK];show aL _ _ (if (cU d==Ho)=ah then _ else _) _ _ s;rw[qZ (show ¬((cU d==Ho)=ah) from qu)];show qy (qB (qy (Xe hod Ň ?_)));rw[qZ (by simp)];show qy (qB (qy (Xf hod Ň ?_)));rw[qZ (by simp)];show qB ?_;simp only[show ¬((i:aj)<0) from by ext,cK,fA];cases hx:es[i]? with
 |some e=>
  show qy (qy (Ix hT (qB (qy (Xg hT ?_)))));show aL _ _ (setField (.ref it) 1 (jU ((i:aj)+1)) >>= _) _ _ s;show qy (wQ ho hd (by simp) ?_);let hit':(s.heap.update it (tN (·.setIfInBounds 1 (jU ((i:aj)+1))))).IsKeyIter it d (i+1) es.size ep:=
   #[_,tH _ ho (Iz (nW hd _)),(IA ..).trans hc,by rw[nW hd];simp[jU]]
  show qy (qV (qy (Xg hit'.typeIs ?_)));show qB (qB #[_,W,qB (hi _ _ hx hit' (mr ..))])
 |none=>
  show qy (qy (Ix hT (qB ?_)));show aL _ _ (setField (.ref it) 0 .none >>= _) _ _ s;show qy (wQ ho hd (by simp) ?_);simp only[newExc,newTuple];show qy (qy (ju ?_ (by size_fits)));show qy (pQ (by first|rfl|(simp only[Xh];rfl)) ?_);show ju ?_ (by size_fits);simp only[raiseNew];show qy (wpAny_handled ?_);rw[show A.in1.handled=B from hh];show qy (qB (Ip ?_));show qy (wO #[_,qH _ W,W] Xi ?_);show qB (he hx _ (((mr ..).extBut.push _).push _))
end
end
section
variable{a c o i:Expr}
def YN.strs{K:aT}{G:Hp}:∀(ns:Z ai),YN O K G (ns.map V.str) (ns.map D.str)
 |[]=>.nil
 |n::r=>.cons (.str n) (YN.strs r)
end
section
variable{a c o i:Expr}
end
def cQ.there{h:Heap}{o:HO}(x:cQ P w H h a o):∃u,h.get? a=U u:=by
 cases o with
 |lst xs=>let⟨_,_,_,_,e⟩:=x;show#[_,e]
 |tup xs=>let⟨_,_,_,p,e,_⟩:=x;show#[_,e]
 |dK YL=>let⟨_,_,_,_,o,_,_,e,_⟩:=x;show#[_,e]
 |dT YL=>let⟨_,_,_,_,o,_,_,e,_⟩:=x;show#[_,e]
 |set S n=>let⟨o,_,_,_,e,_⟩:=x;show#[_,e]
 |ins hb dx fs=>let⟨_,_,_,e,_⟩:=x;show#[_,e]
 |own y=>let⟨_,e⟩:=x;show#[_,e]
 |frz ob u=>let⟨e,_⟩:=x;show#[_,e]
 |tbl ps=>show#[_,(x)]
 |ext φ=>let⟨_,⟨_,e⟩,_⟩:=x;show#[_,e]
def YS.none_of(I:YS X Z' L H s)(h:∀u,s.heap.get? a=U u->False):H a=B:=by
 cases e:H a with
 |none=>rfl
 |some o=>
  let⟨u,hu⟩:=(I.hok a o e).there;show(h u hu).elim
def YS.many(I:YS X Z' L H s)(k:∀b u,s.heap.get? b=U u->h'.get? b=U u)(hs:aY H H')(new:∀b o,H b=B->H' b=U o->(∀u,s.heap.get? b=U u->False)/\cQ X.prog X.w H' h' b o):
  YS X Z' L H' {s with heap:=h',toks:=t'}:=by
 show I.un #[λb ob q _ _ _=>k b ob q,λb ob q _ _ _=>#[ob.slots,k b ob q],λb ob q n _=>?_,λb ob q _=>#[ob,k b ob q],λb xs q=>hs _ _ q,λb o u q=>hs _ _ q,λb ps q=>#[#[],by rw[hs _ _ q];simp]] λb o q=>?_
 .cases e:H' b with
  |none=>rfl
  |some o=>show((new b o n e).1 ob q).elim
 .cases e:H b with
  |none=>show(new b o e q).2
  |some o'=>
   let:=hs _ _ e;rw[q] at this;cases this;show(I.hok b o e).stay (λc v _ r=>k c v r) (λc r=>hs _ _ r) λc xs r=>hs _ _ r
variable{p3 p4:dn}
section
variable{a c o i:Expr}
def my(kb:Z (YQ×D)):Z (YQ×D)->au aJ
 |[]=>U ah
 |(k,v)::r=>match bc kb k with
  |none=>U ar
  |some y=>(eqX v y).bind λe=>(my kb r).map (e && ·)
def CI{Z':Z (av×Obj)}{L:St}{G H:Hp}{s:aH}{A:cH}(I:YS X Z' L H s)(gh:aY G H)(hu:A.in1.units+64<ck){ub:Z (YQ×V)}{kb:Z (YQ×D)}{vb:Z (YQ×aw)}(eb:ub.map (·.1)=kb.map (·.1))(rb:YN O X.K G (ub.map (·.2)) (kb.map (·.2)))(qb:KV ub vb):
  ∀{ua:Z (YQ×V)}{ka:Z (YQ×D)}{va:Z (YQ×aw)}{r:aJ},ua.map (·.1)=ka.map (·.1)->YN O X.K G (ua.map (·.2)) (ka.map (·.2))->KV ua va->my kb ka=U r->PySem.W.KeqHits A.in1 s vb va r
 |[],[],va,r,_,_,qa,h=>by cases qa;cases h;show .nil
 |[],_::_,_,_,e,_,_,_=>by cases e
 |_::_,[],_,_,e,_,_,_=>by cases e
 |(k1,v)::ua,(k2,d)::ka,va,r,e,rr,qa,h=>by
  let e1:k1=k2:=(dN e).1;let e2:ua.map (·.1)=ka.map (·.1):=(dN e).2;subst e1;cases rr with
  |cons r1 r2=>
   cases qa with
   |cons q1 q2=>
    rename_i w va;let⟨kw,vw⟩:=w;let⟨z1,z2⟩:=q1
    replace z1:k1=kw:=z1
    subst z1;let rv:=qb.val k1;unfold my at h;rcases nr eb rb with⟨n1,n2⟩|⟨y,u,n1,n2,n3⟩
    .rw[n1] at h;cases h;rw[n2] at rv;show .miss (eS.none_of rv)
    .rw[n1] at h;let⟨e,he,h⟩:=ZE h;let⟨b,C,rfl⟩:=Za h;rw[n2] at rv;let⟨u',hu',ru'⟩:=eS.some_of rv;let⟨p,q,hp,hq,s1,s2,rfl⟩:=wY he;let⟨as,a1⟩:=r1.reads I gh z2 hp;let⟨bs,a2⟩:=n3.reads I gh ru' hq;show .hit hu' (PySem.W.keq_at a1 a2 s1 s2 hu) (CI I gh hu eb rb qb e2 r2 q2 C)
def Ŗ(x y:ai):aJ:=!ltS y x
def i7(l:Z ai):Z ai:=l.mergeSort Ŗ
def nA{y:ai}:Ŗ x y=ah↔x.cps.toList<=y.cps.toList:=by unfold Ŗ ltS;rw[wR,pU,List.not_lt]
def CJ(x y z:ai)(h1:Ŗ x y=ah)(h2:Ŗ y z=ah):Ŗ x z=ah:=nA.mpr (List.le_trans (nA.mp h1) (nA.mp h2))
def RH(x y:ai):(Ŗ x y || Ŗ y x)=ah:=by rw[Bb];show(List.le_total x.cps.toList y.cps.toList).imp nA.mpr nA.mpr
def OR{y:ai}(h1:Ŗ x y=ah)(h2:Ŗ y x=ah):x=y:=by let e:=List.le_antisymm (nA.mp h1) (nA.mp h2);cases x;cases y;simp only at e;rw[Array.toList_inj.mp e]
def ER:∀(l:Z ai)(p:ai),risingS p l=ah->(∀a∈l,Ŗ p a=ah)/\l.Pairwise λa b=>Ŗ a b=ah:=by
 intro Y7
 induction Y7 with
 |nil=>
  intro _ _;show#[λ_ h=>(nomatch h),Wz]
 |cons x r ih=>
  intro p h;unfold risingS at h;rw[dB,ltCps_eq] at h;let⟨h1,h2⟩:=ih x h.2;let hp:Ŗ p x=ah:=h.1;show#[λa ha=>?_,.cons h1 h2];rcases cm.mp ha with rfl|ha
  .exact hp
  .exact CJ _ _ _ hp (h1 a ha)
def MV{l:Z ai}(h:sortedS l=ah):l.Pairwise λa b=>Ŗ a b=ah:=by
 cases l with
 |nil=>show .nil
 |cons x r=>show .cons (ER r x h).1 (ER r x h).2
def Tv{l l':Z ai}(hp:l'.Perm l)(hs:sortedS l'=ah):l'=i7 l:=
 Xj (λa b _ _ h1 h2=>OR h1 h2) (MV hs) (Xk CJ RH l) (hp.trans (wS l Ŗ).symm)
def oX:Z (YQ×D)->au (Z ai)
 |[]=>U []
 |(.inr x,_)::r=>(oX r).map (x::·)
 |(.inl _,_)::_=>B
def Cg:∀{YL:Z (YQ×D)}{E:Z (YQ×V)}{ss:Z ai},E.map (·.1)=YL.map (·.1)->oX YL=U ss->E.map (·.1)=ss.map bS
 |[],[],ss,_,h=>by cases h;rfl
 |[],_::_,_,e,_=>by cases e
 |_::_,[],_,e,_=>by cases e
 |(k,d)::YL,(k',v)::E,ss,e,h=>by
  let e1:k'=k:=(dN e).1;let e2:E.map (·.1)=YL.map (·.1):=(dN e).2;subst e1;cases k' with
  |inl i=>cases h
  |inr x=>
   let⟨zs,hz,rfl⟩:=Za (h);rw[qp,qp,Cg e2 hz]
def sx:Z D->au D
 |[.dk YL]=>(oX YL).bind λss=>if ss.length<64 then U (.lst ((i7 ss).map D.str)) else B
 |_=>B
def DU{P:dD}{w:cD}:∀{ss:Z ai}{vs:Z aw}{va:Z (YQ×aw)},va.map (·.1)=ss.map bS->vs.length=ss.length->(∀(j:ag)(v:aw),vs[j]?=U v->∃k x,va[j]?=U (k,x)/\(cS P w).is k v=ah)->wF vs ss
 |[],[],_,_,_,_=>.nil
 |[],_::_,_,_,h,_=>by cases h
 |_::_,[],_,_,h,_=>by cases h
 |s::ss,v::vs,va,e,hl,h=>by
  let⟨k,x,h1,h2⟩:=h 0 v rfl;cases va with
  |nil=>cases e
  |cons w va=>
   cases h1;let e1:k=bS s:=(dN e).1;subst e1;let⟨t,rfl⟩:=VW h2;show .cons s t (DU (dN e).2 (by simpa using hl) λj u hu=>by let⟨k,x,q1,q2⟩:=h (j+1) u (by simpa using hu);show#[k,x,by simpa using q1,q2])
def FC:∀{vs:Z aw}{ss:Z ai},wF vs ss->bj (ss.map V.str) vs
 |_,_,.nil=>.nil
 |_,_,.cons x t r=>.cons #[t,W] (FC r)
def Mr(hc:X.calm=ah):dZ X (.builtin "sorted") (λxs H Q=>∃(a:av)(E:Z (YQ×V))(ss:Z ai),xs=[.ref a]/\H a=U (.dK E)/\E.map (·.1)=ss.map bS/\ss.length<64/\∀p,H p=B->Q (.ref p) (YZ H p (.lst ((i7 ss).map V.str)))):=by
 intro Z' s L H xs E Q I r h;let⟨a,ks,ss,rfl,ha,hk,h64,q⟩:=h;let⟨u,rfl,ru⟩:=eR r;cases ru;let⟨z,md,va,qa,da⟩:=x8 I.hok ha;let⟨ep,ψ⟩:=da.dictAt;let hva:va.map (·.1)=ss.map bS:=qa.keys.symm.trans hk;let Y5:va.length=ss.length:=by simpa using bP cM hva
 let hh:X.A.handled=B:=I.ok.hd hc;let hsl:=eW;show Xl kind_sorted plain_sorted entry_sorted (args_sorted1 _) ?_;show qy (qB ?_);show qy (Xm (Xn md) hh ψ .(c) λh' tk YT hkp Ä=>?_);let hl:YT.toList.length=va.length:=by rw[fu];show Ä.1
 show qy (wpAny_newList ?_ (by rw[hl];ext));let hS:wF YT.toList ss:=DU hva (by rw[hl,Y5]) λj v e=>Ä.2 j v (by rw[<-qJ];show e);let hoL:(h'.push (Bw "list" YT.toList.toArray 0)).get? h'.objs.size=U (Bw "list" YT.toList.toArray 0):=qH _ W;show qy (qV (l9 Xo #[_,hoL,W] Xp (list_sort_treeK strKind_oneLt hoL hS.keysOf (λv₁ v₂ bX e=>keyKind_strs (by rw[<-e];show hS)) (by rw[hl];ext) λù a1 a2=>#[_,W,?_]) (Xq _)));let⟨ss',h1,h2,h3⟩:=sorted_out_str hS a1 a2;let es:=Tv h2 h3;subst es;show qB #[_,W,?_];let⟨ee,he⟩:=sortedHeap_at hoL;let hls:(i7 ss).length=ss.length:=(wS ss Ŗ).length_eq;let Ó:∀u,s.heap.get? h'.objs.size=U u->False:=λu e=>gU _ (qw (hkp _ _ e));let hn:=I.none_of Ó;show#[.ref h'.objs.size,YZ H h'.objs.size (.lst ((i7 ss).map V.str)),I.many (λb o e=>?_) (λb o e=>by rw[aE (bJ e hn)];show e) (λb o e1 e2=>?_),W,q _ hn]
 .let C:b<h'.objs.size:=qw (hkp b o e);rw[Xr (qD C) (by rw[size_push'];show pR C)];show qv _ (hkp b o e)
 .by_cases C:b=h'.objs.size
  .subst C;rw[bf] at e2;cases e2;show#[Ó,by rw[qg,hls];ext,_,ee,FC h1,by rw[Bx];show he]
  .rw[aE C,e1] at e2;cases e2
def R'(hc:X.calm=ah):ğ O X "sorted" sx:=#[_,Mr hc,λ{G H vs ds z}gh r h Q k=>by
 unfold sx at h;split at h
 .obtain⟨ss,hs,h⟩:=ZE h;split at h
  .rename_i h64;cases h;let⟨v,rfl,r1⟩:=r.one;cases r1 with
   |dk h1 h2 h3=>show#[_,_,ss,W,gh _ _ h1,Cg h2 hs,h64,ip gh (YN.strs _) k]
  .cases h
 .cases h]
end
section
variable{a c o i:Expr}
def Dh{k:YQ}(h:(cS P w).is k u=ah):bI (kV k) u:=by
 rcases jq h with⟨i,t,rfl,rfl⟩|⟨x,t,rfl,rfl⟩
 .exact#[t,W]
 .exact#[t,W]
def zt(k:YQ):ZD O K G (kV k) (cx k):=by
 cases k with
 |inl i=>show .int i
 |inr x=>show .str x
noncomputable def yC:D->au D
 |.int i=>U (.int (-i))
 |_=>B
noncomputable def w9:D->au D
 |.lst l=>U (.lst l.reverse)
 |_=>B
def YN.reverse{K:aT}{G:Hp}:∀{vs:Z V}{ds:Z D},YN O K G vs ds->YN O K G vs.reverse ds.reverse
 |_,_,.nil=>.nil
 |_,_,.cons h r=>by rw[AU,AU];show r.reverse.append (.cons h .nil)
def KG{j}(he:DE O X e f):DE O X (.Subscript e (.Slice B B (U (.UnaryOp .USub (.Constant (.int 1) j p3) p4)) p2) pos) (b1 w9 f):=⟨λZ' s L H Q I=>by
 rintro⟨Z8,Z9,G,Y,d,A,h,k⟩;let⟨x,hx,h⟩:=ZE h;unfold w9 at h;split at h
 .rename_i l;cases h;show AQ (Zf (he.1 Z' s L H (λv H'=>∃G',Step G H G' H'/\ZD O X.K G' v (.lst l)) I #[Z8,Z9,G,Y,_,A,hx,λv G' H' st r=>#[G',st,r]]) λv s1 #[v',H1,I1,r1,G1,st,rp]=>?_);let⟨a,vs,rfl,ha,rv⟩:=rp.lst_inv;cases r1;show wpAny_Slice (qB (qB ?_));show Zf ((Lj LX GA) Z' s1 L H1 (λv H'=>v=.int (-1)/\H'=H1) I1 #[_,W,W,W]) λvk s3 #[vv,H3,I3,r3,e1,e2]=>?_;subst e1 e2;let⟨t,rfl⟩:=r3;let I4:YS X Z' L H3 {s3 with heap:=s3.heap.push {cls:=.type "slice",data:=.fields [.none,.none,.int (-1) t].toArray} }:=I3.kept λb ob q=>qv _ q;let⟨YY,rr,hti,hz⟩:=I4.list (.inl (.inl (st.gh _ _ ha)));show HH hti.isList.typeIs HJ.lookup ?_ (by with_unfolding_all rfl);show Wk hti.isList (Wg ..) .none .none (.int _ _) .(b) ?_ (by rw[qC];let:=rr.length;ext);rw[PySem.W.krv_pick];let hn:=I4.fresh;show#[.ref _,_,I4.lnew (bj.reverse rr) (by rw[List.length_reverse];show hz),W,ip st.gh rv.reverse (λw G2 H2 s2 r2=>k w G2 H2 (st.trans s2) r2) _ hn]
 .cases h⟩
end
section
variable{c:Expr}
noncomputable def vD(i:ag):FS:=λY=>match Y[i]? with
 |some (U (.odk YL))=>U (.od YL,Y)
 |_=>B
def BY(i:ag)(hN:X.N[i]?=U x:=by rfl)(hv:ŋ X.env.scope x:=by ac_nf)(hd:.(r)=ar:=by decide)
  (À:(x==("__classdict__":ai))=ar:=by decide):DS O X (.Return (U (.Name x vp)) pos) (vD i):=⟨(Hg (fM hN hv hd À)).imp λus L H=>by
 rintro⟨Z8,Z9,G,Y,fl,Y',A,h,k⟩;unfold vD at h;split at h
 .rename_i YL hi;cases h;let⟨v,fp,h1,h2⟩:=A.get hi;cases h2 with
  |odk q1 q2 q3 q4 q5=>show#[_,h1,k L G H (.refl _) A _ _ q1 q2 q3 q4 q5]
 .cases h⟩
inductive spOD(O:Cn)(K:aT)(n:ag)(F:Z D->au (Z (YQ×D)))(vs:Z V)(H:Hp)(Q:VK)(_e3:XK):Prop where
 |mk:∀G ds rs,aY G H->YN O K G vs ds->ds.length=n->F ds=U rs->(∀p E G' H',Step G H G' H'->H' p=B->E.map (·.1)=rs.map (·.1)->YN O K G' (E.map (·.2)) (rs.map (·.2))->Q (.ref p) (YZ H' p (.dK E)))->spOD O K n F vs H Q _e3
noncomputable def oP(n:ag)(g:FS):Z D->au (Z (YQ×D)):=λds=>(g (ds.map (λd=>U (Slot.sh d))++bU n B)).bind λr=>match r.1 with
 |.od YL=>U YL
 |_=>B
def Ş.okOD{st:Stmt}{f:av}{k:ag}(F:Ş K x qual st f fd)(S:ZC N ps (aD st))
  (Y6:∀(Y0:aw)(A:cH)(outer:Z cA)(s:aH)(H:Hp)(us:XK),ZH k .(j)->
   Ø O .(i).nox (bZ st) g):Zt P w K mg base ø (k+1) f fd ps (spOD O K ps.length (oP (N.length-ps.length) g)):=by
 show F.ok S (λvs H Q us h=>?_) (λY0 A outer s H vs Q us hr h=>?_)
 .obtain⟨G,ds,d,_,r,hl,_⟩:=h;rw[r.length,hl]
 .obtain⟨G,ds,rs,gh,r,hl,hd,k⟩:=h;show#[_,(Y6 Y0 A outer s H us hr).1,?_];let⟨⟨fl,Y'⟩,hg,hd⟩:=ZE hd;show#[G,H,G,_,fl,Y',ui gh r (by rw[r.length,hl]),hg,λZ5 G' H' sm A'=>?_];cases fl with
  |rt d'=>cases hd
  |nx=>cases hd
  |bk=>cases hd
  |ct=>cases hd
  |nw d'=>cases hd
  |ow d'=>cases hd
  |od d'=>
   cases hd;intro p E hp0 hg hp ek rr;let st:Step G H G' (λb=>if b=p then B else H' b):=by
    show#[λb o e=>?_,A'.st.gg,λb o e=>?_,A'.st.out]
    .show(if b=p then B else H' b)=U o;rw[qZ (bJ e hp0)];show A'.st.hh b o e
    .show(if b=p then B else H' b)=U o;rw[qZ (bJ e hg)];show A'.st.gh b o e
   let:=k p E G' _ st (qY W) ek rr;let hf:YZ (λb=>if b=p then B else H' b) p (.dK E)=H':=by
    funext b
    by_cases C:b=p
    .subst C;rw[bf,hp]
    .rw[aE C];show qZ C
   rwa [hf] at this
structure ζ(O:Cn)(P:dD)(w:cD)(K:aT)(mg:ai->au aw)(base:Heap)(x:ai)(n k:ag)(F:Z D->au (Z (YQ×D))):Prop where
 ex:∃f fd ps,Zt P w K mg base ø k f fd ps (spOD O K n F)/\mg x=U (.ref f)/\fS K (.ref f)=ah/\ff K fd ps []
def Zm.calOD{st:Stmt}{k:ag}(F:Zm K mg x st)(S:ZC N ps (aD st))
  (C:∀(kV Zp pm:aw)(an:au av)(Y0 ct:aw)(E:Z aw),E.length=ps.length->eN (cZ x x (c7 st) (bZ st) (aD st) .none kV Zp pm an Y0 ct) #[E,[]]=bd (ps.zip E))
  (Y6:∀(f:av)(Y0:aw)(A:cH)(outer:Z cA)(s:aH)(H:Hp)(us:XK),ZH k (A.deeper (dc x (aD st) s.heap.objs.size f Y0))->
   Ø O (dy ø P w K mg base N x (aD st) f Y0 A outer s H us).nox (bZ st) g):ζ O P w K mg base x ps.length (k+1) (oP (N.length-ps.length) g):=by
 let⟨f,fd,h1,h2⟩:=F.ex;show#[f,fd,ps,h1.okOD S (Y6 f),h2,h1.kp,h1.binds C]
noncomputable def t6(i:ag)(F:Z D->au (Z (YQ×D)))(fr:FA):FS:=λY=>((fr Y).bind F).map λYL=>(.nx,Y.set i (U (.odk YL)))
def At.setOdkV(A:At O K Z8 Z9 G H Y L){E:Z (YQ×V)}{YL:Z (YQ×D)}(ha:H a=B)(ek:E.map (·.1)=YL.map (·.1))(rr:YN O K G (E.map (·.2)) (YL.map (·.2))):At O K Z8 Z9 G (YZ H a (.dK E)) (Y.set i (U (.odk YL))) (L.set i (U (.ref a))):=by let h0:Z9 a=B:=A.st.hh.free ha;let hg:G a=B:=A.gh.free ha;show A.put (.inl W) (λb o e _=>by rw[aE (bJ e ha)];show e) (.odk h0 hg bf ek rr) (λb C=>.inr (by rw[bM.mp C];show ha)) (.refl _) (λb o e=>?_) (λ_ _ _ _ _=>rfl) (λb C=>by cases C);rw[aE (bJ e hg)];show A.gh b o e
def OE(i:ag){y:ai}{k:ag}{F:Z D->au (Z (YQ×D))}(hN:X.N.Nodup)(hb:ζ O X.prog X.w X.K X.mg X.base y n k F)(hr:ZH j X.A)(hk:k<=j)(hg:Gl X y)(ha:DA O X (e::es) fr)(hn:∀Y ds,fr Y=U ds->ds.length=n)
  (hi:X.N[i]?=U x:=by rfl)(hx:Loc X.env.scope x:=by ac_nf)(hs:dq (.Call (.Name y p) (e::es) [] p2) (U (.Name x Zk)) pos.line X.env=bd ar:=by rfl)(hf:X.fn x=ah\/X.env.scope.names.lookup x=U .local:=by ac_nf)
  (õ:(y==("__debug__":ai))=ar:=by decide)(he:aP (e::es) X.env=(ar,eval e X.env)::aP es X.env:=by rfl)(Zo:(ci p2 (aP es X.env)).any (·.1)=ar:=by rfl):
  DS O X (.Assign [.Name x Zk] (.Call (.Name y p) (e::es) [] p2) pos) (t6 i F fr):=⟨by
 let⟨f,fd,ps,h1,h2,h3,h4⟩:=hb.ex;show(mP hN hi hx (As h1 (hr.mono hk) hg h2 h3 h4 .nil ko ha.1 õ he Zo) hs hf).imp λus L H=>?_;rintro⟨Z8,Z9,G,Y,fl,Y',A,h,k⟩;let⟨YL,hd,h⟩:=Za h;let⟨ds,ā,hF⟩:=ZE hd;cases h;show#[Z8,Z9,G,Y,ds,A,ā,λvs G1 H1 s1 r1=>?_];rw[iS];show#[G1,ds,YL,s1.gh,r1,hn Y ds ā,hF,λp E G' H' s hp ek rr=>k _ G' _ (s1.gg.trans s.gg) (((A.step s1).step s).setOdkV hp ek rr)]⟩
noncomputable def lA(i:ag)(ft:FT):FT:=λY=>match Y[i]? with
 |some (U (.odk YL))=>ft (Y.set i (U (.sh (.dk YL))))
 |_=>B
def E7(i:ag)(h:DT O X c ft):DT O X c (lA i ft):=⟨h.1.imp λL H Q=>by
 rintro⟨Z8,Z9,G,Y,b,A,h,k⟩;unfold lA at h;split at h
 .rename_i YL hi;let⟨G1,sm,A1⟩:=A.frzD hi rfl;show#[Z8,Z9,G1,_,b,A1,h,λG' H' s=>k G H' (s.back A.gh sm)]
 .cases h⟩
end
def YS.frz{a:av}{E:Z (YQ×V)}{o:Obj}(I:YS X Z' L H s)(e:H a=U (.dK E))(ho:s.heap.get? a=U o):YS X Z' L (YZ H a (.frz o (.dK E))) s:=by
 let ne:∀b u,H b=U u->u≠.dK E->b≠a:=λb u q n z=>by rw[z,e] at q;cases q;show n W
 let st:∀{b:av}{u:HO},cQ X.prog X.w H s.heap b u->cQ X.prog X.w (YZ H a (.frz o (.dK E))) s.heap b u:=λx=>
  x.stay (λc v _ r=>r) (λc r=>by rw[aE (ne c _ r (by intro z;cases z))];show r) λc xs r=>by rw[aE (ne c _ r (by intro z;cases z))];show r
 show I.un #[λb ob q _ _ _=>q,λb ob q _ _ _=>#[ob.slots,q],λb ob q n _=>?_,λb ob q _=>#[ob,q],λb xs q=>?_,λb o u q=>?_,λb ps q=>#[#[],?_]] λb u q=>?_
 .rw[aE (λz=>by rw[z,e] at n;cases n)];show n
 .rw[aE (ne b _ q (by intro z;cases z))];show q
 .rw[aE (ne b _ q (by intro z;cases z))];show q
 .rw[aE (ne b _ q (by intro z;cases z)),q];simp
 .by_cases C:b=a
  .subst C;rw[bf] at q;cases q;show#[ho,st (I.hok b _ e)]
  .rw[aE C] at q;show st (I.hok b u q)
def YS.unfrz{E:Z (YQ×V)}(I:YS X Z' L H s)(e:H a=U (.frz o (.dK E)))(Α:∀o u,X.Z9 a≠U (.frz o u)):YS X Z' L (YZ H a (.dK E)) s:=by
 let ne:∀b u,H b=U u->u≠.frz o (.dK E)->b≠a:=λb u q n z=>by rw[z,e] at q;cases q;show n W
 let nn:∀b,H b=B->YZ H a (.dK E) b=B:=λb n=>by rw[aE (λz=>by rw[z,e] at n;cases n)];show n
 let st:∀{b:av}{u:HO},cQ X.prog X.w H s.heap b u->cQ X.prog X.w (YZ H a (.dK E)) s.heap b u:=λx=>
  x.stay (λc v _ r=>r) (λc r=>by rw[aE (ne c _ r (by intro z;cases z))];show r) λc xs r=>by rw[aE (ne c _ r (by intro z;cases z))];show r
 show#[I.ok,I.os,I.bare,#[I.base.keep,I.base.slot,λb ob q n hx=>nn b (I.base.free b ob q n hx),I.base.there,λb xs q=>?_,λb ob u q=>?_,λb ps q=>?_],I.loc,I.cell,nn _ I.free,λx c q=>nn _ (I.freeC x c q),λp hp=>?_,λb u q=>?_,I.len]
 .let:=I.base.tups b xs q;rw[aE (ne b _ this (by intro z;cases z))];show this
 .let:=I.base.frzs b ob u q;rw[aE (λz=>Α ob u (by rw[<-z];show q))];show this
 .obtain⟨more,hm⟩:=I.base.tbls b ps q;show#[more,by rw[aE (ne b _ hm (by intro z;cases z))];show hm]
 .obtain⟨p1,p2,p3⟩:=I.pin p hp;show#[p1,nn _ p2,p3]
 .by_cases C:b=a
  .subst C;rw[bf] at q;cases q;show st (I.hok b _ e).2
  .rw[aE C] at q;show st (I.hok b u q)
def YS.nofrz{E:Z (YQ×V)}(I:YS X Z' L H s)(e:H a=U (.dK E)):∀o u,X.Z9 a≠U (.frz o u):=λo u q=>by let:=I.base.frzs a o u q;rw[e] at this;cases this
namespace Law
noncomputable abbrev oS(d:D):au Slot:=U (.sh d)
end Law
abbrev FQ:=Z D->au D
namespace Law
def dC{k:ag}{F:FQ}(hb:η O X.prog X.w X.K X.mg X.base x n k F)(hr:ZH j X.A)(ha:DA O X (e::es) fr)(hn:∀Y ds,fr Y=U ds->ds.length=n)(hk:k<=j:=by decide)(hg:Gl X x:=by show W)(õ:.(r)=ar:=by decide)(he:aP (e::es) X.env=(ar,eval e X.env)::aP es X.env:=by rfl)(Zo:(ci pos (aP es X.env)).any (·.1)=ar:=by rfl):DE O X (.Call (.Name x p) (e::es) [] pos) (cF F fr):=o8 hb hr hk hg ha hn õ he Zo
def aW{P:Z ai}(a:sc.kind=.function:=by rfl)(b:sc.isCoroutine=ar:=by rfl)(c:sc.isGenerator=ar:=by rfl)(d:N.Nodup:=by decide +kernel)(e:N.take P.length=P:=by rfl)(f:∀x∈P,sc.names.lookup x=U .local∨sc.names.lookup x=U .cell:=by decide +kernel)(g:∀y∈sc.names,y.2≠.free:=by decide +kernel):ZC N P sc:=#[a,b,c,d,e,f,g]
end Law
variable{Z6:aH}
section
variable{f:av}{us:XK}
 {Z':Z (av×Obj)}{L:St}{H:Hp}{s:aH}{h1:Heap}{e:av}{cls:aw}{vs:Z aw}
end
section
variable{f:av}{us:XK}
 {R:Hp->Prop}{n:cW}{x:ai}{np Zg pos:dn}{e₀:Expr}{bX:Z Expr}{fr:FA}{Bn newId initId:cW}{bmB:Z aw}
end
section
open PySem.W Builtin Builtin.ObjectAttr Builtin.Getset_descriptor
end
section
variable{a c o i:Expr}
end
section
variable{a:Expr}
def R9(h:DE O X a fa):DE O X (.UnaryOp .USub a pos) (b1 yC fa):=⟨λZ' s L H Q I=>by
 rintro⟨Z8,Z9,G,Y,d,A,hq,k⟩;let⟨x,hx,hq⟩:=ZE hq;show Hu (Zf (h.1 Z' s L H (λv H'=>∃G',Step G H G' H'/\ZD O X.K G' v x) I #[Z8,Z9,G,Y,x,A,hx,λv G' H' st r=>#[G',st,r]]) λv s1 #[v',H1,I1,r1,G1,st,rp]=>?_);unfold yC at hq;split at hq
 .cases hq;cases rp.int_inv;let⟨t,rfl⟩:=r1;show YC #[.int _,H1,I1.tok _,#[_,W],k _ G1 H1 st (.int _)]
 .cases hq⟩
end
noncomputable def δ(G:Hp)(a:av):Hp:=λb=>if b=a then B else G b
def rP{b:av}(h:b≠a):δ G a b=G b:=by unfold δ;rw[qZ h]
def PX:δ G a a=B:=by unfold δ;rw[qY W]
section
open PyProof
def YS.frzT{E:Z (Z YQ×V)}(I:YS X Z' L H s)(e:H a=U (.dT E))(ho:s.heap.get? a=U o):YS X Z' L (YZ H a (.frz o (.dT E))) s:=by
 let ne:∀b u,H b=U u->u≠.dT E->b≠a:=λb u q n z=>by rw[z,e] at q;cases q;show n W
 let st:∀{b:av}{u:HO},cQ X.prog X.w H s.heap b u->cQ X.prog X.w (YZ H a (.frz o (.dT E))) s.heap b u:=λx=>
  x.stay (λc v _ r=>r) (λc r=>by rw[aE (ne c _ r (by intro z;cases z))];show r) λc xs r=>by rw[aE (ne c _ r (by intro z;cases z))];show r
 show I.un #[λb ob q _ _ _=>q,λb ob q _ _ _=>#[ob.slots,q],λb ob q n _=>?_,λb ob q _=>#[ob,q],λb xs q=>?_,λb o u q=>?_,λb ps q=>#[#[],?_]] λb u q=>?_
 .rw[aE (λz=>by rw[z,e] at n;cases n)];show n
 .rw[aE (ne b _ q (by intro z;cases z))];show q
 .rw[aE (ne b _ q (by intro z;cases z))];show q
 .rw[aE (ne b _ q (by intro z;cases z)),q];simp
 .by_cases C:b=a
  .subst C;rw[bf] at q;cases q;show#[ho,st (I.hok b _ e)]
  .rw[aE C] at q;show st (I.hok b u q)
def YS.unfrzT{E:Z (Z YQ×V)}(I:YS X Z' L H s)(e:H a=U (.frz o (.dT E)))(Α:∀o u,X.Z9 a≠U (.frz o u)):YS X Z' L (YZ H a (.dT E)) s:=by
 let ne:∀b u,H b=U u->u≠.frz o (.dT E)->b≠a:=λb u q n z=>by rw[z,e] at q;cases q;show n W
 let nn:∀b,H b=B->YZ H a (.dT E) b=B:=λb n=>by rw[aE (λz=>by rw[z,e] at n;cases n)];show n
 let st:∀{b:av}{u:HO},cQ X.prog X.w H s.heap b u->cQ X.prog X.w (YZ H a (.dT E)) s.heap b u:=λx=>
  x.stay (λc v _ r=>r) (λc r=>by rw[aE (ne c _ r (by intro z;cases z))];show r) λc xs r=>by rw[aE (ne c _ r (by intro z;cases z))];show r
 show#[I.ok,I.os,I.bare,#[I.base.keep,I.base.slot,λb ob q n hx=>nn b (I.base.free b ob q n hx),I.base.there,λb xs q=>?_,λb ob u q=>?_,λb ps q=>?_],I.loc,I.cell,nn _ I.free,λx c q=>nn _ (I.freeC x c q),λp hp=>?_,λb u q=>?_,I.len]
 .let:=I.base.tups b xs q;rw[aE (ne b _ this (by intro z;cases z))];show this
 .let:=I.base.frzs b ob u q;rw[aE (λz=>Α ob u (by rw[<-z];show q))];show this
 .obtain⟨more,hm⟩:=I.base.tbls b ps q;show#[more,by rw[aE (ne b _ hm (by intro z;cases z))];show hm]
 .obtain⟨p1,p2,p3⟩:=I.pin p hp;show#[p1,nn _ p2,p3]
 .by_cases C:b=a
  .subst C;rw[bf] at q;cases q;show st (I.hok b _ e).2
  .rw[aE C] at q;show st (I.hok b u q)
def YS.nofrzT{E:Z (Z YQ×V)}(I:YS X Z' L H s)(e:H a=U (.dT E)):∀o u,X.Z9 a≠U (.frz o u):=λo u q=>by let:=I.base.frzs a o u q;rw[e] at this;cases this
def Ge{α β:Type}{F:α->β->Prop}:∀{l:Z α}{m:Z β}{i:ag}{y:β},Paired F l m->m[i]?=U y->∃x,l[i]?=U x/\F x y
 |_,_,_,_,.nil,e=>by simp at e
 |_,_,0,_,.cons h _,e=>by simp at e;subst e;show#[_,W,h]
 |_,_,i+1,_,.cons _ t,e=>by let⟨x,h1,h2⟩:=Ge t (by simpa using e);show#[x,by simpa using h1,h2]
def De(a:av)(o:Obj)(E:Z (Z YQ×V)):It:=
 #[λi H=>H a=U (.frz o (.dT E))/\i<E.length,λi H v H'=>H'=H/\∃kv T,E[i]?=U kv/\v=.ref T/\H T=U (.tup (kv.1.map kV)),λi H=>H a=U (.frz o (.dT E))/\i=E.length]
def Fa{h:Heap}{E:Z (Z YQ×V)}{es:bK sZ}(ok:ì P w H h)(e:H a=U (.frz o (.dT E)))(hd:o.data=.dict es ep):
  h.get? a=U o/\es.size=E.length/\∀(i:ag)(en:sZ),es[i]?=U en->∃kv T,E[i]?=U kv/\en.key=.ref T/\H T=U (.tup (kv.1.map kV)):=by
 let ho:h.get? a=U o:=(ok a _ e).1;let⟨z,md,xs,kt,o',Â,ep',h1,h2,h3,h4,h5,h6⟩:=jf ok (.inr #[o,e]);rw[ho] at h1;cases h1;rw[hd] at h3;cases h3;show#[ho,by rw[Xs h4];show(Paired.length kt).symm,λi en q=>?_];rw[entry_at h4] at q;let⟨x,hx,rfl⟩:=Za q;let⟨kv,k1,k2,k3,k4⟩:=Ge kt hx;show#[kv,x.2.1,k1,W,k3]
def RE(a it:av)(o:Obj)(E:Z (Z YQ×V))(es:bK sZ)(ep:ag)(Ô:a≠it)(hd:o.data=.dict es ep):
  ī P w K tg (De a o E) [it] it (λi h=>h.IsKeyIter it a i es.size ep) where
 mem:=by simp
 obj:=λi h st b C=>by
  let e:b=it:=by simpa using C
  subst e;let⟨o,e,c,d⟩:=st;show#[o,e,λv z=>by rw[d] at z;cases z]
 keep:=λi h h' st k=>by let⟨o,e,r⟩:=st;show#[o,k it (by simp) o e,r]
 item:=by
  intro X hP hw hK hc i Z' s L H us I hf st hg;subst hP hw hK;let⟨τ,hi⟩:=hg;let⟨f0,f1,f2,f3,f4,f5⟩:=hf it (by simp);let⟨ho,ô,ψ⟩:=Fa I.hok τ hd;show vx (I.ok.hd hc) st ho hd (λen h' hen ù hs=>?_) λhx=>?_
  .obtain⟨kv,T,k1,k2,k3⟩:=ψ i en hen;let I1:YS X Z' L H {s with heap:=h',toks:=s.toks}:=I.turned (λb o C e=>hs.extBut b o (by simpa using C) e) f0 f1 f3 f4 f5;let⟨oi,e,c,d⟩:=id ù;show#[_,W,rq e c d .(b) #[.ref T,H,I1,by rw[k2];rfl,#[W,kv,T,k1,W,k3],ù,λb C=>(hf b C).1]]
  .rw[Xt] at hx;ext
 done:=by intro X hP hw hK hc i Z' s L H us I hf st hg;subst hP hw hK;let⟨τ,hi⟩:=hg;let⟨f0,f1,f2,f3,f4,f5⟩:=hf it (by simp);let⟨ho,ô,ψ⟩:=Fa I.hok τ hd;show vx (I.ok.hd hc) st ho hd (λen h' hen ù hs=>?_) λhx h' hs=>#[W,I.turned (λb o C e=>hs b o (by simpa using C) e) f0 f1 f3 f4 f5];let:=(ge.mp hen).1;ext
 self:=λ_ _ _ _ _ st h=>IB st h
def D8:D->au (Z D)
 |.fdt YL=>U (YL.map λkv=>.tup (kv.1.map cx))
 |_=>B
def jM(f:FE):FA:=λY=>(f Y).bind D8
section
variable{c:Expr}
def P9(he:PE X iter te):PI X tg iter (λL H R=>te L H λx H1=>∃(a:av)(o:Obj)(E:Z (Z YQ×V)),x=.ref a/\H1 a=U (.frz o (.dT E))/\R (De a o E) H1):=by
 intro Z' s L H R I h;show Zf (he Z' s L H _ I h) λv s1 #[x,H1,I1,r1,a,o,E,e,ha,q]=>?_;subst e;cases r1;let ho:s1.heap.get? a=U o:=(I1.hok a _ ha).1;let⟨z,md,xs,kt,o',es,ep,h1,h2,h3,h4,h5,h6⟩:=jf I1.hok (.inr #[o,ha]);rw[ho] at h1;cases h1;show DF md ho h2 h3 λh' e'=>?_;subst e';show#[s1.heap.objs.size,[s1.heap.objs.size],_,_,H1,W,I1.kept λb u e=>qv _ e,RE a s1.heap.objs.size o E es ep (qD (qw ho)) h3,#[_,qH _ W,W,W],λb C=>?_,q];let e:b=s1.heap.objs.size:=by simpa using C
 subst e;show I1.fpOk (qx _) (I1.hok.fresh (qx _))
def Gx:∀ks:Z YQ,YN O K G (ks.map kV) (ks.map cx):=by
 intro Y7
 induction Y7 with
 |nil=>
  show .nil
 |cons k ks ih=>
  show .cons (by cases k;show .int _;show .str _) (ih)
def SF(ks:Z YQ):kyT (.tup (ks.map kV))=ah:=by show(ks.map kV).all kyV=ah;rw[gE];intro v hv;let⟨k,_,rfl⟩:=bw.mp hv;cases k<;>rfl
def Step.key{T:av}{ks:Z YQ}(gh:aY G H)(hT:H T=U (.tup (ks.map kV))):Step G H (YZ G T (.tup (ks.map kV))) H:=by
 show#[.refl _,λb u e=>?_,λb u e=>?_,λb u e k=>?_]
 .by_cases C:b=T
  .subst C;rw[gh _ _ e] at hT;rw[bf,hT]
  .rw[aE C];show e
 .by_cases C:b=T
  .subst C;rw[bf] at e;rw[hT,e]
  .rw[aE C] at e;show gh _ _ e
 .rw[aE];intro z;subst z;rw[hT] at e;cases e;rw[SF] at k;cases k
def Aa(h:DE O X iter f):DI O X tg iter (jM f):=⟨(P9 h.1).imp λL H R=>by
 rintro⟨Z8,Z9,G,Y,ds,A,h,k⟩;let⟨d,hd,h⟩:=ZE h;show#[Z8,Z9,G,Y,d,A,hd,λv G' H' s r=>?_];unfold D8 at h;split at h
 .cases h;cases r with
  |fdt h1 h2 h3=>
   rename_i YL a o E;let hln:E.length=YL.length:=by simpa using bP cM h2
   show#[_,_,_,W,s.gh _ _ h1,k _ G' H' s #[λi d G2 H2 hd g1 g2=>?_,λG2 H2 g1 g2=>#[g2 _ _ (g1 _ _ h1),by rw[qg,hln]]]];rw[qm] at hd;let⟨kd,ġ,rfl⟩:=Za hd;let hi:i<E.length:=by rw[hln];show(eV.mp ġ).1
   show#[#[g2 _ _ (g1 _ _ h1),hi],λx H3 #[e1,kv,T,hkv,ev,hT]=>?_];subst e1 ev;let ek:kv.1=kd.1:=by let:=bP (λl=>l[i]?) h2;simp only[qm,hkv,ġ,qf,wT] at this;show this
   show#[_,.key g2 hT,.tup bf (by rw[ek];show Gx _)]
 .cases h⟩
end
end
section
open PyProof
def tfD:D->aJ
 |.tup t=>t.all gN
 |_=>ar
def ltf:D->aJ
 |.lst l=>l.all tfD
 |_=>ar
section
variable{c:Expr}
def sB:∀{vs:Z V}{ds:Z D},YN O K G vs ds->ds.all gN=ah->YN O K G' vs ds
 |_,_,.nil,_=>.nil
 |_,_,.cons r t,h=>by rw[Xu,dB] at h;show .cons (r.flat h.1) (sB t h.2)
def Dz{a:av}{o:Obj}{u:HO}(ha:G a=U (.frz o u)):∀{vs:Z V}{ds:Z D},YN O K G vs ds->ds.all tfD=ah->YN O K (δ G a) vs ds
 |_,_,.nil,_=>.nil
 |_,_,.cons r t,h=>by
  rw[Xu,dB] at h;show .cons ?_ (Dz ha t h.2);cases r with
  |tup C rs=>show .tup (by rw[rP (λz=>by rw[z,ha] at C;cases C)];show C) (sB rs h.1)
  |_=>cases h.1
def Sr{u:HO}(ha:G a=U (.frz o u))(r:ZD O K G v d)(h:ltf d=ah):ZD O K (δ G a) v d:=by
 cases r with
 |lst C rs=>show .lst (by rw[rP (λz=>by rw[z,ha] at C;cases C)];show C) (Dz ha rs h)
 |_=>cases h
def lN:au Slot->au Slot
 |some (.sh d)=>if gN d=ah then U (.sh d) else B
 |_=>B
def ox(i:ag)(f:FE):FE:=λY=>match Y[i]? with
 |some (U (.sh (.dt YL)))=>if (YL.map (·.2)).all gN=ah then (f ((Y.map lN).set i (U (.sh (.fdt YL))))).bind λd=>if ltf d=ah then U d else B else B
 |_=>B
def Fe(i:ag)(h:DE O X c f):DE O X c (ox i f):=⟨λZ' s L H Q I q=>by
 let⟨Z8,Z9,G,Y,d,A,hq,k⟩:=q;unfold ox at hq;split at hq
 .rename_i YL hi;split at hq
  .rename_i hfl;let⟨d',þ,hq⟩:=ZE hq;split at hq
   .rename_i Zu;cases hq;let⟨v,h1,h2⟩:=A.env.sh i _ hi;cases h2 with
    |dt g3 q4 q5=>
     rename_i a E;let q3:=A.gh _ _ g3;let Α:=I.nofrzT q3;let⟨ob,π⟩:=(I.hok a _ q3).there;let I1:=I.frzT q3 π;let gh1:aY (YZ (λ_=>B) a (.frz ob (.dT E))) (YZ H a (.frz ob (.dT E))):=λb u e=>by
      by_cases C:b=a
      .subst C;rw[bf] at e ⊢;show e
      .rw[aE C] at e;cases e
     let A1:At O X.K (YZ (λ_=>B) a (.frz ob (.dT E))) (YZ H a (.frz ob (.dT E))) (YZ (λ_=>B) a (.frz ob (.dT E))) (YZ H a (.frz ob (.dT E))) ((Y.map lN).set i (U (.sh (.fdt YL)))) L:=by
      let key:∀(j:ag)s,((Y.map lN).set i (U (.sh (.fdt YL))))[j]?=U (U s)->(j=i/\s=.sh (.fdt YL))\/∃d,s=.sh d/\gN d=ah/\Y[j]?=U (U (.sh d)):=λj s e=>by
       by_cases hj:j=i
       .subst hj;let Zu:j<(Y.map lN).length:=by rw[qg];show(eV.mp hi).1
        rw[pi Zu] at e;cases e;show .inl #[W,W]
       .rw[qz (dj hj),qm] at e;let⟨o,ho,e⟩:=Za e;unfold lN at e;split at e
        .split at e
         .rename_i hf;cases e;show .inr #[_,W,hf,ho]
         .cases e
        .cases e
      show#[.refl gh1,.ofSh (by rw[List.length_set,qg];show A.env.len) (λj s e=>?_) λj d e=>?_]
      .rcases key j s e with⟨_,z⟩|⟨d,z,_⟩<;>show#[_,z]
      .rcases key j _ e with⟨z1,z2⟩|⟨d,z,z2,z3⟩
       .subst z1;cases z2;show#[_,h1,.fdt bf q4 (sB q5 hfl)]
       .cases z;let⟨v,y1,y2⟩:=A.env.sh j _ z3;show#[v,y1,y2.flat z2]
     show Zf (h.1 Z' s L _ (λx H'=>H' a=U (.frz ob (.dT E))/\Q x (YZ H' a (.dT E))) I1 #[_,_,_,_,_,A1,þ,λv G' H' s' r=>#[s'.hh _ _ bf,?_]]) λr s1 q=>?_
     .let hH:∀b u,b≠a->H b=U u->H' b=U u:=λb u C e=>s'.hh b u (by rw[aE C];show e);let sm:aY (δ G' a) (λb=>match G b with|some u=>U u|none=>δ G' a b):=λb u e=>by
       show(match G b with|some u=>U u|none=>δ G' a b)=U u;split
       .rename_i u' hu;let C:b≠a:=λz=>by rw[z,PX] at e;cases e
        rw[rP C] at e;let:=hH b u' C (A.gh _ _ hu);rw[s'.gh _ _ e] at this;show this.symm
       .exact e
      show k v (λb=>match G b with|some u=>U u|none=>δ G' a b) _ #[λx u e=>?_,λx u e=>?_,λx u e=>?_,λx u e ek=>?_] ((Sr (s'.gg _ _ bf) r Zu).mono sm)
      .by_cases hx:x=a
       .subst hx;rw[bf,<-e,q3]
       .rw[aE hx];show hH x u hx e
      .show(match G x with|some u=>U u|none=>δ G' a x)=U u;rw[e]
      .replace e:(match G x with|some u=>U u|none=>δ G' a x)=U u:=e
       by_cases hx:x=a
       .subst hx;rw[g3] at e;rw[bf];show e
       .rw[aE hx];split at e
        .rename_i u' hu;cases e;show hH x _ hx (A.gh _ _ hu)
        .rw[rP hx] at e;show s'.gh x u e
      .show(match G x with|some u=>U u|none=>δ G' a x)=G x;by_cases hx:x=a
       .subst hx;rw[g3]
       .cases hg:G x with
        |some u'=>rfl
        |none=>
         rw[rP hx,s'.out x u (by rw[aE hx];show e) ek,aE hx]
     .obtain⟨x,H',I',rv,hx,q⟩:=q;show#[x,_,I'.unfrzT hx Α,rv,q]
   .cases hq
  .cases hq
 .cases hq⟩
end
end
section
open PyProof
section
variable{d:av}{es:bK sZ}{od:Obj}
def RX(hh:A.handled=B)(I:av)(Ô:d≠I)(Ň:od.data=.dict es ep):pL prog w A I [I,d] [I] es.size (λi v=>∃en,es[i]?=U en/\v=en.key) (λi h=>h.IsKeyIter I d i es.size ep/\h.get? d=U od) where
 sub:=λb C=>by simp at C;simp[C]
 frame:=λ_ _ _ st hk=>#[st.1.at λo e=>hk I (by simp) o e,hk d (by simp) _ st.2]
 item:=λi s Q us hi st hQ=>vx hh st.1 st.2 Ň (λen h' hen ù hs=>hQ _ h' s.toks #[en,hen,W] #[ù,hs.extBut d _ Ô st.2] λb o C e=>hs.extBut b o (λz=>C (by simp[z])) e) λhx=>by rw[Xt] at hx;ext
 done:=λs Q us st hQ=>vx hh st.1 st.2 Ň (λen h' hen ù hs=>by let:=(ge.mp hen).1;ext) λhx h' hs=>hQ h' s.toks λb o C e=>hs b o (λz=>C (by simp[z])) e
 self:=λ_ _ _ _ st hQ=>IB st.1 hQ
def OZ(lo:(d==iP)=ar)(hx:od.ExactDict)(Ň:od.data=.dict es ep):PySem.W.KdlSrc prog w "dict" d d es.size (λi v=>∃en,es[i]?=U en/\v=en.key) (λh=>h.get? d=U od) where
 type:=λ_ hm=>#[od,hm,hx.1]
 there:=λ_ hm=>#[qw hm,qw hm]
 keep:=λ_ _ hm hk=>hk d (.inl W) _ hm
 notList:=by decide
 notTuple:=by decide
 hint:=λ_ _ _ _ hm hq=>PySem.W.kdl_hint_dict #[od,hm,hx.1] hq
 iter:=λ_ _ hh hm=>#[_,_,(λ_ _ hq=>DF lo hm hx Ň λh' e=>by subst e;show hq),RX hh _ (qD (qw hm)) Ň,#[#[_,qH _ W,W,W],qv _ hm]]
end
def xg:∀{xs:Z V}{E:Z aw},xs.length=E.length->(∀(j:ag)x u,xs[j]?=U x->E[j]?=U u->bI x u)->bj xs E
 |[],[],_,_=>.nil
 |[],_::_,e,_=>by cases e
 |_::_,[],e,_=>by cases e
 |x::xs,u::E,e,h=>.cons (h 0 x u W W) (xg (by simpa using e) λj y v h1 h2=>h (j+1) y v h1 h2)
abbrev KTs(H:Hp):Z (Z YQ×V)->Z av->Prop:=Paired λkv T=>H T=U (.tup (kv.1.map kV))
def KT.adr{H:Hp}:∀{E:Z (Z YQ×V)}{xs:Z (Z YQ×av×aw)},KT H E xs->KTs H E (xs.map (·.2.1))
 |_,_,.nil=>.nil
 |_,_,.cons h t=>.cons h.2.1 (KT.adr t)
def Qz(hc:X.calm=ah):dZ X (.type "list") (λxs H Q=>∃(a:av)(E:Z (Z YQ×V)),xs=[.ref a]/\Rd H a (.dT E)/\∀p Ts,H p=B->KTs H E Ts->Q (.ref p) (YZ H p (.lst (Ts.map V.ref)))):=by
 intro Z' s L H xs vs Q I r h;let⟨a,E,rfl,ha,q⟩:=h;let⟨u,rfl,ru⟩:=eR r;cases ru;let⟨z,md,ys,kt,od,es,ep,h1,h2,h3,h4,h5,h6⟩:=jf I.hok ha;let Y5:E.length=ys.length:=Paired.length kt;let ô:es.size=ys.length:=Xs h4;show Xv (OZ md h2 h3) (I.ok.hd hc) h1 .(c) λh' tk YT c hk hL Ä=>?_;let ς:YT.toList.length=es.size:=by rw[fu];show Ä.1
 let Ó:∀u,s.heap.get? s.heap.objs.size=U u->False:=λu e=>gU _ (qw e);let hn:=I.none_of Ó;show#[.ref s.heap.objs.size,YZ H s.heap.objs.size (.lst ((ys.map (·.2.1)).map V.ref)),I.many hk (λb o e=>by rw[aE (bJ e hn)];show e) (λb o e1 e2=>?_),W,q _ _ hn kt.adr];by_cases C:b=s.heap.objs.size
 .subst C;rw[bf] at e2;cases e2;show#[Ó,by rw[qg,qg];ext,YT.toList,c,xg (by rw[qg,qg,ς,ô]) λj x u h1 h2=>?_,by rw[Bx];show hL];let⟨en,g1,g2⟩:=Ä.2 j u (by rw[<-qJ];show h2);rw[entry_at h4] at g1;let⟨y,g3,rfl⟩:=Za g1;rw[qm,qm,g3] at h1;cases h1;rw[g2];rfl
 .rw[aE C,e1] at e2;cases e2
def Step.keys{K:aT}{H:Hp}:∀{E:Z (Z YQ×V)}{Ts:Z av}{YL:Z (Z YQ×D)}{G:Hp},aY G H->KTs H E Ts->E.map (·.1)=YL.map (·.1)->∃G',Step G H G' H/\YN O K G' (Ts.map V.ref) (YL.map λkv=>D.tup (kv.1.map cx))
 |[],_,[],G,gh,.nil,_=>#[G,.refl gh,.nil]
 |[],_,_::_,_,_,_,e=>by cases e
 |_::_,_,[],_,_,_,e=>by cases e
 |u::E,_,k::YL,G,gh,.cons h t,e=>by let e1:u.1=k.1:=(dN e).1;let s1:=Step.key gh h;let⟨G',s2,r⟩:=Step.keys s1.gh t (dN e).2;show#[G',s1.trans s2,.cons (.tup (s2.gg _ _ bf) (by rw[e1];show Gx _)) r]
def xp:FQ
 |[.dt YL]=>U (.lst (YL.map λkv=>D.tup (kv.1.map cx)))
 |[.fdt YL]=>U (.lst (YL.map λkv=>D.tup (kv.1.map cx)))
 |_=>B
def SM(hc:X.calm=ah):TyD O X "list" xp:=#[_,Qz hc,λ{G H vs ds z}gh r h Q k=>by
 let Zz:∀{E:Z (Z YQ×V)}{YL:Z (Z YQ×D)},E.map (·.1)=YL.map (·.1)->(∀w G' H',Step G H G' H'->ZD O X.K G' w (.lst (YL.map λkv=>D.tup (kv.1.map cx)))->Q w H')->
   ∀p Ts,H p=B->KTs H E Ts->Q (.ref p) (YZ H p (.lst (Ts.map V.ref))):=λh2 k p Ts hp hT=>by
  let⟨G',s,r⟩:=Step.keys gh hT h2;show ip s.gh r (λw G2 H2 s2 r2=>k w G2 H2 (s.trans s2) r2) p hp
 unfold xp at h;split at h
 .cases h;let⟨v,rfl,r1⟩:=r.one;cases r1 with
  |dt h1 h2 h3=>show#[_,_,W,.inl (gh _ _ h1),Zz h2 k]
 .cases h;let⟨v,rfl,r1⟩:=r.one;cases r1 with
  |fdt h1 h2 h3=>show#[_,_,W,.inr #[_,gh _ _ h1],Zz h2 k]
 .cases h]
end
section
open PyProof
def mM:FQ
 |[.dk YL]=>U (.lst (YL.map λkv=>cx kv.1))
 |_=>B
def TZ(hc:X.calm=ah):dZ X (.type "list") (λxs H Q=>∃(a:av)(E:Z (YQ×V)),xs=[.ref a]/\Rd H a (.dK E)/\∀p,H p=B->Q (.ref p) (YZ H p (.lst (E.map λkv=>kV kv.1)))):=by
 intro Z' s L H xs vs Q I r h;let⟨a,E,rfl,ha,q⟩:=h;let⟨u,rfl,ru⟩:=eR r;cases ru;let⟨z,md,va,qa,da⟩:=gL I.hok ha;let⟨ep,ψ⟩:=da.dictAt;let Y5:E.length=va.length:=qa.length;show Xv (Xn md) (I.ok.hd hc) ψ .(c) λh' tk YT c hk hL Ä=>?_;let ς:YT.toList.length=va.length:=by rw[fu];show Ä.1
 let Ó:∀u,s.heap.get? s.heap.objs.size=U u->False:=λu e=>gU _ (qw e);let hn:=I.none_of Ó;show#[.ref s.heap.objs.size,YZ H s.heap.objs.size (.lst (E.map λkv=>kV kv.1)),I.many hk (λb o e=>by rw[aE (bJ e hn)];show e) (λb o e1 e2=>?_),W,q _ hn];by_cases C:b=s.heap.objs.size
 .subst C;rw[bf] at e2;cases e2;show#[Ó,by rw[qg];show z,YT.toList,c,xg (by rw[qg,ς,Y5]) λj x u h1 h2=>?_,by rw[Bx];show hL];let⟨k,y,g1,g2⟩:=Ä.2 j u (by rw[<-qJ];show h2);rw[qm] at h1;let⟨kv,g3,rfl⟩:=Za h1;let g4:(E.map (·.1))[j]?=(va.map (·.1))[j]?:=by rw[qa.keys]
  rw[qm,qm,g1,g3] at g4;let g5:kv.1=k:=qI g4;rw[g5];show Dh g2
 .rw[aE C,e1] at e2;cases e2
def DL{K:aT}{G:Hp}:∀{E:Z (YQ×V)}{YL:Z (YQ×D)},E.map (·.1)=YL.map (·.1)->YN O K G (E.map λkv=>kV kv.1) (YL.map λkv=>cx kv.1)
 |[],[],_=>.nil
 |[],_::_,e=>by cases e
 |_::_,[],e=>by cases e
 |u::E,k::YL,e=>by let e1:u.1=k.1:=(dN e).1;show .cons (show ZD O K G (kV u.1) (cx k.1) by rw[e1];show zt _) (DL (dN e).2)
def yX(hc:X.calm=ah):TyD O X "list" mM:=#[_,TZ hc,λ{G H vs ds z}gh r h Q k=>by
 unfold mM at h;split at h
 .cases h;let⟨v,rfl,r1⟩:=r.one;cases r1 with
  |dk h1 h2 h3=>show#[_,_,W,.inl (gh _ _ h1),ip gh (DL h2) k]
 .cases h]
end
section
open PyProof
section
variable{c:Expr}
noncomputable def rR(i:ag)(ft:FT):FT:=λY=>match Y[i]? with
 |some (U (.odt YL))=>ft (Y.set i (U (.sh (.dt YL))))
 |_=>B
def UP(i:ag)(h:DT O X c ft):DT O X c (rR i ft):=⟨h.1.imp λL H Q=>by
 rintro⟨Z8,Z9,G,Y,b,A,h,k⟩;unfold rR at h;split at h
 .rename_i YL hi;let⟨G1,sm,A1⟩:=A.frzD hi rfl;show#[Z8,Z9,G1,_,b,A1,h,λG' H' s=>k G H' (s.back A.gh sm)]
 .cases h⟩
end
end
section
open PyProof
def MS(hc:X.calm=ah):dZ X (.builtin "min") (λxs H Q=>∃i j k,xs=[.int i,.int j,.int k]/\Q (.int (if j<i then (if k<j then k else j) else (if k<i then k else i))) H):=by
 intro Z' s L H xs E Q I r h;let⟨i,j,k,rfl,q⟩:=h;cases r with
 |cons r1 r=>
  cases r with
  |cons r2 r=>
   cases r with
   |cons r3 r=>
    cases r;let⟨t,rfl⟩:=r1;let⟨t',rfl⟩:=r2;let⟨t'',rfl⟩:=r3;show min_three_ints (I.ok.hd hc) λh' tk hk=>#[_,H,I.kept hk,?_,q];split
    .split<;>show#[_,W]
    .split<;>show#[_,W]
def yL:FQ
 |[.int i,.int j,.int k]=>U (.int (if j<i then (if k<j then k else j) else (if k<i then k else i)))
 |_=>B
def Qd(hc:X.calm=ah):ğ O X "min" yL:=#[_,MS hc,λ{G H vs ds z}gh r h Q k=>by
 unfold yL at h;split at h<;>cases h;cases r with
 |cons r1 r=>
  cases r with
  |cons r2 r=>
   cases r with
   |cons r3 r=>
    cases r;cases r1.int_inv;cases r2.int_inv;cases r3.int_inv;show#[_,_,_,W,k _ G H (.refl gh) (.int _)]]
end
section
open PyProof
def Itk(a:av)(o:Obj)(E:Z (YQ×V)):It:=
 #[λi H=>H a=U (.frz o (.dK E))/\i<E.length,λi H v H'=>H'=H/\∃kv,E[i]?=U kv/\v=kV kv.1,λi H=>H a=U (.frz o (.dK E))/\i=E.length]
def GL(a it:av)(o:Obj)(E:Z (YQ×V))(va:Z (YQ×aw))(ep:ag)(Ô:a≠it)(hd:∀h:Heap,h.get? a=U o->h.DictAt (cS P w) a va ep)(kv:KV E va):
  ī P w K tg (Itk a o E) [it] it (λi h=>h.IsKeyIter it a i va.length ep) where
 mem:=by simp
 obj:=λi h st b C=>by
  let e:b=it:=by simpa using C
  subst e;let⟨o,e,c,d⟩:=st;show#[o,e,λv z=>by rw[d] at z;cases z]
 keep:=λi h h' st k=>by let⟨o,e,r⟩:=st;show#[o,k it (by simp) o e,r]
 item:=by
  intro X hP hw hK hc i Z' s L H us I hf st hg;subst hP hw hK;let⟨τ,hi⟩:=hg;let⟨f0,f1,f2,f3,f4,f5⟩:=hf it (by simp);let ho:s.heap.get? a=U o:=(I.hok a _ τ).1;show(Xw (I.ok.hd hc) it a Ô va ep).item i s _ _ (by rw[<-kv.length];show hi) #[st,hd _ ho] λv h' tk hv ù kk=>?_;let⟨k,x,hk,hr⟩:=hv;let hp:(E.map (·.1))[i]?=(va.map (·.1))[i]?:=by rw[kv.keys]
  rw[qm,qm,hk] at hp;let⟨p,hp1,Ń⟩:=Za hp;let hp3:p.1=k:=Ń;let I1:YS X Z' L H {s with heap:=h',toks:=tk}:=I.turned (λb o C e=>kk b o (by simpa using C) e) f0 f1 f3 f4 f5;let⟨oi,e,c,d⟩:=id ù.1;show#[v,W,rq e c d .(b) #[kV p.1,H,I1,by rw[hp3];show Dh hr,#[W,p,hp1,W],ù.1,λb C=>(hf b C).1]]
 done:=by
  intro X hP hw hK hc i Z' s L H us I hf st hg;subst hP hw hK;let⟨τ,hi⟩:=hg;let⟨f0,f1,f2,f3,f4,f5⟩:=hf it (by simp);let ho:s.heap.get? a=U o:=(I.hok a _ τ).1;let Ħ:i=va.length:=by rw[<-kv.length];show hi
  subst Ħ;show(Xw (I.ok.hd hc) it a Ô va ep).done s _ _ #[st,hd _ ho] λh' tk kk=>#[W,I.turned (λb o C e=>kk b o (by simpa using C) e) f0 f1 f3 f4 f5]
 self:=λ_ _ _ _ _ st h=>IB st h
section
variable{c:Expr}{g:FG}
def Kj(he:PE X iter te):PI X tg iter (λL H R=>te L H λx H1=>∃(a:av)(E:Z (YQ×V)),x=.ref a/\H1 a=U (.dK E)/\∀o,(∀o' u,X.Z9 a≠U (.frz o' u))->R (Itk a o E) (YZ H1 a (.frz o (.dK E)))):=by
 intro Z' s L H R I h;show Zf (he Z' s L H _ I h) λv s1 #[x,H0,I0,r1,a,E,e,ha0,q0]=>?_;subst e;cases r1;let⟨o,π⟩:=(I0.hok a _ ha0).there;let q:=q0 o (I0.nofrz ha0);let I1:=I0.frz ha0 π;let ha:YZ H0 a (.frz o (.dK E)) a=U (.frz o (.dK E)):=bf;let⟨z,md,va,qa,da⟩:=gL I1.hok (.inr #[o,ha]);let⟨ep,ψ⟩:=da.dictAt;let ho:s1.heap.get? a=U o:=(I1.hok a _ ha).1;show Xx md ψ ?_;show#[s1.heap.objs.size,[s1.heap.objs.size],_,_,_,W,I1.kept λb u e=>qv _ e,GL a s1.heap.objs.size o E va ep (qD (qw ho)) (λh' e=>ψ.at' λo' e'=>by rw[ho] at e';cases e';show e) qa,#[_,qH _ W,W,W],λb C=>?_,q];let e:b=s1.heap.objs.size:=by simpa using C
 subst e;show I1.fpOk (qx _) (I1.hok.fresh (qx _))
def lfD:D->aJ
 |.lst l=>l.all gN
 |d=>gN d
def lfS:au Slot->au Slot
 |some (.sh d)=>if lfD d=ah then U (.sh d) else B
 |_=>B
def NB(hs:∀b vs,G b=U (.lst vs)->G1 b=U (.lst vs))(r:ZD O K G v d)(h:lfD d=ah):ZD O K G1 v d:=by
 by_cases hf:gN d=ah
 .exact r.flat hf
 .cases r with
  |lst C rs=>show .lst (hs _ _ C) (sB rs h)
  |_=>first|show bH W hf|cases h
def v5(f:FE)(g:FG)(ft:FT)(fe:FE)(fv:Z (au ag)):FA:=λY=>match f Y with
 |some (.dk YL)=>if YL.length<=aK then (ca g ft fe (YL.map λkv=>cx kv.1) ((eY fv Y).map lfS)).bind λds=>if ds.all gN=ah then U ds else B else B
 |_=>B
def FD{s:Slot}(e:(Y.map lfS)[j]?=U (U s)):∃d,s=.sh d/\lfD d=ah/\Y[j]?=U (U (.sh d)):=by
 rw[qm] at e;let⟨o,ho,e⟩:=Za e;unfold lfS at e;split at e
 .split at e
  .rename_i hf;cases e;show#[_,W,hf,ho]
  .cases e
 .cases e
def Oe(hc:X.calm=ah)(S:Zd X scope)(F:Ğ X N' scope fv)(hi:DE O X iter f)(C:DB O X N' scope tg ō ő g ft fe)(hs:∀x,kJ iter X.env x=bd x:=by intro _;rfl):
  DO O X .(q) (v5 f g ft fe fv):=⟨λZ' s L H Q I q=>by
 let⟨Z8,Z9,G,Y,ds,A,h,k⟩:=q;unfold v5 at h;split at h
 .rename_i YL hf;split at h
  .rename_i hz;let⟨ds',hd,h⟩:=ZE h;split at h
   .rename_i hfl;cases h;show Zf (Go hc S F (Kj hi.1) C.pb hs Z' s L H (λx H2=>∃(a:av)(o:Obj)(E:Z (YQ×V)),H2 a=U (.frz o (.dK E))/\(∀o' u,X.Z9 a≠U (.frz o' u))/\Q x (YZ H2 a (.dK E))) I #[Z8,Z9,G,Y,_,A,hf,λv G' H' s r=>?_]) λr s1 q=>?_
    .cases r with
     |dk h1 h2 h3=>
      rename_i a E;let ha:=s.gh _ _ h1;show#[a,E,W,ha,λo Α YT Ä=>?_];let hln:E.length=YL.length:=by simpa using bP cM h2
      let gh1:aY (YZ G' a (.frz o (.dK E))) (YZ H' a (.frz o (.dK E))):=λb u e=>by
       by_cases C:b=a
       .subst C;rw[bf] at e ⊢;show e
       .rw[aE C] at e ⊢;show s.gh _ _ e
      let⟨A0,no0⟩:=CC (A.step s);let no1:fJ ((eY fv Y).map lfS):=λj t e=>by let⟨d,z,_⟩:=FD e;show#[d,z]
      let A1:At O X.K (YZ G' a (.frz o (.dK E))) (YZ H' a (.frz o (.dK E))) (YZ G' a (.frz o (.dK E))) (YZ H' a (.frz o (.dK E))) ((eY fv Y).map lfS) (iN fv L):=by show#[.refl gh1,.ofSh (by rw[qg];show A0.env.len) no1 λj d e=>?_];let⟨d',z,hl,e'⟩:=FD e;cases z;let⟨v,y1,y2⟩:=A0.env.sh j _ e';show#[v,y1,NB (λb vs eb=>by rw[aE (λz=>by rw[z,h1] at eb;cases eb)];show eb) y2 hl]
      let ρ:Yd O X.K (Itk a o E) (YZ G' a (.frz o (.dK E))) (YL.map λkv=>cx kv.1):=by
       show#[λi d G2 H2 hd g1 g2=>?_,λG2 H2 g1 g2=>#[g2 _ _ (g1 _ _ bf),by rw[qg,hln]]];rw[qm] at hd;let⟨kd,ġ,rfl⟩:=Za hd;let hi:i<E.length:=by rw[hln];show(eV.mp ġ).1
       show#[#[g2 _ _ (g1 _ _ bf),hi],λx H3 #[e1,kv,hkv,ev]=>?_];subst e1 ev;let ek:kv.1=kd.1:=by let:=bP (λl=>l[i]?) h2;simp only[qm,hkv,ġ,qf,wT] at this;show this
       show#[G2,.refl g2,by rw[ek];show zt _]
      show Fv (C.1 [] 0 X.Z6 X.Z9 []).1.no A1 no1 ρ (by rw[qg];show hz) hd Ä λp vs G2 H2 s2 hp rs=>?_;let h2a:H2 a=U (.frz o (.dK E)):=s2.hh _ _ bf;let Ĭ:a≠p:=bJ h2a hp;show#[a,o,E,by rw[aE Ĭ];show h2a,Α,?_];let sw:YZ (YZ H2 p (.lst vs)) a (.dK E)=YZ (YZ H2 a (.dK E)) p (.lst vs):=by
       funext b
       by_cases C:b=a
       .subst C;rw[bf,aE Ĭ,bf]
       .rw[aE C];by_cases ŏ:b=p
        .subst ŏ;rw[bf,bf]
        .rw[aE ŏ,aE ŏ,aE C]
      rw[sw];let hh:aY H' (YZ H2 a (.dK E)):=λb u e=>by
       by_cases C:b=a
       .subst C;rw[bf,<-e,ha]
       .rw[aE C];show s2.hh _ _ (by rw[aE C];show e)
      show k p vs G' (YZ H2 a (.dK E)) (s.trans #[hh,.refl _,s.gh.trans hh,λ_ _ _ _=>rfl]) (by rw[aE Ĭ.symm];show hp) (sB rs hfl)
    .obtain⟨x,H2,I2,rv,a,o,E,hx,Α,q⟩:=q;show#[x,_,I2.unfrz hx Α,rv,q]
   .cases h
  .cases h
 .cases h⟩
end
end
section
open PyProof
def wb:FQ
 |[.dk l]=>U (.dk l)
 |[.fdk l]=>U (.dk l)
 |_=>B
noncomputable def leZ(a b:aj):aJ:=decide (a<=b)
def oR(l:Z aj):Z aj:=l.mergeSort leZ
end
section
open PyProof
def Oi{l l':Z aj}(hp:l'.Perm l)(hs:l'.Pairwise (·<=·)):l'=oR l:=
 Xj (λa b _ _ h1 h2=>Int.le_antisymm (fT h1) (fT h2)) (hs.imp λh=>qU h)
  (Xk (le:=leZ) (λa b c h1 h2=>qU (Int.le_trans (fT h1) (fT h2))) (λa b=>by
   rcases Int.le_total a b with h|h
   .rw[show leZ a b=ah from qU h];rfl
   .rw[show leZ b a=ah from qU h];show Bool.or_true _) l) (hp.trans (wS l leZ).symm)
def EJ{P:ag->aw->Prop}:∀{vs:Z aw}{ms:Z aj},vs.length=ms.length->(∀(j:ag)v,vs[j]?=U v->∃m t,ms[j]?=U m/\v=dL m t)->kP vs ms
 |[],[],_,_=>.nil
 |v::vs,m::ms,hl,h=>by let⟨m',t,h1,rfl⟩:=h 0 v rfl;cases h1;show .cons _ _ (EJ (P:=P) (by simpa using hl) λj v e=>h (j+1) v e)
def F7:∀{vs:Z aw}{ms:Z aj},kP vs ms->bj (ms.map V.int) vs
 |_,_,.nil=>.nil
 |_,_,.cons x t r=>.cons #[t,W] (F7 r)
def wZ(hc:X.calm=ah):dZ X (.type "dict") (λxs H Q=>∃(a:av)(E:Z (YQ×V)),xs=[.ref a]/\Rd H a (.dK E)/\∀p,H p=B->Q (.ref p) (YZ H p (.dK E))):=by
 intro Z' s L H xs vs Q I r h;let⟨a,E,rfl,ha,q⟩:=h;let⟨u,rfl,ru⟩:=eR r;cases ru;let⟨z,md,va,qa,da⟩:=gL I.hok ha;let Y5:E.length=va.length:=qa.length;show kt_call_dict md da .(c) λh' hd hs=>?_;show#[.ref s.heap.objs.size,_,I.laid (o:=.dK E) (λb u e=>?_) (qx _) #[z,?_,va,qa,hd],W,q _ I.fresh]
 .exact(hs.2 b (qD (qw e))).trans (qv _ e)
 .exact lS.mpr (dj (qD I.big))
def KW(hc:X.calm=ah):TyD O X "dict" wb:=#[_,wZ hc,λ{G H vs ds z}gh r h Q k=>by
 unfold wb at h;split at h
 .cases h;let⟨v,rfl,r1⟩:=r.one;cases r1 with
  |dk h1 h2 h3=>
   rename_i a E;show#[a,E,W,.inl (gh _ _ h1),λp hp=>?_];let s:=Step.new (o:=.dK E) gh hp;show k _ _ _ s (.dk bf h2 (h3.mono s.gg))
 .cases h;let⟨v,rfl,r1⟩:=r.one;cases r1 with
  |fdk h1 h2 h3=>
   rename_i a o E;show#[a,E,W,.inr #[_,gh _ _ h1],λp hp=>?_];let s:=Step.new (o:=.dK E) gh hp;show k _ _ _ s (.dk bf h2 (h3.mono s.gg))
 .cases h]
end
def Ŵ.bindsd{st:Stmt}{f:av}{items:Z aw}(m:ag)(F:Ŵ K x qual st f fd items)
  (h:∀(T:av)(kV Zp pm:aw)(an:au av)(Y0 ct:aw)(E:Z aw),(E++items.drop m).length=ps.length->∃k,eN (cZ x qual (c7 st) (bZ st) (aD st) (.ref T) kV Zp pm an Y0 ct) #[E,[]]=nU (.ref T) >>= k/\k (U items.toArray)=bd (ps.zip (E++items.drop m))):ff K fd ps (items.drop m):=by
 let⟨oc,od,T,kV,Zp,pm,an,Y0,ct,ŕ,to,n,rfl,lk,À,lT,dT⟩:=F.ex;intro s E Į hl;let⟨k,h1,h2⟩:=h T kV Zp pm an Y0 ct E hl;show .of_defaults W (Į T to lT) dT h1 h2
def É.calIUd{st:Stmt}{k:ag}{dd:Z D}(m:ag)(Γ:Zy O K mg c hb)(F:É K hb c "__init__" qual st Zr)(Ň:∀G,YN O K G (Zr.drop m) dd)(S:ZC N (s0::ps) (aD st))
  (C:∀(T:av)(kV Zp pm:aw)(an:au av)(Y0 ct:aw)(E items:Z aw),E.length+(Zr.length-m)=(s0::ps).length->items.length=Zr.length->∃k,eN (cZ "__init__" qual (c7 st) (bZ st) (aD st) (.ref T) kV Zp pm an Y0 ct) #[E,[]]=nU (.ref T) >>= k/\k (U items.toArray)=bd ((s0::ps).zip (E++items.drop m)))
  (Y6:∀(f y:av)(Y0:aw)(A:cH)(outer:Z cA)(s:aH)(H:Hp)(us:XK),ZH k .(j)->
   Ø (O.mk1 y) .(i).nox (bZ st) g):Ê O P w K mg base c ps.length (k+1) dd (ie (N.length-(ps.length+1)) c g):=by
 let⟨f,fd,items,h1,hv,h2,h3⟩:=F.ex;let hl:items.length=Zr.length:=hv.length.symm;show#[hb,f,fd,s0::ps,Zr.drop m,items.drop m,Γ.cn,#[Γ.makes,h2,h3,Γ.kp],Γ.mgC,h1.ok S (λvs H Q us h=>vZ h) λY0 A outer s H vs Q us hr h=>?_,h1.bindsd m λT kV Zp pm an Y0 ct E hu=>C T kV Zp pm an Y0 ct E items (by rw[ql,iu,hl] at hu;show hu) hl,hv.drop m,Ň];let⟨y,q⟩:=t9 rfl Γ.cn h;show#[_,(Y6 f y Y0 A outer s H us hr).1,q]
section
variable{f:av}{us:XK}
 {Z':Z (av×Obj)}{L:St}{H:Hp}{s:aH}{e hb t dx:av}
end
section
variable{f CS fI:av}{us:XK}
 {R:ai->Hp->Prop}{x fl:ai}{np Zg pos:dn}{e₀:Expr}{fr:FA}{k j:ag}
end
section
open PyProof
mutual
def μ:D->aJ
 |.tup l=>ng l
 |.lst l=>ng l
 |.dk l=>EE l
 |.dt l=>m6 l
 |.ins _ l=>B4 l
 |.scr _=>ar
 |.fdk _=>ar
 |.fdt _=>ar
 |.non=>ah
 |.bl _=>ah
 |.int _=>ah
 |.str _=>ah
 |.ty _=>ah
def ng:Z D->aJ
 |[]=>ah
 |x::r=>μ x && ng r
def EE:Z (YQ×D)->aJ
 |[]=>ah
 |(_,x)::r=>μ x && EE r
def m6:Z (Z YQ×D)->aJ
 |[]=>ah
 |(_,x)::r=>μ x && m6 r
def B4:Z (ai×D)->aJ
 |[]=>ah
 |(_,x)::r=>μ x && B4 r
end
def Db:∀l:Z (Z YQ×D),m6 l=ng (l.map (·.2))
 |[]=>rfl
 |(_,x)::r=>by rw[m6,qp,ng,Db r]
noncomputable def loF:Á->D
 |.d d=>d
 |.k l=>.fdk l
 |.t l=>.fdt l
end
section
open PyProof
end
section
open PyProof
end
variable{kn:ai}
section
open PyProof
def uu:D->au (Z (YQ×D))
 |.dk l=>U l
 |.fdk l=>U l
 |_=>B
def Ax(x y:D):au aJ:=(uu x).bind λka=>(uu y).bind λkb=>if ka.length=kb.length then my kb ka else U ar
def uP(x y:D):au D:=(Ax x y).map λb=>.bl (!b)
def Fj{l:Z (YQ×D)}(gh:aY G H)(r:ZD O X.K G v d)(h:uu d=U l):∃p E,v=.ref p/\Rd H p (.dK E)/\E.map (·.1)=l.map (·.1)/\YN O X.K G (E.map (·.2)) (l.map (·.2)):=by
 unfold uu at h;split at h
 .cases h;cases r with
  |dk h1 h2 h3=>show#[_,_,W,.inl (gh _ _ h1),h2,h3]
 .cases h;cases r with
  |fdk h1 h2 h3=>show#[_,_,W,.inr #[_,gh _ _ h1],h2,h3]
 .cases h
def rDf(O:Cn)(K:aT):R2:=λx y H Q=>∃G d e b,aY G H/\ZD O K G x d/\ZD O K G y e/\Ax d e=U b/\Q (.bl (!b)) H
def MO(hu:X.A.units+66<ck):Å X (dM .NotEq) (rDf O X.K):=by
 intro Z' s L H x y v u Q I rx ry h;let⟨G,d,e,b,gh,r1,r2,C,q⟩:=h;let⟨ka,hka,C⟩:=ZE C;let⟨kb,hkb,C⟩:=ZE C;let⟨p,ua,rfl,h1,h2,h3⟩:=Fj gh r1 hka;let⟨p',ub,rfl,k1,k2,k3⟩:=Fj gh r2 hkb;let⟨_,m1,va,qa,da⟩:=gL I.hok h1;let⟨_,m2,vb,qb,db⟩:=gL I.hok k1;cases rx;cases ry;let la:va.length=ka.length:=by rw[<-qa.length];simpa using bP cM h2
 let lb:vb.length=kb.length:=by rw[<-qb.length];simpa using bP cM k2
 let hu1:X.A.in1.units+64<ck:=by let:X.A.in1.units=X.A.units+1:=rfl;ext
 split at C
 .rename_i hl;show Xy m1 m2 da db .(c) (λ_=>CI I gh hu1 k2 k3 qb h2 h3 qa C) #[.bl _,H,I,W,?_];rw[la,lb,hl];simpa using q
 .rename_i hl;cases C;show Xy (r:=ar) m1 m2 da db .(c) (λq=>bH (la.symm.trans (q.trans lb)) hl) #[.bl _,H,I,W,?_];simpa using q
noncomputable def uR(l:Z α)(vs zs:Z α):Z α:=match zs with
 |[z]=>vs++(l++[z])
 |_=>[]
structure CalIK(O:Cn)(P:dD)(w:cD)(K:aT)(mg:ai->au aw)(base:Heap)(c kn:ai)(n k:ag)(dd:Z D)(F:Z D->au Fo):Prop where
 ex:∃hb f fd ps Zr g,O.cls c=U hb/\Mk K hb f/\mg c=U (.ref hb)/\Zt P w K mg base ø k f fd ps (Ο O K hb c n F)/\KBinds K fd ps [kn] g (uR Zr)/\∀G,YN O K G Zr dd
def É.calIK{st:Stmt}{k:ag}{dd:Z D}(m:ag)(Γ:Zy O K mg c hb)(F:É K hb c "__init__" qual st Zr)(Ň:∀G,YN O K G (Zr.take m) dd)(S:ZC N (s0::ps) (aD st))
  (C:∀(T:av)(kV Zp pm:aw)(an:au av)(Y0 ct:aw)(E items:Z aw)(z:aw),(E++(items.take m++[z])).length=(s0::ps).length->items.length=Zr.length->∃k,eN (cZ "__init__" qual (c7 st) (bZ st) (aD st) (.ref T) kV Zp pm an Y0 ct) #[E,[(kn,z)]]=nU (.ref T) >>= k/\k (U items.toArray)=bd ((s0::ps).zip (E++(items.take m++[z]))))
  (Y6:∀(f y:av)(Y0:aw)(A:cH)(outer:Z cA)(s:aH)(H:Hp)(us:XK),ZH k .(j)->
   Ø (O.mk1 y) .(i).nox (bZ st) g):CalIK O P w K mg base c kn ps.length (k+1) dd (ie (N.length-(ps.length+1)) c g):=by
 let⟨f,fd,items,h1,hv,h2,h3⟩:=F.ex;let hl:items.length=Zr.length:=hv.length.symm;show#[hb,f,fd,s0::ps,Zr.take m,uR (items.take m),Γ.cn,#[Γ.makes,h2,h3,Γ.kp],Γ.mgC,h1.ok S (λvs H Q us h=>vZ h) λY0 A outer s H vs Q us hr h=>?_,#[λs E ws Į Y5=>?_,λ{vs E zs ws}r rz=>?_],Ň]
 .obtain⟨y,q⟩:=t9 W Γ.cn h;show#[_,(Y6 f y Y0 A outer s H us hr).1,q]
 .obtain⟨oc,od,T,kV,Zp,pm,an,Y0,ct,ŕ,to,n,rfl,lk,À,lT,dT⟩:=h1.ex;unfold uR at Y5 ⊢;split at Y5
  .rename_i z;let⟨k,q1,q2⟩:=C T kV Zp pm an Y0 ct E items z Y5 hl;show .of_defaults W (Į T to lT) dT q1 q2
  .cases Y5
 .unfold uR;cases rz with
  |nil=>show .nil
  |cons a t=>
   cases t with
   |nil=>show r.append ((hv.take m).append (.cons a .nil))
   |cons _ _=>show .nil
end
section
open PyProof
noncomputable def btL(ns:Z aj)(i j:ag):aJ:=decide (ns.getD i 0<ns.getD j 0)
def mnI(ns:Z aj):aj:=ns.getD (gG (btL ns) (ns.length-1)) 0
end
section
open PyProof
def É.cal3{st:Stmt}{k:ag}{dd d3:Z D}(m:ag)(Γ:Zy O K mg c hb)(F:É K hb c "__init__" qual st Zr)(Ň:∀G,YN O K G Zr dd)(hd3:∀G,YN O K G (Zr.take m) d3)(S:ZC N (s0::ps) (aD st))
  (C:∀(T:av)(kV Zp pm:aw)(an:au av)(Y0 ct:aw)(E items:Z aw),E.length+Zr.length=(s0::ps).length->items.length=Zr.length->∃k,eN (cZ "__init__" qual (c7 st) (bZ st) (aD st) (.ref T) kV Zp pm an Y0 ct) #[E,[]]=nU (.ref T) >>= k/\k (U items.toArray)=bd ((s0::ps).zip (E++items)))
  (hb0:∀(T:av)(kV Zp pm:aw)(an:au av)(Y0 ct:aw)(E items:Z aw),E.length+(Zr.length-Zr.length)=(s0::ps).length->items.length=Zr.length->∃k,eN (cZ "__init__" qual (c7 st) (bZ st) (aD st) (.ref T) kV Zp pm an Y0 ct) #[E,[]]=nU (.ref T) >>= k/\k (U items.toArray)=bd ((s0::ps).zip (E++items.drop Zr.length)))
  (hbK:∀(T:av)(kV Zp pm:aw)(an:au av)(Y0 ct:aw)(E items:Z aw)(z:aw),(E++(items.take m++[z])).length=(s0::ps).length->items.length=Zr.length->∃k,eN (cZ "__init__" qual (c7 st) (bZ st) (aD st) (.ref T) kV Zp pm an Y0 ct) #[E,[(kn,z)]]=nU (.ref T) >>= k/\k (U items.toArray)=bd ((s0::ps).zip (E++(items.take m++[z]))))
  (Y6:∀(f y:av)(Y0:aw)(A:cH)(outer:Z cA)(s:aH)(H:Hp)(us:XK),ZH k .(j)->
   Ø (O.mk1 y) .(i).nox (bZ st) g):Ê O P w K mg base c ps.length (k+1) dd (ie (N.length-(ps.length+1)) c g)/\Ê O P w K mg base c ps.length (k+1) [] (ie (N.length-(ps.length+1)) c g)/\CalIK O P w K mg base c kn ps.length (k+1) d3 (ie (N.length-(ps.length+1)) c g):=
 #[F.calIU Γ Ň S C Y6,F.calIUd Zr.length Γ (λG=>by rw[wH];show .nil) S hb0 Y6,F.calIK m Γ hd3 S hbK Y6]
end
section
open PyProof
def zW:FQ
 |[.dk l]=>U (.fdk l)
 |[.fdk l]=>U (.fdk l)
 |_=>B
def US(hc:X.calm=ah):dZ X (.type "dict") (λxs H Q=>∃(a:av)(E:Z (YQ×V)),xs=[.ref a]/\Rd H a (.dK E)/\∀p o,H p=B->Q (.ref p) (YZ H p (.frz o (.dK E)))):=by intro Z' s L H xs E Q I r h;let⟨a,ks,e,ha,q⟩:=h;show Zf (wZ hc Z' s L H xs E (λv H'=>∃p,v=.ref p/\H p=B/\H'=YZ H p (.dK ks)) I r #[a,ks,e,ha,λp hp=>#[p,W,hp,W]]) λv s1 #[x,H1,I1,r1,p,e1,hp,e2]=>?_;subst e1 e2;let⟨o,ho⟩:=(I1.hok p _ bf).there;let I2:=I1.frz bf ho;rw[TV] at I2;show#[.ref p,_,I2,r1,q p o hp]
def JR(hc:X.calm=ah):TyD O X "dict" zW:=#[_,US hc,λ{G H vs ds z}gh r h Q k=>by
 let Zz:∀{a:av}{E:Z (YQ×V)}{l:Z (YQ×D)},Rd H a (.dK E)->E.map (·.1)=l.map (·.1)->YN O X.K G (E.map (·.2)) (l.map (·.2))->z=.fdk l->vs=[.ref a]->∃(a:av)(E:Z (YQ×V)),vs=[.ref a]/\Rd H a (.dK E)/\∀p o,H p=B->Q (.ref p) (YZ H p (.frz o (.dK E))):=λ{a E l}ha e1 e2 e3 e4=>by subst e3;show#[a,E,e4,ha,λp o hp=>?_];let s:=Step.new (o:=.frz o (.dK E)) gh hp;show k _ _ _ s (.fdk bf e1 (e2.mono s.gg))
 unfold zW at h;split at h
 .cases h;let⟨v,rfl,r1⟩:=r.one;cases r1 with
  |dk h1 h2 h3=>show Zz (.inl (gh _ _ h1)) h2 h3 W W
 .cases h;let⟨v,rfl,r1⟩:=r.one;cases r1 with
  |fdk h1 h2 h3=>show Zz (.inr #[_,gh _ _ h1]) h2 h3 W W
 .cases h]
noncomputable def nz(i:ag)(f:FE):FS:=λY=>(f Y).bind λd=>match d with
 |.dk l=>U (.nx,Y.set i (U (.odk l)))
 |.fdk l=>U (.nx,Y.set i (U (.odk l)))
 |_=>B
def vo(i:ag)(hN:X.N.Nodup)(hc:X.calm=ah)(hg:Gl X "dict")(hm:X.mg "dict"=B)(h:DE O X e f)(he:aP [e] X.env=(ar,eval e X.env)::aP [] X.env:=by rfl)(Zo:(ci p2 (aP [] X.env)).any (·.1)=ar:=by rfl)
  (hi:X.N[i]?=U x:=by rfl)(hx:Loc X.env.scope x:=by ac_nf)(hs:dq (.Call (.Name "dict" p) [e] [] p2) (U (.Name x Zk)) pos.line X.env=bd ar:=by rfl)(hf:X.fn x=ah\/X.env.scope.names.lookup x=U .local:=by ac_nf):
  DS O X (.Assign [.Name x Zk] (.Call (.Name "dict" p) [e] [] p2) pos) (nz i f):=⟨(mP hN hi hx (wf (wZ hc) hg hm (by rfl) (jh h.1 jJ he) .(b) .(b) he Zo) hs hf).imp λus L H=>by
 rintro⟨Z8,Z9,G,Y,fl,Y',A,h,k⟩;let⟨d,hd,h⟩:=ZE h;show#[Z8,Z9,G,Y,d,A,hd,λv G1 H1 s1 r1=>?_];let A2:=A.step s1;split at h
 .cases h;cases r1 with
  |dk h1 h2 h3=>show#[_,_,W,.inl (A2.gh _ _ h1),λp hp=>k _ G1 _ s1.gg (A2.setOdkV hp h2 h3)]
 .cases h;cases r1 with
  |fdk h1 h2 h3=>show#[_,_,W,.inr #[_,A2.gh _ _ h1],λp hp=>k _ G1 _ s1.gg (A2.setOdkV hp h2 h3)]
 .cases h⟩
noncomputable def iD(i:ag)(g:FS):FS:=λY=>match Y[i]? with
 |some (U (.odk YL))=>g (Y.set i (U (.sh (.fdk YL))))
 |_=>B
def oY(i:ag)(h:Ø O X sts g):Ø O X sts (iD i g):=⟨λZ' s L H us I q=>by
 let⟨Z8,Z9,G,Y,fl,Y',A,hq,k⟩:=q;unfold iD at hq;split at hq
 .rename_i YL hi;let⟨v,fp,h1,h2⟩:=A.get hi;cases h2 with
  |odk q1 q2 q3 q4 q5=>
   rename_i a E;let⟨ob,π⟩:=(I.hok a _ q3).there;let I1:=I.frz q3 π;let sm1:aY G (YZ G a (.frz ob (.dK E))):=λb u e=>by rw[aE (bJ e q2)];show e
   let hH1:∀b u,b≠a->H b=U u->YZ H a (.frz ob (.dK E)) b=U u:=λb u C e=>by rw[aE C];show e
   let A1:At O X.K Z8 Z9 (YZ G a (.frz ob (.dK E))) (YZ H a (.frz ob (.dK E))) (Y.set i (U (.sh (.fdk YL)))) L:=by
    show A.ch hi h1 (.odk q1 q2 q3 q4 q5) (λb u e C=>hH1 b u (λz=>C (bM.mpr z)) e) (.sh (.fdk bf q4 (q5.mono sm1))) (λb C=>by cases C) sm1 (λb u e=>?_) (λb u e C=>?_)
    .by_cases hba:b=a
     .subst hba;rw[bf] at e ⊢;show e
     .rw[aE hba] at e;show hH1 b u hba (A.gh b u e)
    .rw[aE (λz=>C (bM.mpr z))];exactλ_=>rfl
   show h.1 Z' s L _ us I1 #[Z8,Z9,_,_,fl,Y',A1,hq,λZ1 G1 H1 sm2 A2=>k Z1 G1 H1 (sm1.trans sm2) A2]
 .cases hq⟩
end
section
open PyProof
def BU{it t:av}{items:bK aw}(Ô:t≠it):∀(n i:ag)(s:aH)(Q:Z aw->aH->Prop),s.heap.IsListIter it t i->s.heap.IsList t items->i+n<=items.size->
  (∀h':Heap,h'.IsListIter it t (i+n)->gW it s.heap h'->Q ((items.toList.drop i).take n) {s with heap:=h'})->aL .(z) A (draw (.ref it) n) Q us s
 |0,i,s,Q,hit,_,_,hQ=>by
  show qB (by simpa using hQ s.heap hit (A8 ..))
 |n+1,i,s,Q,hit,ht,hle,hQ=>by
  let Zu:i<items.size:=by ext
  show qy (V2 hit ht (x:=items[i]) (by simp[Zu]) λZX ZW ZZ=>?_);show qy (qV (BU Ô n (i+1) _ _ ZW (ht.extBut ZZ.extBut Ô) .(c) λZ2 ZP ZK=>qB ?_));let hd:items.toList.drop i=items[i]::items.toList.drop (i+1):=by simp[tt,Zu]
  let:=hQ Z2 (by rw[show i+(n+1)=i+1+n by ext];show ZP) (ZZ.trans ZK);rw[hd,List.take_succ_cons] at this;show this
def KM{t:av}{Q:Z aw->aH->Prop}(hh:A.handled=B)(ht:s.heap.IsList t items)
  (hQ:∀h',Bv s.heap.objs.size s.heap h'->Q items.toList {s with heap:=h'}):aL .(z) A (unpackItems (.ref t) items.size B) Q us s:=by
 let Zu:t≠s.heap.objs.size:=by let⟨o,ho,_⟩:=ht;show qD (qw ho)
 show qy ?_
 .unfold notIterableAtAll;show qy (AY ht.typeIs slot_list_iter.lookup ?_);show qB ?_;simp only[qt,cK];show qy (qV (nQ ht ?_));show qy (qV (BU Zu items.size 0 _ _ #[_,qH _ W,W,W] (ht.at λo q=>qv _ q) .(c) λZX ZW ZZ=>?_));let ħ:nS items.size (IC 0 items.toList)=items.toList:=by rw[pM];show kT (by simp)
  rw[ħ];rw[qZ (by simp)];let ZJ:ZX.IsList t items:=(ht.at λo q=>qv _ q).extBut ZZ.extBut Zu;show qy (qV (V3 hh ZW ZJ (by simp) λZ2 ZI=>?_));simp only[Option.isSome_none,qt,cK];show qB (hQ Z2 λb o C e=>ZI b o C (ZZ.extBut b o C (qv _ e)))
def KL{x1}{t:av}{Q:lY->aH->Prop}(hh:A.handled=B)(ht:s.heap.IsList t items)
  (hn:(fR ű env).length=items.size)(hstar:(fR ű env).findIdx? (·.1)=B)
  (h:∀h',Bv s.heap.objs.size s.heap h'->aL .(z) A (assignInOrder ((fR ű env).map (·.2)) items.toList) Q us {s with heap:=h'}):
  aL .(z) A (pp (.Tuple ű x1 pos) env (.ref t)) Q us s:=by
 rw[assign_Tuple];show qy (HU ?_);unfold unpack;rw[hn,hstar];show qy (qV (KM hh ht h))
inductive gLst(K:aT)(n:ag)(t:TGs)(v:V)(L:St)(H:Hp)(Q:St->Hp->Prop):Prop where
 |mk:∀a xs,v=.ref a->ñ K H a xs->xs.length=n->t xs L H Q->gLst K n t v L H Q
def O8{k:ag}{t:TGs}(hc:X.calm=ah)(h:PGs X es t)
  (hn:(fR es X.env).length=n:=by rfl)(ý:(fR es X.env).findIdx? (·.1)=B:=by rfl):PG X (.Tuple es k pos) (gLst X.K n t):=by
 intro Z' s L H v u Q I r hw;let⟨a,xs,e1,hq,hl,hw⟩:=hw;subst e1;cases r;let⟨YY,rv,ht,hz⟩:=I.list hq;show KL (I.ok.hd hc) ht.isList (by simp[hn,<-hl,rv.length]) ý λh' hx=>?_;let I1:YS X Z' L H {s with heap:=h'}:=I.kept λb o e=>hx b o (qD (qw e)) e;show h Z' _ L H xs _ Q I1 (by simpa using rv) hw
end
section
variable{a:Expr}
noncomputable def tZ(n:ag)(gs:FGs):FG:=λd Y=>match d with
 |.lst ds=>if ds.length=n then gs ds Y else B
 |_=>B
def Ng{ts:Z Expr}{k:ag}(hc:X.calm=ah)(h:DGs O X ts gs)(hn:(fR ts X.env).length=n:=by rfl)(ý:(fR ts X.env).findIdx? (·.1)=B:=by rfl):DG O X (.Tuple ts k pos) (tZ n gs):=by
 show#[λZ' s L H v u Q I r hw=>O8 hc h.pg hn ý Z' s L H v u Q I r ?_,λds Y Y' e q=>?_]
 .obtain⟨Z8,Z9,G,Y,d,Y',A,r,h,k⟩:=hw;unfold tZ at h;split at h
  .split at h
   .rename_i hl;let⟨a,vs,rfl,ha,rv⟩:=r.lst_inv;show#[a,vs,W,.inl (.inl (A.gh _ _ ha)),by rw[rv.length];show hl,Z8,Z9,G,Y,_,Y',A,rv,h,k]
   .cases h
  .cases h
 .unfold tZ at e;split at e
  .split at e
   .exact h.no _ _ _ e q
   .cases e
  .cases e
end
noncomputable def iX:D->D->au D
 |.tup x,.tup y=>if x≠[]/\y≠[]/\x.length+y.length<=aK then U (.tup (x++y)) else B
 |_,_=>B
section
variable{a:Expr}
def Ob:f9 O K iX (Eg K):=by
 intro G H v u x y z gh r1 r2 h Q k;unfold iX at h;split at h
 .split at h
  .rename_i hz;cases h;let⟨a,vs,rfl,ha,ra⟩:=r1.tup_inv;let⟨b,E,rfl,C,rb⟩:=r2.tup_inv;show#[a,b,vs,E,W,W,.inl (.inl (gh _ _ ha)),.inl (.inl (gh _ _ C)),?_,by rw[ra.length,rb.length];show hz.2.2,?_]
   .intro z;subst z;let:=ra.length;show hz.1 (Bc.mp this.symm)
   .refine#[λz=>?_,λ_ p hp=>uK gh (ra.append rb) k p hp];subst z;let:=rb.length;show bH (Bc.mp this.symm) hz.2.1
  .cases h
 .cases h
def tY(ha:DE O X a fa)(C:DE O X b fb):DE O X (.BinOp a .Add b pos) (b2 iX fa fb):=mK K5 Ob ha C
end
section
open PyProof
end
section
open PyProof
section
variable{o:Expr}{id:cW}{r:V->Z V->Hp->VK->Prop}
def wg(i:ag)(fk:FE):FS:=λY=>(fk Y).bind λkd=>match Y[i]? with
 |some (U (.odk YL))=>(gK kd).bind λk=>if (bc YL k).isSome=ah then U (.nx,Y.set i (U (.odk (YL.filter λkv=>decide (kv.1≠k))))) else B
 |_=>B
def Gn{κ:Type}[dE κ]{K:aT}{G:Hp}{k:κ}:∀{E:Z (κ×V)}{YL:Z (κ×D)},E.map (·.1)=YL.map (·.1)->YN O K G (E.map (·.2)) (YL.map (·.2))->(lE E k).map (·.1)=(YL.filter λkv=>decide (kv.1≠k)).map (·.1)/\YN O K G ((lE E k).map (·.2)) ((YL.filter λkv=>decide (kv.1≠k)).map (·.2))
 |[],[],_,_=>#[W,.nil]
 |[],_::_,e,_=>by cases e
 |_::_,[],e,_=>by cases e
 |u::E,p::YL,e,r=>by
  rw[qp,qp] at e;let⟨e1,e2⟩:=dN e;cases r with
  |cons r1 r2=>
   let⟨h1,h2⟩:=Gn e2 r2;unfold lE at h1 h2 ⊢;rw[kR,kR];by_cases hk:u.1=k
   .rw[qZ (by simp[hk]),qZ (by rw[<-e1];simp[hk])];show#[h1,h2]
   .rw[qY (by simp[hk]),qY (by rw[<-e1];simp[hk])];show#[by rw[qp,qp,e1,h1],.cons r1 h2]
def Vu(i:ag)(hk:DE O X e fk)(m:M1 X (.Name x vp) "pop" Zj e Zg:=by show#[W,W,W,W])(hN:X.N[i]?=U x:=by rfl)(hv:ŋ X.env.scope x:=by ac_nf)(hd:.(r)=ar:=by decide)
  (À:(x==("__classdict__":ai))=ar:=by decide)(hs:dq (.Call (.Attribute (.Name x vp) "pop" Zj) [e] [] Zg) B pos.line X.env=bd ar:=by rfl):
  DS O X (.Expr (.Call (.Attribute (.Name x vp) "pop" Zj) [e] [] Zg) pos) (wg i fk):=⟨(rO (LN (fM hN hv hd À) hk.1 m) hs).imp λus L H=>by
 rintro⟨Z8,Z9,G,Y,flw,Y',A,h,k⟩;let⟨kd,ġ,hq⟩:=ZE h;clear h;split at hq
 .rename_i YL hi;let⟨kk,Β,hq⟩:=ZE hq;split at hq
  .rename_i hz;cases hq;let⟨w,fp,h1,h2⟩:=A.get hi;cases h2 with
   |odk q1 q2 q3 q4 q5=>
    rename_i a E;show#[_,h1,a,W,.inl #[_,.inl q3],Z8,Z9,G,Y,_,A,ġ,λu G2 H2 s2 r2=>?_];let A2:=A.step s2;let eu:=lz r2 Β;subst eu;let ĩ:H2 a=U (.dK E):=s2.hh _ _ q3;let⟨w1,w2⟩:=Gn q4 (q5.mono s2.gg);rcases nr q4 q5 with⟨z1,_⟩|⟨d,v,z1,z2,z3⟩
    .rw[z1] at hz;cases hz
    .exact#[E,kk,v,ĩ,W,z2,k L G2 _ s2.gg (A2.chOdk hi h1 w1 w2)]
  .cases hq
 .cases hq⟩
end
end
variable{Ç:ag}
namespace ST
def vk.relaid2{t:iw}{es:bK (aj×aw)}(F:vk (kU Ç-1))(few:es.size*5<(kU Ç-1)*3){t':iw}{Ñ:bK ag}(h:t.relaid (es.map (·.1)) Ç=U (t',Ñ)):coversAll Ñ es.size=ah/\t'.plain=t.plain:=by
 generalize hM:kU Ç-1=YK at F few;let⟨YO,hl,Γ⟩:=F.lays (es.map (·.1)) (by simp;ext);let Y5:(es.map (·.1)).toList.length=es.size:=by simp
 unfold WW at h;rw[hM] at h;unfold WX at h;rw[hl] at h;cases h;show#[?_,W];unfold coversAll;rw[List.isPerm_iff,List.perm_ext_iff_of_nodup (by show Fs Γ) Bh];intro k;rw[fj];constructor
 .intro hk;let⟨⟨j,k'⟩,hm,rfl⟩:=bw.mp (hk);let:=Γ.lt j k' ((iZ Γ.sz).mp hm);rw[Y5] at this;show this
 .intro hk;let⟨j,hj⟩:=Γ.on k (by rw[Y5];show hk);show(bw.mpr #[(j,k),(iZ Γ.sz).mpr hj,W])
noncomputable def iW(es:bK (aj×aw)):Z aj:=es.toList.map λe=>match e.2 with
 |.int m _=>m
 |_=>0
structure IS(prog:dD)(w:cD)(led:aJ)(ks:Z aj)(o:Obj):Prop where
 cls:o.ExactSet
 ex:∃es ep t,o.data=.set es ep t/\Tb t es/\Mk t.mask/\t.plain=ah/\t.led=led/\(∀e∈es.toList,∃m t,e=((fm prog w).hash m,dL m t))/\(iW es).Perm (dd ks)
def B0{es:bK (aj×aw)}(h:∀e∈es.toList,∃m t,e=((fm prog w).hash m,dL m t)):ElemsOf (fm prog w) es.toList:=λe he=>by let⟨m,t,rfl⟩:=h e he;show#[#[m,ID _ _ _ _,W],W]
def Ro{es:bK (aj×aw)}(h:Â.toList.Perm es.toList):(iW Â).Perm (iW es):=h.map _
def Ft{es:bK (aj×aw)}{k:aj}(hE:∀e∈es.toList,∃m t,e=((fm prog w).hash m,dL m t)):By (λe=>(fm prog w).is k e.2) es.toList=B↔k∉iW es:=by
 rw[List.findIdx?_eq_none_iff];constructor
 .intro h hk;let⟨e,he,e2⟩:=bw.mp hk;let⟨m,t,rfl⟩:=hE e he;let:=h _ he;subst e2;rw[ID] at this;cases this
 .intro h e he;let⟨m,t,rfl⟩:=hE e he;let Ô:m≠k:=λz=>h (bw.mpr #[_,he,z]);show AB k (.int m t)=ar;simp[AB,Ô]
set_option maxHeartbeats 1000000 in
def Pf{led:aJ}{ks:Z aj}{k:aj}{Ą:Tok}{Q:aJ->aH->Prop}(ho:s.heap.get? S=U o)(T:IS prog w led ks o)(Y5:ks.length<=300)
  (h:∀b h' tk o',s.toks<=tk->gW S s.heap h'->h'.get? S=U o'->IS prog w led (ks++[k]) o'->Q b {s with heap:=h',toks:=tk}):aL .(z) A (setAdd S (.int k Ą)) Q us s:=by
 let⟨hc,es,ep,t,hd,TB,hM,Zo,Ì,hE,hp⟩:=T;let ĥ:=ID prog w k Ą;let hddl:=mz ks;let ô:es.size=(dd ks).length:=by let:=hp.length_eq;unfold iW at this;rw[qg,fu] at this;show this
 let C:es.size<scanBound:=by unfold scanBound;ext
 let⟨n0,f1,f2,f3⟩:=TB.first ((fm prog w).hash k);show qV (qy ((fm prog w).pyHash ĥ ?_));show qV (qy (kX ho hd TB.fits ?_));dsimp only;rw[byScan_of W C (B0 hE)];simp only[↓reduceIte];show qy ?_;show qy (Iq ?_);show qy (wpAny_setScan_of ĥ ho hd TB.fits (B0 hE) ?_);by_cases hk:k∈dd ks
 .let Ô:By (λe=>(fm prog w).is k e.2) es.toList≠B:=λz=>(Ft hE).mp z (hp.mem_iff.mpr hk);cases hr:By (λe=>(fm prog w).is k e.2) es.toList with
  |none=>show bH hr Ô
  |some j=>
   dsimp only;show qB (qB ?_);show h ar s.heap (s.toks+1) o (kO _) (A8 S s.heap) ho #[hc,es,ep,t,hd,TB,hM,Zo,Ì,hE,?_];rw[sy,qY hk];show hp
 .let hr:By (λe=>(fm prog w).is k e.2) es.toList=B:=(Ft hE).mpr λz=>hk (hp.mem_iff.mp z);rw[hr];dsimp only;let hslot:t.freeSlot ((fm prog w).hash k)=U (ao t.mask ((fm prog w).hash k) n0,ar):=by
   unfold SetTable.freeSlot;rcases ym TB (hashAt:=λ_=>(fm prog w).hash k+1) W (Pk t _) (fy _) f1 f2 f3 with⟨n',i,_,_,_,g4,_⟩|⟨_,g2⟩
   .omega
   .rw[g2];rfl
  let hplc:bY t.place (ao t.mask ((fm prog w).hash k) n0)<=es.size:=by let:=(oQ t.place (ao t.mask ((fm prog w).hash k) n0) TB.ri).1;rw[TB.sz] at this;show this
  let hH:(ao t.mask ((fm prog w).hash k) n0)=(ao t.mask ((fm prog w).hash k) n0):=rfl;generalize hHk:(fm prog w).hash k=Hk at *;clear hH;let ē:(cq es (bY t.place (ao t.mask Hk n0)) (Hk,dL k Ą)).size=es.size+1:=by let:=bP cM (li es _ (Hk,dL k Ą) hplc);simp only[fu,ql,qj,qF,iu] at this;ext
  let hpsz:(cq t.place (bY t.place (ao t.mask Hk n0)) (ao t.mask Hk n0)).size=es.size+1:=by let:=bP cM (li t.place _ (ao t.mask Hk n0) (by rw[TB.sz];show hplc));let h3:=TB.sz;simp only[fu,ql,qj,qF,iu] at this;ext
  let hdum:.(p).1.dummies=#[]:=by show(if Bg t.dummies _ then _ else t.dummies)=#[];rw[TB.dm];rfl
  let ė:Ie .(p).1=es.size+1:=by show(cq t.place _ _).size+.(p).1.dummies.size=_;rw[hdum];show hpsz
  let hfits:pO .(p).1 (cq es .(p).2 (Hk,dL k Ą)).size=ah:=by unfold pO;rw[ė,show(cq es .(p).2 (Hk,dL k Ą)).size=es.size+1 from ē,dB];let:=TB.few;show#[by rw[kL];show hpsz,qU (by show es.size+1<=t.mask;ext)]
  let hlay:layNew t es Hk (.int k Ą)=(cq es .(p).2 (Hk,dL k Ą),.(p).1,ar,ar):=by unfold layNew;rw[hslot];show(cq es .(p).2 (Hk,dL k Ą),Xz .(p).1 _,ar,!pO .(p).1 _)=_;let hfits':pO .(p).1 (cq es (bY t.place (ao t.mask Hk n0)) (Hk,dL k Ą)).size=ah:=hfits;unfold Xz;rw[hfits'];rfl
  rw[hlay];dsimp only;show qy (qB ?_);rw[qY (show.(p).1.plain=ah from Zo)];show qy ?_;rw[W5 8 (W)];show qB ?_;rw[qY (show plainKind (dL k Ą)=ah from W)];let hms:∀Â:bK (aj×aw),Â.toList.Perm (cq es .(p).2 (Hk,dL k Ą)).toList->(iW Â).Perm (dd (ks++[k]))/\∀e∈Â.toList,∃m t,e=((fm prog w).hash m,dL m t):=λÂ pe=>by
   let e1:=li es (bY t.place (ao t.mask Hk n0)) (Hk,dL k Ą) hplc;let e1:(cq es .(p).2 (Hk,dL k Ą)).toList=_:=e1;rw[e1] at pe;let pe2:=pe.trans (XA);rw[tz] at pe2;show#[?_,λe he=>?_]
   .rw[sy,qZ hk];show(pe2.map _).trans ?_;show(List.Perm.cons k hp).trans ?_;show(List.perm_append_singleton k (dd ks)).symm
   .rcases cm.mp (pe2.mem_iff.mp he) with rfl|he
    .exact#[k,Ą,by rw[hHk]]
    .exact hE e he
  show qy (Bo ho hd ?_ (by show(cq es (bY t.place (ao t.mask Hk n0)) (Hk,dL k Ą)).size<=aK;rw[ē,eW];ext));let hg1:=vm (Â:=cq es .(p).2 (Hk,dL k Ą)) (t':=.(p).1) ho hd;let hsb1:=mr s.heap S (Bm (cq es .(p).2 (Hk,dL k Ą)) .(p).1);by_cases few:(es.size+1)*5<t.mask*3
  .let Ė:mq .(p).1=ar:=by unfold mq;rw[ė];show qP (by show ¬((es.size+1)*5 ≥ t.mask*3);ext)
   rw[Ė];simp only[mm,AW,qt,cK];show qB (qB ?_);let⟨m1,m2⟩:=hms _ (XB _);show h ah _ _ _ (kO _) hsb1 hg1 #[hc,_,_,_,W,TB.put f2 f3 few t.plain,hM,Zo,Ì,m2,m1]
  .let Ė:mq .(p).1=ah:=by unfold mq;rw[ė];show qU (by show((es.size+1)*5 ≥ t.mask*3);ext)
   rw[Ė];simp only[mm,W9,cI];let⟨m1,m2,m3⟩:=hM.grow TB.few few .(c);let Ņ:(cq es .(p).2 (Hk,dL k Ą)).size=es.size+1:=ē;rw[Ņ];let⟨t',Ñ,r1,r2,r3,r4,r5,r6⟩:=vk.relaid (t:=.(p).1) (es:=cq es .(p).2 (Hk,dL k Ą)) m1.full (by rw[Ņ];show m2);let⟨c1,c2⟩:=vk.relaid2 m1.full (by rw[Ņ];show m2) r1;let hpm:=relayAll_perm .(p).1 (cq es .(p).2 (Hk,dL k Ą)) (tE (es.size+1));let hrel:relayAll .(p).1 (cq es .(p).2 (Hk,dL k Ą)) (tE (es.size+1))=(Ñ.filterMap ((cq es .(p).2 (Hk,dL k Ą))[·]?),t',ar):=by unfold relayAll;rw[r1];dsimp only;rw[c1,r3.fits];rfl
   rw[hrel] at hpm ⊢;dsimp only at hpm ⊢;show qy (qB (a:=()) ?_);show qy (Bo (s:={s with heap:=_,toks:=s.toks+1}) hg1 rfl ?_ (by rw[r2,Ņ,eW];ext));show qB (qB ?_);let⟨q1,q2⟩:=hms _ hpm;show h ah _ _ _ (kO _) (hsb1.trans (mr _ S _)) (vm hg1 W) #[hc,_,_,t',W,r3,by rw[r5];show m1,c2.trans Zo,r6.trans Ì,q2,q1]
end ST
namespace ST
open PySem PySem.Calls PyProof.Rows PyProof.V PySem.Spec PySem.W
def oC:Bd "set_iterator" "__next__" "set_iterator.__next__" :=
 .of (owner:="set_iterator") (n:="__next__") (by rw[tI,tJ];kernel_rfl) .(b) .(b) .(b)
  (by first|show .inl .(b)|show .inr) (by rw[Bz];kernel_rfl)
def EM:Bd "set_iterator" "__iter__" "set_iterator.__iter__" :=
 .of (owner:="set_iterator") (n:="__iter__") (by rw[tI,tJ];kernel_rfl) .(b) .(b) .(b)
  (by first|show .inl .(b)|show .inr) (by rw[Bz];kernel_rfl)
def Cd:Bd "set" "__iter__" "set.__iter__" :=
 .of (owner:="set") (n:="__iter__") (by rw[tI,tJ];kernel_rfl) .(b) .(b) .(b)
  (by first|show .inl .(b)|show .inr) (by rw[Bz];kernel_rfl)
def E8:Bq table "set_iterator.__next__"=U Builtin.«set_iterator.__next__»:=Xa (by kernel_rfl)
def Qv:Bq table "set_iterator.__iter__"=U Builtin.«dict_keyiterator.__iter__»:=XC (id':="dict_keyiterator.__iter__") (by kernel_rfl) W (by decide +kernel) (by kernel_rfl)
def L':Bq table "set.__iter__"=U Builtin.«frozenset.__iter__»:=XC (id':="frozenset.__iter__") (by kernel_rfl) W (by decide +kernel) (by kernel_rfl)
def CH:XD.lookup (XE ['r','o','t','a','r','e','t','i','_','t','e','s'].reverse)=U Manifest.sig_set_iterator:=by kernel_rfl
def Sv:XD.lookup (XE ['t','e','s'].reverse)=U Manifest.sig_set:=by kernel_rfl
def CV(a:aw):me "set_iterator.__next__" #[[a],[]]:=by unfold me;rw[IE (n:=['_','_','t','x','e','n','_','_']) (by kernel_rfl) CH];kernel_rfl
def JB(a:aw):me "set_iterator.__iter__" #[[a],[]]:=by unfold me;rw[IE (n:=['_','_','r','e','t','i','_','_']) (by kernel_rfl) CH];kernel_rfl
def Kf(a:aw):me "set.__iter__" #[[a],[]]:=by unfold me;rw[IE (n:=['_','_','r','e','t','i','_','_']) (by kernel_rfl) Sv];kernel_rfl
def So:wB (.type "set") "__len__"=bd (U (.builtin "set.__len__")):=by rw[tI,tJ];kernel_rfl
def Ey{α:Type}(next:ag->ag):∀(Zs k:ag)(left:Z α)(out:bK α),left.length<=Zs->(XF next Zs k left out).toList.Perm (out.toList++left)
 |0,k,left,out,h=>by
  let:left=[]:=List.eq_nil_of_length_eq_zero .(c);subst this;rw[iS];show .refl _
 |Zs+1,k,left,out,h=>by
  unfold XF;cases hl:left with
  |nil=>
   simp
  |cons a l=>
   rw[<-hl];let hpos:0<left.length:=by rw[hl];show wp _
   let Zu:=wq (next k) hpos;rw[qE Zu];dsimp only;show(Ey next Zs (k+1) _ _ (by rw[List.length_eraseIdx_of_lt Zu];ext)).trans ?_;rw[Array.toList_push,pF];show List.Perm.append_left _ ?_;show(left[next k%left.length]::left.eraseIdx (next k%left.length)).Perm left;rw[List.eraseIdx_eq_take_drop_succ];show XA.symm.trans ?_;rw[<-tt Zu,tz]
def SK(next:ag->ag)(xs:bK α):(tO next xs).toList.Perm xs.toList:=by
 let:=Ey next xs.size 0 xs.toList #[] (by simp)
 simpa[tO] using this
end ST
variable{slot:ag}
namespace ST
open PySem PySem.Calls PyProof.Rows PyProof.V PySem.Spec PySem.W
def SIt(h:Heap)(it S:av)(slot i n ep:ag):Prop:=∃o,h.get? it=U o/\o.cls=.type "set_iterator"/\o.data=.fields [.int slot 0,.int i 0,.ref S,.int n 0,.int ep 0].toArray
def SIt.typeIs{it:av}(x:SIt s.heap it S slot i n ep):s.TypeIs (.ref it) "set_iterator":=let #[o,ho,hc,_]:=x;#[o,ho,hc]
noncomputable def eJ(w:cD)(S:av)(es:bK (aj×aw))(ep:ag):Z (aj×aw):=if w.params.followText "set-order"=ah then (tO (w.params.setOrder S ep) es).toList else es.toList
def sF(w:cD)(S:av)(es:bK (aj×aw))(ep:ag):(eJ w S es ep).Perm es.toList:=by
 unfold eJ;split
 .exact SK _ _
 .exact .refl _
def O3{xs:bK ag}(hs:xs.toList.Pairwise (· < ·))(h:xs[i]?=U j):bY xs (j+1)=i+1:=by
 let⟨b0,b1,b2⟩:=oQ xs (j+1) hs;let hi:=(ge.mp h).1;rcases kS (bY xs (j+1)) (i+1) with q|q
 .let:=b2 i .(c) j h;ext
 .rcases kS (i+1) (bY xs (j+1)) with q2|q2
  .let Zu:i+1<xs.size:=by ext
   let h1:xs[i+1]?=U xs[i+1]:=by simp[Zu]
   let:=b1 (i+1) q2 _ h1;let h3:=Ib.mp hs i (i+1) (by simpa using hi) (by simpa using Zu) .(c);let h4:xs[i]=j:=by rw[XG hi] at h;injection h
   simp only[WI] at h3;ext
  .omega
section
variable{it:av}{es:bK (aj×aw)}{t:iw}
def GI{Q:au (aw×ag)->aH->Prop}(ho:s.heap.get? S=U o)(hd:o.data=.set es ep t)(T:Tb t es)(Zo:t.plain=ah)(Ì:t.led=!w.params.followText "set-order")(C:w.params.followText "set-order"=ar->bY t.place slot=i)
  (h1:∀e È,(eJ w S es ep)[i]?=U e->(w.params.followText "set-order"=ar->bY t.place È=i+1)->Q (U (e.2,È)) s)(h2:(eJ w S es ep)[i]?=B->Q B s):aL .(z) A (setNext S slot i ep) Q us s:=by
 show qy (kX ho hd T.fits ?_);dsimp only;show qy (qy (wL (qB ?_)));dsimp only;cases hf:w.params.followText "set-order" with
 |true=>
  rw[qY (show.(z).w.params.followText "set-order"=ah from hf)];rw[qZ (by simp)];show qy ?_;show qy (kX ho hd T.fits ?_);dsimp only;show qy (qy (wL (qB ?_)));dsimp only;rw[qY (show.(z).w.params.followText "set-order"=ah from hf)];show qy (wL (qB ?_));dsimp only;let e:eJ w S es ep=(tO (w.params.setOrder S ep) es).toList:=by unfold eJ;rw[qY hf]
  cases hx:(eJ w S es ep)[i]? with
  |none=>
   let hx':(tO (.(z).w.params.setOrder S ep) es)[i]?=B:=by rw[<-qJ];rw[e] at hx;show hx
   rw[hx'];show qB (h2 hx)
  |some p=>
   let hx':(tO (.(z).w.params.setOrder S ep) es)[i]?=U p:=by rw[<-qJ];rw[e] at hx;show hx
   rw[hx'];show qB (h1 p slot hx (λz=>by rw[hf] at z;cases z))
 |false=>
  rw[qZ (by rw[show.(z).w.params.followText "set-order"=ar from hf];simp)];let e:eJ w S es ep=es.toList:=by unfold eJ;rw[qZ (by rw[hf];simp)]
  show BA (λhz=>?_) (λ_=>?_)
  .let hz':(!t.plain && decide (es.size > 1))=ah:=hz;rw[Zo] at hz';cases hz'
  show qy ?_;show aL _ _ (if (!t.led && !es.isEmpty)=ah then _ else _) _ _ _;rw[Ì,hf];rw[qZ (by simp)];show qB ?_;rw[C hf];cases hx:es[i]? with
  |none=>
   dsimp only;show qB (h2 (by rw[e,qJ];show hx))
  |some p=>
   let Zu:i<t.place.size:=by rw[T.sz];show(ge.mp hx).1
   let hj:t.place[i]?=U t.place[i]:=by simp[Zu]
   rw[hj];dsimp only;show qB (h1 p _ (by rw[e,qJ];show hx) λ_=>O3 T.ri hj)
end
end ST
namespace ST
open PySem PySem.Calls PyProof.Rows PyProof.V PySem.Spec PySem.W
section
variable{it:av}{es:bK (aj×aw)}{t:iw}
def IV{Q:au aw->aH->Prop}{e:aj×aw}(hit:SIt s.heap it S slot i es.size ep)(ho:s.heap.get? S=U o)(hd:o.data=.set es ep t)(T:Tb t es)(Zo:t.plain=ah)(Ì:t.led=!w.params.followText "set-order")(C:w.params.followText "set-order"=ar->bY t.place slot=i)
  (hx:(eJ w S es ep)[i]?=U e)
  (hQ:∀h' È,SIt h' it S È (i+1) es.size ep->(w.params.followText "set-order"=ar->bY t.place È=i+1)->gW it s.heap h'->Q (U e.2) {s with heap:=h'}):aL .(z) A (kI (.ref it)) Q us s:=by
 let⟨oi,hoi,hci,hdi⟩:=id hit;show qy (wN (AO hit.typeIs oC (l9 oC hit.typeIs E8 ?_ (CV _))));show qy (qB ?_);show qy (Iy hoi hdi ?_);dsimp only;show qy (IF ho hd T.fits ?_);rw[qZ (by simp)];show qy (GI ho hd T Zo Ì (by rw[fA,fA];show C) (λe' È q1 q2=>?_) (λq=>?_))
 .simp only[fA] at q1 q2;rw[hx] at q1;cases q1;dsimp only;show qy (wQ hoi hdi (by simp) ?_);let h1:=tH (tN (·.setIfInBounds 0 (jU (È:aj)))) hoi (Iz (nW hdi _));show qy (wQ h1 (nW hdi _) (by simp) ?_);let h2:=tH (tN (·.setIfInBounds 1 (jU ((i:aj)+1)))) h1 (Iz (nW (nW hdi _) _));let hs:=(mr s.heap it (tN (·.setIfInBounds 0 (jU (È:aj))))).trans (mr (s.heap.update it (tN (·.setIfInBounds 0 (jU (È:aj))))) it (tN (·.setIfInBounds 1 (jU ((i:aj)+1)))));show qB #[_,W,qB (hQ _ È #[_,h2,((IA ..).trans (IA ..)).trans hci,by rw[nW (nW hdi _)];simp[jU]] q2 hs)]
 .simp only[fA] at q;rw[hx] at q;cases q
def LZ{Q:au aw->aH->Prop}(hh:A.handled=B)(hit:SIt s.heap it S slot i es.size ep)(ho:s.heap.get? S=U o)(hd:o.data=.set es ep t)(T:Tb t es)(Zo:t.plain=ah)(Ì:t.led=!w.params.followText "set-order")(C:w.params.followText "set-order"=ar->bY t.place slot=i)
  (hx:(eJ w S es ep)[i]?=B)
  (hQ:∀h',Bv it s.heap h'->Q B {s with heap:=h'}):aL .(z) A (kI (.ref it)) Q us s:=by
 let⟨oi,hoi,hci,hdi⟩:=id hit;show qy (wN (AO hit.typeIs oC (l9 oC hit.typeIs E8 ?_ (CV _))));show qy (qB ?_);show qy (Iy hoi hdi ?_);dsimp only;show qy (IF ho hd T.fits ?_);rw[qZ (by simp)];show qy (GI ho hd T Zo Ì (by rw[fA,fA];show C) (λe' È q1 q2=>?_) (λq=>?_))
 .simp only[fA] at q1;rw[hx] at q1;cases q1
 .dsimp only;show qy (wQ hoi hdi (by simp) ?_);show qy ?_;simp only[newExc,newTuple];show qy (ju ?_ (by size_fits));show qy (pQ (by first|rfl|(simp only[Xh];rfl)) ?_);show ju ?_ (by size_fits);simp only[raiseNew];show qy (wpAny_handled ?_);rw[show A.in1.handled=B from hh];show qy (qB (Ip ?_));show qy (wO #[_,qH _ W,W] Xi ?_);show qB (hQ _ (((mr ..).extBut.push _).push _))
def Np(hit:SIt s.heap it S slot i n ep)(h:Q (.ref it) s):aL .(z) A (l0 (.ref it)) Q us s:=by show Iv hit.typeIs EM (l9 EM hit.typeIs Qv ?_ (JB _));show qB #[_,W,"set_iterator",_,hit.typeIs,oC.lookup,h]
def M9(ho:s.heap.get? S=U o)(hc:o.ExactSet)(hd:o.data=.set es ep t)(T:Tb t es)(Zo:t.plain=ah)
  (hQ:Q (.ref s.heap.objs.size) {s with heap:=s.heap.push {cls:=.type "set_iterator",data:=.fields [.int 0 0,.int 0 0,.ref S,.int es.size 0,.int ep 0].toArray} }):aL .(z) A (l0 (.ref S)) Q us s:=by
 let hT:s.TypeIs (.ref S) "set":=#[o,ho,hc.1];show Iv hT Cd (l9 Cd hT L' ?_ (Kf _));show qy ?_;show qy (qB ?_);show qB ?_;show qy ?_;show qy (IF ho hd T.fits (qB ?_));show qy ?_;show qy (kX ho hd T.fits ?_);dsimp only;show qy (qy (wL (qB ?_)));show qB ?_;show BA (λhz=>?_) (λ_=>?_)
 .let hz':(!w.params.followText "set-order" && (!t.plain && decide (es.size > 1)))=ah:=hz;rw[Zo] at hz';simp at hz'
 show qy (qB ?_);show qy ?_;show qy (kX ho hd T.fits (qB ?_));show qy ?_;show ju (qB #[_,W,"set_iterator",_,#[_,qH _ W,W],oC.lookup,?_]);show hQ
def Jn(hh:A.handled=B)(I S:av)(Ô:S≠I)(o:Obj)(hd:o.data=.set es ep t)(T:Tb t es)(Zo:t.plain=ah)(Ì:t.led=!w.params.followText "set-order"):
  pL prog w A I [I,S] [I] es.size (λi v=>∃e,(eJ w S es ep)[i]?=U e/\v=e.2) (λi h=>h.get? S=U o/\∃slot,SIt h I S slot i es.size ep/\(w.params.followText "set-order"=ar->bY t.place slot=i)) where
 sub:=λb C=>by simp at C;simp[C]
 frame:=λ_ _ _ st hk=>by let⟨h1,slot,⟨oi,h2,h3⟩,h4⟩:=st;show#[hk S (by simp) o h1,slot,#[oi,hk I (by simp) oi h2,h3],h4]
 item:=λi s Q us hi st hQ=>by let⟨h1,slot,h2,h4⟩:=st;let hl:(eJ w S es ep).length=es.size:=(sF w S es ep).length_eq.trans (fu);let hx:(eJ w S es ep)[i]?=U ((eJ w S es ep)[i]'.(c)):=qE _;show IV h2 h1 hd T Zo Ì h4 hx λh' È q1 q2 q3=>?_;show hQ _ h' s.toks #[_,hx,W] #[(q3.extBut S o Ô h1),È,q1,q2] λb o C e=>q3.extBut b o (λh=>C (by simp[h])) e
 done:=λs Q us st hQ=>by let⟨h1,slot,h2,h4⟩:=st;let hl:(eJ w S es ep).length=es.size:=(sF w S es ep).length_eq.trans (fu);show LZ hh h2 h1 hd T Zo Ì h4 (wE .(c)) λh' he'=>hQ h' s.toks λb o C e=>he' b o (λh=>C (by simp[h])) e
 self:=λ_ _ _ _ st hQ=>by let⟨h1,slot,h2,h4⟩:=st;show Np h2 hQ
def TN{r:av}{Q:aJ->aH->Prop}(hT:s.TypeIs (.ref r) "set")(h:Q ar s):aL .(z) A (YD (.ref r)) Q us s:=by
 show qy (AY hT So ?_);generalize hid:("set.__len__":cW)=id0
 wp_delta
 rw[show splitId id0=U ("set","__len__") from by subst hid;decide +kernel];subst hid;show qy (wO (b:=ah) hT (by rw[Bz];kernel_rfl) ?_);show BA (λĨ=>bH Ĩ .(b)) (λ_=>?_);show BA (λ_=>?_) (λĨ=>bH .(b) Ĩ);show qy (sS hT ?_);show qB h
def src(S:av)(o:Obj)(hc:o.ExactSet)(hd:o.data=.set es ep t)(T:Tb t es)(Zo:t.plain=ah)(Ì:t.led=!w.params.followText "set-order"):
  KdlSrc prog w "set" S S es.size (λi v=>∃e,(eJ w S es ep)[i]?=U e/\v=e.2) (λh=>h.get? S=U o) where
 type:=λs h=>#[o,h,hc.1]
 there:=λh ho=>#[qw ho,qw ho]
 keep:=λ_ _ h hk=>hk S (.inl W) o h
 notList:=by decide
 notTuple:=by decide
 hint:=λ_ _ _ _ h hq=>TN #[o,h,hc.1] hq
 iter:=λA s hh h=>#[_,_,(λ_ _ hq=>M9 h hc hd T Zo hq),Jn hh _ S (qD (qw h)) o hd T Zo Ì,#[qv _ h,0,#[_,qH _ W,W,W],λ_=>by
  let⟨b0,b1,b2⟩:=oQ t.place 0 T.ri;rcases Nat.eq_zero_or_pos (bY t.place 0) with q|q
  .exact q
  .let Zu:0<t.place.size:=by ext
   let:=b1 0 q _ (XG Zu);ext]]
end
end ST
section
open ST
noncomputable def xy(P:dD)(w:cD)(p:av)(ns:Z aj):HO:=.ext λh=>∃o,h.get? p=U o/\IS P w (!w.params.followText "set-order") ns o
def PD(hc:X.calm=ah):dZ X (.type "set") (λxs H Q=>∃(a:av)(ns:Z aj),xs=[.ref a]/\H a=U (.lst (ns.map V.int))/\ns.length<=300/\∀p,H p=B->Q (.ref p) (YZ H p (xy X.prog X.w p ns))):=by
 intro Z' s L H xs E Q I r h;let⟨a,ns,rfl,ha,hl,q⟩:=h;let⟨u,rfl,ru⟩:=eR r;cases ru;let⟨YY,rv,pl,hz⟩:=I.list (.inl (.inl ha));let hkl:ns.length=YY.length:=by let:=rv.length;rwa [qg] at this
 show z4 (I.ok.hd hc) pl.isList (λi o=>IS X.prog X.w (!X.w.params.followText "set-order") (ns.take i) o) ?_ (λA' hA' i v sh o Q' E' hi hv ho hJ hB hQ=>?_) λh' tk o ho hJ hk=>?_
 .refine#[#[W,W,W],#[],0,kZ 0 0 (!X.w.params.followText "set-order"),W,?_,.inl W,W,W,λe he=>by simp at he,?_]
  .exact#[xh,W,W,by simp[kZ],by simp[kZ],by simp[kZ],λi j h x hp=>by simp[kZ] at hp]
  .simp[iW,dd]
 .let Ħ:i<ns.length:=by rw[qC] at hi;ext
  let⟨u2,hu2,ru2⟩:=rv.get (i:=i) (x:=V.int ns[i]) (by simp[Ħ]);let ev:v=u2:=by
   let ú:YY[i]?=U v:=by simpa using hv
   rw[hu2] at ú;show(qI ú).symm
  subst ev;let⟨t0,rfl⟩:=ru2;let Ŏ:ns.take (i+1)=ns.take i++[ns[i]]:=by rw[kY,qE Ħ];rfl
  show Pf ho hJ (by rw[qF];ext) λbb h' tk o' h1 h2 h3 h4=>hQ bb h' tk o' h1 h2 h3 (by show IS _ _ _ (nS (i+1) ns) o';rw[Ŏ];show h4)
 .let e:ns.take YY.toArray.size=ns:=by rw[qC,<-hkl];show fz
  rw[e] at hJ;show#[.ref s.heap.objs.size,_,I.laid (λb u e=>hk b u (qw e) e) (qx _) ?_,W,q _ I.fresh];show#[#[o,ho,hJ],#[o,ho],λh1 h2 hp hk2=>?_];let⟨o1,q1,q2⟩:=hp;show#[o1,hk2 o1 q1,q2]
def T4(hc:X.calm=ah):dZ X (.builtin "sorted") (λxs H Q=>∃(a:av)(ns:Z aj),xs=[.ref a]/\H a=U (xy X.prog X.w a ns)/\ns.length<64/\∀p,H p=B->Q (.ref p) (YZ H p (.lst ((oR (dd ns)).map V.int)))):=by
 intro Z' s L H xs E Q I r h;let⟨a,ns,rfl,ha,h64,q⟩:=h;let⟨u,rfl,ru⟩:=eR r;cases ru;let⟨⟨o,ho,hex,es,ep,t,hd,T,hM,Zo,Ì,hE,hp⟩,_,_⟩:=I.hok a _ ha;let hh:X.A.handled=B:=I.ok.hd hc;let hsl:=eW;let hdl:=mz ns;let ô:es.size=(dd ns).length:=by let:=hp.length_eq;unfold iW at this;rw[qg,fu] at this;show this
 show Xl kind_sorted plain_sorted entry_sorted (args_sorted1 _) ?_;show qy (qB ?_);show qy (Xm (src a o hex hd T Zo Ì) hh ho .(c) λh' tk YT hkp Ä=>?_);let hl:YT.toList.length=es.size:=by rw[fu];show Ä.1
 show qy (wpAny_newList ?_ (by rw[hl];ext));let hol:(eJ X.w a es ep).length=es.size:=(sF X.w a es ep).length_eq.trans (fu);let hS:kP YT.toList (iW (eJ X.w a es ep).toArray):=EJ (P:=λ_ _=>True) (by rw[hl];simp[iW,hol]) λj v e=>by let⟨e2,q1,rfl⟩:=Ä.2 j v (by rw[<-qJ];show e);let⟨m,t,he⟩:=hE e2 ((sF X.w a es ep).mem_iff.mp (qR q1));show#[m,t,?_,by rw[he]];unfold iW;rw[qm,show(eJ X.w a es ep).toArray.toList=eJ X.w a es ep from W,q1,he];rfl
 let hoL:(h'.push (Bw "list" YT.toList.toArray 0)).get? h'.objs.size=U (Bw "list" YT.toList.toArray 0):=qH _ W;show qy (qV (l9 Xo #[_,hoL,W] Xp (list_sort_tree hoL hS (by rw[hl];ext) λout ns' a1 a2 a3=>#[_,W,?_]) (Xq _)));let hpp:ns'.Perm (dd ns):=a2.trans ((Ro (sF X.w a es ep)).trans hp);let Â:=Oi hpp a3;subst Â;show qB #[_,W,?_];let⟨ee,he⟩:=sortedHeap_at hoL;let hls:(oR (dd ns)).length=(dd ns).length:=(wS (dd ns) leZ).length_eq;let Ó:∀u,s.heap.get? h'.objs.size=U u->False:=λu e=>gU _ (qw (hkp _ _ e));let hn:=I.none_of Ó;show#[.ref h'.objs.size,YZ H h'.objs.size (.lst ((oR (dd ns)).map V.int)),I.many (λb o e=>?_) (λb o e=>by rw[aE (bJ e hn)];show e) (λb o e1 e2=>?_),W,q _ hn]
 .let C:b<h'.objs.size:=qw (hkp b o e);rw[Xr (qD C) (by rw[size_push'];show pR C)];show qv _ (hkp b o e)
 .by_cases C:b=h'.objs.size
  .subst C;rw[bf] at e2;cases e2;show#[Ó,by rw[qg,hls];ext,_,ee,F7 a1,by rw[Bx];show he]
  .rw[aE C,e1] at e2;cases e2
def Af:D->au D
 |.lst l=>if l.length<64 then (jc l).map λns=>.lst ((oR (dd ns)).map D.int) else B
 |_=>B
def Ln(hc:X.calm=ah)(hgl:Gl X "sorted")(hml:X.mg "sorted"=B)(hgs:Gl X "set")(hms:X.mg "set"=B)(h:DE O X e f)
  (h1:aP ([.Call (.Name "set" p2) [e] [] Ŕ]:Z Expr) X.env=(ar,eval (.Call (.Name "set" p2) [e] [] Ŕ) X.env)::aP [] X.env:=by rfl)(h2:(ci pos (aP [] X.env)).any (·.1)=ar:=by rfl)
  (h3:aP ([e]:Z Expr) X.env=(ar,eval e X.env)::aP [] X.env:=by rfl)(h4:(ci Ŕ (aP [] X.env)).any (·.1)=ar:=by rfl):
  DE O X (.Call (.Name "sorted" p) [.Call (.Name "set" p2) [e] [] Ŕ] [] pos) (b1 Af f):=⟨by
 show(yO (T4 hc) hgl hml (by rfl) (jh (wf (PD hc) hgs hms (by rfl) (jh h.1 jJ h3) .(b) .(b) h3 h4) jJ h1) .(b) .(b) h1 h2).imp λL H Q=>?_;rintro⟨Z8,Z9,G,Y,d,A,hq,k⟩;let⟨x,hx,hl⟩:=ZE hq;clear hq;show#[Z8,Z9,G,Y,x,A,hx,λv G1 H1 s1 r1=>?_];unfold Af at hl;split at hl
 .rename_i l;split at hl
  .rename_i hz;let⟨ns,hn,rfl⟩:=Za hl;let⟨a,vs,rfl,ha,ra⟩:=r1.lst_inv;let ev:=vS ra hn;subst ev;let hln:ns.length=l.length:=by let:=ra.length;rwa [qg] at this
   show#[a,ns,W,s1.gh _ _ ha,by ext,λp hp=>#[p,ns,W,bf,by ext,λq hq=>?_]];let s2:=s1.trans (Step.newOwn (o:=xy X.prog X.w p ns) s1.gh hp);show ip s2.gh (YN.ints _) (λw G' H' st r=>k w G' H' (s2.trans st) r) q hq
  .cases hl
 .cases hl⟩
end
section
open PyProof
noncomputable def btS(ss:Z ai)(i j:ag):aJ:=decide ((ss.getD i jV).cps.toList<(ss.getD j jV).cps.toList)
def mnS(ss:Z ai):ai:=ss.getD (gG (btS ss) (ss.length-1)) jV
def z5:FQ
 |[.lst l]=>(iz l).bind λss=>if ss=[] then B else U (.str (mnS ss))
 |_=>B
def QD{P:ag->aw->Prop}(ss:Z ai)(hval:∀i v,P i v->∃t,v=.str (ss.getD i jV) t):CmpOf prog w A .Lt P (btS ss):=λi j vi vj s Q us hi hj h=>by let⟨t,rfl⟩:=hval i vi hi;let⟨u,rfl⟩:=hval j vj hj;show richCompare_gives (wC s _ t) (wC s _ u) F.slot_str_lt F.entry_str_lt (F.args_str_lt_2 _ _) (gives_str_lt _ _ t u) (λx=>nomatch x) h
def zJ:∀{vs:Z aw}{ss:Z ai},wF vs ss->∀(i:ag)v,vs[i]?=U v->∃t,v=.str (ss.getD i jV) t
 |_,_,.cons x t r,0,v,e=>by cases e;show#[t,W]
 |_,_,.cons x t r,i+1,v,e=>by let⟨t,h⟩:=zJ r i v e;show#[t,h]
def J8(hc:X.calm=ah):dZ X (.builtin "min") (λxs H Q=>∃(a:av)(ss:Z ai),xs=[.ref a]/\H a=U (.lst (ss.map V.str))/\ss≠[]/\Q (.str (mnS ss)) H):=by
 intro Z' s L H xs E Q I r h;let⟨a,ss,rfl,ha,e0,q2⟩:=h;let⟨u,rfl,ru⟩:=eR r;cases ru;let⟨YY,rv,pl,_⟩:=I.list (.inl (.inl ha));let hS:=GK rv;let vl:YY.length=ss.length:=by let:=rv.length;simpa using this.symm
 show call_min_walk (nQ pl.isList ?_);let la:a<s.heap.objs.size:=by let⟨o,_,h1,_⟩:=pl;show qw h1
 let hP:∀(i:ag)v,YY.toArray[i]?=U v->∃t,v=.str (ss.getD i jV) t:=λi v hv=>zJ hS i v (by simpa using hv);let sz:YY.toArray.size=ss.length:=by simp[vl]
 show#[s.heap.objs.size,_,_,_,_,_,btS ss,W,tp (show X.A.in1.handled=B from I.ok.hd hc) s.heap.objs.size a (qD la) YY.toArray,#[#[_,qH _ W,W,W],pl.isList.at λo q=>qv _ q],λb C=>?_,?_,QD ss hP,λv h' tk pv hk=>?_]
 .rw[l7];simp only[qN,qL,or_false] at C;rcases C with z|z
  .rw[z];show sQ _
  .rw[z];show pR la
 .rw[sz];show XH.mpr e0
 .obtain⟨t,rfl⟩:=hP _ _ pv;show#[.str (mnS ss),H,I.kept λb o z=>hk b o ?_ (qv _ z),?_,q2]
  .intro z';let:b=s.heap.objs.size:=by simpa using z'
   show bH (qw z) (by rw[this];show gU _)
  .unfold mnS;rw[sz];show#[t,W]
def RK(hc:X.calm=ah):ğ O X "min" z5:=#[_,J8 hc,λ{G H vs ds z}gh r h Q k=>by
 unfold z5 at h;split at h
 .obtain⟨ns,hn,h⟩:=ZE h;split at h
  .cases h
  .rename_i Ô;cases h;let⟨v,rfl,r1⟩:=r.one;let⟨a,E,rfl,ha,ra⟩:=r1.lst_inv;show#[a,ns,W,by rw[<-yj ra hn];show gh _ _ ha,Ô,k _ G H (.refl gh) (.str _)]
 .cases h]
end
section
open PyProof
end
section
open PyProof
def fzD(c:ai)(fs:Z (ai×Á)):D:=.ins c (fs.map λz=>(z.1,loF z.2))
def sv(u:HO):Prop:=(∃E,u=.dK E)\/∃E,u=.dT E
section
variable{fs:Z (ai×Á)}
def Mu(I:YS X Z' L H s):∀ps:Z av,ps.Nodup->(∀b∈ps,∃u,H b=U u/\sv u)->∃H1,YS X Z' L H1 s/\(∀b,b∉ps->H1 b=H b)/\∀b∈ps,∃o u,H b=U u/\sv u/\H1 b=U (.frz o u):=by
 intro Y7
 induction Y7 with
 |nil=>
  intro _ _;show#[H,I,λ_ _=>rfl,λb C=>by cases C]
 |cons p ps ih=>
  intro nd h;let ξ:=eG.mp nd;let⟨H1,I1,h1,h2⟩:=ih ξ.2 λb C=>h b (qi _ C);let⟨u,e,k⟩:=h p qh;let e1:H1 p=U u:=(h1 p ξ.1).trans e;let⟨ob,π⟩:=(I1.hok p _ e1).there;let Zz:YS X Z' L (YZ H1 p (.frz ob u)) s:=by
   rcases k with⟨E,rfl⟩|⟨E,rfl⟩
   .exact I1.frz e1 π
   .exact I1.frzT e1 π
  show#[_,Zz,λb C=>?_,λb C=>?_]
  .rw[aE (λz=>C (by rw[z];show qh))];show h1 b λz=>C (qi _ z)
  .by_cases hz:b=p
   .subst hz;show#[ob,u,e,k,bf]
   .rw[aE hz];show h2 b ((cm.mp C).resolve_left hz)
def JP(I:YS X Z' L H' s):∀ps:Z av,ps.Nodup->(∀b∈ps,∃o u,H b=U u/\sv u/\H' b=U (.frz o u)/\∀o u,X.Z9 b≠U (.frz o u))->∃H2,YS X Z' L H2 s/\(∀b,b∉ps->H2 b=H' b)/\∀b∈ps,H2 b=H b:=by
 intro Y7
 induction Y7 with
 |nil=>
  intro _ _;show#[H',I,λ_ _=>rfl,λb C=>by cases C]
 |cons p ps ih=>
  intro nd h;let ξ:=eG.mp nd;let⟨H2,I1,h1,h2⟩:=ih ξ.2 λb C=>h b (qi _ C);let⟨ob,u,e,k,e',hn⟩:=h p qh;let Zz:YS X Z' L (YZ H2 p u) s:=by
   rcases k with⟨E,rfl⟩|⟨E,rfl⟩
   .exact I1.unfrz ((h1 p ξ.1).trans e') hn
   .exact I1.unfrzT ((h1 p ξ.1).trans e') hn
  show#[_,Zz,λb C=>?_,λb C=>?_]
  .rw[aE (λz=>C (by rw[z];show qh))];show h1 b λz=>C (qi _ z)
  .by_cases hz:b=p
   .subst hz;rw[bf,e]
   .rw[aE hz];show h2 b ((cm.mp C).resolve_left hz)
def YW.fzD{K:aT}{qs:Z av}(gg:aY G G1)(hq:∀b∈qs,∃o u,H b=U u/\G1 b=U (.frz o u)):∀{vs:Z V}{fs:Z Á}{ps:Z av},YW O K G H vs fs ps->(∀b∈ps,b∈qs)->YN O K G1 vs (fs.map loF)
 |_,_,_,.nil,_=>.nil
 |_,_,_,.cons r t,hm=>by
  show .cons ?_ (t.fzD gg hq λb C=>hm b (qS _ C));cases r with
  |d h=>show h.mono gg
  |k h a c=>
   let⟨o,u,e1,e2⟩:=hq _ (hm _ (nD _ qh));rw[h] at e1;cases e1;show .fdk e2 a (c.mono gg)
  |t h a c=>
   let⟨o,u,e1,e2⟩:=hq _ (hm _ (nD _ qh));rw[h] at e1;cases e1;show .fdt e2 a (c.mono gg)
inductive ŵ(X:Cx)(a:av)(ps:Z av)(G H G1 H1:Hp):Prop where
 |mk:ps.Nodup->a∉ps->G a=B->(∃hb dx vs,H a=U (.ins hb dx vs)/\G1 a=U (.ins hb dx vs))->(∀b∈ps,G b=B/\∃o u,H b=U u/\sv u/\H1 b=U (.frz o u)/\G1 b=U (.frz o u)/\∀o u,X.Z9 b≠U (.frz o u))->
  (∀b,b∉ps->H1 b=H b)->(∀b,b∉a::ps->G1 b=G b)->ŵ X a ps G H G1 H1
def SQ(I:YS X Z' L H s)(A:At O X.K Z8 Z9 G H Y L)(hi:Y[i]?=U (U (.fo sb c fs))):
  ∃a ps G1 H1,ŵ X a ps G H G1 H1/\YS X Z' L H1 s/\At O X.K Z8 Z9 G1 H1 (Y.set i (U (.sh (fzD c fs)))) L:=by
 let⟨v,fp,h1,h2⟩:=A.get hi;cases h2 with
 |fo gs g1 g2 g3 g4 g5 g6=>
  rename_i a hb dx vs ps;let nd:=eG.mp g3;let kk:∀b∈ps,∃u,H b=U u/\sv u:=λb C=>by
   rcases g6.kinds b C with⟨E,e⟩|⟨E,e⟩
   .exact#[_,e,.inl #[_,W]]
   .exact#[_,e,.inr #[_,W]]
  let⟨H1,I1,e1,e2⟩:=Mu I ps nd.2 kk;let hn:∀b∈a::ps,G b=B:=λb C=>(g2 b C).2;let sm:aY G (ia (a::ps) H1 G):=lv hn;let p1:∀b∈a::ps,ia (a::ps) H1 G b=H1 b:=λb C=>qY C;let n1:∀b,b∉a::ps->ia (a::ps) H1 G b=G b:=λb C=>qZ C;let ga:ia (a::ps) H1 G a=U (.ins hb dx vs):=(p1 a qh).trans ((e1 a nd.1).trans g4);show#[a,ps,ia (a::ps) H1 G,H1,#[nd.2,nd.1,hn a qh,#[hb,dx,vs,g4,ga],λb C=>?_,e1,n1],I1,A.ch hi h1 (.fo gs g1 g2 g3 g4 g5 g6) (λb o e C=>?_) (.sh (.ins ga g1 (by rw[g5,qq];rfl) ?_)) (λb C=>by cases C) sm (λb o e=>?_) (λb o e C _=>n1 b C)]
  .obtain⟨o,u,q1,qk,q2⟩:=e2 b C;show#[hn b (qi _ C),o,u,q1,qk,q2,(p1 b (qi _ C)).trans q2,?_];rcases qk with⟨E,rfl⟩|⟨E,rfl⟩
   .exact I.nofrz q1
   .exact I.nofrzT q1
  .rw[e1 b λz=>C (qi _ z)];show e
  .let:=g6.fzD sm (λb C=>by let⟨o,u,q1,_,q2⟩:=e2 b C;show#[o,u,q1,(p1 b (qi _ C)).trans q2]) λb C=>C
   rw[qq] at this ⊢;show this
  .by_cases C:b∈a::ps
   .rw[p1 b C] at e;show e
   .rw[n1 b C] at e;rw[e1 b λz=>C (qi _ z)];show A.gh b o e
def MN{ps:Z av}(gh:aY G H)(l:ŵ X a ps G H G1 H1)(s:Step G1 H1 G' H')(m1:∀b,b∉ps->H2 b=H' b)(m2:∀b∈ps,H2 b=H b):
  Step G H (ix (a::ps) G') H2/\∀b∈a::ps,∀vs,G' b≠U (.lst vs)/\G' b≠U (.tup vs):=by
 let⟨nd,na,ga,⟨hb,dx,ws,ha,ha1⟩,hp,ho,hg⟩:=l;let gn:∀b∈a::ps,G b=B:=λb C=>by
  rcases cm.mp C with rfl|C
  .exact ga
  .exact(hp b C).1
 show#[#[λb o e=>?_,λb o e=>?_,λb o e=>?_,λb o e ek=>?_],λb C vs=>?_]
 .by_cases C:b∈ps
  .rw[m2 b C];show e
  .rw[m1 b C];show s.hh b o ((ho b C).trans e)
 .let C:b∉a::ps:=λz=>by rw[gn b z] at e;cases e
  show(lL C).trans (s.gg b o ((hg b C).trans e))
 .by_cases C:b∈a::ps
  .rw[show ix (a::ps) G' b=B from qY C] at e;cases e
  .rw[lL C] at e;rw[m1 b λz=>C (qi _ z)];show s.gh b o e
 .by_cases C:b∈a::ps
  .rw[show ix (a::ps) G' b=B from qY C,gn b C]
  .rw[lL C,s.out b o ((ho b λz=>C (qi _ z)).trans e) ek,hg b C]
 .rcases cm.mp C with rfl|C
  .rw[s.gg _ _ ha1];show#[(λz=>by cases z),(λz=>by cases z)]
  .obtain⟨_,o,u,_,_,_,e,_⟩:=hp b C;rw[s.gg _ _ e];show#[(λz=>by cases z),(λz=>by cases z)]
end
section
variable{c:Expr}
def p5(i:ag)(f:FE):FE:=λY=>match Y[i]? with
 |some (U (.fo _ c fs))=>(f (Y.set i (U (.sh (fzD c fs))))).bind λd=>if Ρ d=ah then U d else B
 |_=>B
def U9(i:ag)(h:DE O X c f):DE O X c (p5 i f):=⟨λZ' s L H Q I q=>by
 let⟨Z8,Z9,G,Y,d,A,hq,k⟩:=q;unfold p5 at hq;split at hq
 .rename_i sb cc fs hi;let⟨d',þ,hq⟩:=ZE hq;split at hq
  .rename_i hf;cases hq;let⟨a,ps,G1,H1,l,I1,A1⟩:=SQ I A hi;show Zf (h.1 Z' s L H1 (λx H'=>(∀b∈ps,H' b=H1 b)/\∀H2,(∀b,b∉ps->H2 b=H' b)->(∀b∈ps,H2 b=H b)->Q x H2) I1 #[Z8,Z9,G1,_,_,A1,þ,λv G' H' s' r=>#[λb C=>?_,λH2 m1 m2=>?_]]) λr s1 q=>?_
   .obtain⟨_,_,_,_,hp,_⟩:=l;let⟨_,o,u,_,_,e,_⟩:=hp b C;rw[e];show s'.hh b _ e
   .obtain⟨st,no⟩:=MN A.gh l s' m1 m2;show k v _ H2 st (r.less no hf)
   .obtain⟨x,H',I',rv,hx,q⟩:=q;let⟨nd,_,_,_,hp,_⟩:=l;let⟨H2,I2,m1,m2⟩:=JP I' ps nd λb C=>by let⟨_,o,u,e1,ek,e2,_,e3⟩:=hp b C;show#[o,u,e1,ek,(hx b C).trans e2,e3]
    show#[x,H2,I2,rv,q H2 m1 m2]
  .cases hq
 .cases hq⟩
end
noncomputable def sA(c:ai)(i:ag)(F:Fo->Z D->au (D×Fo))(fr:FA):FS:=λY=>match Y[i]? with
 |some (U (.fo s c' fs))=>if c'=c then (fr Y).bind λds=>(F fs ds).bind λz=>U (.nx,Y.set i (U (.fo s c z.2))) else B
 |_=>B
def UB{k l:ag}(i:ag){g:ai}{F:Fo->Z D->au (D×Fo)}(hb:CalU O X.prog X.w X.K X.mg X.base g c n k F)(hr:ZH l X.A)(hk:k<=l)(hg:Gl X g)(ha:DA O X es fr)(hn:∀Y ds,fr Y=U ds->ds.length=n)(hN:X.N[i]?=U x:=by rfl)(hv:ŋ X.env.scope x:=by ac_nf)(hd:.(r)=ar:=by decide)(À:(x==("__classdict__":ai))=ar:=by decide)
  (õ:(g==("__debug__":ai))=ar:=by decide)(he:aP (.Name x vp::es) X.env=(ar,eval (.Name x vp) X.env)::aP es X.env:=by rfl)(Zo:(ci pos (aP es X.env)).any (·.1)=ar:=by rfl)
  (hs:dq (.Call (.Name g p) (.Name x vp::es) [] pos) B Zk.line X.env=bd ar:=by rfl):
  DS O X (.Expr (.Call (.Name g p) (.Name x vp::es) [] pos) Zk) (sA c i F fr):=⟨by
 let⟨f,fd,ps,h1,h2,h3,h4⟩:=hb.ex;show(rO (As h1 (hr.mono hk) hg h2 h3 h4 .nil ko (jh (fM hN hv hd À) ha.1 he) õ he Zo) hs).imp λus L H=>?_;rintro⟨Z8,Z9,G,Y,fl,Y',A,h,k⟩;unfold sA at h;split at h
 .rename_i sb c' fs hi;split at h
  .rename_i hz;subst hz;let⟨ds,ā,h⟩:=ZE h;let⟨⟨d,ê⟩,hF,h⟩:=ZE h;cases h;let⟨w,fp,q1,q2⟩:=A.get hi;cases q2 with
   |fo gs g1 g2 g3 g4 g5 g6=>
    rename_i a Ca dx vs qs;show#[_,q1,Z8,Z9,G,Y,ds,A,ā,λws G2 H2 s2 r2=>?_];let A2:=A.step s2;show spU O X.K c' n F ((V.ref a::ws)++[]) H2 _ E0;rw[iS];let hg:∀b∈a::qs,Z9 b=B/\G2 b=B:=λb C=>by
     rcases cm.mp C with rfl|į
     .exact#[(g2 _ C).1,(s2.out _ _ g4 W).trans (g2 _ C).2]
     .obtain⟨o,e,ek⟩:=g6.mem b į;show#[(g2 _ C).1,(s2.out _ _ e ek).trans (g2 _ C).2]
    let ĩ:H2 a=U (.ins Ca dx vs):=s2.hh _ _ g4;let g62:YW O X.K G2 H2 (vs.map (·.2)) (fs.map (·.2)) qs:=g6.stay s2.gg λb C=>by let⟨o,e,ek⟩:=g6.mem b C;rw[e];show s2.hh _ _ e
    show#[a,Ca,dx,vs,qs,fs,ws,G2,ds,d,ê,W,g1,s2.gh,λb C=>(hg b C).2,g3,ĩ,g5,g62,r2,hn Y ds ā,hF,λv G' H' u r=>k L G' H' (s2.gg.trans u.gg) (A2.upost hi q1 gs g1 hg g3 ĩ g5 g62 u)]
  .cases h
 .cases h⟩
end
section
open PyProof
def Gc:D->au (Z D)
 |.fdk YL=>U (YL.map λkv=>cx kv.1)
 |_=>B
def itK(f:FE):FA:=λY=>(f Y).bind Gc
section
variable{c:Expr}
def Rr(he:PE X iter te):PI X tg iter (λL H R=>te L H λx H1=>∃(a:av)(o:Obj)(E:Z (YQ×V)),x=.ref a/\H1 a=U (.frz o (.dK E))/\R (Itk a o E) H1):=by
 intro Z' s L H R I h;show Zf (he Z' s L H _ I h) λv s1 #[x,H1,I1,r1,a,o,E,e,ha,q]=>?_;subst e;cases r1;let⟨z,md,va,qa,da⟩:=gL I1.hok (.inr #[o,ha]);let⟨ep,ψ⟩:=da.dictAt;let ho:s1.heap.get? a=U o:=(I1.hok a _ ha).1;show Xx md ψ ?_;show#[s1.heap.objs.size,[s1.heap.objs.size],_,_,H1,W,I1.kept λb u e=>qv _ e,GL a s1.heap.objs.size o E va ep (qD (qw ho)) (λh' e=>ψ.at' λo' e'=>by rw[ho] at e';cases e';show e) qa,#[_,qH _ W,W,W],λb C=>?_,q];let e:b=s1.heap.objs.size:=by simpa using C
 subst e;show I1.fpOk (qx _) (I1.hok.fresh (qx _))
def ut(h:DE O X iter f):DI O X tg iter (itK f):=⟨(Rr h.1).imp λL H R=>by
 rintro⟨Z8,Z9,G,Y,ds,A,h,k⟩;let⟨d,hd,h⟩:=ZE h;show#[Z8,Z9,G,Y,d,A,hd,λv G' H' s r=>?_];unfold Gc at h;split at h
 .cases h;cases r with
  |fdk h1 h2 h3=>
   rename_i YL a o E;let hln:E.length=YL.length:=by simpa using bP cM h2
   show#[_,_,_,W,s.gh _ _ h1,k _ G' H' s #[λi d G2 H2 hd g1 g2=>?_,λG2 H2 g1 g2=>#[g2 _ _ (g1 _ _ h1),by rw[qg,hln]]]];rw[qm] at hd;let⟨kd,ġ,rfl⟩:=Za hd;let hi:i<E.length:=by rw[hln];show(eV.mp ġ).1
   show#[#[g2 _ _ (g1 _ _ h1),hi],λx H3 #[e1,kv,hkv,ev]=>?_];subst e1 ev;let ek:kv.1=kd.1:=by let:=bP (λl=>l[i]?) h2;simp only[qm,hkv,ġ,qf,wT] at this;show this
   show#[G2,.refl g2,by rw[ek];show zt _]
 .cases h⟩
end
end
section
open PyProof
section
variable{Q:VK}
def CE.frz(h:CE outer P w H s (λv H1=>∃a E,H1 a=U (.dK E)/\∀o,Q v (YZ H1 a (.frz o (.dK E)))) u s'):CE outer P w H s Q u s':=by
 let⟨v,H1,os,bare,un,hok,r,a,E,e,q⟩:=h;let⟨o,ho⟩:=(hok a _ e).there;let ne:∀b x,H1 b=U x->x≠.dK E->b≠a:=λb x q n z=>by rw[z,e] at q;cases q;show n W
 let st:∀{b:av}{x:HO},cQ P w H1 s'.heap b x->cQ P w (YZ H1 a (.frz o (.dK E))) s'.heap b x:=λx=>
  x.stay (λc v _ r=>r) (λc r=>by rw[aE (ne c _ r (by intro z;cases z))];show r) λc xs r=>by rw[aE (ne c _ r (by intro z;cases z))];show r
 show#[v,_,os,bare,un.trans #[λb ob q _ _ _=>q,λb ob q _ _ _=>#[ob.slots,q],λb ob q n _=>?_,λb ob q _=>#[ob,q],λb xs q=>?_,λb o u q=>?_,λb ps q=>#[#[],?_]],λb x q=>?_,r,q o]
 .rw[aE (λz=>by rw[z,e] at n;cases n)];show n
 .rw[aE (ne b _ q (by intro z;cases z))];show q
 .rw[aE (ne b _ q (by intro z;cases z))];show q
 .rw[aE (ne b _ q (by intro z;cases z)),q];simp
 .by_cases C:b=a
  .subst C;rw[bf] at q;cases q;show#[ho,st (hok b _ e)]
  .rw[aE C] at q;show st (hok b x q)
end
noncomputable def dkZ(F:Z D->au (Z (YQ×D))):FQ:=λds=>(F ds).map D.fdk
def ζ.calZ{k:ag}{F:Z D->au (Z (YQ×D))}(hb:ζ O P w K mg base x n k F):η O P w K mg base x n k (dkZ F):=by
 let⟨f,fd,ps,h1,h2⟩:=hb.ex;let key:∀vs H Q us,spF O K n (dkZ F) vs H Q us->spOD O K n F vs H (λv H1=>∃a E,H1 a=U (.dK E)/\∀o,Q v (YZ H1 a (.frz o (.dK E)))) us:=λvs H Q us hq=>by
  let⟨G,ds,d,gh,r,hl,hF,k⟩:=hq;let⟨YL,hk,rfl⟩:=Za hF;show#[G,ds,YL,gh,r,hl,hk,λp E G' H' s hp ek rr=>#[p,E,bf,λo=>?_]];let s2:=Step.new (o:=.frz o (.dK E)) s.gh hp;let hu:YZ (YZ H' p (.dK E)) p (.frz o (.dK E))=YZ H' p (.frz o (.dK E)):=by
   funext b
   by_cases C:b=p
   .subst C;rw[bf,bf]
   .rw[aE C,aE C,aE C]
  rw[hu];show k _ _ _ (s.trans s2) (.fdk bf ek (rr.mono s2.gg))
 show#[f,fd,ps,#[λvs H Q us q=>h1.len vs H _ us (key _ _ _ _ q),λA outer s H args E vs Q us hr he C hv hs=>pz (h1.run A outer s H args E vs _ us hr he C hv (key _ _ _ _ hs)) λr s' q=>?_],h2];cases r with
 |error e=>show q
 |ok fl=>
  cases fl with
  |ret u=>show CE.frz q
  |next=>show q
  |brk=>show q
  |cont=>show q
def Oo(hu:X.A.units+66<ck):Zx O X .NotEq uP:=#[_,MO hu,λ{G H v u x y z}gh r1 r2 h Q k=>by let⟨b,C,rfl⟩:=Za h;show#[G,x,y,b,gh,r1,r2,C,k _ G H (.refl gh) (.bl _)]]
noncomputable def nB(i:ag)(f:FE):FE:=λY=>match Y[i]? with
 |some (U (.odk YL))=>(f (Y.set i (U (.sh (.dk YL))))).bind λd=>if Ρ d=ah then U d else B
 |_=>B
def R1(i:ag)(h:DE O X e f):DE O X e (nB i f):=⟨h.1.imp λL H Q=>by
 rintro⟨Z8,Z9,G,Y,d,A,h,k⟩;unfold nB at h;split at h
 .rename_i YL hi;let⟨d',þ,h⟩:=ZE h;split at h
  .rename_i hf;cases h;let⟨v,fp,h1,h2⟩:=A.get hi;cases h2 with
   |odk q1 q2 q3 q4 q5=>
    rename_i a E;let hn:∀b∈[a],G b=B:=λb C=>by rw[bM.mp C];show q2
    let sm:aY G (ia [a] H G):=lv hn;let A1:At O X.K Z8 Z9 (ia [a] H G) H (Y.set i (U (.sh (.dk YL)))) L:=A.ch hi h1 (.odk q1 q2 q3 q4 q5) (λb o e _=>e) (.sh (.dk ((qY qh).trans q3) q4 (q5.mono sm))) (λb C=>by cases C) sm (λb o e=>by
     replace e:(if b∈[a] then H b else G b)=U o:=e
     split at e
     .exact e
     .exact A.gh b o e) (λb o e C _=>qZ C)
    show#[Z8,Z9,_,_,d,A1,þ,λv G' H' s r=>?_];let⟨st,no⟩:=yt A.gh (λb C=>#[hn b C,.dK E,by rw[bM.mp C];show q3,(λ_ z=>by cases z),(λ_ z=>by cases z)]) s;show k v _ H' st (r.less no hf)
  .cases h
 .cases h⟩
end
def PK(E:Z aw):E=(cC E.length).map λi=>E.getD i .none:=by
 apply XI
 .simp
 .intro i h1 h2;simp[pV,qE h1]
def bn{F:aw->aw->aw->au av->aw->aw->kN}(h:∀a b c d e f(v:ag->aw),eN (F a b c d e f) #[(cC ps.length).map v,[]]=bd (ps.zip ((cC ps.length).map v)))(a b c:aw)(d:au av)(e f:aw)(E:Z aw)(hl:E.length=ps.length):
  eN (F a b c d e f) #[E,[]]=bd (ps.zip E):=by
 let:=h a b c d e f λi=>E.getD i .none;rw[<-hl,<-PK E] at this;show this
section
open PyProof
def rK:FQ
 |[.lst l]=>(jc l).map λns=>.int ns.sum
 |_=>B
def LU(hc:X.calm=ah):dZ X (.builtin "sum") (λxs H Q=>∃(a:av)(ns:Z aj),xs=[.ref a]/\H a=U (.lst (ns.map V.int))/\Q (.int ns.sum) H):=by
 intro Z' s L H xs E Q I r h;let⟨a,ns,rfl,ha,q2⟩:=h;let⟨u,rfl,ru⟩:=eR r;cases ru;let⟨YY,rv,pl,_⟩:=I.list (.inl (.inl ha));let hi:kP YY ns:=L3 rv;let⟨xs,e⟩:=hi.allInts.items;let hl:=pl.isList;rw[e] at hl;show sum_intListG (I.ok.hd hc) hl λh' tk t' hk=>?_;let en:preSum (numAt xs) xs.size=ns.sum:=by rw[preSum_eq,kT (by simp),<-nums_intItems,<-e,show YY.toArray.toList=YY from W,hi.numsOf]
 rw[en];show#[.int ns.sum,H,I.kept λb o z=>hk b o z,#[t',W],q2]
def Do(hc:X.calm=ah):ğ O X "sum" rK:=#[_,LU hc,λ{G H vs ds z}gh r h Q k=>by
 unfold rK at h;split at h
 .obtain⟨ns,hn,h⟩:=Za h;cases h;let⟨v,rfl,r1⟩:=r.one;let⟨a,E,rfl,ha,ra⟩:=r1.lst_inv;show#[a,ns,W,by rw[<-vS ra hn];show gh _ _ ha,k _ G H (.refl gh) (.int _)]
 .cases h]
end
variable{r Y':bB}{body:FS}{sn:Z ai}{br:Z (aj×aj)}{ws:Z (ai×aj)}{R:Fl×bB->Prop}{x2 x4 x5 x6:au Slot}{cs:Z aj}{Rt:D->Prop}{lm nw mo:aj}{kd hd d1:D}{Γ af kl:Z (YQ×D)}{T:Z (Z YQ×D)}{z kB:aJ}{ts:Z (ai×ai)}
namespace Law
noncomputable def YV(i:ag):Stmt:=YE.main.body.getD i (.Pass #[0,0,0,0])
noncomputable def g9:Z ai:=["grounds","open_benches","firsts","lasts","put_pairs","notes"]
noncomputable def xU:Z ai:=["told_shop","kept_plan","kept_most","lengths","job_names","early_moments","end_marks","breaks","known_gaps"]
noncomputable def BL:Z ai:=["benches","steps","jobs","setups","links","stocks","horizon","bench_by_name","step_by_name","setup_by_names","job_by_step"]
noncomputable def Gam(C_Facts C_Grounds C_Shop:av):Cn:=#[λc=>if c="Facts" then U C_Facts else if c="Grounds" then U C_Grounds else if c="Shop" then U C_Shop else B,B]
def gM:FQ:=aO 0
  (ay (ZG (YX (b2 ü (M 1) (cF b8 (J (M 0) aq)))) (aF (b2 YR (M 0) (M 1))) aV) (aF .(e)))
def bA:FQ:=aO 3
  (ay (ZG (YX (b2 geD (M 0) (b2 kh (vC (.int 10)) (vC (.int 18))))) (ay (aR 3 (M 0)) (ay (bT (ģ fE .(y)) (aB 4) (aR 3 (b2 jD (M 3) (b2 kh (vC (.int 10)) (vC (.int 7)))))) (ZG (YX (b2 Ő (M 3) .(e))) (aF (b2 e6 (b2 e6 (M 3) (b2 kh (vC (.int 10)) (vC (.int 7)))) (M 2))) aV))) aV) (ay (aR 5 (b2 e6 (b2 cJ (b2 aS (b2 aS (b2 aS (b2 e6 (M 0) (vC (.int 2147483647))) (b2 cJ (b2 cJ (vC (.int 7919)) (M 1)) (M 1))) (b2 cJ (vC (.int 31)) (M 1))) .(f)) (vC (.int 48271))) (vC (.int 2147483647)))) (ay (aR 5 (b2 e6 (b2 aS (b2 aS (b2 cJ (M 5) (M 5)) (b2 cJ (vC (.int 69621)) (M 1))) (vC (.int 7))) (vC (.int 2147483629)))) (aF (b2 e6 (b2 e6 (b2 cJ (M 5) (M 5)) (vC (.int 2147483587))) (M 2))))))
def zh:FQ:=aO 1
  (ay (aR 1 (cF gM (J (M 0) (J .(e) aq)))) (aF (b2 YR (aQ (ZA (J (b2 aS .(s) (cF bA (J (M 1) (J (vC (.int 80)) (J (vC (.int 21)) aq))))) (J (b2 aS .(f) (cF bA (J (M 1) (J (vC (.int 81)) (J (b2 kh (vC (.int 10)) (vC (.int 6))) aq))))) aq)))) (b2 jD (cF bA (J (M 1) (J (vC (.int 82)) (J .(s) aq)))) .(x)))))
def ni:FQ:=aO 0
  (ay (ZG (YX (b2 î (cF bA (J (M 0) (J (M 1) (J .(s) aq)))) .(e))) (aF (cF bA (J (M 0) (J (b2 aS (M 1) .(f)) (J (b2 aS (M 2) .(f)) aq))))) aV) (aF (cF bA (J (M 0) (J (b2 aS (M 1) .(f)) (J (b2 aS (cF iJ (J (M 2) (J (vC (.int 12)) aq))) .(f)) aq))))))
def Aw:FQ:=aO 5
  (ay (e7 3 (ZA aq)) (ay (aR 4 .(e)) (ay (bT (ģ fE (J (cF bA (J (M 0) (J (M 1) (J .(s) aq)))) aq)) (aB 5) (ay (aR 6 (b2 aS (M 4) (cF ni (J (M 0) (J (b2 aS (b2 aS (M 1) .(f)) (b2 cJ .(s) (M 5))) .(hb)))))) (ay (aR 7 (b2 aS (b2 aS (M 6) .(f)) (cF bA (J (M 0) (J (b2 aS (b2 aS (M 1) .(x)) (b2 cJ .(s) (M 5))) (J .(s) aq)))))) (ZG (YX (b2 Î (M 7) (M 2))) (ay (gI 3 (bo (ZA (J (M 6) (J (M 7) aq))))) (aR 4 (b2 aS (M 7) .(f)))) aV)))) (fC 3 (aF (M 3))))))
def xP:FQ:=aO 5
  (ay (aR 2 (vC (.str "abcdefghijklmnopqrstuvwxyz"))) (ay (aR 3 (mF sG (vC (.str "")) (J (aQ (ba (ģ fE (J (cF bA (J (M 0) (J .(e) (J (vC (.int 7)) aq)))) aq)) (aB 0) tT (b2 YR (M 1) (cF bA (J (M 2) (J (b2 aS .(x) (M 0)) (J (vC (.int 26)) aq))))) [B,U 2,U 0])) aq))) (ay (aR 4 (cF bA (J (M 0) (J .(f) (J (b2 aS (cF b8 (J (M 3) aq)) .(f)) aq))))) (ay (e7 5 (ZA aq)) (ay (bT (ģ fE .(y)) (aB 6) (gI 5 (b2 aS (b2 aS (b2 aS (Õ (M 3) pN (pS (M 4))) (b2 YR (M 2) (b2 e6 (b2 cJ (M 6) (vC (.int 7))) (vC (.int 26))))) (b2 YR (aQ (ZA (J (vC (.str "")) (J (vC (.str "q")) aq)))) (b2 jD (M 6) (vC (.int 26))))) (Õ (M 3) (pS (M 4)) pN)))) (fC 5 (aF (M 5))))))))
def zZ:FQ:=aO 7
  (ay (aR 4 (b2 YR (aQ (ZA (J (vC (.str "cut")) (J (vC (.str "glue")) (J (vC (.str "paint")) aq))))) (cF bA (J (M 0) (J .(e) (J .(x) aq)))))) (ay (aR 5 (cF bA (J (M 0) (J .(f) (J (cF b8 .(hb)) aq))))) (ay (aR 6 (Õ (b2 aS (Õ (M 2) (pS (M 5)) pN) (Õ (M 2) pN (pS (M 5)))) pN (pS (b2 aS .(f) (b2 cJ (cF bA (J (M 0) (J .(af) (J .(af) aq)))) (cF bA (J (M 0) (J .(x) (J .(s) aq))))))))) (ay (e7 7 (ZA aq)) (ay (bT (itE (M 6)) (cj 2 (aX (aB 8) (aX (aB 9) ce))) (ay (aR 10 (b2 YR (aQ (ZA (J (M 3) (J (cF iJ (J (vC (.int 5)) (J (M 3) aq))) aq)))) (cF bA (J (M 0) (J (vC (.int 13)) (J .(af) aq)))))) (gI 7 (bo (ZA (J (b2 YR (M 9) .(e)) (J (cF kF (J .(f) (J (cF ni (J (M 0) (J (b2 aS .(s) (b2 cJ .(af) (M 8))) (J (M 10) aq)))) aq))) aq))))))) (fC 7 (aF (bo (ZA (J (M 1) (J (M 4) (J (M 7) aq))))))))))))
def yf:FQ:=aO 4
  (ay (uc 3) (ay (bT (ģ fE (J (cF bA (J (M 0) (J (M 1) (J (vC (.int 6)) aq)))) aq)) (aB 4) (ay (aR 5 (b2 YR (b2 YR (M 2) (cF bA (J (M 0) (J (b2 aS (b2 aS (M 1) .(f)) (b2 cJ .(x) (M 4))) (J (cF b8 .(hb)) aq))))) .(e))) (ay (aR 6 (b2 YR (b2 YR (M 2) (cF bA (J (M 0) (J (b2 aS (b2 aS (M 1) .(af)) (b2 cJ .(x) (M 4))) (J (cF b8 .(hb)) aq))))) .(e))) (ZG (rR 3 (f' (YX (b2 ĵ (M 5) (M 6))) (YX (b2 mL (bo (ZA (J (M 5) (J (M 6) aq)))) (M 3))))) (dH 3 (bo (ZA (J (M 5) (J (M 6) aq)))) (cF bA (J (M 0) (J (b2 aS (b2 aS (M 1) .(x)) (b2 cJ .(x) (M 4))) (J (vC (.int 5)) aq))))) aV)))) (oj 3 (aF (M 3)))))
def zO:FQ:=aO 4
  (ay (aR 3 (aQ (ZA (J (vC (.str "cut")) (J (vC (.str "glue")) (J (vC (.str "paint")) (J (vC (.str "rest")) aq))))))) (ay (uc 4) (ay (bT (ģ fE (J (cF bA (J (M 0) (J .(e) (J (vC (.int 12)) aq)))) aq)) (aB 5) (ay (aR 6 (bo (ZA (J (b2 YR (b2 YR (M 1) (cF bA (J (M 0) (J (b2 aS .(f) (b2 cJ .(s) (M 5))) (J (cF b8 .(y)) aq))))) .(e)) (J (b2 YR (M 3) (cF bA (J (M 0) (J (b2 aS .(af) (b2 cJ .(s) (M 5))) (J .(s) aq))))) aq))))) (ay (aR 6 (b2 iX (M 6) (bo (ZA (J (b2 YR (M 3) (cF bA (J (M 0) (J (b2 aS .(x) (b2 cJ .(s) (M 5))) (J .(s) aq))))) aq))))) (dH 4 (M 6) (b2 aS .(f) (cF bA (J (M 0) (J (b2 aS .(s) (b2 cJ .(s) (M 5))) (J (cF iJ (J (M 2) (J .(s) aq))) aq))))))))) (oj 4 (aF (ox 4 (aQ (ba (jM (M 4)) (aB 0) tT (b2 iX (M 0) (bo (ZA (J (b2 aU (M 1) (M 0)) aq)))) [B,U 4]))))))))
def Az:FQ:=aO 5
  (ay (e7 2 (ZA aq)) (ay (bT (ģ fE (J (cF bA (J (M 0) (J .(e) (J .(x) aq)))) aq)) (aB 3) (ay (aR 4 (cF bA (J (M 0) (J (b2 aS .(f) (M 3)) (J (vC (.int 9)) aq))))) (ay (aR 5 (aQ (ba (itE (M 1)) .(l) (YX (b2 î (cF bA (J (M 2) (J (b2 aS .(s) (M 3)) (J (vC (.int 7)) aq)))) (b2 e6 (M 0) (vC (.int 7))))) (bo (ZA (J (b2 YR (M 1) .(e)) (J (b2 aS .(f) (b2 e6 (M 0) .(x))) aq)))) [B,B,U 0,U 3]))) (ay (aR 6 (aQ (ba (itE (M 1)) .(l) (YX (b2 î (cF bA (J (M 2) (J (b2 aS (vC (.int 8)) (M 3)) (J (vC (.int 7)) aq)))) (b2 e6 (M 0) (vC (.int 7))))) (bo (ZA (J (b2 YR (M 1) .(e)) (J (b2 aS .(f) (b2 e6 (M 0) .(af))) aq)))) [B,B,U 0,U 3]))) (gI 2 (bo (ZA (J (b2 aS (vC (.str "s")) (b2 YR (vC (.str "ab")) (M 3))) (J (cF bA (J (M 0) (J (b2 aS (vC (.int 12)) (M 3)) (J (b2 aS (M 4) .(f)) aq)))) (J (M 4) (J (M 5) (J (M 6) aq)))))))))))) (fC 2 (aF (M 2)))))
def v7:FQ:=aO 5
  (ay (e7 4 (ZA aq)) (ay (bT (ģ fE (J .(x) aq)) (aB 5) (ay (aR 6 (aQ (ba (ģ fE (J (cF b8 .(hb)) aq)) (aB 0) (YX (b2 Ε (cF bA (J (b2 YR (M 3) (b2 e6 (M 0) (cF b8 (J (M 3) aq)))) (J (vC (.int 12)) (J .(s) aq)))) (M 2))) (b2 YR (b2 YR (M 1) (M 0)) .(e)) [B,U 2,U 5,U 1]))) (ay (ZG (YX (b2 î (cF bA (J (M 0) (J (b2 aS (vC (.int 20)) (M 5)) (J .(x) aq)))) .(f))) (aR 6 (b1 w9 (M 6))) aV) (ay (aR 7 (cF ni (J (M 0) (J (b2 aS (vC (.int 24)) (b2 cJ .(s) (M 5))) (J (b2 jD (M 3) .(af)) aq))))) (ay (aR 8 (b2 YR (aQ (ZA (J (M 3) (J (cF bA (J (M 0) (J (b2 aS (vC (.int 37)) (M 5)) (J (b2 aS (M 3) .(f)) aq)))) aq)))) (b2 jD (cF bA (J (M 0) (J (b2 aS (vC (.int 40)) (M 5)) (J .(x) aq)))) .(af)))) (ZG (YX (b2 ĵ (M 6) (aQ (ZA aq)))) (gI 4 (bo (ZA (J (b2 aS (vC (.str "j")) (b2 YR (vC (.str "abc")) (M 5))) (J (M 7) (J (M 8) (J (b2 î (cF bA (J (M 0) (J (b2 aS (vC (.int 44)) (M 5)) (J .(af) aq)))) .(e)) (J (M 6) aq)))))))) aV)))))) (fC 4 (aF (M 4)))))
def xn:FQ:=aO 10
  (ay (aR 3 (cF gM (J (M 0) (J .(e) aq)))) (ay (aR 4 (b2 aS (Õ (M 0) (pS .(s)) (pS (b2 aS .(s) (M 1)))) (aQ (ZA (J (cF gM (J (M 0) (J .(x) aq))) aq))))) (ay (aR 5 (cF iJ (J (cF kF (J .(f) (J (b2 io (cF b8 (J (M 0) aq)) .(s)) aq))) .(y)))) (ay (e7 6 (ZA aq)) (ay (bT (ģ fE (J (b2 aS .(f) (cF bA (J (M 3) (J .(e) (J (b2 YR (aQ (ZA (J .(af) (J .(x) (J (vC (.int 8)) aq))))) (cF bA (J (M 3) (J .(f) (J .(x) aq))))) aq))))) aq)) (aB 7) (gI 6 (bo (ZA (J (b2 aS (vC (.str "be")) (b2 YR (vC (.str "abcdefgh")) (M 7))) (J (cF Aw (J (b2 aS (cF gM (J (M 0) (J .(f) aq))) (b2 cJ .(af) (M 7))) (J .(e) .(hb)))) aq)))))) (ay (aR 8 (cF xP (J (cF gM (J (M 0) (J .(af) aq))) (J (M 5) aq)))) (fC 6 (ay (aR 9 (aQ (ba (ģ fE (J (M 5) aq)) (aB 0) tT (cF zZ (J (b2 YR (M 3) (M 0)) (J (b2 YR (M 4) (M 0)) (J (M 1) .(hb))))) [B,U 6,U 2,U 4,U 8]))) (ay (aR 10 (cF yf (J (M 3) (J (vC (.int 50)) (J (M 9) aq))))) (ay (aR 11 (cF zO (J (cF gM (J (M 0) (J .(x) aq))) (J (M 6) .(hb))))) (ay (aR 10 (ox 10 (aQ (ba (jM (M 10)) (aB 0) tT (b2 iX (M 0) (bo (ZA (J (cF iJ (J (b2 aU (M 2) (M 0)) .(y))) aq)))) [B,U 2,U 10])))) (ay (aR 12 (aQ (ZA aq))) (ay (ZG (YX (b2 î (cF bA (J (M 3) (J (vC (.int 70)) (J .(x) aq)))) .(f))) (aR 12 (cF Az (J (cF gM (J (M 0) (J .(f) aq))) (J (M 9) aq)))) aV) (aF (bo (ZA (J (M 6) (J (M 9) (J (cF v7 (J (M 3) (J (M 4) (J (M 9) .(hb))))) (J (M 11) (J (M 10) (J (M 12) .(hb)))))))))))))))))))))))
def um:FQ:=aO 0
  (aF (cu (cF eF (J (M 0) (J (vC (.ty "int")) aq))) (yz (cF eF (J (M 0) (J (vC (.ty "bool")) aq))))))
def gQ:FQ:=aO 0
  (aF (cu (cF um (J (M 0) aq)) (ŉ Î Î (M 1) (M 0) (M 2))))
def fW:FQ:=aO 0
  (aF (cu (cF eF (J (M 0) (J (vC (.ty "tuple")) aq))) (b2 î (cF b8 (J (M 0) aq)) (M 1))))
def vE:FQ:=aO 0
  (ay (ZG (Ã (bE (YX (cF fW (J (M 0) (J .(af) aq))))) (Ã (bE (YX (cF gQ (J .(o) (J .(e) .(y)))))) (bE (YX (cF gQ (J (b2 YR (M 0) .(f)) (J .(e) .(y)))))))) (aF (vC (.bl ar))) aV) (aF (b2 ü .(o) (b2 YR (M 0) .(f)))))
def hG:FQ:=aO 0
  (aF (cu (cF eF (J (M 0) (J (vC (.ty "list")) aq))) (ŉ Î Î (M 1) (cF b8 (J (M 0) aq)) (M 2))))
def xS:FQ:=aO 0
  (ay (ZG (Ã (bE (YX (cF hG (J (M 0) (J .(e) (J (vC (.int 10)) aq)))))) (bE (YX (cF eQ (J (aQ (ba (ZF (M 0)) (aB 0) tT (cF vE (J (M 0) .(y))) [B,U 1])) aq))))) (aF (vC (.bl ar))) aV) (aF (cF eQ (J (aQ (ba (ģ mE (J .(f) (J (cF b8 (J (M 0) aq)) aq))) (aB 0) tT (b2 ü (b2 YR (b2 YR (M 1) (b2 io (M 0) .(f))) .(f)) (b2 YR (b2 YR (M 1) (M 0)) .(e))) [B,U 0])) aq))))
def jO:FQ:=aO 0
  (ay (ZG (Ã (bE (YX (cF eF (J (M 0) (J (vC (.ty "str")) aq))))) (bE (YX (ŉ Î Î .(f) (cF b8 (J (M 0) aq)) (vC (.int 8)))))) (aF (vC (.bl ar))) aV) (aF (cF eQ (J (aQ (ba (itS (M 0)) (aB 0) tT (ŉ Î Î (vC (.str "a")) (M 0) (vC (.str "z"))) [B])) aq))))
def uB:FQ:=aO 0
  (aF (cu (cF fW (J (M 0) (J .(af) aq))) (cu (cF jO (J .(o) aq)) (cF xS (J (b2 YR (M 0) .(f)) .(y))))))
def fN:FQ:=aO 0
  (aF (b2 î (b1 pc (M 0)) (cF b8 (J (M 0) aq))))
def zB:FQ:=aO 0
  (ay (ZG (Ã (bE (YX (cF hG (J (M 0) (J .(f) (J (vC (.int 8)) aq)))))) (bE (YX (cF eQ (J (aQ (ba (ZF (M 0)) (aB 0) tT (cF uB (J (M 0) .(y))) [B,U 1])) aq))))) (aF (vC (.bl ar))) aV) (aF (cF fN (J (aQ (ba (ZF (M 0)) (aB 0) tT .(o) [B])) aq))))
def ku:FQ:=aO 0
  (aF (cu (cF jO (J (M 0) aq)) (b2 iC (M 0) (M 1))))
def vy:FQ:=aO 0
  (aF (cu (cF fW (J (M 0) (J .(af) aq))) (cu (cF ku (J .(o) .(y))) (cF gQ (J (b2 YR (M 0) .(f)) (J .(f) .(hb)))))))
def Ai:FQ:=aO 0
  (ay (ZG (Ã (bE (YX (cF hG (J (M 0) (J .(f) (J .(s) aq)))))) (bE (YX (cF eQ (J (aQ (ba (ZF (M 0)) (aB 0) tT (cF vy (J (M 0) (J (M 1) .(hb)))) [B,U 1,U 2])) aq))))) (aF (vC (.bl ar))) aV) (aF (cF fN (J (aQ (ba (ZF (M 0)) (aB 0) tT .(o) [B])) aq))))
def vf:FQ:=aO 0
  (ay (ZG (Ã (bE (YX (cF fW (J (M 0) (J .(x) aq))))) (Ã (bE (YX (cF jO (J .(o) aq)))) (bE (YX (cF jO (J (b2 YR (M 0) .(f)) aq)))))) (aF (vC (.bl ar))) aV) (aF (cF Ai (J (b2 YR (M 0) .(af)) (J (M 1) .(hb))))))
def xY:FQ:=aO 0
  (ay (ZG (Ã (bE (YX (cF hG (J (M 0) (J .(f) (J (vC (.int 40)) aq)))))) (bE (YX (cF eQ (J (aQ (ba (ZF (M 0)) (aB 0) tT (cF vf (J (M 0) (J (M 1) .(hb)))) [B,U 1,U 2])) aq))))) (aF (vC (.bl ar))) aV) (aF (cF fN (J (aQ (ba (ZF (M 0)) (aB 0) tT .(o) [B])) aq))))
def Ap:FQ:=aO 0
  (ay (ZG (Ã (bE (YX (cF fW (J (M 0) (J (vC (.int 5)) aq))))) (Ã (bE (YX (cF jO (J .(o) aq)))) (bE (YX (cF eF (J (b2 YR (M 0) .(x)) (J (vC (.ty "bool")) aq))))))) (aF (vC (.bl ar))) aV) (ay (ZG (Ã (bE (YX (cF gQ (J (b2 YR (M 0) .(f)) (J .(e) .(hb)))))) (bE (YX (cF gQ (J (b2 YR (M 0) .(af)) (J .(e) .(hb))))))) (aF (vC (.bl ar))) aV) (aF (cu (cF hG (J (b2 YR (M 0) .(s)) (J .(f) (J (cF b8 .(y)) aq)))) (cF eQ (J (aQ (ba (ZF (b2 YR (M 0) .(s))) (aB 0) tT (cF ku (J (M 0) .(y))) [B,U 1])) aq))))))
def zm:FQ:=aO 2
  (ay (ZG (Ã (bE (YX (cF hG (J (M 0) (J .(e) (J (vC (.int 40)) aq)))))) (bE (YX (cF eQ (J (aQ (ba (ZF (M 0)) (aB 0) tT (cF Ap (J (M 0) (J (M 1) .(hb)))) [B,U 1,U 2])) aq))))) (aF (vC (.bl ar))) aV) (ay (e7 3 (ZA aq)) (ay (bT (ZF (M 0)) (aB 4) (hU 3 (b2 YR (M 4) .(s)))) (fC 3 (aF (cu (cF fN (J (aQ (ba (ZF (M 0)) (aB 0) tT .(o) [B])) aq)) (cF fN (J (M 3) aq))))))))
def vg:FQ:=aO 0
  (ay (ZG (Ã (bE (YX (cF fW (J (M 0) (J .(s) aq))))) (bE (YX (cF ku (J .(o) .(y)))))) (aF (vC (.bl ar))) aV) (aF (cu (cF jO (J (b2 YR (M 0) .(f)) aq)) (cu (cF jO (J (b2 YR (M 0) .(af)) aq)) (cF gQ (J (b2 YR (M 0) .(x)) (J .(f) .(hb))))))))
def y6:FQ:=aO 0
  (ay (ZG (Ã (bE (YX (cF hG (J (M 0) (J .(e) (J (vC (.int 100)) aq)))))) (bE (YX (cF eQ (J (aQ (ba (ZF (M 0)) (aB 0) tT (cF vg (J (M 0) (J (M 1) .(hb)))) [B,U 1,U 2])) aq))))) (aF (vC (.bl ar))) aV) (aF (cF fN (J (aQ (ba (ZF (M 0)) (aB 0) tT (Õ (M 0) pN (pS .(x))) [B])) aq))))
def vM:FQ:=aO 0
  (ay (ZG (Ã (bE (YX (cF fW (J (M 0) (J .(x) aq))))) (Ã (bE (YX (cF ku (J .(o) .(y))))) (bE (YX (cF ku (J (b2 YR (M 0) .(f)) .(y))))))) (aF (vC (.bl ar))) aV) (aF (cu (b2 ĵ .(o) (b2 YR (M 0) .(f))) (cF gQ (J (b2 YR (M 0) .(af)) (J .(e) .(hb)))))))
def yR:FQ:=aO 0
  (ay (ZG (Ã (bE (YX (cF hG (J (M 0) (J .(e) (J (vC (.int 100)) aq)))))) (bE (YX (cF eQ (J (aQ (ba (ZF (M 0)) (aB 0) tT (cF vM (J (M 0) (J (M 1) .(hb)))) [B,U 1,U 2])) aq))))) (aF (vC (.bl ar))) aV) (aF (cF fN (J (aQ (ba (ZF (M 0)) (aB 0) tT (Õ (M 0) pN (pS .(af))) [B])) aq))))
def wc:FQ:=aO 0
  (aF (cu (cF fW (J (M 0) (J .(af) aq))) (cu (cF ku (J .(o) .(y))) (cF gQ (J (b2 YR (M 0) .(f)) (J .(f) (J (vC (.int 1000000)) aq)))))))
def uH:FQ:=aO 0
  (ay (ZG (Ã (bE (YX (cF hG (J (M 0) (J .(e) (J (cF b8 .(y)) aq)))))) (bE (YX (cF eQ (J (aQ (ba (ZF (M 0)) (aB 0) tT (cF wc (J (M 0) .(y))) [B,U 1])) aq))))) (aF (vC (.bl ar))) aV) (aF (cF fN (J (aQ (ba (ZF (M 0)) (aB 0) tT .(o) [B])) aq))))
def tW:FQ:=aO 0
  (ay (ZG (Ã (bE (YX (cF fW (J (M 0) (J (vC (.int 5)) aq))))) (bE (YX (cF jO (J .(o) aq))))) (aF (vC (.bl ar))) aV) (ay (ZG (Ã (bE (YX (cF gQ (J (b2 YR (M 0) .(af)) (J .(e) (J (vC (.int 1000000)) aq)))))) (bE (YX (cF gQ (J (b2 YR (M 0) .(f)) (J .(e) (J (b2 YR (M 0) .(af)) aq))))))) (aF (vC (.bl ar))) aV) (aF (cu (cF uH (J (b2 YR (M 0) .(x)) .(y))) (cF uH (J (b2 YR (M 0) .(s)) .(y)))))))
def xw:FQ:=aO 0
  (ay (ZG (Ã (bE (YX (cF hG (J (M 0) (J .(e) (J (vC (.int 6)) aq)))))) (bE (YX (cF eQ (J (aQ (ba (ZF (M 0)) (aB 0) tT (cF tW (J (M 0) .(y))) [B,U 1])) aq))))) (aF (vC (.bl ar))) aV) (aF (cF fN (J (aQ (ba (ZF (M 0)) (aB 0) tT .(o) [B])) aq))))
def xb:FQ:=aO 2
  (ay (ZG (bE (YX (cF gQ (J (M 6) (J .(f) (J (vC (.int 1000000)) aq)))))) (aF (vC (.str "horizon"))) aV) (ay (ZG (bE (YX (cF zB (J (M 0) (J (M 6) aq))))) (aF (vC (.str "benches"))) aV) (ay (aR 7 (aQ (ba (ZF (M 0)) (aB 0) tT .(o) [B]))) (ay (ZG (bE (YX (cF xY (J (M 1) (J (M 7) (J (M 6) aq)))))) (aF (vC (.str "steps"))) aV) (ay (aR 8 (aQ (ba (ZF (M 1)) (aB 0) tT .(o) [B]))) (ay (ZG (bE (YX (cF zm (J (M 2) (J (M 8) (J (M 6) aq)))))) (aF (vC (.str "jobs"))) aV) (ay (ZG (bE (YX (cF y6 (J (M 3) (J (M 7) (J (M 6) aq)))))) (aF (vC (.str "setups"))) aV) (ay (ZG (bE (YX (cF yR (J (M 4) (J (M 8) (J (M 6) aq)))))) (aF (vC (.str "links"))) aV) (ay (ZG (bE (YX (cF xw (J (M 5) (J (M 8) aq))))) (aF (vC (.str "stocks"))) aV) (aF (vC .non)))))))))))
def o9(eM:FQ):FQ:=aO 0
  (ay (ZG (YX (cF eF (J (M 0) (J (vC (.ty "list")) aq)))) (aF (aQ (ba (ZF (M 0)) (aB 0) tT (cF eM (J (M 0) aq)) [B]))) aV) (ay (ZG (YX (cF eF (J (M 0) (J (vC (.ty "tuple")) aq)))) (aF (cF yu (J (aQ (ba (ZF (M 0)) (aB 0) tT (cF eM (J (M 0) aq)) [B])) aq))) aV) (aF (M 0))))
def jC:ag->FQ
 |0=>λ_=>B
 |n+1=>o9 (jC n)
def eM:FQ:=jC 8
def zd:FQ:=vc 3 "Shop"
  (ay (aR 8 (cF xb (J (M 1) (J (M 2) (J (M 3) (J (M 4) (J (M 5) (J (M 6) (J (M 7) aq))))))))) (ay (ZG (YX (b2 iG (M 8) (vC .non))) sNo aV) (ay (ig "Shop" "benches" 0 (cF eM .(y))) (ay (ig "Shop" "steps" 0 (cF eM .(hb))) (ay (ig "Shop" "jobs" 0 (cF eM (J (M 3) aq))) (ay (ig "Shop" "setups" 0 (cF eM (J (M 4) aq))) (ay (ig "Shop" "links" 0 (cF eM (J (M 5) aq))) (ay (ig "Shop" "stocks" 0 (cF eM (J (M 6) aq))) (ay (ig "Shop" "horizon" 0 (M 7)) (ay (ig "Shop" "bench_by_name" 0 (cF jA (J (aQ (ba (ZF (jG "Shop" "benches" 0)) (aB 0) tT (bo (ZA (J .(o) (J (M 0) aq)))) [B])) aq))) (ay (ig "Shop" "step_by_name" 0 (cF jA (J (aQ (ba (ZF (jG "Shop" "steps" 0)) (aB 0) tT (bo (ZA (J .(o) (J (M 0) aq)))) [B])) aq))) (ay (ig "Shop" "setup_by_names" 0 (cF oA (J (aQ (ba (ZF (jG "Shop" "setups" 0)) (aB 0) tT (bo (ZA (J (Õ (M 0) pN (pS .(x))) (J (b2 YR (M 0) .(x)) aq)))) [B])) aq))) (ay (oo "Shop" "job_by_step" 0) (bT (ZF (jG "Shop" "jobs" 0)) (aB 9) (bT (ZF (b2 YR (M 9) .(s))) (aB 10) (mW "Shop" "job_by_step" 0 (M 10) (M 9)))))))))))))))))
def yx:FQ:=aO 0
  (aF (cF zd (J .(o) (J (b2 YR (M 0) .(f)) (J (b2 YR (M 0) .(af)) (J (b2 YR (M 0) .(x)) (J (b2 YR (M 0) .(s)) (J (b2 YR (M 0) (vC (.int 5))) (J (b2 YR (M 0) (vC (.int 6))) aq)))))))))
def i4:FQ:=aO 0
  (aF (aQ (ba (ZF (bG "Shop" "steps" (M 0))) (aB 0) tT .(o) [B])))
def vB:FQ:=aO 0
  (aF (cF eM (J (b2 YR (b2 aU (bG "Shop" "step_by_name" (M 0)) (M 1)) .(af)) aq)))
def vq:FQ:=aO 0
  (aF (cF eM (J (b2 xZ (bG "Shop" "job_by_step" (M 0)) (M 1)) aq)))
def oq:FQ:=aO 0
  (aF (bG "Shop" "horizon" (M 0)))
def yY:FQ:=aO 0
  (aF (cF eM (J (bG "Shop" "benches" (M 0)) aq)))
def rQ:FQ:=aO 0
  (aF (cF eM (J (bG "Shop" "jobs" (M 0)) aq)))
def lD:FQ:=aO 3
  (ay (e7 1 (ZA aq)) (ay (bT (itE (M 0)) (cj 2 (aX (aB 2) (aX (aB 3) ce))) (hU 1 (aQ (ba (ZF (Õ (M 0) (pS (b2 aS (M 2) .(f))) pN)) (aB 0) tT (bo (ZA (J (M 1) (J (M 0) aq)))) [B,U 3])))) (fC 1 (aF (M 1)))))
def sk:FQ:=aO 0
  (aF (cF eM (J (bG "Shop" "links" (M 0)) aq)))
def zI:FQ:=aO 6
  (ay (uc 1) (ay (bT (ZF (bp "Shop" "job_rows" rQ (M 0) aq)) (aB 2) (ZG (YX (b2 YR (M 2) .(x))) (bT (ZF (cF lD (J (b2 YR (M 2) .(s)) aq))) (aB 3) (dH 1 (M 3) .(e))) aV)) (ay (bT (ZF (bp "Shop" "link_rows" sk (M 0) aq)) (cj 3 (aX (aB 4) (aX (aB 5) (aX (aB 6) ce)))) (dH 1 (bo (ZA (J (M 4) (J (M 5) aq)))) (M 6))) (oj 1 (aF (M 1))))))
def xo:FQ:=aO 4
  (ay (aR 1 (bp "Shop" "step_names" i4 (M 0) aq)) (ay (aR 2 (cF zI (J (M 0) aq))) (ay (e7 3 (ZA aq)) (ay (bT (ZF (M 1)) (aB 4) (hU 3 (aQ (ba (ZF (M 1)) (aB 0) (YX (b2 o3 (bo (ZA (J (M 1) (J (M 0) aq)))) (M 2))) (bo (ZA (J (M 1) (J (M 0) (J (b2 aU (M 2) (bo (ZA (J (M 1) (J (M 0) aq))))) aq))))) [B,U 4,U 2])))) (fC 3 (aF (M 3)))))))
def yF:Z D->au Fo:=ie 3 "Grounds"
  (ay (kG "Grounds" "told_shop" 0 (M 1)) (ay (kG "Grounds" "kept_plan" 0 (Ŭ (YX (b2 Ē (M 3) (vC .non))) (vC .non) (cF wb (J (M 3) aq)))) (ay (kG "Grounds" "kept_most" 0 (M 4)) (ay (gw "Grounds" "lengths" 0 (.k [])) (ay (gw "Grounds" "job_names" 0 (.k [])) (ay (gw "Grounds" "early_moments" 0 (.k [])) (ay (gw "Grounds" "end_marks" 0 (.k [])) (ay (bT (ZF (bp "Shop" "step_names" i4 (M 1) aq)) (aB 5) (ay (gT "Grounds" "lengths" 0 (M 5) (cF jA (J (bp "Shop" "ways_of" vB (M 1) (J (M 5) aq)) aq))) (ay (aR 6 (bp "Shop" "job_of" vq (M 1) (J (M 5) aq))) (ay (gT "Grounds" "job_names" 0 (M 5) (Ŭ (YX (b2 Ē (M 6) (vC .non))) (vC .non) (b2 YR (M 6) .(e)))) (ay (gT "Grounds" "early_moments" 0 (M 5) (Ŭ (YX (b2 Ē (M 6) (vC .non))) .(e) (b2 YR (M 6) .(f)))) (ay (aR 7 (Ŭ (YX (b2 Ē (M 6) (vC .non))) (bp "Shop" "last_moment" oq (M 1) aq) (b2 YR (M 6) .(af)))) (gT "Grounds" "end_marks" 0 (M 5) (cF yL (J (M 2) (J (bp "Shop" "last_moment" oq (M 1) aq) (J (M 7) aq))))))))))) (ay (kG "Grounds" "breaks" 0 (cF jA (J (bp "Shop" "bench_rows" yY (M 1) aq) aq))) (kG "Grounds" "known_gaps" 0 (cF oA (J (aQ (ba (ZF (cF xo .(y))) (cj 3 (aX (aB 0) (aX (aB 1) (aX (aB 2) ce)))) tT (bo (ZA (J (bo (ZA (J (M 0) .(y)))) .(hb)))) [B,B,B])) aq))))))))))))
def p9:(Fo->Z D->au (D×Fo)):=jk 0 "Facts"
  (gT "Facts" "open_benches" 0 (M 1) (bwF 0 (aQ (v5 (b2 aU (bG "Grounds" "lengths" (bG "Facts" "grounds" (M 0))) (M 1)) (aB 0) (YX (b2 iC (M 0) (M 1))) (M 0) [B,U 2]))))
def oZ:(Fo->Z D->au (D×Fo)):=jk 0 "Facts"
  (ay (gT "Facts" "firsts" 0 (M 1) (M 2)) (gT "Facts" "lasts" 0 (M 1) (M 3)))
def vV:FQ:=aO 0
  (aF (b2 aU (bG "Grounds" "end_marks" (bG "Facts" "grounds" (M 0))) (M 1)))
def Ae:FQ:=aO 1
  (ay (aR 2 (b2 aU (bG "Grounds" "lengths" (bG "Facts" "grounds" (M 0))) (M 1))) (aF (aQ (ba (ZF (b2 aU (bG "Facts" "open_benches" (M 0)) (M 1))) (aB 0) tT (b2 aU (M 1) (M 0)) [B,U 2]))))
def vR:FQ:=aO 0
  (aF (b1 yK (bp "Facts" "open_lengths" Ae (M 0) .(y))))
def nc:Z D->au Fo:=ie 3 "Facts"
  (ay (kG "Facts" "grounds" 0 (cF (λds=>(yF (ds++[])).map (Ψ "Grounds")) (J (M 1) (J (M 2) (J (M 4) (J (M 5) aq)))))) (ay (gw "Facts" "open_benches" 0 (.k [])) (ay (gw "Facts" "firsts" 0 (.k [])) (ay (gw "Facts" "lasts" 0 (.k [])) (ay (gw "Facts" "put_pairs" 0 (.t [])) (ay (gw "Facts" "notes" 0 (.k [])) (bT (ZF (bp "Shop" "step_names" i4 (M 1) aq)) (aB 7) (ay (aR 8 (bwF 0 (b2 aU (bG "Grounds" "early_moments" (bG "Facts" "grounds" (M 0))) (M 7)))) (ZG (f' (YX (b2 iG (M 3) (vC .non))) (YX (b2 iC (M 7) (M 3)))) (ay (aR 9 (b2 YR (b2 YR (M 3) (M 7)) .(f))) (ay (gO "Facts" "set_open" 0 p9 (J (M 7) (J (aQ (ZA (J (b2 YR (b2 YR (M 3) (M 7)) .(e)) aq))) aq))) (gO "Facts" "set_window" 0 oZ (J (M 7) (J (cF kF (J (M 9) (J (M 8) aq))) (J (M 9) aq)))))) (ay (gO "Facts" "set_open" 0 p9 (jS 0 (J (M 7) (J (cF mM (J (b2 aU (bG "Grounds" "lengths" (bG "Facts" "grounds" (M 0))) (M 7)) aq)) aq)))) (gO "Facts" "set_window" 0 oZ (jS 0 (J (M 7) (J (cF kF (J (M 6) (J (M 8) aq))) (J (b2 io (bp "Facts" "end_mark" vV (M 0) (J (M 7) aq)) (bp "Facts" "least_of" vR (M 0) (J (M 7) aq))) aq)))))))))))))))
def oE:Z D->au (Z (YQ×D)):=oP 5
  (ay (rC 2) (ay (aR 3 (cF bA (J (M 0) (J (vC (.int 130)) (J .(x) aq))))) (ay (bT (itE (b2 YR (M 1) .(f))) (cj 2 (aX (aB 4) (aX (aB 5) ce))) (ay (aR 6 (b2 YR (b2 YR (M 5) .(af)) (cF bA (J (M 0) (J (b2 aS (vC (.int 131)) (b2 cJ .(af) (M 4))) (J (cF b8 (J (b2 YR (M 5) .(af)) aq)) aq)))))) (ay (dH 2 (b2 YR (M 5) .(e)) (bo (ZA (J (b2 YR (M 6) .(e)) (J (M 3) aq))))) (ZG (YX (b2 î (cF bA (J (M 0) (J (b2 aS (vC (.int 132)) (b2 cJ .(af) (M 4))) (J (vC (.int 5)) aq)))) .(e))) (aR 3 (cF bA (J (M 0) (J (b2 aS (vC (.int 132)) (b2 cJ .(af) (M 4))) (J (b2 aS (b2 YR (M 1) (vC (.int 6))) .(f)) aq))))) (aR 3 (b2 aS (b2 aS (M 3) (b2 YR (M 6) .(f))) (cF bA (J (M 0) (J (b2 aS (vC (.int 132)) (b2 cJ .(af) (M 4))) (J .(s) aq)))))))))) (vD 2))))
def pf:Z D->au (Z (YQ×D)):=oP 6
  (ay (rC 3) (ay (bT (ģ fE (J (cF bA (J (M 0) (J (vC (.int 103)) (J (vC (.int 6)) aq)))) aq)) (aB 4) (ay (oM (cj 3 (aX (aB 5) (aX (aB 6) (aX (aB 7) ce)))) (b2 YR (M 1) (cF bA (J (M 0) (J (b2 aS (vC (.int 104)) (M 4)) (J (cF b8 .(y)) aq)))))) (ay (aR 8 (b2 YR (aQ (ZA (J (b2 YR (b2 YR (M 7) (b1 yC .(f))) .(e)) (J (vC (.str "elder")) aq)))) (b2 jD (cF bA (J (M 0) (J (b2 aS (vC (.int 110)) (M 4)) (J (vC (.int 5)) aq)))) .(s)))) (dH 3 (M 5) (bo (ZA (J (M 8) (J (cF bA (J (M 0) (J (b2 aS (vC (.int 116)) (M 4)) (J (b2 aS (M 2) .(f)) aq)))) aq)))))))) (vD 3)))
def sd:FQ:=aO 0
  (aF (b2 aU (bG "Facts" "lasts" (M 0)) (M 1)))
def rY:FQ:=aO 0
  (aF (b2 aU (bG "Facts" "firsts" (M 0)) (M 1)))
def zT:(Fo->Z D->au (D×Fo)):=jk 0 "Facts"
  (gT "Facts" "notes" 0 (M 1) (vC (.bl ah)))
def vT:(Fo->Z D->au (D×Fo)):=jk 0 "Facts"
  (gT "Facts" "put_pairs" 0 (bo (ZA (J (M 1) .(hb)))) (vC (.bl ah)))
def zx:(Fo->Z D->au (D×Fo)):=jk 3 "Facts"
  (bT (itE (b2 YR (M 1) .(f))) (cj 2 (aX (aB 4) (aX (aB 5) ce))) (ay (aR 6 (cF bA (J (M 3) (J (b2 aS (vC (.int 60)) (M 4)) (J (vC (.int 9)) aq))))) (ay (ZG (YX (b2 î (M 6) .(f))) (gO "Facts" "set_window" 0 oZ (jS 0 (J (b2 YR (M 5) .(e)) (J (cF bA (J (M 3) (J (b2 aS (vC (.int 70)) (M 4)) (J (vC (.int 9)) aq)))) (J (bp "Facts" "last_of" sd (M 0) (J (b2 YR (M 5) .(e)) aq)) aq))))) aV) (ay (ZG (YX (b2 î (M 6) .(af))) (gO "Facts" "set_window" 0 oZ (jS 0 (J (b2 YR (M 5) .(e)) (J (bp "Facts" "first_of" rY (M 0) (J (b2 YR (M 5) .(e)) aq)) (J (cF bA (J (M 3) (J (b2 aS (vC (.int 70)) (M 4)) (J (b2 aS (b2 YR (M 1) (vC (.int 6))) .(f)) aq)))) aq))))) aV) (ay (ZG (YX (b2 î (M 6) .(x))) (gO "Facts" "set_open" 0 p9 (J (b2 YR (M 5) .(e)) (J (Õ (aQ (ba (ZF (b2 YR (M 5) .(af))) .(l) tT (M 0) [B,B])) (pS (cF bA (J (M 3) (J (b2 aS (vC (.int 70)) (M 4)) (J .(af) aq))))) pN) aq))) aV) (ay (ZG (f' (YX (b2 î (M 6) .(s))) (f' (YX (b2 iG (M 2) (vC .non))) (YX (b2 o3 (b2 YR (M 5) .(e)) (M 2))))) (gO "Facts" "put_note" 0 zT (J (b2 YR (M 5) .(e)) aq)) aV) (ay (ZG (f' (YX (b2 î (M 6) (vC (.int 5)))) (YX (b2 Ő (M 4) .(e)))) (gO "Facts" "put_order" 0 vT (J (b2 YR (b2 YR (b2 YR (M 1) .(f)) (b2 io (M 4) .(f))) .(e)) (J (b2 YR (M 5) .(e)) aq))) aV) (ZG (f' (YX (b2 î (M 6) (vC (.int 6)))) (f' (YX (b2 Ő (M 4) .(e))) (YX (b2 î (cF bA (J (M 3) (J (b2 aS (vC (.int 70)) (M 4)) (J .(x) aq)))) .(f))))) (gO "Facts" "put_order" 0 vT (J (b2 YR (M 5) .(e)) (J (b2 YR (b2 YR (b2 YR (M 1) .(f)) (b2 io (M 4) .(f))) .(e)) aq))) aV))))))))
def uo:FQ:=aO 5
  (ay (aR 3 (b2 YR (b2 YR (b2 YR (M 1) .(f)) (cF bA (J (M 2) (J (vC (.int 150)) (J (cF b8 (J (b2 YR (M 1) .(f)) aq)) aq))))) .(e))) (ay (nz 4 (M 0)) (ay (wg 4 (M 3)) (ay (nz 5 (M 0)) (ay (dH 5 (vC (.str "zzzzzzzz")) (b2 aU (M 0) (M 3))) (ay (nz 6 (M 0)) (ay (dH 6 (M 3) (bo (ZA (J (vC (.str "bez")) (J (b2 YR (b2 aU (M 0) (M 3)) .(f)) aq))))) (ay (nz 7 (M 0)) (ay (dH 7 (M 3) (bo (ZA (J (b2 YR (b2 aU (M 0) (M 3)) .(e)) (J (b2 io (b2 aS (b2 YR (b2 aU (M 0) (M 3)) .(f)) .(f)) (cF bA (J (M 2) (J (vC (.int 151)) (J .(x) aq))))) aq))))) (iD 6 (iD 5 (iD 4 (iD 7 (aF (aQ (ZA (J (M 4) (J (M 5) (J (M 6) (J (M 7) aq))))))))))))))))))))
def An:FQ:=aO 0
  (ay (ZG (Ã (YX (b2 iL (M 2) (b2 aU (bG "Facts" "open_benches" (M 0)) (M 1)))) (bE (YX (ŉ Î Î (b2 aU (bG "Facts" "firsts" (M 0)) (M 1)) (M 3) (b2 aU (bG "Facts" "lasts" (M 0)) (M 1)))))) (aF (vC (.bl ar))) aV) (aF (b2 Î (b2 aS (M 3) (b2 aU (b2 aU (bG "Grounds" "lengths" (bG "Facts" "grounds" (M 0))) (M 1)) (M 2))) (bp "Facts" "end_mark" vV (M 0) .(y)))))
def uW:FQ:=aO 0
  (aF (cu (b2 î (cF b8 (J (b2 aU (bG "Facts" "open_benches" (M 0)) (M 1)) aq)) .(f)) (b2 Ε (b2 aU (bG "Facts" "open_benches" (M 0)) (M 1)) (b2 aU (bG "Facts" "open_benches" (M 0)) (M 2)))))
def tU:FQ:=aO 0
  (aF (bG "Grounds" "told_shop" (bG "Facts" "grounds" (M 0))))
def wj:FQ:=aO 0
  (aF (b3 wo (bG "Shop" "setup_by_names" (M 0)) (bo (ZA (J (M 1) (J (M 2) (J (M 3) aq))))) .(e)))
def oh:FQ:=aO 0
  (aF (b2 YR (b2 aU (bG "Shop" "step_by_name" (M 0)) (M 1)) .(f)))
def sH:FQ:=aO 2
  (ay (aR 3 (b3 wo (bG "Grounds" "known_gaps" (bG "Facts" "grounds" (M 0))) (bo (ZA (J (M 1) .(hb)))) .(e))) (ay (ZG (bE (YX (bp "Facts" "have_one_bench" uW (M 0) (J (M 1) .(hb))))) (aF (M 3)) aV) (ay (aR 4 (bp "Facts" "shop" tU (M 0) aq)) (aF (cF kF (J (M 3) (J (bp "Shop" "setup_of" wj (M 4) (J (b2 YR (b2 aU (bG "Facts" "open_benches" (M 0)) (M 1)) .(e)) (J (bp "Shop" "kind_of" oh (M 4) .(y)) (J (bp "Shop" "kind_of" oh (M 4) .(hb)) aq)))) aq)))))))
def vU:FQ:=aO 1
  (ay (aR 4 (b2 aS (b2 YR (b2 aU (M 1) (M 2)) .(f)) (b2 aU (b2 aU (bG "Grounds" "lengths" (bG "Facts" "grounds" (M 0))) (M 2)) (b2 YR (b2 aU (M 1) (M 2)) .(e))))) (aF (b2 geD (b2 YR (b2 aU (M 1) (M 3)) .(f)) (b2 aS (M 4) (bp "Facts" "gap_of" sH (M 0) (J (M 2) (J (M 3) aq)))))))
def yb:FQ:=aO 3
  (ay (aR 2 (bp "Shop" "step_names" i4 (M 0) aq)) (ay (bT (ZF (M 2)) (aB 3) (ZG (YX (b2 mL (M 3) (M 1))) (aF (bo (ZA (J (vC (.str "step")) (J (M 3) aq))))) aV)) (ay (aR 4 (aQ (ba (itK (M 1)) (aB 0) (YX (b2 iL (M 0) (M 1))) (M 0) [B,U 2]))) (ay (ZG (YX (b2 Ő (cF b8 (J (M 4) aq)) .(e))) (aF (bo (ZA (J (vC (.str "step")) (J (cF z5 (J (M 4) aq)) aq))))) aV) (aF (vC .non))))))
def sD:FQ:=aO 2
  (ay (bT (ZF (bp "Shop" "ways_of" vB (M 0) .(y))) (cj 2 (aX (aB 3) (aX (aB 4) ce))) (ZG (YX (b2 Ε (M 3) (M 2))) (aF (M 4)) aV)) (aF (vC .non)))
def xu:FQ:=aO 3
  (ay (bT (ZF (bp "Shop" "step_names" i4 (M 0) aq)) (aB 2) (ay (aR 3 (b2 YR (b2 aU (M 1) (M 2)) .(f))) (ay (aR 4 (cF sD (J (M 0) (J (M 2) (J (b2 YR (b2 aU (M 1) (M 2)) .(e)) aq))))) (ZG (Ã (YX (b2 Ē (M 4) (vC .non))) (Ã (YX (b2 ü (M 3) .(e))) (YX (b2 Ő (b2 aS (M 3) (M 4)) (bp "Shop" "last_moment" oq (M 0) aq))))) (aF (bo (ZA (J (vC (.str "way")) .(hb))))) aV)))) (aF (vC .non)))
def tV:FQ:=aO 3
  (ay (rC 2) (ay (bT (ZF (bp "Shop" "step_names" i4 (M 0) aq)) (aB 3) (ay (aR 4 (b2 aU (M 1) (M 3))) (dH 2 (M 3) (b2 aS (b2 YR (M 4) .(f)) (cF sD (J (M 0) (J (M 3) (J (b2 YR (M 4) .(e)) aq)))))))) (iD 2 (aF (M 2)))))
def zo:FQ:=aO 2
  (ay (bT (ZF (bp "Shop" "step_names" i4 (M 0) aq)) (aB 3) (ay (aR 4 (bp "Shop" "job_of" vq (M 0) (J (M 3) aq))) (ZG (f' (YX (b2 iG (M 4) (vC .non))) (Ã (YX (b2 ü (b2 YR (b2 aU (M 1) (M 3)) .(f)) (b2 YR (M 4) .(f)))) (YX (b2 Ő (b2 aU (M 2) (M 3)) (b2 YR (M 4) .(af)))))) (aF (bo (ZA (J (vC (.str "job")) (J (M 3) aq))))) aV))) (aF (vC .non)))
def zk:FQ:=aO 0
  (aF (cF eM (J (b2 YR (b2 aU (bG "Shop" "bench_by_name" (M 0)) (M 1)) .(f)) aq)))
def xR:FQ:=aO 3
  (ay (bT (ZF (bp "Shop" "step_names" i4 (M 0) aq)) (aB 3) (ay (aR 4 (b2 YR (b2 aU (M 1) (M 3)) .(f))) (ay (aR 5 (bp "Shop" "breaks_of" zk (M 0) (J (b2 YR (b2 aU (M 1) (M 3)) .(e)) aq))) (ZG (YX (cF yA (J (aQ (ba (ZF (M 5)) .(l) tT (cu (b2 ü (M 2) (M 1)) (b2 ü (M 0) (b2 aU (M 3) (M 4)))) [B,B,U 4,U 2,U 3])) aq))) (aF (bo (ZA (J (vC (.str "break")) (J (M 3) aq))))) aV)))) (aF (vC .non)))
def zi:FQ:=aO 3
  (ay (aR 5 (M 3)) (ay (aR 6 (M 4)) (ay (ZG (YX (b2 ü (b2 YR (b2 aU (M 1) (M 4)) .(f)) (b2 YR (b2 aU (M 1) (M 3)) .(f)))) (ay (aR 5 (M 4)) (aR 6 (M 3))) aV) (ay (aR 7 (bp "Shop" "setup_of" wj (M 0) (J (b2 YR (b2 aU (M 1) (M 3)) .(e)) (J (bp "Shop" "kind_of" oh (M 0) (J (M 5) aq)) (J (bp "Shop" "kind_of" oh (M 0) (J (M 6) aq)) aq))))) (aF (b2 ü (b2 YR (b2 aU (M 1) (M 6)) .(f)) (b2 aS (b2 aU (M 2) (M 5)) (M 7))))))))
def Ak:FQ:=aO 2
  (ay (bT (ZF (cF lD (J (bp "Shop" "step_names" i4 (M 0) aq) aq))) (cj 2 (aX (aB 3) (aX (aB 4) ce))) (ZG (f' (YX (b2 Ε (b2 YR (b2 aU (M 1) (M 3)) .(e)) (b2 YR (b2 aU (M 1) (M 4)) .(e)))) (YX (cF zi (J (M 0) (J (M 1) (J (M 2) (J (M 3) (J (M 4) aq)))))))) (aF (bo (ZA (J (vC (.str "bench")) (J (M 3) (J (M 4) aq)))))) aV)) (aF (vC .non)))
def xK:FQ:=aO 5
  (ay (bT (ZF (bp "Shop" "job_rows" rQ (M 0) aq)) (aB 3) (bT (ZF (cF lD (J (b2 YR (M 3) .(s)) aq))) (cj 2 (aX (aB 4) (aX (aB 5) ce))) (ay (aR 6 (b2 geD (b2 YR (b2 aU (M 1) (M 5)) .(f)) (b2 aU (M 2) (M 4)))) (ay (aR 7 (b2 geD (b2 YR (b2 aU (M 1) (M 4)) .(f)) (b2 aU (M 2) (M 5)))) (ZG (f' (bE (YX (M 6))) (Ã (YX (b2 YR (M 3) .(x))) (bE (YX (M 7))))) (aF (bo (ZA (J (vC (.str "apart")) (J (M 4) (J (M 5) aq)))))) aV))))) (aF (vC .non)))
def yI:FQ:=aO 3
  (ay (bT (ZF (bp "Shop" "link_rows" sk (M 0) aq)) (cj 3 (aX (aB 3) (aX (aB 4) (aX (aB 5) ce)))) (ZG (YX (b2 ü (b2 YR (b2 aU (M 1) (M 4)) .(f)) (b2 aS (b2 aU (M 2) (M 3)) (M 5)))) (aF (bo (ZA (J (vC (.str "link")) (J (M 3) (J (M 4) aq)))))) aV)) (aF (vC .non)))
def Ag:FQ:=aO 0
  (aF (cF eM (J (bG "Shop" "stocks" (M 0)) aq)))
def xW:FQ:=aO 2
  (ay (aR 4 (cF rK (J (aQ (ba (ZF (b2 YR (M 0) .(x))) .(l) (YX (b2 Î (b2 YR (b2 aU (M 3) (M 0)) .(f)) (M 2))) (M 1) [B,B,U 3,U 1])) aq))) (ay (aR 5 (cF rK (J (aQ (ba (ZF (b2 YR (M 0) .(s))) .(l) (YX (b2 Î (b2 aU (M 3) (M 0)) (M 2))) (M 1) [B,B,U 3,U 2])) aq))) (aF (b2 aS (b2 io (b2 YR (M 0) .(f)) (M 4)) (M 5)))))
def yv:FQ:=aO 3
  (ay (bT (ZF (bp "Shop" "stock_rows" Ag (M 0) aq)) (aB 3) (ay (e7 4 (ba (ZF (b2 YR (M 3) .(x))) (aB 0) tT (b2 YR (b2 aU (M 1) .(o)) .(f)) [B,U 1])) (ay (hU 4 (aQ (ba (ZF (b2 YR (M 3) .(s))) (aB 0) tT (b2 aU (M 1) .(o)) [B,U 2]))) (fC 4 (bT (ZF (b1 Af (M 4))) (aB 5) (ZG (bE (YX (ŉ Î Î .(e) (cF xW (J (M 3) (J (M 1) (J (M 2) (J (M 5) aq))))) (b2 YR (M 3) .(af))))) (aF (bo (ZA (J (vC (.str "stock")) (J (b2 YR (M 3) .(e)) (J (M 5) aq)))))) aV)))))) (aF (vC .non)))
def mZ:FQ:=aO 2
  (ay (aR 2 (cF yb (J (M 0) .(y)))) (ay (ZG (YX (b2 Ē (M 2) (vC .non))) (aR 2 (cF xu (J (M 0) .(y)))) aV) (ay (ZG (YX (b2 iG (M 2) (vC .non))) (aF (M 2)) aV) (ay (aR 3 (cF tV (J (M 0) .(y)))) (ay (aR 2 (cF zo (J (M 0) (J (M 1) (J (M 3) aq))))) (ay (ZG (YX (b2 Ē (M 2) (vC .non))) (aR 2 (cF xR (J (M 0) (J (M 1) (J (M 3) aq))))) aV) (ay (ZG (YX (b2 Ē (M 2) (vC .non))) (aR 2 (cF Ak (J (M 0) (J (M 1) (J (M 3) aq))))) aV) (ay (ZG (YX (b2 Ē (M 2) (vC .non))) (aR 2 (cF xK (J (M 0) (J (M 1) (J (M 3) aq))))) aV) (ay (ZG (YX (b2 Ē (M 2) (vC .non))) (aR 2 (cF yI (J (M 0) (J (M 1) (J (M 3) aq))))) aV) (ay (ZG (YX (b2 Ē (M 2) (vC .non))) (aR 2 (cF yv (J (M 0) (J (M 1) (J (M 3) aq))))) aV) (aF (M 2))))))))))))
def jz:FQ:=aO 0
  (aF (b2 iG (bG "Grounds" "kept_plan" (bG "Facts" "grounds" (M 0))) (vC .non)))
def se:FQ:=aO 0
  (aF (Ŭ (YX (bp "Facts" "has_kept" jz (M 0) aq)) (cF sx (J (bG "Grounds" "kept_plan" (bG "Facts" "grounds" (M 0))) aq)) (aQ (ZA aq))))
def oe:FQ:=aO 0
  (aF (Ŭ (YX (bp "Facts" "has_kept" jz (M 0) aq)) (b2 xZ (bG "Grounds" "kept_plan" (bG "Facts" "grounds" (M 0))) (M 1)) (vC .non)))
def uN:FQ:=aO 0
  (aF (bG "Grounds" "kept_most" (bG "Facts" "grounds" (M 0))))
def oV:FQ:=aO 1
  (ay (aR 2 (aQ (ba (ZF (bp "Facts" "kept_names" se (M 0) aq)) (aB 0) (YX (b2 ĵ (b2 aU (M 1) (M 0)) (bp "Facts" "kept_place" oe (M 2) (J (M 0) aq)))) (M 0) [B,U 1,U 0]))) (ay (ZG (f' (YX (bp "Facts" "has_kept" jz (M 0) aq)) (YX (b2 Ő (cF b8 .(hb)) (bp "Facts" "most_moved" uN (M 0) aq)))) (aF (vC (.bl ar))) aV) (aF (cF eQ (J (aQ (ba (itK (bG "Facts" "notes" (M 0))) (aB 0) tT (b2 ĵ (b2 aU (M 1) (M 0)) (bp "Facts" "kept_place" oe (M 2) (J (M 0) aq))) [B,U 1,U 0])) aq)))))
def we:FQ:=aO 1
  (ay (bT (itK (bG "Facts" "firsts" (M 0))) (aB 2) (ZG (Ã (YX (b2 mL (M 2) (M 1))) (bE (YX (bp "Facts" "is_in_window" An (M 0) (J (M 2) (J (b2 YR (b2 aU (M 1) (M 2)) .(e)) (J (b2 YR (b2 aU (M 1) (M 2)) .(f)) aq))))))) (aF (vC (.bl ar))) aV)) (ay (ZG (bE (YX (cF eQ (J (aQ (ba (jM (bG "Facts" "put_pairs" (M 0))) .(l) tT (bp "Facts" "keeps_order" vU (M 3) (J (M 2) (J (M 0) .(y)))) [B,B,U 1,U 0])) aq)))) (aF (vC (.bl ar))) aV) (aF (cu (bp "Facts" "keeps_enough" oV (M 0) .(y)) (b2 Ē (cF mZ (J (bp "Facts" "shop" tU (M 0) aq) .(y))) (vC .non))))))
def vA:FQ:=aO 0
  (aF (cF yc (J (b2 aU (bG "Facts" "open_benches" (M 0)) (M 1)) aq)))
def z6:FQ:=aO 1
  (ay (bT (ZF (b2 YR (M 0) .(af))) (aB 2) (ZG (YX (b2 iC (M 1) (b2 YR (M 2) .(s)))) (aF (M 2)) aV)) (aF (vC .non)))
def vG:FQ:=aO 2
  (ay (aR 3 (cF iJ (J (M 1) (J (b2 YR (M 0) (vC (.int 6))) aq)))) (ay (aR 4 (cF z6 (J (M 0) .(hb)))) (ay (ZG (YX (b2 iG (M 4) (vC .non))) (aR 3 (cF iJ (J (M 3) (J (b2 YR (M 4) .(af)) aq)))) aV) (aF (M 3)))))
def xD:FQ:=aO 0
  (aF (cF xp (J (bG "Facts" "put_pairs" (M 0)) aq)))
def uk:FQ:=aO 0
  (aF (cF mM (J (bG "Facts" "notes" (M 0)) aq)))
def wd:FQ:=aO 13
  (ay (oM (tZ 4 (aX (aB 4) (aX (aB 5) (aX (aB 6) (aX (aB 7) ce))))) (M 2)) (ay (ZG (YX (b2 iG (cF mZ (J (M 4) (J (M 3) aq))) (vC .non))) (aF (vC (.bl ar))) aV) (ay (rC 8) (ay (bT (ZF (b2 YR (M 1) .(f))) (cj 3 (aX (aB 9) (aX (aB 10) (aX (aB 11) ce)))) (ay (oM (cj 2 (aX (aB 12) (aX (aB 13) ce))) (b2 aU (M 3) (M 9))) (ay (dH 8 (M 9) (b2 aS (M 13) (b2 aU (cF jA (J (M 11) aq)) (M 12)))) (ay (ZG (Ã (YX (b2 iL (M 12) (bp "Facts" "open_to" vA (M 0) (J (M 9) aq)))) (Ã (YX (b2 ü (M 13) (bp "Facts" "first_of" rY (M 0) (J (M 9) aq)))) (YX (b2 Ő (M 13) (bp "Facts" "last_of" sd (M 0) (J (M 9) aq)))))) (aF (vC (.bl ar))) aV) (ZG (lA 8 (YX (b2 Ő (b2 aU (M 8) (M 9)) (cF vG (J (M 1) (J (M 5) (J (M 9) aq))))))) (aF (vC (.bl ar))) aV))))) (ay (bT (ZF (bp "Facts" "orders" xD (M 0) aq)) (cj 2 (aX (aB 14) (aX (aB 15) ce))) (ZG (lA 8 (YX (b2 ü (b2 YR (b2 aU (M 3) (M 15)) .(f)) (b2 aS (b2 aU (M 8) (M 14)) (bp "Facts" "gap_of" sH (M 0) (J (M 14) (J (M 15) aq))))))) (aF (vC (.bl ar))) aV)) (ay (ZG (YX (b2 Ē (M 6) (vC .non))) (aF (vC (.bl ah))) aV) (ay (aR 16 (aQ (ba (itK (M 6)) (aB 0) (YX (b2 ĵ (b2 aU (M 1) (M 0)) (b2 aU (M 2) (M 0)))) (M 0) [B,U 3,U 6]))) (aF (cu (b2 Î (cF b8 (J (M 16) aq)) (M 7)) (b2 Ε (aQ (ba (ZF (bp "Facts" "noted" uk (M 0) aq)) (aB 0) (YX (b2 iL (M 0) (M 1))) (M 0) [B,U 16])) (aQ (ZA aq))))))))))))
abbrev F2:FS:=
  (ay (aR 1 (cF xn (J (M 0) (J (vC (.int 6)) (J (cF zh (J (M 0) aq)) aq))))) (ay (ZG (YX (b2 Ő (cF bA (J (cF gM (J (M 0) (J .(e) aq))) (J (vC (.int 83)) (J .(x) aq)))) .(e))) (aR 1 (b2 iX (Õ (M 1) pN (pS .(x))) (bo (ZA (J (aQ (ZA aq)) (J (aQ (ZA aq)) (J (aQ (ZA aq)) (J (b2 YR (M 1) (vC (.int 6))) aq)))))))) aV) (ay (aR 2 (cF yx .(y))) (ay (aR 3 (cF gM (J (M 0) (J .(x) aq)))) (ay (aR 4 (b2 io (b2 YR (M 1) (vC (.int 6))) (b2 cJ (cF bA (J (M 3) (J (vC (.int 84)) (J .(x) aq)))) (cF bA (J (M 3) (J (vC (.int 85)) (J (b2 aS (b2 jD (b2 YR (M 1) (vC (.int 6))) .(s)) .(f)) aq))))))) (ay (aR 5 (vC .non)) (ay (aR 6 (cF bA (J (M 3) (J (vC (.int 87)) (J .(s) aq))))) (ay (n9 "Facts" 7 nc [.non,.non,.int 0,.int 0] (J (M 2) (J (M 4) aq))) (ay (aR 8 (cF (dkZ oE) (J (M 3) .(y)))) (ay (ZG (YX (b2 î (cF bA (J (M 3) (J (vC (.int 86)) (J .(af) aq)))) .(f))) (ay (t6 5 pf (J (M 3) (J (b2 YR (M 1) .(f)) (J (b2 YR (M 1) (vC (.int 6))) aq)))) (ay (bT (ZF (nB 5 (Õ (cF mM (J (M 5) aq)) pN (pS (cF bA (J (M 3) (J (vC (.int 88)) (J .(s) aq)))))))) (aB 9) (dH 5 (M 9) (b2 aU (M 8) (M 9)))) (iD 5 (n9 "Facts" 7 nc [] (J (M 2) (J (M 4) (J (vC .non) (J (M 5) (J (M 6) (J (cF iJ (J (b2 YR (M 1) (vC (.int 6))) (J (cF bA (J (M 3) (J (vC (.int 89)) (J .(x) aq)))) aq))) aq)))))))))) aV) (ay (sA "Facts" 7 zx (J (M 1) (J (M 5) (J (cF gM (J (M 0) (J .(af) aq))) aq)))) (ay (aR 10 (b2 aS (aQ (ZA (J (M 8) aq))) (aQ (ba (ZF (Õ (M 0) (pS .(s)) (pS (vC (.int 20))))) (aB 0) tT (cF (dkZ oE) (J (M 0) .(y))) [B,U 1])))) (ay (bT (ZF (b2 aS (M 10) (cF uo (J (M 8) (J (M 1) (J (M 3) aq)))))) (aB 11) (ay (aR 12 (cF zW (J (M 11) aq))) (ay (aR 13 (p5 7 (bp "Facts" "goes" we (M 7) (J (M 12) aq)))) (ay (aR 14 (bwF 7 (cF wd (J (M 7) (J (M 1) (J (aQ (ZA (J (M 2) (J (M 4) (J (M 5) (J (M 6) aq)))))) (J (M 11) aq))))))) (ZG (Ã (bE (YX (cF eF (J (M 13) (J (vC (.ty "bool")) aq))))) (Ã (YX (b2 ĵ (M 13) (M 14))) (YX (b2 uP (M 12) (M 11))))) (aF (vC (.bl ar))) aV))))) (aF (vC (.bl ah))))))))))))))))
def Ci:FQ:=aO 14 F2
def i2:fY "int" "int"=U ah:=rfl
def i3:fY "int" "bool"=U ar:=rfl
def i5:fY "bool" "bool"=U ah:=rfl
def j1:fY "str" "str"=U ah:=rfl
def k1:fY "list" "list"=U ah:=rfl
def k2:fY "tuple" "list"=U ar:=rfl
def k3:fY "tuple" "tuple"=U ah:=rfl
def k4:fY "str" "list"=U ar:=rfl
def k5:fY "str" "tuple"=U ar:=rfl
def k6:fY "int" "list"=U ar:=rfl
def k7:fY "int" "tuple"=U ar:=rfl
def k8:fY "bool" "list"=U ar:=rfl
def k9:fY "bool" "tuple"=U ar:=rfl
def k10:fY "NoneType" "list"=U ar:=rfl
def k11:fY "NoneType" "tuple"=U ar:=rfl
def sz2:(1+1<=aK)=True:=by simp[aK]
def sz3:(1+1+1<=aK)=True:=by simp[aK]
section
variable{x0 x1 x2 x3 x4:D}{r:Z D}
def jE(l:Z α)(n:ag):atI l (n:aj)=l[n]?:=by
 unfold atI ixN;rw[qY .(c)];by_cases h:n<l.length
 .rw[qY .(c)];simp
 .rw[qZ .(c)];simp;ext
def cG:YR (.tup (x0::r)) (.int 0)=U x0:=jE _ 0
def fU:YR (.tup (x0::x1::r)) (.int 1)=U x1:=jE _ 1
def ib:YR (.tup (x0::x1::x2::r)) (.int 2)=U x2:=jE _ 2
def uI:YR (.tup (x0::x1::x2::x3::r)) (.int 3)=U x3:=jE _ 3
def mG:YR (.tup (x0::x1::x2::x3::x4::r)) (.int 4)=U x4:=jE _ 4
end
def xm{fe:FE}{r:bB}{f:D->D}:∀{xs:Z D}{a:au Slot},(∀x∈xs,fe (oS x::r)=U (f x))->ca (aB 0) tT fe xs (a::r)=U (xs.map f)
 |[],_,_=>rfl
 |x::xs,a,h=>by let h1:=h x qh;let ih:=xm (a:=oS x) λy hy=>h y (qi _ hy);simp only[ca,aB,nX,qc,tT,cI,h1,ih,qf,qp]
def Ei{fe:FE}{ft:FT}{r:bB}{f:D->D}{p:D->aJ}:∀{xs:Z D}{a:au Slot},(∀x∈xs,ft (oS x::r)=U (p x)/\(p x=ah->fe (oS x::r)=U (f x)))->ca (aB 0) ft fe xs (a::r)=U ((xs.filter p).map f)
 |[],_,_=>rfl
 |x::xs,a,h=>by
  let h1:=h x qh;let ih:=Ei (a:=oS x) λy hy=>h y (qi _ hy);simp only[ca,aB,nX,qc,h1.1,ih,kR];cases e:p x
  .simp
  .simp[h1.2 e]
def BO:∀{l:Z D},(∀x∈l,x=.bl ah)->∃bs:Z aJ,jL l=U bs/\bs.all id=ah
 |[],_=>#[[],W,W]
 |x::r,h=>by let⟨bs,h1,h2⟩:=BO λy hy=>h y (qi _ hy);let hx:=h x qh;subst hx;show#[ah::bs,by simp[jL,h1],by simpa using h2]
def iy{a:au Slot}{xs:Z D}(h1:fi Y=U xs)(h2:xs.length<=aK)(h3:eY fv Y=a::r)(h:∀x∈xs,fe (oS x::r)=U (.bl ah)):
  cF eQ (J (aQ (ba fi (aB 0) tT fe fv)) aq) Y=U (.bl ah):=by
 let c:=xm (a:=a) h;let⟨bs,e1,e2⟩:=BO (l:=xs.map λ_=>D.bl ah) (by simp);simp only[cF,J,aq,aQ,ba,h1,qc,qY h2,h3,c,qf,eQ,e1];simpa using e2
def kC{a:au Slot}{xs:Z D}{f:D->D}(h1:fi Y=U xs)(h2:xs.length<=aK)(h3:eY fv Y=a::r)(h:∀x∈xs,fe (oS x::r)=U (f x)):
  aQ (ba fi (aB 0) tT fe fv) Y=U (.lst (xs.map f)):=by
 simp only[aQ,ba,h1,qc,qY h2,h3,xm h,qf]
def si{xs:Z D}(I:ag->bB->Prop)(h0:I 0 Y)(hs:∀i x Y,xs[i]?=U x->I i Y->∃Y1 Y2,gg x Y=U Y1/\body Y1=U (.nx,Y2)/\I (i+1) Y2):
  ∃Y',eB gg body xs Y=U (.nx,Y')/\I xs.length Y':=by
 let key:∀(ys:Z D)(k:ag)(Y:bB),xs.drop k=ys->I k Y->∃Y',eB gg body ys Y=U (.nx,Y')/\I (k+ys.length) Y':=by
  intro ys
  induction ys with
  |nil=>intro k Y _ hk;show#[Y,W,hk]
  |cons y r ih=>
   intro k Y hd hk;let hy:xs[k]?=U y:=by
    let:(xs.drop k)[0]?=U y:=by rw[hd];rfl
    simpa using this
   let⟨Y1,Y2,h1,h2,h3⟩:=hs k y Y hy hk;let þ:xs.drop (k+1)=r:=by rw[<-List.drop_drop,hd];rfl
   let⟨Y',h4,h5⟩:=ih (k+1) Y2 þ h3;show#[Y',?_,by rw[qj];rwa [show k+1+r.length=k+(r.length+1) by ext] at h5];simp only[eB,h1,qc,h2,h4]
 let⟨Y',h1,h2⟩:=key xs 0 Y rfl h0;show#[Y',h1,by rwa [nV] at h2]
def Cf:(2:aj) ^ 62=4611686018427387904:=by decide +kernel
def Kc{i j:aj}(h:0<=i/\i<=1000000/\0<=j/\j<=1000000):mE [.int i,.int j]=U ((cC (j-i).toNat).map λk:ag=>D.int (i+k)):=by unfold mE;rw[Cf];show qY #[by ext,by ext,by ext,by ext]
def zC{j:aj}(h:0<=j/\j<=1000000):fE [.int j]=U ((cC j.toNat).map λi:ag=>D.int (0+i)):=by unfold fE;rw[Cf];show qY #[by ext,by ext]
def zq{g:Z D->au (Z D)}{r:Z D}(h1:fr Y=U ds)(h2:g ds=U r):ģ g fr Y=U r:=by unfold ģ;rw[h1];show h2
def aA{g:D->D->au D}{x y z:D}(h1:fa Y=U x)(h2:fb Y=U y)(h3:g x y=U z):b2 g fa fb Y=U z:=by unfold b2;rw[h1,qc,h2,qc];show h3
def aN{g:FQ}{z:D}(h1:fr Y=U ds)(h2:g ds=U z):cF g fr Y=U z:=by unfold cF;rw[h1];show h2
def ax(h1:f Y=U d)(h2:fr Y=U ds):J f fr Y=U (d::ds):=by unfold J;rw[h1,qc,h2];rfl
def aC:aq Y=U []:=rfl
def xT(h:g (ds.map (λd=>U (Slot.sh d))++bU n B)=U (.rt d,Y')):aO n g ds=U d:=by unfold aO;rw[h];rfl
def bQ(Y:bB)(e:ds.map (λd=>U (Slot.sh d))++bU n B=Y)(h:g Y=U (.rt d,Y')):aO n g ds=U d:=by subst e;show xT h
def bO(h:f Y=U d):aF f Y=U (.rt d,Y):=by unfold aF;rw[h];rfl
def bi{b:aJ}(h:f Y=U (.bl b)):YX f Y=U b:=by unfold YX;rw[h];rfl
def mS{A:FE}{X us:FS}(hA:A Y=U (.bl ah)):ay (ZG (bE (YX A)) X aV) us Y=us Y:=by simp only[ay,ZG,bE,bi hA,qf,qc,iV,qt,cK,aV]
def ja{A af:FE}{X us:FS}(hA:A Y=U (.bl ah))(hB:af Y=U (.bl ah)):ay (ZG (Ã (bE (YX A)) (bE (YX af))) X aV) us Y=us Y:=by simp only[ay,ZG,Ã,bE,bi hA,bi hB,qf,qc,iV,qt,cK,aV]
def Lh{A af hb:FE}{X us:FS}(hA:A Y=U (.bl ah))(hB:af Y=U (.bl ah))(hC:hb Y=U (.bl ah)):ay (ZG (Ã (bE (YX A)) (Ã (bE (YX af)) (bE (YX hb)))) X aV) us Y=us Y:=by simp only[ay,ZG,Ã,bE,bi hA,bi hB,bi hC,qf,qc,iV,qt,cK,aV]
def DV{A af:FE}(hA:A Y=U (.bl ah))(hB:af Y=U (.bl ah)):cu A af Y=U (.bl ah):=by simp only[cu,hA,hB,qc]
def gR(h:f Y=U d):ay (aR i f) g Y=g (Y.set i (oS d)):=by simp only[ay,aR,h,qf,qc]
def Ux(i:aj):um [.int i]=U (.bl ah):=by simp only[um,aO,aF,cu,yz,cF,J,aq,M,vC,eF,ŷ,qp,qQ,qr,qT,bU,qd,qc,qf,mm,i2,i3]
def jd(i a b:aj)(h:a<=i/\i<=b):gQ [.int i,.int a,.int b]=U (.bl ah):=by simp only[gQ,Ux,aO,aF,cu,cF,J,aq,M,ŉ,Î,qp,qQ,qr,qT,bU,qd,qe,qc,qf,qU h.1,qU h.2]
def jB(l:Z D)(a b:aj)(h:a<=l.length/\(l.length:aj)<=b):hG [.lst l,.int a,.int b]=U (.bl ah):=by simp only[hG,aO,aF,cu,cF,J,aq,M,vC,ŉ,eF,ŷ,b8,Î,qp,qQ,qr,qT,bU,qd,qe,qc,qf,k1,qU h.1,qU h.2]
def vO(l:Z D)(n:aj)(h:(l.length:aj)=n):fW [.tup l,.int n]=U (.bl ah):=by simp only[fW,aO,aF,cu,cF,J,aq,M,vC,b2,eF,ŷ,b8,î,eqS,qp,qQ,qr,qT,bU,qd,qe,qc,qf,k3,qU h]
section
variable{a b c e:D}
def vH:fW [.tup [a,b],.int 2]=U (.bl ah):=vO _ _ W
def Fn:fW [.tup [a,b,c],.int 3]=U (.bl ah):=vO _ _ W
def UN:fW [.tup [a,b,c,d],.int 4]=U (.bl ah):=vO _ _ W
def GP:fW [.tup [a,b,c,d,e],.int 5]=U (.bl ah):=vO _ _ W
end
noncomputable def Ī(p:aj×aj):D:=.tup [.int p.1,.int p.2]
def SS(p:aj×aj)(h:aj)(h1:0<=p.1)(h2:p.1<p.2)(h3:p.2<=h):vE [Ī p,.int h]=U (.bl ah):=by simp only[vE,Ī,aO,ay,ZG,aF,aV,Ã,bE,YX,cF,J,aq,M,vC,b2,ü,cG,fU,qp,qQ,qr,qT,bU,qd,qe,qc,qf,cK,iV,qt,vH,jd p.1 0 h #[h1,by ext],jd p.2 0 h #[by ext,h3],qU h2]
def az(c:ag):aJ:=!ltS ⟨#[c]⟩ "a" && !ltS "z" ⟨#[c]⟩
def QW{c:ag}(h:az c=ah):c<=122:=by
 let z:("z":ai)=⟨#[122]⟩:=by decide +kernel
 unfold az ltS at h;rw[z] at h;simp only[dB,wR,pU] at h;let h2:=h.2;rcases kS 122 c with q|q
 .exact bH (List.Lex.rel q) h2
 .exact q
def Nm(c:ag)(r:bB):ŉ Î Î (vC (.str "a")) (M 0) (vC (.str "z")) (oS (.str ⟨#[c]⟩)::r)=U (.bl (az c)):=by simp only[ŉ,vC,M,qd,qc,Î,az];cases ltS ⟨#[c]⟩ "a"<;>simp
def bh(x:ai):aJ:=decide (1<=x.length) && decide (x.length<=8) && x.cps.toList.all az
def JK(h:bh x=ah):1<=x.length/\x.length<=8:=by unfold bh at h;simp only[dB,gY] at h;show h.1
def DZ(h:bh x=ah):∀c∈x.cps.toList,az c=ah:=by unfold bh at h;simp only[dB,gE] at h;show h.2
def lK(h:bh x=ah):jO [.str x]=U (.bl ah):=by
 let⟨h1,h2⟩:=JK h;let hz:x.length<=aK:=by unfold aK;ext
 let hl:(x.cps.toList.map λc=>D.str ⟨#[c]⟩).length<=aK:=by simpa[sT] using hz
 let e1:decide ((1:aj)<=(x.length:ag))=ah:=qU .(c);let e2:decide (((x.length:ag):aj)<=8)=ah:=qU .(c);let ha:=iy (fi:=itS (M 0)) (fe:=ŉ Î Î (vC (.str "a")) (M 0) (vC (.str "z"))) (fv:=[B]) (Y:=[oS (.str x)])
  (by simp[itS,M,xH]) hl W (λy hy=>by let⟨c,hc,rfl⟩:=bw.mp hy;rw[Nm,DZ h c hc])
 show xT ((ja ?_ ?_).trans (bO ha))
 .rfl
 .show ŉ Î Î .(f) (cF b8 (J (M 0) aq)) (vC (.int 8)) [oS (.str x)]=_;simp only[cF,J,aq,M,vC,ŉ,b8,Î,qd,qc,qf,qY hz,e1,e2]
def rf(h:bh x=ah):XJ x=ah:=by unfold XJ;rw[Array.all_eq_true'];intro c hc;let:=QW (DZ h c (by simpa using hc));show qU .(c)
def vX:∀(ns:Z ai),gq (ns.map D.str)=U (ns.map jw):=by
 intro Y7
 induction Y7 with
 |nil=>
  simp[gq]
 |cons x r ih=>
  simp[gq,Ö,ih]
def z9:∀{ns:Z ai},(∀x∈ns,bh x=ah)->nR (ns.map jw)=ah:=by
 intro Y7
 induction Y7 with
 |nil=>
  intro _;simp[nR]
 |cons x r ih=>
  intro h;simp only[qp,nR,pW,rf (h x qh),wM];show ih λy hy=>h y (qi _ hy)
def C3(x:ai):∀(ns:Z ai),((ns.map jw).any λz=>jv z (.str x))=decide (x∈ns):=by
 intro Y7
 induction Y7 with
 |nil=>
  simp
 |cons y r ih=>
  rw[qp,kQ,ih];simp only[jv];by_cases e:y=x
  .subst e;simp
  .let:x≠y:=λz=>e z.symm;simp[e,this]
def zY(hx:bh x=ah)(hn:∀y∈ns,bh y=ah):iC (.str x) (.lst (ns.map D.str))=U (.bl (decide (x∈ns))):=by
 let sh:fL (.str x)=ah:=by simp[fL,pW,rf hx,pX]
 simp only[iC,inX,Ö,vX,qf,qc,sh,z9 hn,wU,cI,C3]
def om(hx:x∈ns)(hn:∀y∈ns,bh y=ah):ku [.str x,.lst (ns.map D.str)]=U (.bl ah):=by simp only[ku,aO,aF,cu,cF,J,aq,M,b2,qp,qQ,qr,qT,bU,qd,qe,qc,qf,lK (hn x hx),zY (hn x hx) hn,qU hx]
def Dw[dE κ]{l:Z κ}(h:l.Nodup):ST.dd l=l:=by
 let key:∀(l a:Z κ),(a++l).Nodup->l.foldl (λa k=>if k∈a then a else a++[k]) a=a++l:=by
  intro l
  induction l with
  |nil=>intro a _;simp
  |cons x r ih=>
   intro a hn;let hx:x∉a:=by intro z;rw[mv] at hn;show hn.2.2 x z x qh W
   rw[gc,qZ hx,ih (a++[x]) (by simpa using hn)];simp
 simpa[ST.dd] using key l [] (by simpa using h)
def mC:∀(ns:Z ai),fg (ns.map D.str)=U (ns.map bS):=by
 intro Y7
 induction Y7 with
 |nil=>
  simp[fg]
 |cons x r ih=>
  simp[fg,gK,ih]
def mH(h:ns.Nodup)(hl:ns.length<=300):fN [.lst (ns.map D.str)]=U (.bl ah):=by let hd:(ns.map (bS:ai->YQ)).Nodup:=wV _ (λa b Ĩ z=>Ĩ (iq z)) h;simp only[fN,aO,aF,cF,J,aq,M,b1,b2,b8,î,eqS,qp,qQ,qr,qT,bU,qd,qc,qf,pc,qg,qY hl,mC,Dw hd];simp
def KI:∀(ts:Z (Z ai)),oK (ts.map λt=>.tup (t.map D.str))=U (ts.map λt=>t.map bS):=by
 intro Y7
 induction Y7 with
 |nil=>
  simp[oK]
 |cons t r ih=>
  simp[oK,mC,ih]
def BJ{ts:Z (Z ai)}(h:ts.Nodup)(hl:ts.length<=300):fN [.lst (ts.map λt=>.tup (t.map D.str))]=U (.bl ah):=by
 let inj:∀a b:Z ai,a.map (bS:ai->YQ)=b.map bS->a=b:=λa b z=>(IG (λx y q=>iq q)).mp z;let hd:(ts.map λt=>t.map (bS:ai->YQ)).Nodup:=wV _ (λa b Ĩ z=>Ĩ (inj a b z)) h;cases ts with
 |nil=>simp only[fN,aO,aF,cF,J,aq,M,b1,b2,b8,î,eqS,qp,qQ,qr,qT,bU,qd,qc,qf,qo,pc,fg,ST.dd];simp
 |cons t r=>
  let e:fg ((t::r).map λt=>D.tup (t.map D.str))=B:=by simp[fg,gK]
  simp only[fN,aO,aF,b2,b1,M,qp,qQ,qr,qT,bU,qd,qc,pc,cF,J,aq,b8,qf];rw[qY (by simpa using hl)];let e':=e;rw[qp] at e';rw[e'];let t':=KI (t::r);rw[qp] at t';rw[t'];rw[qf,Dw hd];simp[î,eqS]
structure YU where
 nm:ai
 br:Z (aj×aj)
structure YM where
 nm:ai
 kd:ai
 ws:Z (ai×aj)
structure Y8 where
 nm:ai
 ea:aj
 du:aj
 od:aJ
 ms:Z ai
structure ac where
 b:ai
 p:ai
 q:ai
 n:aj
structure Zc where
 a:ai
 b:ai
 g:aj
structure Zi where
 nm:ai
 lo:aj
 hi:aj
 tk:Z (ai×aj)
 pt:Z (ai×aj)
noncomputable def dW(w:ai×aj):D:=.tup [.str w.1,.int w.2]
def cb(b:YU):D:=.tup [.str b.nm,.lst (b.br.map Ī)]
def bN(s:YM):D:=.tup [.str s.nm,.str s.kd,.lst (s.ws.map dW)]
noncomputable def bq(j:Y8):D:=.tup [.str j.nm,.int j.ea,.int j.du,.bl j.od,.lst (j.ms.map D.str)]
noncomputable def eA(u:ac):D:=.tup [.str u.b,.str u.p,.str u.q,.int u.n]
noncomputable def dY(l:Zc):D:=.tup [.str l.a,.str l.b,.int l.g]
def dQ(k:Zi):D:=.tup [.str k.nm,.int k.lo,.int k.hi,.lst (k.tk.map dW),.lst (k.pt.map dW)]
structure ŝ(h:aj)(b:YU):Prop where
 nm:bh b.nm=ah
 len:b.br.length<=10
 iv:∀p∈b.br,0<=p.1/\p.1<p.2/\p.2<=h
 gap:∀(i:ag)p q,b.br[i]?=U p->b.br[i+1]?=U q->p.2<q.1
structure Ĝ(bn:Z ai)(h:aj)(s:YM):Prop where
 nm:bh s.nm=ah
 kd:bh s.kd=ah
 l1:1<=s.ws.length
 l4:s.ws.length<=4
 ws:∀w∈s.ws,w.1∈bn/\1<=w.2/\w.2<=h
 nd:(s.ws.map (·.1)).Nodup
structure ĝ(sn:Z ai)(h:aj)(j:Y8):Prop where
 nm:bh j.nm=ah
 ea:0<=j.ea/\j.ea<=h
 du:0<=j.du/\j.du<=h
 l1:1<=j.ms.length
 ln:j.ms.length<=sn.length
 ms:∀m∈j.ms,m∈sn
structure Ι(bn:Z ai)(h:aj)(u:ac):Prop where
 b:u.b∈bn
 p:bh u.p=ah
 q:bh u.q=ah
 n:1<=u.n/\u.n<=h
structure Κ(sn:Z ai)(h:aj)(l:Zc):Prop where
 a:l.a∈sn
 b:l.b∈sn
 ne:l.a≠l.b
 g:0<=l.g/\l.g<=h
structure Λ(sn:Z ai)(am:Z (ai×aj)):Prop where
 ln:am.length<=sn.length
 ws:∀w∈am,w.1∈sn/\1<=w.2/\w.2<=1000000
 nd:(am.map (·.1)).Nodup
structure ï(sn:Z ai)(k:Zi):Prop where
 nm:bh k.nm=ah
 lo:0<=k.lo/\k.lo<=k.hi
 hi:0<=k.hi/\k.hi<=1000000
 tk:Λ sn k.tk
 pt:Λ sn k.pt
structure Y9(bs:Z YU)(ss:Z YM)(js:Z Y8)(E:Z ac)(ls:Z Zc)(ks:Z Zi)(hz:aj):Prop where
 hh:1<=hz/\hz<=1000000
 bl:1<=bs.length/\bs.length<=8
 b:∀x∈bs,ŝ hz x
 bn:(bs.map (·.nm)).Nodup
 sl:1<=ss.length/\ss.length<=40
 s:∀x∈ss,Ĝ (bs.map (·.nm)) hz x
 sn:(ss.map (·.nm)).Nodup
 jl:js.length<=40
 j:∀x∈js,ĝ (ss.map (·.nm)) hz x
 jn:(js.map (·.nm)).Nodup
 jm:(js.flatMap (·.ms)).Nodup
 ul:E.length<=100
 u:∀x∈E,Ι (bs.map (·.nm)) hz x
 un:(E.map λu=>[u.b,u.p,u.q]).Nodup
 ll:ls.length<=100
 l:∀x∈ls,Κ (ss.map (·.nm)) hz x
 ln:(ls.map λl=>[l.a,l.b]).Nodup
 kl:ks.length<=6
 k:∀x∈ks,ï (ss.map (·.nm)) x
 kn:(ks.map (·.nm)).Nodup
def ixL(l:Z D)(n:ag):YR (.lst l) (.int (n:aj))=l[n]?:=jE l n
def ò{k:ag}(h:n<=k)(hk:k<=1000):n<=aK:=by unfold aK;ext
variable{ss:Z YM}
section
variable{bn:Z ai}
def O0(len:br.length<=10)(gap:∀(i:ag)p q,br[i]?=U p->br[i+1]?=U q->p.2<q.1):
  cF eQ (J (aQ (ba (ģ mE (J .(f) (J (cF b8 (J (M 0) aq)) aq))) (aB 0) tT (b2 ü (b2 YR (b2 YR (M 1) (b2 io (M 0) .(f))) .(f)) (b2 YR (b2 YR (M 1) (M 0)) .(e))) [B,U 0])) aq) [oS (.lst (br.map Ī)),oS (.int h)]=U (.bl ah):=by
 let e0:ģ mE (J .(f) (J (cF b8 (J (M 0) aq)) aq)) [oS (.lst (br.map Ī)),oS (.int h)]=U ((cC (((br.map Ī).length:aj)-1).toNat).map λk:ag=>D.int (1+k)):=by show zq W (Kc (by rw[qg];ext))
 show iy (r:=[oS (.lst (br.map Ī))]) e0 ?_ W λx hx=>?_
 .simp only[qg,qW];show ò (k:=10) .(c) .(b)
 .obtain⟨k,hk,rfl⟩:=bw.mp hx;rw[fj,qg] at hk;let hk1:k<br.length:=by ext
  let hk2:k+1<br.length:=by ext
  let e1:br[k]?=U br[k]:=by simp[hk1]
  let e2:br[k+1]?=U br[k+1]:=by simp[hk2]
  let g:=gap k _ _ e1 e2;let a1:YR (.lst (br.map Ī)) (.int (1+(k:aj)-1))=U (Ī br[k]):=by
   let:(1+(k:aj)-1)=((k:ag):aj):=by ext
   rw[this,ixL,qm,e1];rfl
  let a2:YR (.lst (br.map Ī)) (.int (1+(k:aj)))=U (Ī br[k+1]):=by
   let:(1+(k:aj))=((k+1:ag):aj):=by ext
   rw[this,ixL,qm,e2];rfl
  simp only[M,vC,b2,ü,io,qd,qe,qc,a1,a2];simp only[Ī,cG,fU,qc,qU g]
def Mi(len:br.length<=10)(iv:∀p∈br,0<=p.1/\p.1<p.2/\p.2<=h)(gap:∀(i:ag)p q,br[i]?=U p->br[i+1]?=U q->p.2<q.1):
  xS [.lst (br.map Ī),.int h]=U (.bl ah):=by
 show bQ _ W ((ja ?_ (iy W (by rw[qg];show ò len .(b)) W λx hx=>?_)).trans (bO (O0 len gap)))
 .exact jB _ 0 10 #[by ext,by rw[qg];ext]
 .obtain⟨p,hp,rfl⟩:=bw.mp hx;let⟨h1,h2,h3⟩:=iv p hp;show SS p h h1 h2 h3
def SX{b:YU}(g:ŝ h b):uB [cb b,.int h]=U (.bl ah):=by simp only[uB,cb,aO,aF,cu,cF,J,aq,M,vC,b2,cG,fU,qp,qQ,qr,qT,bU,qd,qe,qc,qf,vH,lK g.nm,Mi g.len g.iv g.gap]
def lx{f:α->D}{nm:α->ai}{xs:Z α}(hf:∀x,∃r,f x=.tup (.str (nm x)::r))(h1:M i Y=U (.lst (xs.map f)))(h2:xs.length<=aK)(h3:eY fv Y=[B]):
  aQ (ba (ZF (M i)) (aB 0) tT .(o) fv) Y=U (.lst ((xs.map nm).map D.str)):=by
 let hc:=kC (fi:=ZF (M i)) (fe:=b2 YR (M 0) .(e)) (f:=λd=>match d with|.tup (x::_)=>x|_=>.non) (by unfold ZF;rw[h1];rfl) (by rw[qg];show h2) h3 (λx hx=>by let⟨y,_,rfl⟩:=bw.mp hx;let⟨r,e⟩:=hf y;simp only[b2,M,vC,qd,qc,e,cG])
 rw[hc]
 congr 2
 rw[qq,qq];show gf λx _=>?_;let⟨r,e⟩:=hf x;simp[e]
def UO{bs:Z YU}(l1:1<=bs.length)(l8:bs.length<=8)(g:∀x∈bs,ŝ h x)(nd:(bs.map (·.nm)).Nodup):zB [.lst (bs.map cb),.int h]=U (.bl ah):=by
 show bQ [oS (.lst (bs.map cb)),oS (.int h)] W ((ja ?_ (iy W (by rw[qg];show ò l8 .(b)) W λx hx=>?_)).trans (bO ?_))
 .exact jB _ 1 8 #[by rw[qg];ext,by rw[qg];ext]
 .obtain⟨p,hp,rfl⟩:=bw.mp hx;show SX (g p hp)
 .let:=lx (i:=0) (fv:=[B]) (Y:=[oS (.lst (bs.map cb)),oS (.int h)]) (λx=>#[_,W]) W (ò l8 .(b)) W;simp only[cF,J,aq,this,qc,qf];show mH nd (by rw[qg];ext)
def U5{w:ai×aj}(C:∀y∈bn,bh y=ah)(g:w.1∈bn/\1<=w.2/\w.2<=h):vy [dW w,.lst (bn.map D.str),.int h]=U (.bl ah):=by simp only[vy,dW,aO,aF,cu,cF,J,aq,M,vC,b2,cG,fU,qp,qQ,qr,qT,bU,qd,qe,qc,qf,vH,om g.1 C,jd w.2 1 h g.2]
def RV(C:∀y∈bn,bh y=ah)(l1:1<=ws.length)(l4:ws.length<=4)(g:∀w∈ws,w.1∈bn/\1<=w.2/\w.2<=h)(nd:(ws.map (·.1)).Nodup):Ai [.lst (ws.map dW),.lst (bn.map D.str),.int h]=U (.bl ah):=by
 show bQ [oS (.lst (ws.map dW)),oS (.lst (bn.map D.str)),oS (.int h)] W ((ja ?_ (iy W (by rw[qg];show ò l4 .(b)) W λx hx=>?_)).trans (bO ?_))
 .exact jB _ 1 4 #[by rw[qg];ext,by rw[qg];ext]
 .obtain⟨p,hp,rfl⟩:=bw.mp hx;show U5 C (g p hp)
 .let:=lx (i:=0) (fv:=[B]) (Y:=[oS (.lst (ws.map dW)),oS (.lst (bn.map D.str)),oS (.int h)]) (λx=>#[_,W]) W (ò l4 .(b)) W;simp only[cF,J,aq,this,qc,qf];show mH nd (by rw[qg];ext)
def Vr{s:YM}(C:∀y∈bn,bh y=ah)(g:Ĝ bn h s):vf [bN s,.lst (bn.map D.str),.int h]=U (.bl ah):=by simp only[vf,bN,aO,ay,ZG,aF,aV,Ã,bE,YX,cF,J,aq,M,vC,b2,cG,fU,ib,qp,qQ,qr,qT,bU,qd,qe,qc,qf,cK,iV,qt,Fn,lK g.nm,lK g.kd,RV C g.l1 g.l4 g.ws g.nd]
def Qr(C:∀y∈bn,bh y=ah)(l1:1<=ss.length)(l4:ss.length<=40)(g:∀s∈ss,Ĝ bn h s)(nd:(ss.map (·.nm)).Nodup):xY [.lst (ss.map bN),.lst (bn.map D.str),.int h]=U (.bl ah):=by
 show bQ [oS (.lst (ss.map bN)),oS (.lst (bn.map D.str)),oS (.int h)] W ((ja ?_ (iy W (by rw[qg];show ò l4 .(b)) W λx hx=>?_)).trans (bO ?_))
 .exact jB _ 1 40 #[by rw[qg];ext,by rw[qg];ext]
 .obtain⟨p,hp,rfl⟩:=bw.mp hx;show Vr C (g p hp)
 .let:=lx (i:=0) (fv:=[B]) (Y:=[oS (.lst (ss.map bN)),oS (.lst (bn.map D.str)),oS (.int h)]) (λx=>#[_,W]) W (ò l4 .(b)) W;simp only[cF,J,aq,this,qc,qf];show mH nd (by rw[qg];ext)
end
def Cs(a b:ai):ĵ (.str a) (.str b)=U (.bl (!decide (a=b))):=rfl
def DN(a b:ai):Ε (.str a) (.str b)=U (.bl (decide (a=b))):=rfl
def Dg{a b c:D}:lG B (U 3) (.tup [a,b,c,d])=U (.tup [a,b,c]):=rfl
def RD{a b c:D}:lG B (U 2) (.tup [a,b,c])=U (.tup [a,b]):=rfl
def zV{α β:Type}{f:α->Z β}{m:ag}:∀{l:Z α},(∀x∈l,(f x).length<=m)->(l.flatMap f).length<=l.length*m
 |[],_=>by simp
 |x::r,h=>by let h1:=h x qh;let h2:=zV λy hy=>h y (qi _ hy);rw[tP,ql,qj,pI];ext
variable{js:Z Y8}{E:Z ac}{ls:Z Zc}{ks:Z Zi}
section
variable{bn:Z ai}
def JU{j:Y8}(hs:∀y∈sn,bh y=ah)(hl:sn.length<=40)(g:ĝ sn h j):Ap [bq j,.lst (sn.map D.str),.int h]=U (.bl ah):=by
 show bQ [oS (bq j),oS (.lst (sn.map D.str)),oS (.int h)] W ((Lh ?_ ?_ ?_).trans ((ja ?_ ?_).trans (bO (DV ?_ (iy (r:=[oS (.lst (sn.map D.str))]) (xs:=j.ms.map D.str) ?_ ?_ W λx hx=>?_)))))
 .exact GP
 .simp only[bq,cF,J,aq,M,vC,b2,cG,qd,qc,qf,lK g.nm]
 .simp only[bq,cF,J,aq,M,vC,b2,eF,ŷ,uI,qd,qc,qf,i5]
 .simp only[bq,cF,J,aq,M,vC,b2,fU,qd,qe,qc,qf,jd _ 0 h g.ea]
 .simp only[bq,cF,J,aq,M,vC,b2,ib,qd,qe,qc,qf,jd _ 0 h g.du]
 .simp only[bq,cF,J,aq,M,vC,b2,b8,mG,qd,qe,qc,qf];show jB _ _ _ #[by rw[qg];let:=g.l1;ext,by rw[qg,qg];let:=g.ln;ext]
 .simp only[bq,M,vC,b2,ZF,rh,mG,qd,qc]
 .rw[qg];show ò (qO g.ln hl) .(b)
 .obtain⟨m,hm,rfl⟩:=bw.mp hx;simp only[cF,J,aq,M,qd,qe,qc,qf,om (g.ms m hm) hs]
def LA{S H:au Slot}(hl:js.length<=40)(g:∀j∈js,j.ms.length<=40):
  ∃z,eB (aB 4) (hU 3 (b2 YR (M 4) .(s))) (js.map bq) [oS (.lst (js.map bq)),S,H,U (.own []),B]=U (.nx,[oS (.lst (js.map bq)),S,H,U (.own ((js.flatMap (·.ms)).map D.str)),z]):=by
 let⟨Y',h1,z,h2⟩:=si (gg:=aB 4) (body:=hU 3 (b2 YR (M 4) .(s))) (xs:=js.map bq) (Y:=[oS (.lst (js.map bq)),S,H,U (.own []),B])
  (λi Y=>∃z,Y=[oS (.lst (js.map bq)),S,H,U (.own (((js.take i).flatMap (·.ms)).map D.str)),z]) #[B,by simp] (λi x Y hx hI=>by
   let⟨z,rfl⟩:=hI;rw[qm] at hx;let⟨j,hj,rfl⟩:=Za hx;let hm:j∈js:=qR hj;let t1:((js.take i).flatMap (·.ms)).length<=(js.take i).length*40:=zV λy hy=>g y (pP hy);let t2:(js.take i).length<=40:=by rw[qF];ext
   let t3:=g j hm;let tk:js.take (i+1)=js.take i++[j]:=by rw[wW,hj];rfl
   let sz:(((js.take i).flatMap (·.ms)).map D.str).length+(j.ms.map D.str).length<=aK:=by rw[qg,qg];unfold aK;ext
   show#[_,[oS (.lst (js.map bq)),S,H,U (.own (((js.take (i+1)).flatMap (·.ms)).map D.str)),oS (bq j)],W,?_,_,W];let e:b2 YR (M 4) .(s) [oS (.lst (js.map bq)),S,H,U (.own (((js.take i).flatMap (·.ms)).map D.str)),oS (bq j)]=U (.lst (j.ms.map D.str)):=by simp only[bq,M,vC,b2,mG,qd,qe,qc]
   simp only[hU,nX,IH,qd,qe,e,qc,qY sz,tk];simp)
 show#[z,?_];rw[h1,h2,qg,fz]
def T'(hs:∀y∈sn,bh y=ah)(hl:sn.length<=40)(l4:js.length<=40)(g:∀j∈js,ĝ sn h j)(nd:(js.map (·.nm)).Nodup)(nm:(js.flatMap (·.ms)).Nodup)(ml:(js.flatMap (·.ms)).length<=300):zm [.lst (js.map bq),.lst (sn.map D.str),.int h]=U (.bl ah):=by
 let⟨z,hz⟩:=LA l4 λj hj=>qO (g j hj).ln hl;show bQ [oS (.lst (js.map bq)),oS (.lst (sn.map D.str)),oS (.int h),B,B] (Y':=[oS (.lst (js.map bq)),oS (.lst (sn.map D.str)),oS (.int h),oS (.lst ((js.flatMap (·.ms)).map D.str)),z]) W ((ja ?_ (iy (r:=[oS (.lst (sn.map D.str)),oS (.int h)]) W (by rw[qg];show ò l4 .(b)) W λx hx=>?_)).trans ?_)
 .exact jB _ 0 40 #[by ext,by rw[qg];ext]
 .obtain⟨p,hp,rfl⟩:=bw.mp hx;simp only[cF,J,aq,M,qd,qe,qc,qf,JU hs hl (g p hp)]
 .let nn:=lx (i:=0) (fv:=[B]) (Y:=[oS (.lst (js.map bq)),oS (.lst (sn.map D.str)),oS (.int h),oS (.lst ((js.flatMap (·.ms)).map D.str)),z]) (f:=bq) (nm:=(·.nm)) (xs:=js) (λx=>#[_,W]) W (ò l4 .(b)) W;let u1:cF fN (J (aQ (ba (ZF (M 0)) (aB 0) tT .(o) [B])) aq) [oS (.lst (js.map bq)),oS (.lst (sn.map D.str)),oS (.int h),oS (.lst ((js.flatMap (·.ms)).map D.str)),z]=U (.bl ah):=
   aN (ax nn aC) (mH nd (by rw[qg];ext))
  let u2:cF fN (J (M 3) aq) [oS (.lst (js.map bq)),oS (.lst (sn.map D.str)),oS (.int h),oS (.lst ((js.flatMap (·.ms)).map D.str)),z]=U (.bl ah):=
   aN (ax W aC) (mH nm ml)
  let r:=bO (DV u1 u2);let z0:(0<=aK)=True:=by simp
  simp only[ay,e7,ZA,aq,qc,qf,qo,z0,cI,nX,IH,bT,ZF,M,qd,rh];rw[hz];simp only[qc,fC,qd,qe,nX,IH];show r
def Kg{u:ac}(C:∀y∈bn,bh y=ah)(g:Ι bn h u):vg [eA u,.lst (bn.map D.str),.int h]=U (.bl ah):=by simp only[vg,eA,aO,ay,ZG,aF,aV,cu,Ã,bE,YX,cF,J,aq,M,vC,b2,cG,fU,ib,uI,qp,qQ,qr,qT,bU,qd,qe,qc,qf,cK,iV,qt,UN,om g.b C,lK g.p,lK g.q,jd _ 1 h g.n]
def Pp(C:∀y∈bn,bh y=ah)(l4:E.length<=100)(g:∀u∈E,Ι bn h u)(nd:(E.map λu=>[u.b,u.p,u.q]).Nodup):y6 [.lst (E.map eA),.lst (bn.map D.str),.int h]=U (.bl ah):=by
 show bQ _ W ((ja ?_ (iy (r:=[oS (.lst (bn.map D.str)),oS (.int h)]) W (by rw[qg];show ò l4 .(b)) W λx hx=>?_)).trans (bO (aN (ax (kC (f:=λd=>match d with|.tup [a,b,c,d]=>.tup [a,b,c]|_=>.non) W (by rw[qg];show ò l4 .(b)) W λx hx=>?_) aC) ?_)))
 .exact jB _ 0 100 #[by ext,by rw[qg];ext]
 .obtain⟨p,hp,rfl⟩:=bw.mp hx;simp only[cF,J,aq,M,qd,qe,qc,qf,Kg C (g p hp)]
 .obtain⟨p,hp,rfl⟩:=bw.mp hx;simp only[M,vC,Õ,pN,pS,qd,qc,eA,Dg]
 .let:=BJ nd (by rw[qg];ext);rw[qq] at this ⊢;show this
def Te{l:Zc}(hs:∀y∈sn,bh y=ah)(g:Κ sn h l):vM [dY l,.lst (sn.map D.str),.int h]=U (.bl ah):=by simp only[vM,dY,aO,ay,ZG,aF,aV,cu,Ã,bE,YX,cF,J,aq,M,vC,b2,cG,fU,ib,qp,qQ,qr,qT,bU,qd,qe,qc,qf,cK,iV,mm,qt,Fn,om g.a hs,om g.b hs,Cs,qP g.ne,jd _ 0 h g.g]
def Ls(hs:∀y∈sn,bh y=ah)(l4:ls.length<=100)(g:∀l∈ls,Κ sn h l)(nd:(ls.map λl=>[l.a,l.b]).Nodup):yR [.lst (ls.map dY),.lst (sn.map D.str),.int h]=U (.bl ah):=by
 show bQ _ W ((ja ?_ (iy (r:=[oS (.lst (sn.map D.str)),oS (.int h)]) W (by rw[qg];show ò l4 .(b)) W λx hx=>?_)).trans (bO (aN (ax (kC (f:=λd=>match d with|.tup [a,b,c]=>.tup [a,b]|_=>.non) W (by rw[qg];show ò l4 .(b)) W λx hx=>?_) aC) ?_)))
 .exact jB _ 0 100 #[by ext,by rw[qg];ext]
 .obtain⟨p,hp,rfl⟩:=bw.mp hx;simp only[cF,J,aq,M,qd,qe,qc,qf,Te hs (g p hp)]
 .obtain⟨p,hp,rfl⟩:=bw.mp hx;simp only[M,vC,Õ,pN,pS,qd,qc,dY,RD]
 .let:=BJ nd (by rw[qg];ext);rw[qq] at this ⊢;show this
def Tc{w:ai×aj}(hs:∀y∈sn,bh y=ah)(g:w.1∈sn/\1<=w.2/\w.2<=1000000):wc [dW w,.lst (sn.map D.str)]=U (.bl ah):=by simp only[wc,dW,aO,aF,cu,cF,J,aq,M,vC,b2,cG,fU,qp,qQ,qr,qT,bU,qd,qe,qc,qf,vH,om g.1 hs,jd w.2 1 1000000 g.2]
def Ct(hs:∀y∈sn,bh y=ah)(hl:sn.length<=40)(g:Λ sn ws):uH [.lst (ws.map dW),.lst (sn.map D.str)]=U (.bl ah):=by
 let l4:ws.length<=40:=qO g.ln hl;show bQ _ W ((ja ?_ (iy (r:=[oS (.lst (sn.map D.str))]) W (by rw[qg];show ò l4 .(b)) W λx hx=>?_)).trans (bO ?_))
 .let e:=jB (ws.map dW) 0 ((sn.map D.str).length:ag) #[by ext,by rw[qg,qg];let:=g.ln;ext];simp only[cF,J,aq,M,vC,b8,qd,qe,qc,qf];show e
 .obtain⟨p,hp,rfl⟩:=bw.mp hx;simp only[cF,J,aq,M,qd,qe,qc,qf,Tc hs (g.ws p hp)]
 .let:=lx (i:=0) (fv:=[B]) (Y:=[oS (.lst (ws.map dW)),oS (.lst (sn.map D.str))]) (λx=>#[_,W]) W (ò l4 .(b)) W;show aN (ax this aC) (mH g.nd (by rw[qg];ext))
def KY{k:Zi}(hs:∀y∈sn,bh y=ah)(hl:sn.length<=40)(g:ï sn k):tW [dQ k,.lst (sn.map D.str)]=U (.bl ah):=by simp only[tW,dQ,aO,ay,ZG,aF,aV,cu,Ã,bE,YX,cF,J,aq,M,vC,b2,cG,fU,ib,uI,mG,qp,qQ,qr,qT,bU,qd,qe,qc,qf,cK,iV,qt,GP,lK g.nm,jd _ 0 1000000 g.hi,jd _ 0 _ g.lo,Ct hs hl g.tk,Ct hs hl g.pt]
def T9(hs:∀y∈sn,bh y=ah)(hl:sn.length<=40)(l4:ks.length<=6)(g:∀k∈ks,ï sn k)(nd:(ks.map (·.nm)).Nodup):xw [.lst (ks.map dQ),.lst (sn.map D.str)]=U (.bl ah):=by
 show bQ _ W ((ja ?_ (iy (r:=[oS (.lst (sn.map D.str))]) W (by rw[qg];show ò l4 .(b)) W λx hx=>?_)).trans (bO ?_))
 .exact jB _ 0 6 #[by ext,by rw[qg];ext]
 .obtain⟨p,hp,rfl⟩:=bw.mp hx;simp only[cF,J,aq,M,qd,qe,qc,qf,KY hs hl (g p hp)]
 .let:=lx (i:=0) (fv:=[B]) (Y:=[oS (.lst (ks.map dQ)),oS (.lst (sn.map D.str))]) (λx=>#[_,W]) W (ò l4 .(b)) W;show aN (ax this aC) (mH nd (by rw[qg];ext))
end
section
variable{bs:Z YU}
def Y9.bnn(g:Y9 bs ss js E ls ks h):∀y∈bs.map (·.nm),bh y=ah:=λy hy=>by let⟨b,C,rfl⟩:=bw.mp hy;show(g.b b C).nm
def Y9.snn(g:Y9 bs ss js E ls ks h):∀y∈ss.map (·.nm),bh y=ah:=λy hy=>by let⟨b,C,rfl⟩:=bw.mp hy;show(g.s b C).nm
def VM(g:Y9 bs ss js E ls ks h)(ml:(js.flatMap (·.ms)).length<=300):xb [.lst (bs.map cb),.lst (ss.map bN),.lst (js.map bq),.lst (E.map eA),.lst (ls.map dY),.lst (ks.map dQ),.int h]=U .non:=by
 let C:=g.bnn;let hs:=g.snn;let hl:(ss.map (·.nm)).length<=40:=by rw[qg];show g.sl.2
 let n1:∀z:au Slot,aQ (ba (ZF (M 0)) (aB 0) tT .(o) [B]) [oS (.lst (bs.map cb)),oS (.lst (ss.map bN)),oS (.lst (js.map bq)),oS (.lst (E.map eA)),oS (.lst (ls.map dY)),oS (.lst (ks.map dQ)),oS (.int h),B,B]=U (.lst ((bs.map (·.nm)).map D.str)):=λz=>
  lx (λx=>#[_,W]) W (ò g.bl.2 .(b)) W
 let n2:aQ (ba (ZF (M 1)) (aB 0) tT .(o) [B]) [oS (.lst (bs.map cb)),oS (.lst (ss.map bN)),oS (.lst (js.map bq)),oS (.lst (E.map eA)),oS (.lst (ls.map dY)),oS (.lst (ks.map dQ)),oS (.int h),oS (.lst ((bs.map (·.nm)).map D.str)),B]=U (.lst ((ss.map (·.nm)).map D.str)):=
  lx (λx=>#[_,W]) W (ò g.sl.2 .(b)) W
 show bQ _ W ((mS ?_).trans ((mS ?_).trans ((gR (n1 B)).trans ((mS ?_).trans ((gR n2).trans ((mS ?_).trans ((mS ?_).trans ((mS ?_).trans ((mS ?_).trans (bO W))))))))))
 .exact jd h 1 1000000 g.hh
 .exact UO g.bl.1 g.bl.2 g.b g.bn
 .exact Qr C g.sl.1 g.sl.2 g.s g.sn
 .exact T' hs hl g.jl g.j g.jn g.jm ml
 .exact Pp C g.ul g.u g.un
 .exact Ls hs g.ll g.l g.ln
 .exact T9 hs hl g.kl g.k g.kn
end
noncomputable def Pl:ag->D->Prop
 |0,_=>False
 |n+1,.lst l=>l.length<=aK/\∀x∈l,Pl n x
 |n+1,.tup l=>l.length<=aK/\∀x∈l,Pl n x
 |_+1,.non=>True
 |_+1,.bl _=>True
 |_+1,.int _=>True
 |_+1,.str _=>True
 |_+1,_=>False
def gP{X us:FS}(h:ft Y=U ar):ay (ZG ft X aV) us Y=us Y:=by simp only[ay,ZG,h,qc,qt,cK,aV]
def rg{A af us:FS}(h:ft Y=U ah)(h2:A Y=U (.rt d,Y')):ay (ZG ft A af) us Y=U (.rt d,Y'):=by simp only[ay,ZG,h,qc,cI,h2]
def zA:∀(n:ag)(d:D),Pl n d->jC n [d]=U d
 |0,_,h=>h.elim
 |n+1,.lst l,h=>by
  show bQ [oS (.lst l)] W (rg (bi ?_) (bO ?_))
  .simp only[cF,J,aq,M,vC,eF,ŷ,qd,qc,qf,k1]
  .let:=kC (fi:=ZF (M 0)) (fe:=cF (jC n) (J (M 0) aq)) (fv:=[B]) (Y:=[oS (.lst l)]) (f:=λx=>x) W h.1 W (λx hx=>by simp only[cF,J,aq,M,qd,qc,qf,zA n x (h.2 x hx)]);rw[XM] at this;show this
 |n+1,.tup l,h=>by
  show bQ [oS (.tup l)] W ((gP (bi (b:=ar) ?_)).trans (rg (bi (b:=ah) ?_) (bO (aN (ax (d:=.lst l) ?_ aC) W))))
  .simp only[cF,J,aq,M,vC,eF,ŷ,qd,qc,qf,k2]
  .simp only[cF,J,aq,M,vC,eF,ŷ,qd,qc,qf,k3]
  .let:=kC (fi:=ZF (M 0)) (fe:=cF (jC n) (J (M 0) aq)) (fv:=[B]) (Y:=[oS (.tup l)]) (r:=[]) (a:=B) (xs:=l) (f:=λx=>x) W h.1 W (λx hx=>by simp only[cF,J,aq,M,qd,qc,qf,zA n x (h.2 x hx)]);rw[XM] at this;show this
 |n+1,.non,h=>by
  show o9 (jC n) [.non]=U .non;show bQ [oS .non] W ((gP (bi (b:=ar) ?_)).trans ((gP (bi (b:=ar) ?_)).trans (bO (f:=M 0) W)))<;>simp only[cF,J,aq,M,vC,eF,ŷ,qd,qc,qf,k10,k11]
 |n+1,.bl b,h=>by
  show o9 (jC n) [.bl b]=U (.bl b);show bQ [oS (.bl b)] W ((gP (bi (b:=ar) ?_)).trans ((gP (bi (b:=ar) ?_)).trans (bO (f:=M 0) W)))<;>simp only[cF,J,aq,M,vC,eF,ŷ,qd,qc,qf,k8,k9]
 |n+1,.int b,h=>by
  show o9 (jC n) [.int b]=U (.int b);show bQ [oS (.int b)] W ((gP (bi (b:=ar) ?_)).trans ((gP (bi (b:=ar) ?_)).trans (bO (f:=M 0) W)))<;>simp only[cF,J,aq,M,vC,eF,ŷ,qd,qc,qf,k6,k7]
 |n+1,.str b,h=>by show o9 (jC n) [.str b]=U (.str b);show bQ [oS (.str b)] W ((gP (bi (b:=ar) ?_)).trans ((gP (bi (b:=ar) ?_)).trans (bO (f:=M 0) W)))<;>simp only[cF,J,aq,M,vC,eF,ŷ,qd,qc,qf,k4,k4,k5]
def ik(h:Pl 8 d):eM [d]=U d:=zA 8 d h
def gS{f:α->D}{xs:Z α}(hl:xs.length<=1000)(h:∀x∈xs,Pl n (f x)):Pl (n+1) (.lst (xs.map f)):=
 #[by rw[qg];show ò hl .(b),λx hx=>by let⟨y,hy,rfl⟩:=bw.mp hx;show h y hy]
def Mo{xs:Z ai}(hl:xs.length<=1000):Pl (n+2) (.lst (xs.map D.str)):=gS hl λx _=>(trivial:Pl (n+1) (.str x))
def uh{xs:Z (ai×aj)}(hl:xs.length<=1000):Pl (n+3) (.lst (xs.map dW)):=gS hl λx _=>#[by simp[aK],by intro y hy;simp only[qN,qL,or_false] at hy;rcases hy with rfl|rfl<;>trivial]
def Gv{b:YU}(g:ŝ h b):Pl (n+4) (cb b):=#[by simp[aK],by
 intro y hy;simp only[qN,qL,or_false] at hy;rcases hy with rfl|rfl
 .trivial
 .exact gS (by let:=g.len;ext) λx _=>#[by simp[aK],by intro y hy;simp only[qN,qL,or_false] at hy;rcases hy with rfl|rfl<;>trivial]]
def MY{bn:Z ai}{s:YM}(g:Ĝ bn h s):Pl (n+4) (bN s):=#[by simp[aK],by
 intro y hy;simp only[qN,qL,or_false] at hy;rcases hy with rfl|rfl|rfl
 .trivial
 .trivial
 .exact uh (by let:=g.l4;ext)]
def xQ{j:Y8}(hl:sn.length<=40)(g:ĝ sn h j):Pl (n+3) (bq j):=#[by simp[aK],by
 intro y hy;simp only[qN,qL,or_false] at hy;rcases hy with rfl|rfl|rfl|rfl|rfl
 .trivial
 .trivial
 .trivial
 .trivial
 .exact Mo (by let:=g.ln;ext)]
def JS{u:ac}:Pl (n+2) (eA u):=#[by simp[aK],by intro y hy;simp only[qN,qL,or_false] at hy;rcases hy with rfl|rfl|rfl|rfl<;>trivial]
def CW{u:Zc}:Pl (n+2) (dY u):=#[by simp[aK],by intro y hy;simp only[qN,qL,or_false] at hy;rcases hy with rfl|rfl|rfl<;>trivial]
def D4{k:Zi}(hl:sn.length<=40)(g:ï sn k):Pl (n+4) (dQ k):=#[by simp[aK],by
 intro y hy;simp only[qN,qL,or_false] at hy;rcases hy with rfl|rfl|rfl|rfl|rfl
 .trivial
 .trivial
 .trivial
 .exact uh (by let:=g.tk.ln;ext)
 .exact uh (by let:=g.pt.ln;ext)]
def FR{nm:α->ai}{f:α->D}:∀(xs:Z α),o4 (xs.map λx=>.tup [.str (nm x),f x])=U (xs.map λx=>(.inr (nm x),f x)):=by
 intro Y7
 induction Y7 with
 |nil=>
  show W
 |cons x r ih=>
  simp only[qp,o4,gK,qc,ih,qf]
def CM{t:α->Z ai}{f:α->D}:∀(xs:Z α),m5 (xs.map λx=>.tup [.tup ((t x).map D.str),f x])=U (xs.map λx=>((t x).map bS,f x)):=by
 intro Y7
 induction Y7 with
 |nil=>
  show W
 |cons x r ih=>
  simp only[qp,m5,mC,qc,ih,qf]
def yW[dE κ]{ps:Z (κ×D)}(h:(ps.map (·.1)).Nodup):ro ps=ps:=by
 let key:∀(l a:Z (κ×D)),((a++l).map (·.1)).Nodup->l.foldl (λYT kv=>bW YT kv.1 kv.2) a=a++l:=by
  intro l
  induction l with
  |nil=>intro a _;simp
  |cons x r ih=>
   intro a hn;let hx:(a.any λkv=>decide (kv.1=x.1))=ar:=by rw[V4];intro y hy z;rw[dU,mv] at hn;show hn.2.2 y.1 (qX hy) x.1 (by simp) (fT z)
   rw[gc];let e:bW a x.1 x.2=a++[x]:=by unfold bW;rw[hx];rfl
   rw[e,ih (a++[x]) (by simpa using hn)];simp
 simpa[ro] using key ps [] (by simpa using h)
def lw{β:Type}:∀{fs:Z (ai×β)}{i:ag}{k:ai}{d:β},(fs.map (·.1)).Nodup->fs[i]?=U (k,d)->fs.lookup k=U d
 |[],i,k,d,_,h=>by simp at h
 |(a,b)::r,0,k,d,_,h=>by
  simp only[qd,wT,XN] at h;let⟨rfl,rfl⟩:=h;simp[c9]
 |(a,b)::r,i+1,k,d,nd,h=>by
  rw[qe] at h;rw[qp,eG] at nd;let ne:k≠a:=by intro z;subst z;show nd.1 (qX (f:=(·.1)) (qR h))
  let C:(k==a)=ar:=by simpa using ne
  simp only[c9,C];show lw nd.2 h
def lF:∀{fs:Z (ai×β)}{k:ai},k∉fs.map (·.1)->fs.lookup k=B:=by
 intro Y7
 induction Y7 with
 |nil=>
  intro _ _;show W
 |cons x0 r ih=>
  let⟨a,b⟩:=x0;intro k h;rw[qp,qN,tG] at h;let C:(k==a)=ar:=by simpa using h.1
  simp only[c9,C];show ih h.2
def ic(j:Y8)(YT:Z (YQ×D))(m:ai):Z (YQ×D):=bW YT (.inr m) (bq j)
def jkv(js:Z Y8):Z (YQ×D):=js.foldl (λYT j=>j.ms.foldl (ic j) YT) []
def j7[dE κ](YL:Z (κ×D))(k:κ)(v:D):(bW YL k v).length<=YL.length+1:=by
 unfold bW;split
 .rw[qg];ext
 .rw[ql];simp
def Gf(j:Y8):∀(ms:Z ai)(YT:Z (YQ×D)),(ms.foldl (ic j) YT).length<=YT.length+ms.length:=by
 intro Y7
 induction Y7 with
 |nil=>
  intro YT;simp
 |cons m r ih=>
  intro YT;rw[gc];let h1:=ih (ic j YT m);let h2:(ic j YT m).length<=YT.length+1:=j7 _ _ _;rw[qj];ext
def Fw{m:ag}:∀{js:Z Y8}(YT:Z (YQ×D)),(∀j∈js,j.ms.length<=m)->(js.foldl (λYT j=>j.ms.foldl (ic j) YT) YT).length<=YT.length+js.length*m
 |[],YT,_=>by simp
 |j::r,YT,h=>by rw[gc];let h1:=Fw (j.ms.foldl (ic j) YT) λy hy=>h y (qi _ hy);let h2:=Gf j j.ms YT;let h3:=h j qh;rw[qj,pI];ext
def jg(bs:Z YU)(ss:Z YM)(js:Z Y8)(E:Z ac)(ls:Z Zc)(ks:Z Zi)(h:aj):Z (ai×D):=
 [("benches",.lst (bs.map cb)),("steps",.lst (ss.map bN)),("jobs",.lst (js.map bq)),("setups",.lst (E.map eA)),("links",.lst (ls.map dY)),("stocks",.lst (ks.map dQ)),("horizon",.int h),
 ("bench_by_name",.dk (bs.map λb=>(.inr b.nm,cb b))),("step_by_name",.dk (ss.map λs=>(.inr s.nm,bN s))),("setup_by_names",.dt (E.map λu=>([u.b,u.p,u.q].map bS,.int u.n)))]
def oa(bs:Z YU)(ss:Z YM)(js:Z Y8)(E:Z ac)(ls:Z Zc)(ks:Z Zi)(h:aj):Z (ai×D):=jg bs ss js E ls ks h++[(("job_by_step":ai),D.dk (jkv js))]
def aZ(bs:Z YU)(ss:Z YM)(js:Z Y8)(E:Z ac)(ls:Z Zc)(ks:Z Zi)(h:aj):D:=.ins "Shop" (oa bs ss js E ls ks h)
noncomputable def lu:Z ai:=["benches","steps","jobs","setups","links","stocks","horizon","bench_by_name","step_by_name","setup_by_names","job_by_step"]
def uS:lu.Nodup:=by decide +kernel
def xz{l:Z α}(h:l.Nodup)(n:ag):(l.take n).Nodup:=pY (nG n l) h
section
variable{fs:Z (ai×D)}{f:ai}{fv:FE}
def jy(n:ag)(hk:lu[n]?=U f)(hf:fs.map (·.1)=lu.take n)(h:fv (U (.obj "Shop" fs)::r)=U d):ay (ig "Shop" f 0 fv) g (U (.obj "Shop" fs)::r)=g (U (.obj "Shop" (fs++[(f,d)]))::r):=by
 let Ó:fs.lookup f=B:=lF (by
  rw[hf];intro z;let⟨i,hi⟩:=II z;let Į:i<n:=by
   rcases kS i n with q|q
   .exact q
   .rw[wE (by rw[qF];ext)] at hi;cases hi
  rw[AL Į] at hi;let:=(List.getElem?_inj (eV.mp hi).1 uS).mp (hi.trans hk.symm);ext)
 let Y5:fs.length<100:=by let:=bP cM hf;rw[qg,qF] at this;let k:lu.length=11:=rfl;ext
 simp only[ay,ig,h,qc,qd,Ó,Y5,wU,cI,nX]
def Ar(n i:ag)(hf:fs.map (·.1)=lu.take n)(h:fs[i]?=U (f,d)):jG "Shop" f 0 (U (.obj "Shop" fs)::r)=U d:=by let e:fs.lookup f=U d:=lw (by rw[hf];show xz uS n) h;show(if U ("Shop":ai)=U ("Shop":ai) then fs.lookup f else B)=U d;rw[qY W,e]
end
def CP{f:α->D}{nm:α->ai}{xs:Z α}(hf:∀x,∃r,f x=.tup (.str (nm x)::r))(h1:fo Y=U (.lst (xs.map f)))(h2:xs.length<=1000)(nd:(xs.map nm).Nodup):
  cF jA (J (aQ (ba (ZF fo) (aB 0) tT (bo (ZA (J .(o) (J (M 0) aq)))) [B])) aq) Y=U (.dk (xs.map λx=>(.inr (nm x),f x))):=by
 let hc:=kC (fi:=ZF fo) (fe:=bo (ZA (J .(o) (J (M 0) aq)))) (fv:=[B]) (f:=λd=>.tup [match d with|.tup (x::_)=>x|_=>.non,d]) (by unfold ZF;rw[h1];rfl) (by rw[qg];show ò h2 .(b)) W (λx hx=>by let⟨y,_,rfl⟩:=bw.mp hx;let⟨r,e⟩:=hf y;simp only[J,aq,M,vC,b2,bo,ZA,cG,qd,qc,qf,cI,qj,qo,nV,sz2,e])
 let e:(xs.map f).map (λd=>D.tup [match d with|.tup (x::_)=>x|_=>.non,d])=xs.map λx=>.tup [.str (nm x),f x]:=by rw[qq];show gf λx _=>?_;let⟨r,e⟩:=hf x;simp[e]
 rw[e] at hc;let kn:((xs.map λx=>((.inr (nm x):YQ),f x)).map (·.1)).Nodup:=by rw[qq];let:=wV (S:=λa b:YQ=>a≠b) (bS:ai->YQ) (λa b Ĩ z=>Ĩ (iq z)) nd;rw[qq] at this;show this
 show aN (ax hc aC) ?_;show(if _ then _ else _)=_;rw[qY (by rw[qg];show h2),FR,qf,yW kn]
def Mj(h1:fo Y=U (.lst (E.map eA)))(h2:E.length<=1000)(nd:(E.map λu=>[u.b,u.p,u.q]).Nodup):
  cF oA (J (aQ (ba (ZF fo) (aB 0) tT (bo (ZA (J (Õ (M 0) pN (pS .(x))) (J (b2 YR (M 0) .(x)) aq)))) [B])) aq) Y=U (.dt (E.map λu=>([u.b,u.p,u.q].map bS,.int u.n))):=by
 let hc:=kC (fi:=ZF fo) (fe:=bo (ZA (J (Õ (M 0) pN (pS .(x))) (J (b2 YR (M 0) .(x)) aq)))) (fv:=[B]) (f:=λd=>match d with|.tup [a,b,c,d]=>.tup [.tup [a,b,c],d]|_=>.non) (by unfold ZF;rw[h1];rfl) (by rw[qg];show ò h2 .(b)) W (λx hx=>by let⟨y,_,rfl⟩:=bw.mp hx;simp only[J,aq,M,vC,b2,bo,ZA,Õ,pN,pS,uI,qd,qc,qf,cI,qj,qo,nV,sz2,eA,Dg])
 rw[qq] at hc;let kn:((E.map λu=>([u.b,u.p,u.q].map (bS:ai->YQ),D.int u.n)).map (·.1)).Nodup:=by rw[qq];let inj:∀a b:Z ai,a.map (bS:ai->YQ)=b.map bS->a=b:=λa b z=>(IG (λx y q=>iq q)).mp z;let:=wV (S:=λa b:Z YQ=>a≠b) (List.map (bS:ai->YQ)) (λa b Ĩ z=>Ĩ (inj a b z)) nd;rw[qq] at this;show this
 show aN (ax hc aC) ?_;show(if _ then _ else _)=_;let e:=CM (t:=λu:ac=>[u.b,u.p,u.q]) (f:=λu=>.int u.n) E;rw[qY (by rw[qg];ext)];let e2:m5 (E.map ((λd=>match d with|.tup [a,b,c,d]=>D.tup [.tup [a,b,c],d]|_=>.non) ∘ eA))=U (E.map λu=>([u.b,u.p,u.q].map bS,.int u.n)):=e;rw[e2,qf,yW kn]
section
variable{bs:Z YU}
def yi:(jg bs ss js E ls ks h).map (·.1)=lu.take 10:=rfl
def Dc:(oa bs ss js E ls ks h).map (·.1)=lu:=rfl
abbrev r9(bs:Z YU)(ss:Z YM)(js:Z Y8)(E:Z ac)(ls:Z Zc)(ks:Z Zi)(h:aj)(a b:au Slot):bB:=[oS (.lst (bs.map cb)),oS (.lst (ss.map bN)),oS (.lst (js.map bq)),oS (.lst (E.map eA)),oS (.lst (ls.map dY)),oS (.lst (ks.map dQ)),oS (.int h),oS .non,a,b]
abbrev ob(bs:Z YU)(ss:Z YM)(js:Z Y8)(E:Z ac)(ls:Z Zc)(ks:Z Zi)(h:aj)(YL:Z (YQ×D)):au Slot:=U (.objd "Shop" (jg bs ss js E ls ks h) "job_by_step" YL)
def LC{j:Y8}{YL:Z (YQ×D)}(hl:YL.length<100000):mW "Shop" "job_by_step" 0 (M 10) (M 9) (ob bs ss js E ls ks h YL::r9 bs ss js E ls ks h (oS (bq j)) (oS (.str m)))=U (.nx,ob bs ss js E ls ks h (ic j YL m)::r9 bs ss js E ls ks h (oS (bq j)) (oS (.str m))):=by let Ó:(jg bs ss js E ls ks h).lookup ("job_by_step":ai)=B:=lF (by rw[yi];decide +kernel);simp only[mW,M,qd,qe,qc,gK,Ó,hl,wU,cI,nX,ic]
def U'{j:Y8}{YT:Z (YQ×D)}{z:au Slot}(hl:YT.length+j.ms.length<100000):∃z',bT (ZF (b2 YR (M 9) .(s))) (aB 10) (mW "Shop" "job_by_step" 0 (M 10) (M 9)) (ob bs ss js E ls ks h YT::r9 bs ss js E ls ks h (oS (bq j)) z)=U (.nx,ob bs ss js E ls ks h (j.ms.foldl (ic j) YT)::r9 bs ss js E ls ks h (oS (bq j)) z'):=by
 let⟨Y',h1,z',h2⟩:=si (gg:=aB 10) (xs:=j.ms.map D.str) (Y:=ob bs ss js E ls ks h YT::r9 bs ss js E ls ks h (oS (bq j)) z)
  (λi Y=>∃z,Y=ob bs ss js E ls ks h ((j.ms.take i).foldl (ic j) YT)::r9 bs ss js E ls ks h (oS (bq j)) z) #[z,by simp] (λi x Y hx hI=>by
   let⟨z,rfl⟩:=hI;rw[qm] at hx;let⟨m,hm,rfl⟩:=Za hx;let tk:j.ms.take (i+1)=j.ms.take i++[m]:=by rw[wW,hm];rfl
   let Y5:=Gf j (j.ms.take i) YT;rw[qF] at Y5;show#[_,_,W,LC .(c),oS (.str m),?_];rw[tk,Bl];rfl)
 show#[z',?_];let e:ZF (b2 YR (M 9) .(s)) (ob bs ss js E ls ks h YT::r9 bs ss js E ls ks h (oS (bq j)) z)=U (j.ms.map D.str):=by simp only[M,vC,b2,ZF,rh,mG,qd,qe,qc,bq]
 unfold bT;rw[e,qc,h1,h2,qg,fz]
def QR(hj:js.length<=40)(hm:∀j∈js,j.ms.length<=40):∃z z',eB (aB 9) (bT (ZF (b2 YR (M 9) .(s))) (aB 10) (mW "Shop" "job_by_step" 0 (M 10) (M 9))) (js.map bq) (ob bs ss js E ls ks h []::r9 bs ss js E ls ks h B B)=U (.nx,ob bs ss js E ls ks h (jkv js)::r9 bs ss js E ls ks h z z'):=by
 let⟨Y',h1,z,z',h2⟩:=si (gg:=aB 9) (Y:=ob bs ss js E ls ks h []::r9 bs ss js E ls ks h B B)
  (λi Y=>∃z z',Y=ob bs ss js E ls ks h (jkv (js.take i))::r9 bs ss js E ls ks h z z') #[B,B,by simp[jkv]] (λi x Y hx hI=>by
   let⟨z,z',rfl⟩:=hI;rw[qm] at hx;let⟨j,hjm,rfl⟩:=Za hx;let tk:js.take (i+1)=js.take i++[j]:=by rw[wW,hjm];rfl
   let Y5:=Fw (js:=js.take i) [] λy hy=>hm y (pP hy);rw[qF,qo] at Y5;let h4:=hm j (qR hjm);let⟨w,hw⟩:=U' (h:=h) (j:=j) (YT:=jkv (js.take i)) (z:=z') (by unfold jkv;ext);show#[_,_,W,hw,oS (bq j),w,?_];rw[tk];unfold jkv;rw[Bl];rfl)
 show#[z,z',?_];rw[h1,h2,qg,fz]
def JH(g:Y9 bs ss js E ls ks h)(ml:(js.flatMap (·.ms)).length<=300):zd [.lst (bs.map cb),.lst (ss.map bN),.lst (js.map bq),.lst (E.map eA),.lst (ls.map dY),.lst (ks.map dQ),.int h]=U .(g):=by
 let hl:(ss.map (·.nm)).length<=40:=by rw[qg];show g.sl.2
 let f1:=ik (gS (by let:=g.bl.2;ext) λx hx=>Gv (g.b x hx));let f2:=ik (gS (by let:=g.sl.2;ext) λx hx=>MY (g.s x hx));let f3:=ik (gS (by let:=g.jl;ext) λx hx=>xQ hl (g.j x hx));let f4:=ik (d:=.lst (E.map eA)) (gS (by let:=g.ul;ext) λx hx=>JS);let f5:=ik (d:=.lst (ls.map dY)) (gS (by let:=g.ll;ext) λx hx=>CW);let f6:=ik (gS (by let:=g.kl;ext) λx hx=>D4 hl (g.k x hx));let⟨z,z',ho⟩:=QR g.jl λj hj=>qO (g.j j hj).ln hl;let key:∀(G:FS)(Y':bB),G (U (.obj "Shop" [])::[oS (.lst (bs.map cb)),oS (.lst (ss.map bN)),oS (.lst (js.map bq)),oS (.lst (E.map eA)),oS (.lst (ls.map dY)),oS (.lst (ks.map dQ)),oS (.int h),B,B,B])=U (.nx,ob bs ss js E ls ks h (jkv js)::Y')->
   vc 3 "Shop" G [.lst (bs.map cb),.lst (ss.map bN),.lst (js.map bq),.lst (E.map eA),.lst (ls.map dY),.lst (ks.map dQ),.int h]=U .(g):=λG Y' e=>by
  show(G (U (.obj "Shop" [])::[oS (.lst (bs.map cb)),oS (.lst (ss.map bN)),oS (.lst (js.map bq)),oS (.lst (E.map eA)),oS (.lst (ls.map dY)),oS (.lst (ks.map dQ)),oS (.int h),B,B,B])).bind _=_;rw[e];rfl
 show key _ (r9 bs ss js E ls ks h z z') ((gR (aN W (VM g ml))).trans ?_);show(gP (bi W)).trans ?_;show(jy 0 W W (aN W f1)).trans ?_;show(jy 1 W W (aN W f2)).trans ?_;show(jy 2 W W (aN W f3)).trans ?_;show(jy 3 W W (aN W f4)).trans ?_;show(jy 4 W W (aN W f5)).trans ?_;show(jy 5 W W (aN W f6)).trans ?_;show(jy 6 W W W).trans ?_;show(jy 7 W W (CP (λx=>#[_,W]) (Ar 7 0 W W) (by let:=g.bl.2;ext) g.bn)).trans ?_;show(jy 8 W W (CP (λx=>#[_,W]) (Ar 8 1 W W) (by let:=g.sl.2;ext) g.sn)).trans ?_;show(jy 9 W W (Mj (E:=E) (Ar 9 3 W W) (by let:=g.ul;ext) g.un)).trans ?_;let Ó:(jg bs ss js E ls ks h).lookup ("job_by_step":ai)=B:=lF (by rw[yi];decide +kernel);let hle:(jg bs ss js E ls ks h).length<100:=by simp[jg]
 let e1:oo "Shop" "job_by_step" 0 (U (.obj "Shop" (jg bs ss js E ls ks h))::r9 bs ss js E ls ks h B B)=U (.nx,ob bs ss js E ls ks h []::r9 bs ss js E ls ks h B B):=by simp only[oo,qd,Ó,hle,wU,cI,nX]
 let e2:ZF (jG "Shop" "jobs" 0) (ob bs ss js E ls ks h []::r9 bs ss js E ls ks h B B)=U (js.map bq):=by
  let lk:(jg bs ss js E ls ks h).lookup ("jobs":ai)=U (.lst (js.map bq)):=lw (i:=2) (by rw[yi];show xz uS 10) W;let n1:("jobs":ai)≠"job_by_step":=by decide +kernel
  let e:jG "Shop" "jobs" 0 (ob bs ss js E ls ks h []::r9 bs ss js E ls ks h B B)=U (.lst (js.map bq)):=by show(if U ("Shop":ai)=U ("Shop":ai) then (if ("jobs":ai)="job_by_step" then B else (jg bs ss js E ls ks h).lookup ("jobs":ai)) else B)=_;rw[qY W,qZ n1,lk]
  unfold ZF;rw[e];rfl
 show ay (oo "Shop" "job_by_step" 0) (bT (ZF (jG "Shop" "jobs" 0)) (aB 9) (bT (ZF (b2 YR (M 9) .(s))) (aB 10) (mW "Shop" "job_by_step" 0 (M 10) (M 9)))) (U (.obj "Shop" (jg bs ss js E ls ks h))::r9 bs ss js E ls ks h B B)=_;unfold ay;rw[e1,qc];unfold bT;rw[e2,qc];show ho
end
def Wp(o:au α)(P:α->Prop):Prop:=∃a,o=U a/\P a
section
variable{o:au α}{P Q:α->Prop}
def Wp.imp(h:Wp o P)(k:∀a,P a->Q a):Wp o Q:=let #[a,e,p]:=h;#[a,e,k a p]
def eL{f:α->au β}{P:β->Prop}(h:Wp o λa=>Wp (f a) P):Wp (o.bind f) P:=by let⟨a,rfl,b,e,p⟩:=h;show#[b,e,p]
def o0{f:α->β}{P:β->Prop}(h:Wp o λa=>P (f a)):Wp (o.map f) P:=by let⟨a,rfl,p⟩:=h;show#[_,W,p]
def aI{a:α}(e:o=U a)(p:P a):Wp o P:=#[a,e,p]
def Zw{G:D->D->au D}{P:D->Prop}(h:Wp (fa Y) λx=>Wp (fb Y) λy=>Wp (G x y) P):Wp (b2 G fa fb Y) P:=eL (h.imp λ_ k=>eL k)
def w_1{G:D->au D}{P:D->Prop}(h:Wp (fa Y) λx=>Wp (G x) P):Wp (b1 G fa Y) P:=eL h
def Ï{P:D->Prop}(p:P d):Wp (vC d Y) P:=#[d,W,p]
def bC{P:D->Prop}(h:Y[i]?=U (oS d))(p:P d):Wp (M i Y) P:=#[d,by unfold M;rw[h],p]
def bu{P:Z D->Prop}(h:Wp (fa Y) λx=>Wp (fr Y) λl=>P (x::l)):Wp (J fa fr Y) P:=eL (h.imp λ_ k=>o0 k)
def cB{P:Z D->Prop}(p:P []):Wp (aq Y) P:=#[_,W,p]
def He{P:Z D->Prop}(h:Wp (fr Y) λl=>l.length<=1000/\P l):Wp (ZA fr Y) P:=eL (h.imp λl k=>#[l,qY (by unfold aK;ext),k.2])
def iM{P:D->Prop}(h:Wp (fr Y) λl=>l.length<=1000/\P (.tup l)):Wp (bo (ZA fr) Y) P:=o0 (He h)
def xj{P:D->Prop}(h:Wp (fr Y) λl=>l.length<=1000/\P (.lst l)):Wp (aQ (ZA fr) Y) P:=o0 (He h)
def g8{F:FQ}{P:D->Prop}(h:Wp (fr Y) λl=>Wp (F l) P):Wp (cF F fr Y) P:=eL h
def fV{a b:aj}{P:D->Prop}(p:P (.int (a+b))):Wp (aS (.int a) (.int b)) P:=#[_,W,p]
def m4{a b:aj}{P:D->Prop}(h:0<b)(p:∀n,0<=n->n<b->n=a%b->P (.int n)):Wp (e6 (.int a) (.int b)) P:=#[_,qY h,p _ (Int.emod_nonneg _ .(c)) (Int.emod_lt_of_pos _ h) W]
def sE{a b:aj}{P:D->Prop}(h:0<b/\b<1073741824)(p:P (.int (a / b))):Wp (jD (.int a) (.int b)) P:=#[_,qY h,p]
def jT{P:aJ->Prop}(h:Wp (f Y) λd=>∃b,d=.bl b/\P b):Wp (YX f Y) P:=eL (h.imp λd #[b,e,p]=>by subst e;show#[b,W,p])
def Oh{a b:aj}{P:D->Prop}(p:P (.bl (decide (a<=b)))):Wp (Î (.int a) (.int b)) P:=#[_,W,p]
def LS{a b:aj}{P:D->Prop}(p:P (.bl (decide (a<b)))):Wp (ü (.int a) (.int b)) P:=#[_,W,p]
def Pg{a b:aj}{P:D->Prop}(p:P (.bl (decide (b<a)))):Wp (Ő (.int a) (.int b)) P:=#[_,W,p]
def PV{a b:aj}{P:D->Prop}(p:P (.bl (decide (b<=a)))):Wp (geD (.int a) (.int b)) P:=#[_,W,p]
def u5{a b:aj}{P:D->Prop}(p:∀c:aJ,(c=ah↔a=b)->P (.bl c)):Wp (î (.int a) (.int b)) P:=#[_,W,p _ (by simp)]
def MW{P:aJ->Prop}(h:Wp (ft Y) λb=>if b=ah then Wp (gt Y) P else P ar):Wp (f' ft gt Y) P:=eL (h.imp λb k=>by
 cases b with
 |true=>show k
 |false=>show#[_,W,k])
def dA(h:Wp (g Y) λr=>r.1=.nx/\Wp (g' r.2) R):Wp (ay g g' Y) R:=eL (h.imp λ#[fl,Y'] #[e,k]=>by subst e;show k)
def jb(h:Wp (f Y) λd=>R (.nx,Y.set j (oS d))):Wp (aR j f Y) R:=o0 h
def bF(h:Wp (f Y) λd=>Wp (g (Y.set j (oS d))) R):Wp (ay (aR j f) g Y) R:=dA (jb (h.imp λ_ k=>#[W,k]))
def VR(h:Wp (fr Y) λd=>R (.nx,Y.set j (U (.own d)))):Wp (e7 j fr Y) R:=o0 h
def Ej(h:Wp (fr Y) λd=>Wp (g (Y.set j (U (.own d)))) R):Wp (ay (e7 j fr) g Y) R:=dA (VR (h.imp λ_ k=>#[W,k]))
def n6(h:Wp (g (Y.set j (U (.own [])))) R):Wp (ay (e7 j (ZA aq)) g Y) R:=Ej #[[],W,h]
def DY(hs:Y[j]?=U (U (.own ds)))(hl:ds.length<=1000)(h:Wp (f Y) λd=>R (.nx,Y.set j (U (.own (ds++[d]))))):Wp (gI j f Y) R:=by unfold gI;rw[hs];show eL (h.imp λd k=>#[_,qY (by unfold aK;ext),k])
def mB(hs:Y[j]?=U (U (.own ds)))(h:Wp (g (Y.set j (oS (.lst ds)))) R):Wp (fC j g Y) R:=by unfold fC;rw[hs];show h
def fP(h:Wp (f Y) λd=>R (.rt d,Y)):Wp (aF f Y) R:=o0 h
def il(h:R (.nx,Y)):Wp (aV Y) R:=#[_,W,h]
def hV(I:ag->bB->Prop)(h:Wp (fi Y) λxs=>I 0 Y/\(∀i x Y,xs[i]?=U x->I i Y->Wp (gg x Y) λY1=>Wp (g Y1) λr=>r.1=.nx/\I (i+1) r.2)/\∀Y,I xs.length Y->R (.nx,Y)):Wp (bT fi gg g Y) R:=eL (h.imp λxs #[h0,hs,he]=>by
 let key:∀(n i:ag)(Y:bB),i+n=xs.length->I i Y->Wp (eB gg g (xs.drop i) Y) λr=>r.1=.nx/\I xs.length r.2:=by
  intro n
  induction n with
  |zero=>
   intro i Y hi hI;let e:i=xs.length:=by ext
   subst e;rw[wH];show#[_,W,W,hI]
  |succ n ih=>
   intro i Y hi hI;let Zu:i<xs.length:=by ext
   rw[tt Zu];show eL ((hs i xs[i] Y (by simp[Zu]) hI).imp λY1 k=>eL (k.imp λ#[fl,Y2] #[e,hI2]=>?_));subst e;show ih (i+1) Y2 .(c) hI2
 let:=key xs.length 0 Y .(c) h0;rw[pM] at this;show this.imp λ#[fl,Y'] #[e,k]=>by subst e;show he Y' k)
def gB{P:D->Prop}(h:Wp (g (ds.map (λd=>U (Slot.sh d))++bU n B)) λr=>∃d,r.1=.rt d/\P d):Wp (aO n g ds) P:=eL (h.imp λ#[fl,Y'] #[d,e,p]=>by subst e;show#[d,W,p])
def kf{P:Z D->Prop}(h:Wp (fr Y) λl=>∃n:aj,l=[.int n]/\0<=n/\n<=1000/\P ((cC n.toNat).map λi:ag=>D.int (0+i))):Wp (ģ fE fr Y) P:=by show eL (h.imp λl #[n,e,h0,h1,k]=>#[_,by rw[e];show zC #[h0,by ext],k])
def j8{x:D}(h:((cC n).map λi:ag=>D.int (0+(i:aj)))[i]?=U x):i<n/\x=.int i:=by rw[qm] at h;let⟨k,hk,rfl⟩:=Za h;let⟨Zu,e⟩:=eV.mp hk;rw[List.getElem_range] at e;rw[qW] at Zu;subst e;show#[Zu,by rw[BB]]
end
def BQ(h:Wp (ft Y) λb=>if b=ah then Wp (f Y) λd=>R (.rt d,Y) else Wp (g' Y) R):Wp (ay (ZG ft (aF f) aV) g' Y) R:=by
 let⟨b,e,k⟩:=h;unfold ay ZG;rw[e];cases b with
 |true=>
  let⟨d,e2,k⟩:=k;show#[(.rt d,Y),?_,k];unfold aF;rw[e2];rfl
 |false=>show k
def kc{a b:aj}{P:D->Prop}(h:(-(2 ^ 64)<a/\a<2 ^ 64)\/(-(2 ^ 64)<b/\b<2 ^ 64))(p:P (.int (a*b))):Wp (cJ (.int a) (.int b)) P:=#[_,qY h,p]
def QH{ns:Z aj}{P:D->Prop}(p:P (.int ns.length)):Wp (b8 [.scr ns]) P:=#[_,W,p]
def lJ:(2:aj) ^ 64=18446744073709551616:=by decide +kernel
def UV{ns:Z aj}{n:aj}{P:D->Prop}(h0:0<=n)(h1:n<ns.length)(p:∀m,P (.int m)):Wp (YR (.scr ns) (.int n)) P:=by
 let⟨k,rfl⟩:=pZ h0;show#[.int (ns.getD k 0),?_,p _];show(atI ns (k:aj)).map D.int=_;rw[jE];let:k<ns.length:=by ext
 simp[tj,this]
def FN{a:aj}{P:D->Prop}(h:n<=1000000)(h2:a.natAbs<2 ^ 64)(p:P (.int (a ^ n))):Wp (kh (.int a) (.int n)) P:=#[_,by show(if 0<=(n:aj)/\(n:aj)<=1000000/\a.natAbs<2 ^ 64 then U (D.int (a ^ (n:aj).toNat)) else B)=_;rw[qY #[by ext,by ext,h2],fA],p]
def fB(h:Wp (ft Y) λb=>(b=ah->Wp (g Y) R)/\(b=ar->Wp (g' Y) R)):Wp (ZG ft g g' Y) R:=eL (h.imp λb k=>by
 cases b with
 |true=>show k.1 W
 |false=>show k.2 W)
def DM{m:α->D}{xs:Z α}(x:α)(hs:Y[j]?=U (U (.own (xs.map m))))(hl:xs.length<=1000)(h:Wp (f Y) λd=>d=m x/\R (.nx,Y.set j (U (.own ((xs++[x]).map m))))):Wp (gI j f Y) R:=
 DY hs (by rw[qg];show hl) (h.imp λd #[e,k]=>by subst e;rw[dU] at k;show k)
structure Ŝ(h f:aj)(br:Z (aj×aj)):Prop where
 iv:∀p∈br,0<=p.1/\p.1<p.2/\p.2<=h/\p.2<f
 gap:∀(i:ag)p q,br[i]?=U p->br[i+1]?=U q->p.2<q.1
def Ŝ.snoc{f b e:aj}(g:Ŝ h f br)(h0:0<=f)(h1:f<=b)(h2:b<e)(h3:e<=h):Ŝ h (e+1) (br++[(b,e)]):=by
 show#[λp hp=>?_,λi p q hp hq=>?_]
 .rcases cY.mp hp with hp|hp
  .let:=g.iv p hp;show#[this.1,this.2.1,this.2.2.1,by ext]
  .rw[bM.mp hp];show#[by show 0<=b;ext,h2,h3,by show e<e+1;ext]
 .by_cases hi:i+1<br.length
  .rw[qA .(c)] at hp;rw[qA hi] at hq;show g.gap i p q hp hq
  .by_cases hi2:i+1=br.length
   .rw[qA .(c)] at hp;rw[qM .(c),show i+1-br.length=0 by ext] at hq;cases hq;let:=(g.iv p (qR hp)).2.2.2;ext
   .rw[wE (by simp;ext)] at hq;cases hq
noncomputable def bnm(bs:Z YU)(i:ag):ai:=(bs.map (·.nm)).getD i ⟨#[]⟩
def OW{bs:Z YU}(h:i<bs.length):bnm bs i∈bs.map (·.nm):=by unfold bnm;rw[pV,qm,qE h];show qX (nP h)
def BR{m:α->D}{nm:α->ai}(hm:∀x,∃r,m x=.tup (.str (nm x)::r)){xs:Z α}{g:FE}{P:D->Prop}(hf:f Y=U (.lst (xs.map m)))(hg:Wp (g Y) λd=>∃n:aj,d=.int n/\0<=n/\n<xs.length/\P (.str ((xs.map nm).getD n.toNat ⟨#[]⟩))):Wp (b2 YR (b2 YR f g) .(e) Y) P:=by
 let⟨_,e0,n,rfl,h0,h1,p⟩:=hg;let⟨k,rfl⟩:=pZ h0;let hk:k<xs.length:=by ext
 let⟨r,e⟩:=hm xs[k];show#[.str (nm xs[k]),?_,?_]
 .unfold b2;rw[hf,e0];show(((YR (.lst (xs.map m)) (.int (k:aj))).bind λx=>(vC (.int 0) Y).bind λy=>YR x y))=_;rw[ixL,qm,qE hk];show YR (m xs[k]) (.int 0)=_;rw[e];show cG
 .rw[fA,pV,qm,qE hk] at p;show p
def T1{bs:Z YU}{g:FE}{P:D->Prop}(hf:f Y=U (.lst (bs.map cb)))(hg:Wp (g Y) λd=>∃n:aj,d=.int n/\0<=n/\n<bs.length/\P (.str (bnm bs n.toNat))):Wp (b2 YR (b2 YR f g) .(e) Y) P:=BR (λx=>#[[.lst (x.br.map Ī)],W]) hf hg
def zJ{l:Z ai}{x:D}(h:(l.map D.str)[i]?=U x):∃s,l[i]?=U s/\x=.str s:=by rw[qm] at h;let⟨s,hs,rfl⟩:=Za h;show#[s,hs,W]
def Dv{l:Z α}{x:α}(f:α->β)(h:l[i]?=U x):(l.take (i+1)).map f=(l.take i).map f++[f x]:=by rw[kY,h,dU];rfl
noncomputable def ť(ss:Z YM)(i:ag):ai:=(ss.map (·.nm)).getD i ⟨#[]⟩
def xF{g:FE}{P:D->Prop}(hf:f Y=U (.lst (ss.map bN)))(hg:Wp (g Y) λd=>∃n:aj,d=.int n/\0<=n/\n<ss.length/\P (.str (ť ss n.toNat))):Wp (b2 YR (b2 YR f g) .(e) Y) P:=BR (λx=>#[_,W]) hf hg
def Rs:∀(ns:Z ai),tQ (ns.map jw)=0:=by
 intro Y7
 induction Y7 with
 |nil=>
  simp[tQ]
 |cons x r ih=>
  simp[tQ,pX,ih]
def xN(h:∀x∈ns,bh x=ah):fL (.list (ns.map jw))=ah:=by simp[fL,pW,z9 h,pX,Rs]
def RC(h:∀x∈ns,bh x=ah):ĵ (.lst (ns.map D.str)) (.lst [])=U (.bl (!ns.isEmpty)):=by
 let e0:ĵ (.lst (ns.map D.str)) (.lst [])=o6 (.lst (ns.map D.str)) (.lst []):=rfl;let s1:=xN h;let s2:fL (.list [])=ah:=by simp[fL,pW,nR,pX,tQ]
 let p1:Ö (.lst (ns.map D.str))=U (.list (ns.map jw)):=by simp[Ö,vX]
 let p2:Ö (.lst [])=U (.list []):=by simp[Ö,gq]
 let q:jv (.list (ns.map jw)) (.list [])=ns.isEmpty:=by cases ns<;>simp[jv,mx]
 rw[e0];unfold o6 eqX;rw[p1,p2,qc,qc,qY #[s1,s2],q];rfl
def F4:∀(a b:Z ai),mx (a.map jw) (b.map jw)=decide (a=b)
 |[],[]=>by simp[mx]
 |[],_::_=>by simp[mx]
 |_::_,[]=>by simp[mx]
 |x::r,y::t=>by
  simp only[qp,mx,jv,F4 r t];by_cases e:x=y
  .subst e;simp
  .simp[e]
def BX(h:i<ss.length):ť ss i∈ss.map (·.nm):=by unfold ť;rw[pV,qm,qE h];show qX (nP h)
def oz{l:Z D}{n:aj}{P:D->Prop}(h0:0<=n)(h1:n<l.length)(p:∀d∈l,P d):Wp (YR (.lst l) (.int n)) P:=by
 let⟨k,rfl⟩:=pZ h0;let hk:k<l.length:=by ext
 show#[l[k],by rw[ixL,qE hk],p _ (nP hk)]
def uX{a b:D}{P:D->Prop}(h1:P a)(h2:P b):∀d∈[a,b],P d:=by
 intro d hd;simp only[qN,qL,or_false] at hd;rcases hd with rfl|rfl
 .exact h1
 .exact h2
def Nx{a b c:D}{P:D->Prop}(h1:P a)(h2:P b)(h3:P c):∀d∈[a,b,c],P d:=by
 intro d hd;simp only[qN,qL,or_false] at hd;rcases hd with rfl|rfl|rfl
 .exact h1
 .exact h2
 .exact h3
def vd{m:α->D}{xs:Z α}(hs:Y[j]?=U (U (.own (xs.map m))))(hl:xs.length<=1000)(h:Wp (f Y) λd=>∃x,d=m x/\R (.nx,Y.set j (U (.own ((xs++[x]).map m))))):Wp (gI j f Y) R:=
 DY hs (by rw[qg];show hl) (h.imp λd #[x,e,k]=>by subst e;rw[dU] at k;show k)
def Eh(Q:bB->Prop)(h2:∀Y,Q Y->Wp (g' Y) R)(h:Wp (g Y) λr=>(r.1=.nx/\Q r.2)\/(∃d,r.1=.rt d)/\R r):Wp (ay g g' Y) R:=by
 let⟨⟨fl,Y'⟩,e,k⟩:=h;unfold ay;rw[e];rcases k with⟨e2,k⟩|⟨⟨d,e2⟩,k⟩
 .let e2:fl=.nx:=e2;subst e2;show h2 _ k
 .let e2:fl=.rt d:=e2;subst e2;show#[_,W,k]
def p18{P:D->Prop}(p:P (.int (10 ^ 18))):Wp (b2 kh (vC (.int 10)) (vC (.int 18)) Y) P:=Zw (Ï (Ï (FN .(b) .(b) p)))
def p7{P:D->Prop}(p:P (.int 10000000)):Wp (b2 kh (vC (.int 10)) (vC (.int 7)) Y) P:=Zw (Ï (Ï (FN .(b) .(b) p)))
abbrev drE(c k m:aj)(a b e:au Slot):bB:=[oS (.int c),oS (.int k),oS (.int m),a,b,e]
def Lr(c:aj){k m:aj}(h0:0<=k)(h1:k<=1000)(hm:0<m):Wp (bA [.int c,.int k,.int m]) λd=>∃n,d=.int n/\0<=n/\n<m:=by
 show gB (Eh (λY=>∃a b,Y=drE c k m a b B) ?_ ?_)
 .rintro _ ⟨a,b,rfl⟩;show bF (Zw (Zw (Zw (Zw (Zw (Zw (bC W (Ï (m4 .(b) λr _ _ _=>Zw (Zw (Ï (bC W (kc (.inl (by rw[lJ];ext)) (bC W (kc (.inr (by rw[lJ];ext)) (fV (Zw (Ï (bC W (kc (.inl (by rw[lJ];ext)) (fV (Ï (fV (Ï (kc (.inr (by rw[lJ];ext)) (Ï (m4 .(b) λx x0 x1 _=>?_)))))))))))))))))))))))))));show bF (Zw (Zw (Zw (Zw (bC W (bC W (kc (.inl (by rw[lJ];ext)) (Zw (Ï (bC W (kc (.inl (by rw[lJ];ext)) (fV (Ï (fV (Ï (m4 .(b) λy y0 y1 _=>?_))))))))))))))));show fP (Zw (Zw (Zw (bC W (bC W (kc (.inl (by rw[lJ];ext)) (Ï (m4 .(b) λz _ _ _=>bC W (m4 hm λn n0 n1 _=>#[_,W,n,W,n0,n1])))))))))
 .refine fB (jT (Zw (bC W (p18 (PV #[_,W,λ_=>?_,λ_=>?_])))))
  .refine bF (bC W (dA (hV (λ_ Y=>∃x b,Y=drE c k m (oS (.int x)) b B) (kf (bu (bC W (cB #[k,W,h0,h1,#[c,B,W],?_,?_])))))))
   .rintro i x Y hx ⟨x,b,rfl⟩;let⟨_,rfl⟩:=j8 hx;show aI W (jb (Zw (bC W (p7 (sE .(b) #[W,_,_,W])))))
   .rintro Y ⟨x,b,rfl⟩;show#[W,fB (jT (Zw (bC W (Ï (Pg #[_,W,λ_=>?_,λ_=>?_]))))) ]
    .exact fP (Zw (Zw (bC W (p7 (m4 .(b) λz _ _ _=>bC W (m4 hm λn n0 n1 _=>.inr #[#[_,W],_,W,n,W,n0,n1]))))))
    .exact il (.inl #[W,_,_,W])
  .exact il (.inl #[W,_,_,W])
def Æ(c k m:aj):aj:=match bA [.int c,.int k,.int m] with
 |some (.int n)=>n
 |_=>0
def cT(c:aj){k m:aj}(h0:0<=k)(h1:k<=1000)(hm:0<m):bA [.int c,.int k,.int m]=U (.int (Æ c k m))/\0<=Æ c k m/\Æ c k m<m:=by let⟨_,e,n,rfl,h⟩:=Lr c h0 h1 hm;unfold Æ;rw[e];show#[W,h]
def iF{a b:aj}(h : -(2 ^ 64)<a/\a<2 ^ 64:=by decide):cJ (.int a) (.int b)=U (.int (a*b)):=qY (.inl h)
def No{a b:aj}(h : -(2 ^ 64)<b/\b<2 ^ 64:=by decide):cJ (.int a) (.int b)=U (.int (a*b)):=qY (.inr h)
def cL{c k m:aj}{P:D->Prop}(ha:fa Y=U (.int c))(eb:fb Y=U (.int k))(ec:fc Y=U (.int m))(h0:0<=k)(h1:k<=1000)(hm:0<m)(p:0<=Æ c k m->Æ c k m<m->P (.int (Æ c k m))):Wp (cF bA (J fa (J fb (J fc aq))) Y) P:=by let⟨e,q0,q1⟩:=cT c h0 h1 hm;show g8 (bu (aI ha (bu (aI eb (bu (aI ec (cB (aI e (p q0 q1)))))))))
def u8(ns:Z aj)(k:ag):Wp (gM [.scr ns,.int k]) λd=>∃n,d=.int n:=by
 show gB (BQ (jT (Zw (bC W (g8 (bu (bC W (cB (QH (LS #[_,W,?_]))))))))));by_cases hk:(k:aj)<ns.length
 .rw[qY (qU hk)];show Zw (bC W (bC W (UV .(c) hk λm=>#[_,W,m,W])))
 .rw[qZ (by rw[qP hk];show qu)];show fP (Ï #[_,W,_,W])
def mT{ns:Z aj}{k:ag}{P:D->Prop}(hf:f Y=U (.scr ns))(p:∀n,P (.int n)):Wp (cF gM (J f (J (vC (.int k)) aq)) Y) P:=
 g8 (bu (aI hf (bu (Ï (cB ((u8 ns k).imp λd #[n,e]=>by subst e;show p n))))))
def Lx{a b:aj}:(if b<a then b else a)<=a/\(if b<a then b else a)<=b/\((if b<a then b else a)=a\/(if b<a then b else a)=b):=by split<;>ext
def K6(c:aj){k m:aj}(h0:0<=k)(h1:k<=900)(hm:0<=m):Wp (ni [.int c,.int k,.int m]) λd=>∃n,d=.int n/\0<=n/\n<=m:=by
 show gB (BQ (jT (Zw (cL W W W h0 .(c) .(b) λ_ _=>Ï (u5 λb _=>#[b,W,?_])))));cases b with
 |true=>show cL W W W .(c) .(c) .(c) λq0 q1=>#[_,W,_,W,q0,by ext]
 |false=>
  show fP (cL W W W .(c) .(c) .(c) λq0 q1=>#[_,W,_,W,q0,by ext])
def zS{c k m:aj}{P:D->Prop}(ha:fa Y=U (.int c))(eb:fb Y=U (.int k))(ec:fc Y=U (.int m))(h0:0<=k)(h1:k<=900)(hm:0<=m)(p:∀n,0<=n->n<=m->P (.int n)):Wp (cF ni (J fa (J fb (J fc aq))) Y) P:=by show g8 (bu (aI ha (bu (aI eb (bu (aI ec (cB ((K6 c h0 h1 hm).imp λd #[n,e,q0,q1]=>by subst e;show p n q0 q1))))))))
def LQ(ns:Z aj):Wp (zh [.scr ns]) λd=>∃h,d=.int h/\1<=h/\h<=1000000:=by show gB (bF (mT W λc=>fP (Zw (xj (bu (Zw (Ï (cL W W W .(b) .(b) .(b) λa0 a1=>fV (bu (Zw (Ï (cL (m:=1000000) W W W .(b) .(b) .(b) λb0 b1=>fV (cB #[by simp,?_])))))))))))));show Zw (cL W W W .(b) .(b) .(b) λq0 q1=>Ï (sE .(b) (oz .(c) (by simp;ext) (uX #[_,W,_,W,by ext,by ext] #[_,W,_,W,by ext,by ext]))))
abbrev kE(n k h:aj)(br:Z (aj×aj))(f:aj)(a b c:au Slot):bB:=[oS (.int n),oS (.int k),oS (.int h),U (.own (br.map Ī)),oS (.int f),a,b,c]
def Lg(n:aj)(hh:0<=h):Wp (Aw [.int n,.int 0,.int h]) λd=>∃br:Z (aj×aj),d=.lst (br.map Ī)/\br.length<=3/\∃f,Ŝ h f br:=by
 show gB (n6 (bF (Ï (dA (hV (λi Y=>∃(br:Z (aj×aj))(f:aj)(a b c:au Slot),Y=kE n 0 h br f a b c/\br.length<=i/\0<=f/\Ŝ h f br) (kf (bu (cL W W W .(b) .(b) .(b) λq0 q1=>cB #[_,W,q0,by ext,?_,?_,?_]))))))))
 .exact#[[],0,B,B,B,W,qx _,IJ _,#[(λ_ z=>nomatch z),λ_ _ _ z=>by simp at z]]
 .rintro i x Y hx ⟨br,f,a,b,c,rfl,hl,f0,g⟩;let⟨hi,rfl⟩:=j8 hx;show aI W (bF (Zw (bC W (zS W (aA W (aA W W iF) W) W .(c) .(c) hh λx x0 x1=>fV (bF (Zw (Zw (bC W (Ï (fV (cL W (aA W (aA W W iF) W) W .(c) .(c) .(b) λy0 y1=>fV (fB (jT (Zw (bC W (bC W (Oh #[_,W,λhc=>?_,λhc=>?_])))))))))))))))))
  .let hc:=fT hc;show dA (DM (f+x,f+x+1+Æ n (0+3+4*(i:aj)) 4) W .(c) (iM (bu (bC W (bu (bC W (cB #[by simp,W,W,?_])))))));show jb (Zw (bC W (Ï (fV #[W,br++[(f+x,f+x+1+Æ n (0+3+4*(i:aj)) 4)],_,_,_,_,W,by rw[ql];simp;ext,by ext,g.snoc f0 .(c) .(c) hc]))))
  .exact il #[W,br,_,_,_,_,W,by ext,f0,g]
 .rintro Y ⟨br,f,a,b,c,rfl,hl,f0,g⟩;show#[W,mB W (fP (bC W #[_,W,br,W,by simp at hl;ext,f,g]))]
def nh(h:g Y=U (.nx,Y1)):ay g g' Y=g' Y1:=by unfold ay;rw[h];rfl
def BM:ay (e7 i (ZA aq)) g Y=g (Y.set i (U (.own []))):=by
 let z0:(0<=aK)=True:=by simp
 simp only[ay,e7,ZA,aq,qc,qf,qo,z0,cI]
def CL(h1:Y[i]?=U (U (.own ds))):fC i g Y=g (Y.set i (oS (.lst ds))):=by unfold fC;rw[h1]
def oU{xs:Z D}(h:fi Y=U xs):bT fi gg body Y=eB gg body xs Y:=by unfold bT;rw[h];rfl
def vn{xs:Z D}(h:(xs.mapIdx λi d=>D.tup [.int i,d])[i]?=U d):∃x,xs[i]?=U x/\d=.tup [.int i,x]:=by rw[WE] at h;let⟨x,hx,rfl⟩:=Za h;show#[x,hx,W]
def ii{g:FE}{x y:D}(h1:f Y=U x)(h2:g Y=U y):bo (ZA (J f (J g aq))) Y=U (.tup [x,y]):=by simp only[bo,ZA,J,aq,h1,h2,qc,qf,qj,qo,nV,sz2,cI]
def C7{g e:FE}{x y z:D}(h1:f Y=U x)(h2:g Y=U y)(h3:e Y=U z):bo (ZA (J f (J g (J e aq)))) Y=U (.tup [x,y,z]):=by simp only[bo,ZA,J,aq,h1,h2,h3,qc,qf,qj,qo,nV,sz3,cI]
def OM{xs:Z D}{d:aj}(h:0<=d):lG B (U d) (.lst xs)=U (.lst (xs.take d.toNat)):=by
 show U (D.lst (df xs B (U d)))=_;unfold df HT.sIx;simp only;rw[qZ .(c),pM,XO]
 congr 2
 rw[BC];split
 .rfl
 .rw[kT (qx _),kT .(c)]
def Vf{xs:Z D}{d:aj}(h:0<=d):lG (U d) B (.lst xs)=U (.lst (xs.drop d.toNat)):=by
 show U (D.lst (df xs (U d) B))=_;unfold df HT.sIx;simp only;rw[qZ .(c)]
 congr 2
 rw[BC];split
 .rw[kT (by rw[iu];ext)]
 .rw[BD (qx _),BD .(c)];simp
def zv{g:FE}{xs:Z D}{d:aj}(h1:f Y=U (.lst xs))(h2:g Y=U (.int d))(h:0<=d):Õ f pN (pS g) Y=U (.lst (xs.take d.toNat)):=by unfold Õ pN pS;rw[h1,h2];show OM h
def xX{g:FE}{xs:Z D}{d:aj}(h1:f Y=U (.lst xs))(h2:g Y=U (.int d))(h:0<=d):Õ f (pS g) pN Y=U (.lst (xs.drop d.toNat)):=by unfold Õ pN pS;rw[h1,h2];show Vf h
section
variable{bs:Z YU}
def cr(bs:Z YU)(ss:Z YM)(js:Z Y8)(E:Z ac)(ls:Z Zc)(ks:Z Zi)(h:aj):D:=.tup [.lst (bs.map cb),.lst (ss.map bN),.lst (js.map bq),.lst (E.map eA),.lst (ls.map dY),.lst (ks.map dQ),.int h]
def Ā(l:Z D)(n:ag):YR (.tup l) (.int (n:aj))=l[n]?:=jE l n
def Ky(g:Y9 bs ss js E ls ks h)(ml:(js.flatMap (·.ms)).length<=300):yx [cr bs ss js E ls ks h]=U .(g):=
 bQ _ W (bO (aN (ax (aA W W (Ā _ 0)) (ax (aA W W (Ā _ 1)) (ax (aA W W (Ā _ 2)) (ax (aA W W (Ā _ 3)) (ax (aA W W (Ā _ 4)) (ax (aA W W (Ā _ 5)) (ax (aA W W (Ā _ 6)) aC))))))) (JH g ml)))
def jj{f:ai}(i:ag)(h1:fo Y=U .(g))(h2:(oa bs ss js E ls ks h)[i]?=U (f,d)):bG "Shop" f fo Y=U d:=by unfold bG;rw[h1];show(if ("Shop":ai)="Shop" then (oa bs ss js E ls ks h).lookup f else B)=U d;rw[qY W];show lw (by rw[Dc];show uS) h2
def cX{F:FQ}(hm:m∉lu)(h1:fo Y=U .(g))(h2:fr Y=U ds)(h3:F (aZ bs ss js E ls ks h::ds)=U d):bp "Shop" m F fo fr Y=U d:=by let Ó:(oa bs ss js E ls ks h).lookup m=B:=lF (by rw[Dc];show hm);unfold bp;rw[h1];show(if ("Shop":ai)="Shop"/\(oa bs ss js E ls ks h).lookup m=B then (fr Y).bind λds=>F (aZ bs ss js E ls ks h::ds) else B)=_;rw[qY #[W,Ó],h2];show h3
def RA{f:α->D}{nm:α->ai}{xs:Z α}(hf:∀x,∃r,f x=.tup (.str (nm x)::r))(h1:fo Y=U (.lst (xs.map f)))(h2:xs.length<=aK)(h3:eY fv Y=[B]):
  aQ (ba (ZF fo) (aB 0) tT .(o) fv) Y=U (.lst ((xs.map nm).map D.str)):=by
 let hc:=kC (fi:=ZF fo) (fe:=b2 YR (M 0) .(e)) (f:=λd=>match d with|.tup (x::_)=>x|_=>.non) (by unfold ZF;rw[h1];rfl) (by rw[qg];show h2) h3 (λx hx=>by let⟨y,_,rfl⟩:=bw.mp hx;let⟨r,e⟩:=hf y;simp only[b2,M,vC,qd,qc,e,cG])
 rw[hc]
 congr 2
 rw[qq,qq];show gf λx _=>?_;let⟨r,e⟩:=hf x;simp[e]
def kA(hl:ss.length<=40):i4 [aZ bs ss js E ls ks h]=U (.lst ((ss.map (·.nm)).map D.str)):=
 bQ _ W (bO (RA (λx=>#[_,W]) (jj 1 W W) (ò hl .(b)) W))
def mO[dE κ](YL:Z (κ×D))(k k':κ)(v:D):bc (bW YL k v) k'=if k'=k then U v else bc YL k':=by
 unfold bW;split
 .rename_i ů;by_cases e:k'=k
  .subst e;rw[qY W];unfold bc
   induction YL with
   |nil=>simp at ů
   |cons x r ih=>
    rw[qp,eX];by_cases ex:x.1=k'
    .simp[ex]
    .simp only[qZ ex,qP ex];rw[kQ,qP ex,HN] at ů;show ih ů
  .rw[qZ e];unfold bc
   induction YL with
   |nil=>rfl
   |cons x r ih=>
    rw[qp,eX,eX];by_cases ex:x.1=k
    .let:¬x.1=k':=λz=>e (z.symm.trans ex);simp only[qY ex,qP this];by_cases ha:(r.any λkv=>decide (kv.1=k))=ah
     .exact ih ha
     .let hmap:r.map (λkv=>if kv.1=k then (kv.1,v) else kv)=r:=by
       conv=>rhs;rw[<-XQ r]
       show gf λy hy=>?_;let:¬y.1=k:=λz=>ha (mf.mpr #[y,hy,qU z]);simp[this]
      rw[hmap]
    .simp only[qZ ex];by_cases ex':x.1=k'
     .simp[ex']
     .simp only[qP ex'];rw[kQ,qP ex,HN] at ů;show ih ů
 .rename_i ů;let Ó:∀x∈YL,¬x.1=k:=λx hx z=>ů (mf.mpr #[x,hx,qU z]);unfold bc;rw[XR];by_cases e:k'=k
  .subst e;rw[qY W];let:YL.find? (λkv=>decide (kv.1=k'))=B:=by rw[Bj];intro x hx z;show Ó x hx (fT z)
   rw[this];simp
  .rw[qZ e];let:¬k=k':=λz=>e z.symm;simp[this]
noncomputable def œ:Z YM->Z (YM×YM)
 |[]=>[]
 |s::r=>r.map (λt=>(s,t))++œ r
noncomputable def dP(p:YM×YM):D:=.tup [.str p.1.nm,.str p.2.nm]
def Fh:∀{ss:Z YM}{p:YM×YM},p∈œ ss->p.1∈ss/\p.2∈ss:=by
 intro Y7
 induction Y7 with
 |nil=>
  intro _ h;cases h
 |cons s r ih=>
  intro p h;rcases cY.mp h with q|q
  .obtain⟨t,ht,rfl⟩:=bw.mp q;show#[qh,qi _ ht]
  .obtain⟨h1,h2⟩:=ih q;show#[qi _ h1,qi _ h2]
def zf:∀{ss:Z YM}{n:ag},ss.length<=n->(œ ss).length<=ss.length*n
 |[],_,_=>by simp[œ]
 |s::r,n,h=>by rw[qj] at h;let:=zf (ss:=r) (n:=n) .(c);show(r.map (λt=>(s,t))++œ r).length<=_;rw[ql,qg,qj,pI];ext
def xO{g:α->D}{xs ys:Z α}(h1:Y[i]?=U (U (.own (xs.map g))))(h2:f Y=U (.lst (ys.map g)))(h3:xs.length+ys.length<=10000):hU i f Y=U (.nx,Y.set i (U (.own ((xs++ys).map g)))):=by unfold hU;rw[h1];show(f Y).bind _=_;rw[h2,qc];show(if _ then _ else _)=_;rw[qY (by rw[qg,qg];unfold aK;ext),dU]
def J9{l:Z α}{x:α}(h:l[i]?=U x):l.drop i=x::l.drop (i+1):=by let⟨h1,h2⟩:=eV.mp h;rw[tt h1,h2]
abbrev prE(ss:Z YM)(ps:Z (YM×YM))(a b:au Slot):bB:=[oS (.lst ((ss.map (·.nm)).map D.str)),U (.own (ps.map dP)),a,b]
def DX(ss:Z YM)(hl:ss.length<=40):lD [.lst ((ss.map (·.nm)).map D.str)]=U (.lst ((œ ss).map dP)):=by
 let Zo:=zf hl;let⟨Y',h1,ps,a,b,h2,h3⟩:=si (gg:=cj 2 (aX (aB 2) (aX (aB 3) ce))) (body:=(hU 1 (aQ (ba (ZF (Õ (M 0) (pS (b2 aS (M 2) .(f))) pN)) (aB 0) tT (bo (ZA (J (M 1) (J (M 0) aq)))) [B,U 3])))) (xs:=((ss.map (·.nm)).map D.str).mapIdx λi d=>D.tup [.int i,d])
  (λi Y=>∃ps a b,Y=prE ss ps a b/\ps++œ (ss.drop i)=œ ss) #[[],B,B,W,W] (λi x Y hx hI=>by
   let⟨ps,a,b,rfl,hps⟩:=hI;let⟨y,hy,rfl⟩:=vn hx;rw[qq,qm] at hy;let⟨s,hsi,rfl⟩:=Za hy;let hdr:=J9 hsi;let Y5:ps.length+(ss.drop (i+1)).length<=10000:=by let:=bP cM hps;rw[ql] at this;rw[iu];ext
   let e:aQ (ba (ZF (Õ (M 0) (pS (b2 aS (M 2) .(f))) pN)) (aB 0) tT (bo (ZA (J (M 1) (J (M 0) aq)))) [B,U 3]) (prE ss ps (oS (.int i)) (oS (.str s.nm)))=U (.lst (((ss.drop (i+1)).map λt=>(s,t)).map dP)):=by
    let e0:ZF (Õ (M 0) (pS (b2 aS (M 2) .(f))) pN) (prE ss ps (oS (.int i)) (oS (.str s.nm)))=U ((ss.drop (i+1)).map λt=>D.str t.nm):=by let:=xX (f:=M 0) (g:=b2 aS (M 2) .(f)) (Y:=prE ss ps (oS (.int i)) (oS (.str s.nm))) (d:=(i:aj)+1) W (aA W W W) .(c);unfold ZF;rw[this];rw[show((i:aj)+1).toNat=i+1 by ext,qq,IK];rfl
    show(kC (r:=[oS (.str s.nm)]) (a:=B) (f:=λd=>.tup [.str s.nm,d]) e0 (by rw[qg,iu];show ò (k:=40) .(c) .(b)) W λx hx=>ii W W).trans ?_;rw[qq,qq];rfl
   show#[_,_,W,xO W e (by rw[qg];show Y5),ps++(ss.drop (i+1)).map (λt=>(s,t)),_,_,W,?_];rw[<-hps,hdr,pF];rfl)
 rw[tq,qg,qg,wH] at h3;let h4:ps=œ ss:=by rw[<-h3];simp[œ]
 rw[h4] at h2;show bQ _ W (BM.trans ((nh ((oU (xs:=((ss.map (·.nm)).map D.str).mapIdx λi d=>D.tup [.int i,d]) W).trans (h1.trans (by rw[h2])))).trans ((CL W).trans (bO (f:=M 1) W))))
end
section
variable{bs:Z YU}
def GZ{x y:Z D}(h:x.length+y.length<=aK):aS (.lst x) (.lst y)=U (.lst (x++y)):=qY h
end
noncomputable def uQ(ls:Z Zc)(a b:ai):au Zc:=ls.find? λl=>decide (l.a=a/\l.b=b)
noncomputable def wrp(m:ai):YM:=#[m,m,[]]
def uY(ms:Z ai)(a b:ai):aJ:=(œ (ms.map wrp)).any λp=>decide (p.1.nm=a/\p.2.nm=b)
def dR(js:Z Y8)(ls:Z Zc)(a b:ai):au aj:=match uQ ls a b with
 |some l=>U l.g
 |none=>if (js.any λj=>j.od && uY j.ms a b)=ah then U 0 else B
def zK{x:D}{xs:Z D}{Y2:bB}{R:au (Fl×bB)}(h1:gg x Y=U Y1)(h2:body Y1=U (.nx,Y2))(h3:eB gg body xs Y2=R):eB gg body (x::xs) Y=R:=by rw[<-h3];unfold eB;rw[h1,qc,h2,qc];cases xs<;>rfl
noncomputable abbrev kk(a b:ai):Z YQ:=[.inr a,.inr b]
def og{a b d:ai}:kk a b=kk c d↔a=c/\b=d:=by simp[kk]
def jR(YT:Z (Z YQ×D))(p:YM×YM):Z (Z YQ×D):=bW YT (kk p.1.nm p.2.nm) (.int 0)
def iK(YT:Z (Z YQ×D))(j:Y8):Z (Z YQ×D):=if j.od=ah then (œ (j.ms.map wrp)).foldl jR YT else YT
def n5(YT:Z (Z YQ×D))(l:Zc):Z (Z YQ×D):=bW YT (kk l.a l.b) (.int l.g)
def IZ:∀(ps:Z (YM×YM))(YT:Z (Z YQ×D)),(ps.foldl jR YT).length<=YT.length+ps.length:=by
 intro Y7
 induction Y7 with
 |nil=>
  intro YT;show qx _
 |cons p r ih=>
  intro YT;let:=ih (jR YT p);let:=j7 YT (kk p.1.nm p.2.nm) (.int 0);rw[gc,qj];unfold jR at *;ext
def vP(a b:ai):∀(ps:Z (YM×YM))(YT:Z (Z YQ×D)),bc (ps.foldl jR YT) (kk a b)=if (ps.any λp=>decide (p.1.nm=a/\p.2.nm=b))=ah then U (.int 0) else bc YT (kk a b):=by
 intro Y7
 induction Y7 with
 |nil=>
  intro YT;show W
 |cons p r ih=>
  intro YT;rw[gc,ih,kQ];unfold jR;rw[mO];by_cases h:p.1.nm=a/\p.2.nm=b
  .rw[qY (og.mpr #[h.1.symm,h.2.symm]),qU h];split<;>rfl
  .rw[qZ (λz=>h #[(og.mp z).1.symm,(og.mp z).2.symm]),qP h];rfl
def vJ(a b:ai):∀(js:Z Y8)(YT:Z (Z YQ×D)),bc (js.foldl iK YT) (kk a b)=if (js.any λj=>j.od && uY j.ms a b)=ah then U (.int 0) else bc YT (kk a b):=by
 intro Y7
 induction Y7 with
 |nil=>
  intro YT;show W
 |cons j r ih=>
  intro YT;rw[gc,ih,kQ];unfold iK uY;by_cases h:j.od=ah
  .rw[qY h,vP,h,wM];cases((œ (j.ms.map wrp)).any λp=>decide (p.1.nm=a/\p.2.nm=b))
   .rfl
   .show(if _ then _ else U (D.int 0))=U (D.int 0);split<;>rfl
  .let h':j.od=ar:=by simpa using h
   rw[qZ h,h'];rfl
def vL(a b:ai):∀(ls:Z Zc)(YT:Z (Z YQ×D)),(ls.map λl=>[l.a,l.b]).Nodup->bc (ls.foldl n5 YT) (kk a b)=match uQ ls a b with|some l=>U (.int l.g)|none=>bc YT (kk a b):=by
 intro Y7
 induction Y7 with
 |nil=>
  intro YT _;show W
 |cons l r ih=>
  intro YT nd;rw[qp,eG] at nd;rw[gc,ih _ nd.2];unfold n5 uQ;rw[mO,eX];by_cases h:l.a=a/\l.b=b
  .rw[qY (og.mpr #[h.1.symm,h.2.symm]),qU h];let:r.find? (λl=>decide (l.a=a/\l.b=b))=B:=by rw[Bj];intro x hx z;let z:=fT z;show nd.1 (bw.mpr #[x,hx,by rw[z.1,z.2,h.1,h.2]])
   rw[this]
  .rw[qZ (λz=>h #[(og.mp z).1.symm,(og.mp z).2.symm]),qP h]
section
variable{bs:Z YU}
def Gg(g:Y9 bs ss js E ls ks h):rQ [aZ bs ss js E ls ks h]=U (.lst (js.map bq)):=by
 let hl:(ss.map (·.nm)).length<=40:=by rw[qg];show g.sl.2
 let hp:Pl 8 (.lst (js.map bq)):=gS (by let:=g.jl;ext) λx hx=>xQ hl (g.j x hx);show bQ _ W (bO (aN (ax (jj 2 W W) aC) (ik hp)))
def ET(g:Y9 bs ss js E ls ks h):sk [aZ bs ss js E ls ks h]=U (.lst (ls.map dY)):=by let hp:Pl 8 (.lst (ls.map dY)):=gS (by let:=g.ll;ext) λx hx=>CW;show bQ _ W (bO (aN (ax (jj 4 W W) aC) (ik hp)))
def Uk(ms:Z ai):(ms.map wrp).map (·.nm)=ms:=by rw[qq];show XQ _
def GB(ms:Z ai)(hl:ms.length<=40):lD [.lst (ms.map D.str)]=U (.lst ((œ (ms.map wrp)).map dP)):=by let:=DX (ms.map wrp) (by rw[qg];show hl);rw[Uk] at this;show this
def Pt{S:au Slot}{YT:Z (Z YQ×D)}{p:YM×YM}(hl:YT.length<100000):dH 1 (M 3) .(e) [S,U (.odt YT),x2,oS (dP p),x4,x5,x6]=U (.nx,[S,U (.odt (jR YT p)),x2,oS (dP p),x4,x5,x6]):=qY hl
def CK{S x2 x4 x5 x6:au Slot}:∀(ps:Z (YM×YM))(YT:Z (Z YQ×D))(z:au Slot),YT.length+ps.length<100000->∃z',eB (aB 3) (dH 1 (M 3) .(e)) (ps.map dP) [S,U (.odt YT),x2,z,x4,x5,x6]=U (.nx,[S,U (.odt (ps.foldl jR YT)),x2,z',x4,x5,x6])
 |[],YT,z,_=>#[z,W]
 |p::r,YT,z,hl=>by rw[qj] at hl;let h1:=j7 YT (kk p.1.nm p.2.nm) (.int 0);let⟨z',hz⟩:=CK r (jR YT p) (oS (dP p)) (by unfold jR;ext);show#[z',zK W (Pt .(c)) hz]
def gjB:FS:=ZG (YX (b2 YR (M 2) .(x))) (bT (ZF (cF lD (J (b2 YR (M 2) .(s)) aq))) (aB 3) (dH 1 (M 3) .(e))) aV
def GE{A af:FS}(h:ft Y=U ar):ZG ft A af Y=af Y:=by unfold ZG;rw[h,qc,qZ qu]
def EK{A af:FS}(h:ft Y=U ah):ZG ft A af Y=A Y:=by unfold ZG;rw[h,qc,qY W]
def F5{a b c e:D}:YR (.tup [a,b,c,d,e]) (.int 3)=U d:=rfl
def DQ{S x4 x5 x6:au Slot}:∀(js:Z Y8)(YT:Z (Z YQ×D))(y z:au Slot),(∀j∈js,j.ms.length<=40)->YT.length+js.length*1600<90000->∃y' z',eB (aB 2) gjB (js.map bq) [S,U (.odt YT),y,z,x4,x5,x6]=U (.nx,[S,U (.odt (js.foldl iK YT)),y',z',x4,x5,x6])/\(js.foldl iK YT).length<=YT.length+js.length*1600
 |[],YT,y,z,_,_=>#[y,z,W,AA _ _]
 |j::r,YT,y,z,hm,hl=>by
  rw[qj,pI] at hl;let hj:=hm j qh;let Zo:=zf (ss:=j.ms.map wrp) (by rw[qg];show hj);rw[qg] at Zo;let eT:YX (b2 YR (M 2) .(x)) [S,U (.odt YT),oS (bq j),z,x4,x5,x6]=U j.od:=bi (aA W W F5);let key:∃z1,gjB [S,U (.odt YT),oS (bq j),z,x4,x5,x6]=U (.nx,[S,U (.odt (iK YT j)),oS (bq j),z1,x4,x5,x6])/\(iK YT j).length<=YT.length+1600:=by
   by_cases ho:j.od=ah
   .rw[ho] at eT;let⟨z1,hz⟩:=CK (œ (j.ms.map wrp)) YT z .(c);let eI:ZF (cF lD (J (b2 YR (M 2) .(s)) aq)) [S,U (.odt YT),oS (bq j),z,x4,x5,x6]=U ((œ (j.ms.map wrp)).map dP):=by unfold ZF;rw[aN (ax (aA W W mG) aC) (GB j.ms hj)];rfl
    let hP:=IZ (œ (j.ms.map wrp)) YT;unfold iK;rw[qY ho];show#[z1,(EK eT).trans ((oU eI).trans hz),by ext]
   .let Ĕ:j.od=ar:=by simpa using ho
    rw[Ĕ] at eT;unfold iK;rw[qZ ho];show#[z,GE eT,by ext]
  let⟨z1,hk,hkl⟩:=key;let⟨y',z',hr,hrl⟩:=DQ r (iK YT j) (oS (bq j)) z1 (λx hx=>hm x (qi _ hx)) .(c);show#[y',z',zK W hk hr,by rw[gc,qj,pI];ext]
def Di{S x2 x3:au Slot}:∀(ls:Z Zc)(YT:Z (Z YQ×D))(a b c:au Slot),YT.length+ls.length<100000->∃a' b' c',eB (cj 3 (aX (aB 4) (aX (aB 5) (aX (aB 6) ce)))) (dH 1 (bo (ZA (J (M 4) (J (M 5) aq)))) (M 6)) (ls.map dY) [S,U (.odt YT),x2,x3,a,b,c]=U (.nx,[S,U (.odt (ls.foldl n5 YT)),x2,x3,a',b',c'])
 |[],YT,a,b,c,_=>#[a,b,c,W]
 |l::r,YT,a,b,c,hl=>by rw[qj] at hl;let h1:=j7 YT (kk l.a l.b) (.int l.g);let⟨a',b',c',hz⟩:=Di r (n5 YT l) (oS (.str l.a)) (oS (.str l.b)) (oS (.int l.g)) (by unfold n5;ext);show#[a',b',c',zK (Y1:=[S,U (.odt YT),x2,x3,oS (.str l.a),oS (.str l.b),oS (.int l.g)]) W ?_ hz];let e1:bo (ZA (J (M 4) (J (M 5) aq))) [S,U (.odt YT),x2,x3,oS (.str l.a),oS (.str l.b),oS (.int l.g)]=U (.tup [.str l.a,.str l.b]):=ii W W;unfold dH;rw[e1];show qY .(c)
def QU(g:Y9 bs ss js E ls ks h):∃YL,zI [aZ bs ss js E ls ks h]=U (.dt YL)/\∀a b,bc YL (kk a b)=(dR js ls a b).map D.int:=by
 let hm:∀j∈js,j.ms.length<=40:=λj hj=>by let:=(g.j j hj).ln;rw[qg] at this;let:=g.sl.2;ext
 let hjl:=g.jl;let hll:=g.ll;let⟨y',z',h1,hl1⟩:=DQ js [] B B hm (by rw[qo];ext);rw[qo] at hl1;let⟨a',b',c',h2⟩:=Di ls (js.foldl iK []) B B B .(c);show#[ls.foldl n5 (js.foldl iK []),?_,λa b=>?_]
 .let e1:ZF (bp "Shop" "job_rows" rQ (M 0) aq) [oS .(g),U (.odt []),B,B,B,B,B]=U (js.map bq):=by unfold ZF;rw[cX .(b) W aC (Gg g)];rfl
  let e2:ZF (bp "Shop" "link_rows" sk (M 0) aq) [oS .(g),U (.odt (js.foldl iK [])),y',z',B,B,B]=U (ls.map dY):=by unfold ZF;rw[cX .(b) W aC (ET g)];rfl
  show bQ _ W ((nh W).trans ((nh ((oU e1).trans h1)).trans ((nh ((oU e2).trans h2)).trans (bO W))))
 .rw[vL a b ls _ g.ln,vJ];unfold dR;cases uQ ls a b with
  |some l=>rfl
  |none=>
   cases(js.any λj=>j.od && uY j.ms a b)<;>rfl
end
noncomputable abbrev GT:=ai×ai×aj
noncomputable def dGp(t:GT):D:=.tup [.str t.1,.str t.2.1,.int t.2.2]
def iO(js:Z Y8)(ls:Z Zc)(ŧ:Z ai)(a:ai):Z GT:=ŧ.filterMap λb=>(dR js ls a b).map λg=>(a,b,g)
def Cz(js:Z Y8)(ls:Z Zc)(ŧ:Z ai)(a:ai):(iO js ls ŧ a).length<=ŧ.length:=List.length_filterMap_le _ _
def xM(js:Z Y8)(ls:Z Zc)(ŧ:Z ai):∀xs:Z ai,(xs.flatMap (iO js ls ŧ)).length<=xs.length*ŧ.length:=by
 intro Y7
 induction Y7 with
 |nil=>
  simp
 |cons x r ih=>
  let:=Cz js ls ŧ x;rw[tP,ql,qj,pI];ext
def pG(js:Z Y8)(ls:Z Zc)(a:ai):D->aJ
 |.str b=>(dR js ls a b).isSome
 |_=>ar
def fG(js:Z Y8)(ls:Z Zc)(a:ai):D->D
 |.str b=>.tup [.str a,.str b,.int ((dR js ls a b).getD 0)]
 |_=>.non
def Sc(js:Z Y8)(ls:Z Zc)(a:ai):∀ŧ:Z ai,((ŧ.map D.str).filter (pG js ls a)).map (fG js ls a)=(iO js ls ŧ a).map dGp:=by
 intro Y7
 induction Y7 with
 |nil=>
  show W
 |cons b r ih=>
  unfold iO at ih ⊢;rw[qp,kR,AC];cases e:dR js ls a b with
  |none=>
   let e1:pG js ls a (.str b)=ar:=by show(dR js ls a b).isSome=ar;rw[e];rfl
   rw[e1];show ih
  |some q=>
   let e1:pG js ls a (.str b)=ah:=by show(dR js ls a b).isSome=ah;rw[e];rfl
   let e2:fG js ls a (.str b)=dGp (a,b,q):=by show D.tup [.str a,.str b,.int ((dR js ls a b).getD 0)]=_;rw[e];rfl
   rw[e1];show fG js ls a (.str b)::_=dGp (a,b,q)::_;rw[e2];show bP _ ih
section
variable{bs:Z YU}
def Uh{a:au Slot}{xs:Z D}{f:D->D}{p:D->aJ}(h1:fi Y=U xs)(h2:xs.length<=aK)(h3:eY fv Y=a::r)(h:∀x∈xs,ft (oS x::r)=U (p x)/\(p x=ah->fe (oS x::r)=U (f x))):
  ba fi (aB 0) ft fe fv Y=U ((xs.filter p).map f):=by
 simp only[ba,h1,qc,qY h2,h3,Ei h]
def eU{ys:Z D}(h:fr Y=U ys):aQ fr Y=U (.lst ys):=by unfold aQ;rw[h];rfl
def koT(hv:∀a b,bc YL (kk a b)=(dR js ls a b).map D.int){a:ai}{ŧ:Z ai}{S o:au Slot}(hl:ŧ.length<=40):
  aQ (ba (ZF (M 1)) (aB 0) (YX (b2 o3 (bo (ZA (J (M 1) (J (M 0) aq)))) (M 2))) (bo (ZA (J (M 1) (J (M 0) (J (b2 aU (M 2) (bo (ZA (J (M 1) (J (M 0) aq))))) aq))))) [B,U 4,U 2]) [S,oS (.lst (ŧ.map D.str)),oS (.dt YL),o,oS (.str a)]=U (.lst ((iO js ls ŧ a).map dGp)):=by
 rw[<-Sc];show eU (Uh W (by rw[qg];show ò hl .(b)) W λx hx=>?_);let⟨b,_,rfl⟩:=bw.mp hx;let e1:bo (ZA (J (M 1) (J (M 0) aq))) [oS (.str b),oS (.str a),oS (.dt YL)]=U (.tup [.str a,.str b]):=ii W W;show#[bi (aA e1 W ?_),λhp=>?_]
 .show U (D.bl (bc YL (kk a b)).isSome)=U (.bl (dR js ls a b).isSome);rw[hv,AX]
 .let Š:(dR js ls a b).isSome=ah:=hp;let⟨q,hq⟩:=sR.mp Š;show C7 W W (aA W e1 ?_);show(U (bc YL (kk a b))).bind id=U (.int ((dR js ls a b).getD 0));rw[hv,hq];rfl
def Qt(g:Y9 bs ss js E ls ks h):xo [aZ bs ss js E ls ks h]=U (.lst (((ss.map (·.nm)).flatMap (iO js ls (ss.map (·.nm)))).map dGp)):=by
 let⟨YL,hk,hv⟩:=QU g;let hl:(ss.map (·.nm)).length<=40:=by rw[qg];show g.sl.2
 let hN:=kA (bs:=bs) (js:=js) (E:=E) (ls:=ls) (ks:=ks) (h:=h) g.sl.2;let⟨Y',h1,z,h2⟩:=si (gg:=aB 4) (body:=(hU 3 (aQ (ba (ZF (M 1)) (aB 0) (YX (b2 o3 (bo (ZA (J (M 1) (J (M 0) aq)))) (M 2))) (bo (ZA (J (M 1) (J (M 0) (J (b2 aU (M 2) (bo (ZA (J (M 1) (J (M 0) aq))))) aq))))) [B,U 4,U 2])))) (xs:=(ss.map (·.nm)).map D.str) (Y:=[oS .(g),oS (.lst ((ss.map (·.nm)).map D.str)),oS (.dt YL),U (.own []),B])
  (λi Y=>∃z,Y=[oS .(g),oS (.lst ((ss.map (·.nm)).map D.str)),oS (.dt YL),U (.own ((((ss.map (·.nm)).take i).flatMap (iO js ls (ss.map (·.nm)))).map dGp)),z]) #[B,W] (λi x Y hx hI=>by
   let⟨z,rfl⟩:=hI;rw[qm] at hx;let⟨a,hp,rfl⟩:=Za hx;let tk:((ss.map (·.nm)).take (i+1)).flatMap (iO js ls (ss.map (·.nm)))=((ss.map (·.nm)).take i).flatMap (iO js ls (ss.map (·.nm)))++iO js ls (ss.map (·.nm)) a:=by rw[wW,hp,IL];simp
   let r1:=xM js ls (ss.map (·.nm)) ((ss.map (·.nm)).take i);let r2:=Cz js ls (ss.map (·.nm)) a;let r3:((ss.map (·.nm)).take i).length<=40:=qO (List.length_take_le' _ _) hl;let r4:((ss.map (·.nm)).take i).length*(ss.map (·.nm)).length<=40*40:=A9 r3 hl;show#[_,_,W,xO W (koT hv hl) .(c),oS (.str a),?_];rw[tk];rfl)
 rw[qg,fz] at h2;subst h2;show bQ _ W ((gR (cX .(b) W aC hN)).trans ((gR (aN (ax W aC) hk)).trans (BM.trans ((nh ((oU W).trans h1)).trans ((CL W).trans (bO W))))))
end
section
variable{bs:Z YU}
def i9{nm:α->ai}{f:α->D}:∀{xs:Z α}{s:α},(xs.map nm).Nodup->s∈xs->bc (xs.map λx=>((.inr (nm x):YQ),f x)) (.inr (nm s))=U (f s):=by
 intro Y7
 induction Y7 with
 |nil=>
  intro s _ hs;cases hs
 |cons x r ih=>
  intro s nd hs;rw[qp,eG] at nd;unfold bc;rw[qp,eX];by_cases e:nm x=nm s
  .let hxs:s=x:=by
    rcases cm.mp hs with q|q
    .exact q
    .exact bH (qX (f:=nm) q) (by rw[<-e];show nd.1)
   subst hxs;simp
  .let hs':s∈r:=by
    rcases cm.mp hs with q|q
    .subst q;show bH W e
    .exact q
   let Ô:¬((.inr (nm x):YQ)=.inr (nm s)):=λz=>e (iq z);simp only[qP Ô];show ih nd.2 hs'
def Fi{s:YM}(g:Y9 bs ss js E ls ks h)(hs:s∈ss):vB [aZ bs ss js E ls ks h,.str s.nm]=U (.lst (s.ws.map dW)):=by let gs:=g.s s hs;show bQ _ W (bO (aN (ax (aA (aA (z:=bN s) (jj 8 W W) W ?_) W ib) aC) (ik (uh (by let:=gs.l4;ext)))));show i9 g.sn hs
def Vp(j:Y8)(m:ai):∀(ms:Z ai)(YT:Z (YQ×D)),bc (ms.foldl (ic j) YT) (.inr m)=if m∈ms then U (bq j) else bc YT (.inr m):=by
 intro Y7
 induction Y7 with
 |nil=>
  intro YT;simp
 |cons x r ih=>
  intro YT;rw[gc,ih];by_cases h1:m∈r
  .rw[qY h1,qY (qi _ h1)]
  .rw[qZ h1];unfold ic;rw[mO];by_cases h2:m=x
   .subst h2;rw[qY W,qY qh]
   .let:¬((.inr m:YQ)=.inr x):=λz=>h2 (iq z);rw[qZ this,qZ];intro z;rcases cm.mp z with q|q
    .exact h2 q
    .exact h1 q
noncomputable def dz(js:Z Y8)(m:ai):au Y8:=js.find? λj=>decide (m∈j.ms)
def LF(m:ai):∀(js:Z Y8)(YT:Z (YQ×D)),(js.flatMap (·.ms)).Nodup->bc (js.foldl (λYT j=>j.ms.foldl (ic j) YT) YT) (.inr m)=match dz js m with|some j=>U (bq j)|none=>bc YT (.inr m):=by
 intro Y7
 induction Y7 with
 |nil=>
  intro YT _;show W
 |cons j r ih=>
  intro YT nd;rw[tP,mv] at nd;rw[gc,ih _ nd.2.1,Vp];unfold dz;rw[eX];by_cases h1:m∈j.ms
  .let:r.find? (λj=>decide (m∈j.ms))=B:=by rw[Bj];intro x hx z;show nd.2.2 m h1 m (IM.mpr #[x,hx,fT z]) W
   simp only[qU h1,this,qY h1]
  .simp only[qP h1,qZ h1]
def rG:au Y8->D
 |some j=>bq j
 |none=>.non
def QZ{j:Y8}(h:dz js m=U j):j∈js/\m∈j.ms:=#[WN h,by let:=WO h;show fT this]
def G9(g:Y9 bs ss js E ls ks h)(m:ai):vq [aZ bs ss js E ls ks h,.str m]=U (rG (dz js m)):=by
 let hl:(ss.map (·.nm)).length<=40:=by rw[qg];show g.sl.2
 let hp:Pl 8 (rG (dz js m)):=by
  cases e:dz js m with
  |none=>trivial
  |some j=>show xQ hl (g.j j (QZ e).1)
 show bQ _ W (bO (aN (ax (aA (jj 10 W W) W ?_) aC) (ik hp)));show U ((bc (jkv js) (.inr m)).getD .non)=_;unfold jkv;rw[LF m js [] g.jm];cases dz js m<;>rfl
def wX:oq [aZ bs ss js E ls ks h]=U (.int h):=by show bQ _ W (bO (jj 6 W W))
end
noncomputable def tx(l:Z ag):ai:=⟨l.toArray⟩
def xq(a b:Z ag):tx a++tx b=tx (a++b):=by show(⟨a.toArray++b.toArray⟩:ai)=⟨(a++b).toArray⟩;rw[List.append_toArray]
def sr(l:Z ag):(tx l).length=l.length:=by show l.toArray.size=_;simp
def To:∀n:ag,n<26->("abcdefghijklmnopqrstuvwxyz":ai).cps.toList[n]?=U (97+n):=by decide +kernel
def Dn:∀n:ag,n<26->az (97+n)=ah:=by decide +kernel
def BK{i:aj}(h0:0<=i)(h:i<26):YR (.str "abcdefghijklmnopqrstuvwxyz") (.int i)=U (.str (tx [97+i.toNat])):=by let⟨n,rfl⟩:=pZ h0;show(if ("abcdefghijklmnopqrstuvwxyz":ai).length<=aK then (atI ("abcdefghijklmnopqrstuvwxyz":ai).cps.toList (n:aj)).map _ else B)=_;rw[qY .(b),jE,To n .(c)];rfl
def FO:∀cs:Z ag,Str.join "" (cs.map λc=>tx [c])=tx cs
 |[]=>rfl
 |[c]=>rfl
 |c::d::r=>by show tx [c]++tx []++Str.join "" ((d::r).map λc=>tx [c])=_;rw[FO (d::r),xq,xq];rfl
def QB:∀cs:Z ag,iz (cs.map λc=>.str (tx [c]))=U (cs.map λc=>tx [c]):=by
 intro Y7
 induction Y7 with
 |nil=>
  show W
 |cons c r ih=>
  show(iz (r.map λc=>.str (tx [c]))).map (tx [c]::·)=_;rw[ih];rfl
def S3{cs:Z ag}(h:cs.length<=100):sG (.str "") [.lst (cs.map λc=>.str (tx [c]))]=U (.str (tx cs)):=by
 show((iz (cs.map λc=>.str (tx [c]))).bind λys=>if (ys.map (·.length)).sum+ys.length*("":ai).length<=16777216 then U (D.str (HZ "" ys)) else B)=_;let h1:=StrLaws.sumLen_le (B:=1) (cs.map λc=>tx [c]) (λy hy=>by let⟨c,_,rfl⟩:=bw.mp hy;show qx _);rw[QB,qc,qY (by rw[qg] at h1 ⊢;show _+cs.length*0<=_;ext)]
 show U (D.str (YF "" _))=_;rw[StrLaws.glued_eq_join,FO]
def M7{xs:Z α}{d:aj}(h:0<=d):df xs B (U d)=xs.take d.toNat:=by
 unfold df HT.sIx;simp only;rw[qZ .(c),pM,XO,BC];split
 .rfl
 .rw[kT (qx _),kT .(c)]
def Lv{xs:Z α}{d:aj}(h:0<=d):df xs (U d) B=xs.drop d.toNat:=by
 unfold df HT.sIx;simp only;rw[qZ .(c),BC];split
 .rw[kT (by rw[iu];ext)]
 .rw[BD (qx _),BD .(c)];simp
def D1{l:Z ag}(hl:l.length<=100)(lo hi:au aj):lG lo hi (.str (tx l))=U (.str (tx (df l lo hi))):=by show(if (tx l).length<=aK then U (D.str (nq (tx l) lo hi)) else B)=_;rw[qY (by rw[sr];unfold aK;ext)];rfl
def rE{fl:bB->au (au aj)}{z:D}{l h:au aj}(h1:f Y=U d)(h2:fl Y=U l)(h3:fh Y=U h)(h4:lG l h d=U z):Õ f fl fh Y=U z:=by unfold Õ;rw[h1,h2,h3];show h4
def yG{a b:Z ag}(h:a.length+b.length<=100):aS (.str (tx a)) (.str (tx b))=U (.str (tx (a++b))):=by show(if (tx a).length+(tx b).length<=aK then _ else _)=_;rw[qY (by rw[sr,sr];unfold aK;ext),xq]
noncomputable def qK(k:ag):Z ag:=if k<26 then [] else [113]
def xC(k:ag):(qK k).length<=1:=by unfold qK;split<;>simp
def Js(k:ag):∀c∈qK k,az c=ah:=by
 unfold qK;split
 .intro c hc;cases hc
 .intro c hc;rw[bM.mp hc];decide
def ν(l:Z ag)(a k:ag):ai:=tx (l.take a++[97+k*7%26]++qK k++l.drop a)
def Ou{l:Z ag}{a:ag}(hl:l.length<=6)(hz:∀c∈l,az c=ah)(k:ag):bh (ν l a k)=ah:=by
 let h0:(l.take a).length+(l.drop a).length=l.length:=by rw[<-ql,tz]
 let hq:=xC k;unfold bh ν;rw[sr];simp only[dB,gY];show#[#[by simp only[ql,qj,qo];ext,by simp only[ql,qj,qo];ext],?_];rw[gE];intro c hc;rcases cY.mp hc with hc|hc
 .rcases cY.mp hc with hc|hc
  .rcases cY.mp hc with hc|hc
   .exact hz c (pP hc)
   .rw[bM.mp hc];show Dn _ .(c)
  .exact Js k c hc
 .exact hz c (Ih hc)
def Om{l:Z ag}{a:ag}(ha:a<=l.length)(h:ν l a i=ν l a j):i*7%26=j*7%26/\(i<26↔j<26):=by
 unfold ν tx at h;let h:=bP (λs:ai=>s.cps.toList) h;simp only[pF] at h;let hl:=bP cM h;simp only[ql,qj,qo] at hl;simp at h;show#[by ext,?_];unfold qK at hl;constructor
 .intro h1;rw[qY h1] at hl;by_cases h2:j<26
  .exact h2
  .rw[qZ h2] at hl;simp at hl
 .intro h1;rw[qY h1] at hl;by_cases h2:i<26
  .exact h2
  .rw[qZ h2] at hl;simp at hl
def Qx{l:Z ag}{a m:ag}(ha:a<=l.length)(hm:m<=52):((cC m).map (ν l a)).Nodup:=by show wK.mpr (Ij ?_ (WV));intro i j hi hj Zu e;let:=Om ha e;let:=fj.mp hj;ext
def F3{α:Type}{fe:FE}{r:bB}{m:α->D}{Q:ag->α->Prop}:∀(n s:ag)(a:au Slot),(∀i,s<=i->i<s+n->Wp (fe (oS (.int (0+(i:aj)))::r)) λd=>∃x,d=m x/\Q i x)->Wp (ca (aB 0) tT fe ((BE s n).map λi:ag=>D.int (0+(i:aj))) (a::r)) λl=>∃xs:Z α,l=xs.map m/\xs.length=n/\∀i x,xs[i]?=U x->Q (s+i) x
 |0,s,a,_=>#[[],W,[],W,W,λi x h=>by simp at h]
 |n+1,s,a,h=>by
  let⟨_,e,x,rfl,q⟩:=h s (qx _) .(c);let⟨_,e2,xs,rfl,hl,hq⟩:=F3 n (s+1) (oS (.int (0+(s:aj)))) λi h1 h2=>h i .(c) .(c);show#[(x::xs).map m,?_,x::xs,W,by rw[qj,hl],λi y hy=>?_]
  .rw[IN,qp];show((fe (oS (.int (0+(s:aj)))::r)).bind λd=>(ca (aB 0) tT fe _ (oS (.int (0+(s:aj)))::r)).map (d::·))=_;rw[e,qc,e2];rfl
  .cases i with
   |zero=>simp at hy;subst hy;show q
   |succ i=>
    let:=hq i y (by simpa using hy);rw[show s+1+i=s+(i+1) by ext] at this;show this
def Gp{m:α->D}(Q:ag->α->Prop){P:D->Prop}(hf:Wp (fr Y) λl=>l=[.int (n:aj)])(hn:n<=1000)(hv:eY fv Y=B::r)(h:∀i,i<n->Wp (fe (oS (.int (i:aj))::r)) λd=>∃x,d=m x/\Q i x)(p:∀xs:Z α,xs.length=n->(∀i x,xs[i]?=U x->Q i x)->P (.lst (xs.map m))):Wp (aQ (ba (ģ fE fr) (aB 0) tT fe fv) Y) P:=by
 let⟨_,e,rfl⟩:=hf;let⟨_,e2,xs,rfl,hl,hq⟩:=F3 n 0 B λi _ h2=>by rw[BB];show h i .(c)
 show#[.lst (xs.map m),?_,p xs hl λi x hx=>by let:=hq i x hx;rw[nV] at this;show this];unfold aQ ba;rw[zq e (zC #[by ext,by ext]),qc,qY (by rw[qg,qW];unfold aK;ext),hv,fA,XS,e2];rfl
abbrev nmE(c m:aj)(l:Z ag)(a:aj)(ns:Z ai)(k:au Slot):bB:=[oS (.int c),oS (.int m),oS (.str "abcdefghijklmnopqrstuvwxyz"),oS (.str (tx l)),oS (.int a),U (.own (ns.map D.str)),k]
def QN(c:aj){m:ag}(hm:m<=40):Wp (xP [.int c,.int m]) λd=>∃ns:Z ai,d=.lst (ns.map D.str)/\ns.length=m/\ns.Nodup/\∀x∈ns,bh x=ah:=by
 let⟨e0,a0,a1⟩:=cT c (k:=0) (m:=7) .(b) .(b) .(b);show gB (bF (Ï (bF (eL (Ï (eL (bu (Gp (m:=λc:ag=>.str (tx [c])) (λ_ c=>az c=ah) #[_,ax (aN W e0) aC,by rw[Int.toNat_of_nonneg a0]] .(c) W ?_ λcs cl cz=>cB ?_))))))))
 .intro i hi;show Zw (bC W (cL W W W .(c) .(c) .(b) λq0 q1=>aI (BK q0 q1) #[_,W,Dn _ .(c)]))
 show aI (S3 .(c)) ?_;let cz:∀c∈cs,az c=ah:=λc hc=>by let⟨i,hi⟩:=II hc;show cz i c hi
 let l6:cs.length<=6:=by ext
 show bF (cL W W (aA (x:=.int cs.length) (aN (ax W aC) ?_) W W) .(b) .(b) .(c) λq0 q1=>n6 ?_)
 .show(if (tx cs).length<=aK then U (D.int ((tx cs).length:ag)) else B)=_;rw[sr,qY (by unfold aK;ext)]
 let⟨a,ha⟩:=pZ q0;rw[ha] at q1;rw[ha];show dA (hV (λi Y=>∃k,Y=nmE c m cs a ((cC i).map (ν cs a)) k/\i<=m) (kf (bu (bC W (cB #[m,W,by ext,by ext,#[B,W,fy _],?_,?_])))))
 .rintro k x Y hx ⟨z,rfl,_⟩;let⟨hk,rfl⟩:=j8 hx;rw[fA] at hk;let t0:(cs.take a).length+(cs.drop a).length=cs.length:=by rw[<-ql,tz]
  show aI W (DM (xs:=(cC k).map (ν cs a)) (ν cs a k) W (by rw[qg,qW];ext) (aI (aA (z:=.str (ν cs a k)) (aA (z:=.str (tx (cs.take a++[97+k*7%26]++qK k))) (aA (z:=.str (tx (cs.take a++[97+k*7%26]))) (rE W W W (D1 .(c) _ _)) (aA W (aA (x:=.int ((k:aj)*7)) (aA W W No) W W) (BK .(c) .(c))) ?_) (aA (x:=.lst [.str "",.str "q"]) (y:=.int ((k:aj) / 26)) (z:=.str (tx (qK k))) W (aA W W W) ?_) ?_) (rE W W W (D1 .(c) _ _)) ?_) #[W,W,oS (.int k),?_,by ext]))
  .rw[M7 .(c),fA,show((k:aj)*7%26).toNat=k*7%26 by ext];show yG (by simp only[qj,qo];ext)
  .unfold qK;by_cases hk2:k<26
   .rw[qY hk2,show(k:aj) / 26=0 by ext];rfl
   .rw[qZ hk2,show(k:aj) / 26=1 by ext];rfl
  .exact yG (by let:=xC k;simp only[ql,qj,qo];ext)
  .rw[Lv .(c),fA];show yG (by let:=xC k;simp only[ql,qj,qo];ext)
  .rw[show cC (k+1)=cC k++[k] from List.range_succ,dU (f:=ν cs a)];rfl
 .rintro Y ⟨k,rfl,hl⟩;show#[W,mB (ds:=((cC _).map (ν cs a)).map D.str) W (fP (bC W #[_,W,_,W,by simp,Qx .(c) (by simp;ext),λx hx=>?_]))];let⟨k,_,rfl⟩:=bw.mp hx;show Ou l6 cz k
def zR{l:Z ai}{n:aj}{P:D->Prop}(h0:0<=n)(h1:n<l.length)(p:∀s∈l,P (.str s)):Wp (YR (.lst (l.map D.str)) (.int n)) P:=
 oz h0 (by rw[qg];show h1) λd hd=>by let⟨s,hs,rfl⟩:=bw.mp hd;show p s hs
def Oz{a b:aj}{P:D->Prop}(p:P (.int (if b > a then b else a))):Wp (kF [.int a,.int b]) P:=#[_,W,p]
noncomputable def kd3:Z ai:=["cut","glue","paint"]
def VJ:∀s∈kd3,bh s=ah:=by decide +kernel
abbrev seE(c:aj)(nm:ai)(bs:Z YU)(h:aj)(kd:ai)(a:aj)(rt:Z YU)(ws:Z (ai×aj))(x y z:au Slot):bB:=[oS (.int c),oS (.str nm),oS (.lst (bs.map cb)),oS (.int h),oS (.str kd),oS (.int a),oS (.lst (rt.map cb)),U (.own (ws.map dW)),x,y,z]
def GC{m:α->D}{x y:Z α}(h:x.length+y.length<=1000):aS (.lst (x.map m)) (.lst (y.map m))=U (.lst ((x++y).map m)):=by rw[dU];show qY (by rw[qg,qg];unfold aK;ext)
def GX{a b:aj}(a0:0<=a)(a1:a<2)(b0:0<=b)(b1:b<4):0<=a*b/\a*b<=3:=by rcases(show a=0\/a=1 by ext) with rfl|rfl<;>ext
def RU(c:aj){nm:ai}{bs:Z YU}(hn:bh nm=ah)(C:1<=bs.length/\bs.length<=8)(nd:(bs.map (·.nm)).Nodup)(hh:1<=h):Wp (zZ [.int c,.str nm,.lst (bs.map cb),.int h]) λd=>∃s:YM,d=bN s/\s.nm=nm/\Ĝ (bs.map (·.nm)) h s:=by
 let bl:b8 [.lst (bs.map cb)]=U (.int bs.length):=by show U (D.int (bs.map cb).length)=_;rw[qg]
 show gB (bF (Zw (aI (a:=.lst (kd3.map D.str)) W (cL W W W .(b) .(b) .(b) λq0 q1=>zR q0 q1 λkd hk=>?_))));show bF (cL W W (aN W bl) .(b) .(b) .(c) λq2 q3=>?_);let⟨a,ha⟩:=pZ q2;rw[ha] at q3 ⊢;let⟨e4,a0,a1⟩:=cT c (k:=2) (m:=2) .(b) .(b) .(b);let⟨e5,b0,b1⟩:=cT c (k:=3) (m:=4) .(b) .(b) .(b);obtain⟨n,hn4⟩:∃n:ag,1+Æ c 2 2*Æ c 3 4=n:=#[(1+Æ c 2 2*Æ c 3 4).toNat,by let:=GX a0 a1 b0 b1;ext];let n4:1<=n/\n<=4:=by let:=GX a0 a1 b0 b1;ext
 let len:(bs.drop a++bs.take a).length=bs.length:=by rw[ql,iu,qF];ext
 let pm:(bs.drop a++bs.take a).Perm bs:=by let:=List.perm_append_comm (l₁:=bs.drop a) (l₂:=bs.take a);rw[tz] at this;show this
 show bF #[.lst (((bs.drop a++bs.take a).take n).map cb),?_,n6 ?_]
 .refine(zv (xs:=(bs.drop a++bs.take a).map cb) (d:=n) (aA (x:=.lst ((bs.drop a).map cb)) (y:=.lst ((bs.take a).map cb)) ?_ ?_ (GC (by rw[<-ql,len];ext))) (aA W (aA (aN W e4) (aN W e5) (qY (.inl (by rw[lJ];ext)))) (bP (λx=>U (D.int x)) hn4)) .(c)).trans ?_
  .refine(xX (xs:=bs.map cb) (d:=a) W W .(c)).trans ?_;rw[fA,IK]
  .refine(zv (xs:=bs.map cb) (d:=a) W W .(c)).trans ?_;rw[fA,BF]
  .rw[fA,BF]
 let rl:((bs.drop a++bs.take a).take n).length<=4/\1<=((bs.drop a++bs.take a).take n).length:=by rw[qF,len];ext
 let rn:(((bs.drop a++bs.take a).take n).map (·.nm)).Nodup:=by show pY ((nG _ _).map _) ?_;show((pm.map (·.nm)).nodup_iff).mpr nd
 let rm:∀b∈(bs.drop a++bs.take a).take n,b∈bs:=λb C=>pm.subset (pP C);generalize (bs.drop a++bs.take a).take n=rt at rl rn rm ⊢;show dA (hV (λi Y=>∃(ws:Z (ai×aj))(x y z:au Slot),Y=seE c nm bs h kd a rt ws x y z/\ws.map (·.1)=(rt.take i).map (·.nm)/\∀w∈ws,1<=w.2/\w.2<=h) (aI (a:=(rt.map cb).mapIdx λi d=>D.tup [.int i,d]) W #[#[[],B,B,B,W,by simp,λ_ z=>nomatch z],?_,?_]))
 .rintro i x Y hx ⟨ws,x',y,z,rfl,hw,hg⟩;let⟨_,hy,rfl⟩:=vn hx;rw[qm] at hy;let⟨b,į,rfl⟩:=Za hy;let hi:i<rt.length:=(eV.mp į).1;let wl:ws.length<=4:=by let:=bP cM hw;rw[qg,qg,qF] at this;ext
  let mn:=Lx (a:=5) (b:=h);let Zz:∀m:aj,1<=m->m<=h->Wp (gI 7 (bo (ZA (J (b2 YR (M 9) .(e)) (J (cF kF (J .(f) (J (cF ni (J (M 0) (J (b2 aS .(s) (b2 cJ .(af) (M 8))) (J (M 10) aq)))) aq))) aq)))) (seE c nm bs h kd a rt ws (oS (.int i)) (oS (cb b)) (oS (.int m)))) λr=>r.1=.nx/\∃(ws:Z (ai×aj))(x y z:au Slot),r.2=seE c nm bs h kd a rt ws x y z/\ws.map (·.1)=(rt.take (i+1)).map (·.nm)/\∀w∈ws,1<=w.2/\w.2<=h:=by
   intro m m1 mh;show vd (m:=dW) (xs:=ws) W .(c) (iM (bu (aI (aA W W cG) (bu (g8 (bu (Ï (bu (zS (k:=4+2*(i:aj)) (m:=m) W (aA W (aA W W iF) W) W .(c) .(c) .(c) λv v0 v1=>cB (Oz (cB #[by simp,(b.nm,if v > 1 then v else 1),W,W,ws++[(b.nm,if v > 1 then v else 1)],_,_,_,W,?_,λw hw=>?_])))))))))))
   .rw[dU,hw,Dv _ į];rfl
   .rcases cY.mp hw with hw|hw
    .exact hg w hw
    .rw[bM.mp hw];split<;>ext
  show aI W (bF (Zw (aI (a:=.lst [.int h,.int (if h<5 then h else 5)]) W (cL (k:=13) (m:=2) W W W .(b) .(b) .(b) λq0 q1=>oz q0 q1 (uX (Zz _ hh (IJ _)) (Zz _ .(c) .(c)))))))
 .rintro Y ⟨ws,x,y,z,rfl,hw,hg⟩;rw[tq,qg,fz] at hw;let wl:ws.length=rt.length:=by let:=bP cM hw;simpa using this
  show#[W,mB (ds:=ws.map dW) W (fP (iM (bu (bC W (bu (bC W (bu (bC W (cB #[by simp,_,W,#[nm,kd,ws],W,W,hn,VJ kd hk,by show 1<=ws.length;ext,by show ws.length<=4;ext,λw hw'=>#[?_,hg w hw'],by rw[hw];show rn]))))))))) ];let:w.1∈ws.map (·.1):=qX hw';rw[hw] at this;let⟨b,ŏ,e⟩:=bw.mp this;rw[<-e];show qX (rm b ŏ)
abbrev Es:=Z (Z ai×aj)
noncomputable def û(es:Es):Z (Z YQ×D):=es.map λe=>(e.1.map bS,.int e.2)
def rB{a b:Z ai}:a.map (bS:ai->YQ)=b.map bS↔a=b:=IG λ_ _=>iq
def ED{es:Es}{t:Z ai}{n:aj}{A:Z ai->Prop}{af:aj->Prop}(nd:(es.map (·.1)).Nodup)(al:∀e∈es,A e.1/\af e.2)(pt:A t)(pn:af n):∃Â:Es,bW (û es) (t.map bS) (.int n)=û Â/\(Â.map (·.1)).Nodup/\(∀e∈Â,A e.1/\af e.2)/\Â.length<=es.length+1:=by
 unfold bW;split
 .refine#[es.map λe=>if e.1=t then (e.1,n) else e,?_,?_,λe he=>?_,by rw[qg];ext]
  .unfold û;rw[qq,qq];show gf λe _=>?_;show(if e.1.map bS=t.map bS then _ else _)=_;by_cases h:e.1=t
   .rw[qY (rB.mpr h)];simp[h]
   .rw[qZ (λz=>h (rB.mp z))];simp[h]
  .rw[qq];let:es.map ((·.1) ∘ λe=>if e.1=t then (e.1,n) else e)=es.map (·.1):=gf λe _=>by show(if e.1=t then (e.1,n) else e).1=e.1;split<;>rfl
   rw[this];show nd
  .obtain⟨e0,h0,rfl⟩:=bw.mp he;split
   .exact#[(al e0 h0).1,pn]
   .exact al e0 h0
 .rename_i Ó;show#[es++[(t,n)],by unfold û;rw[dU];rfl,?_,λe he=>?_,by rw[ql];show qx _]
  .rw[dU];show mv.mpr #[nd,by simp,λx hx y hy e=>Ó ?_];let⟨z,hz,rfl⟩:=bw.mp hx;let hy:y=t:=by simpa using hy
   show mf.mpr #[_,qX hz,qU (rB.mpr (e.trans hy))]
  .rcases cY.mp he with he|he
   .exact al e he
   .rw[bM.mp he];show#[pt,pn]
def Ga:∀{es:Es}{e:Z ai×aj},(es.map (·.1)).Nodup->e∈es->bc (û es) (e.1.map bS)=U (.int e.2):=by
 intro Y7
 induction Y7 with
 |nil=>
  intro _ _ h;show nomatch h
 |cons x r ih=>
  intro e nd he;rw[qp,eG] at nd;unfold bc û;rw[qp,eX];rcases cm.mp he with rfl|he
  .simp
  .let Ô:¬(x.1.map (bS:ai->YQ)=e.1.map bS):=λz=>nd.1 (by rw[rB.mp z];show qX he);simp only[qP Ô];show ih nd.2 he
def UF{k m:α->D}:∀{xs:Z α}{a:au Slot},(∀x∈xs,fe (oS (k x)::r)=U (m x))->ca (aB 0) tT fe (xs.map k) (a::r)=U (xs.map m):=by
 intro Y7
 induction Y7 with
 |nil=>
  intro _ _;show W
 |cons x xs ih=>
  intro a h;show((fe (oS (k x)::r)).bind λd=>(ca (aB 0) tT fe (xs.map k) (oS (k x)::r)).map (d::·))=_;rw[h x qh,qc,ih λy hy=>h y (qi _ hy)];rfl
def Cc{es:Es}(v:aj->aj)(h:Y[i]?=U (oS (.dt (û es))))(hl:es.length<=1000)(hs:∀e∈es,0<e.1.length/\e.1.length<=10)(hv:eY fv ((Y.map lN).set i (oS (.fdt (û es))))=B::r)
  (he:∀e∈es,fe (oS (.tup (e.1.map D.str))::r)=U (.int (v e.2))):ox i (aQ (ba (jM (M i)) (aB 0) tT (b2 iX (M 0) (bo (ZA (J fe aq)))) fv)) Y=U (.lst (es.map λe=>.tup (e.1.map D.str++[.int (v e.2)]))):=by
 let hi:i < Y.length:=(eV.mp h).1;let e1:jM (M i) ((Y.map lN).set i (oS (.fdt (û es))))=U (es.map λe=>.tup (e.1.map D.str)):=by unfold jM M;rw[pi (by rw[qg];show hi)];show U ((û es).map λkv=>D.tup (kv.1.map cx))=_;unfold û;rw[qq];show bP U (gf λe _=>?_);show D.tup ((e.1.map bS).map cx)=_;rw[qq];rfl
 unfold ox;rw[h];show(if ((û es).map (·.2)).all gN=ah then _ else _)=_;rw[qY (by unfold û;rw[qq,nY,gE];intro x _;rfl)]
 let e2:aQ (ba (jM (M i)) (aB 0) tT (b2 iX (M 0) (bo (ZA (J fe aq)))) fv) ((Y.map lN).set i (oS (.fdt (û es))))=U (.lst (es.map λe=>.tup (e.1.map D.str++[.int (v e.2)]))):=by
  unfold aQ ba;rw[e1,qc,qY (by rw[qg];unfold aK;ext),hv];rw[UF]
  .rfl
  .intro e hm;show aA (y:=.tup [.int (v e.2)]) W ?_ ?_
   .unfold bo ZA;rw[ax (he e hm) aC];rfl
   .refine qY #[?_,by simp,by rw[qg];let:=hs e hm;simp only[qj,qo];unfold aK;ext];intro z;let:=hs e hm;rw[XT] at z;rw[z] at this;simp at this
 rw[e2,qc,qY];show(es.map λe=>D.tup (e.1.map D.str++[.int (v e.2)])).all tfD=ah;rw[nY,gE];intro e _;show(e.1.map D.str++[D.int (v e.2)]).all gN=ah;rw[List.all_append,nY];simp only[dB,gE];show#[λ_ _=>rfl,λx hx=>by rw[bM.mp hx];rfl]
def Du{es:Es}{t:Z ai}{fv:FE}(hs:Y[i]?=U (U (.odt (û es))))(hl:es.length<=1000)(hk:fk Y=U (.tup (t.map D.str)))(hv:Wp (fv Y) λd=>∃n,d=.int n/\R (.nx,Y.set i (U (.odt (bW (û es) (t.map bS) (.int n)))))):Wp (dH i fk fv Y) R:=by let⟨_,e,n,rfl,k⟩:=hv;show#[_,?_,k];unfold dH;rw[e,hk,hs];show((fg (t.map D.str)).bind _)=_;rw[mC];show qY (by unfold û;rw[qg];ext)
def NI{P:aJ->Prop}(h:Y[i]?=U (U (.odt YL)))(k:Wp (ft (Y.set i (oS (.dt YL)))) P):Wp (rR i ft Y) P:=by unfold rR;rw[h];show k
def LkA(ss:Z YM)(t:Z ai):Prop:=∃a b,t=[a,b]/\a∈ss.map (·.nm)/\b∈ss.map (·.nm)/\a≠b
abbrev prW(c:aj)(ss:Z YM)(es:Es)(x y z:au Slot):bB:=[oS (.int c),oS (.int 50),oS (.lst (ss.map bN)),U (.odt (û es)),x,y,z]
def Kb(c:aj)(hs:1<=ss.length/\ss.length<=40):Wp (yf [.int c,.int 50,.lst (ss.map bN)]) λd=>∃es:Es,d=.dt (û es)/\es.length<=5/\(es.map (·.1)).Nodup/\∀e∈es,LkA ss e.1/\0<=e.2/\e.2<5:=by
 let sl:b8 [.lst (ss.map bN)]=U (.int ss.length):=by show U (D.int (ss.map bN).length)=_;rw[qg]
 show gB (dA (aI W #[W,dA (hV (λi Y=>∃(es:Es)(x y z:au Slot),Y=prW c ss es x y z/\es.length<=i/\(es.map (·.1)).Nodup/\∀e∈es,LkA ss e.1/\0<=e.2/\e.2<5) (kf (bu (cL W W W .(b) .(b) .(b) λq0 q1=>cB #[_,W,q0,by ext,#[[],B,B,B,W,qx _,iU,λ_ z=>nomatch z],?_,?_]))))]))
 .rintro i x Y hx ⟨es,x',y,z,rfl,hl,nd,al⟩;let⟨hi,rfl⟩:=j8 hx;show aI W (bF (xF W (cL W (aA W (aA W W iF) W) (aN W sl) .(c) .(c) .(c) λa0 a1=>#[_,W,a0,a1,?_])));show bF (xF W (cL W (aA W (aA W W iF) W) (aN W sl) .(c) .(c) .(c) λb0 b1=>#[_,W,b0,b1,?_]));let m1:=BX (ss:=ss) (i:=(Æ c (50+1+3*(i:aj)) ss.length).toNat) .(c);let m2:=BX (ss:=ss) (i:=(Æ c (50+2+3*(i:aj)) ss.length).toNat) .(c);generalize ť ss (Æ c (50+1+3*(i:aj)) ss.length).toNat=o1 at m1 ⊢;generalize ť ss (Æ c (50+2+3*(i:aj)) ss.length).toNat=o2 at m2 ⊢;show fB (NI (YL:=û es) W (MW (jT (Zw (bC W (bC W (aI (Cs _ _) #[_,W,?_])))))));by_cases e:o1=o2
  .rw[qU e];show#[(λz=>nomatch z),λ_=>il #[W,es,_,_,_,W,by ext,nd,al]]
  .rw[qP e];show jT (Zw (aI (ii W W) (bC W (aI (a:=.bl (!(bc (û es) (kk o1 o2)).isSome)) W #[_,W,λ_=>?_,λ_=>il #[W,es,_,_,_,W,by ext,nd,al]]))));show Du (t:=[o1,o2]) W .(c) (ii W W) (cL (k:=50+3+3*(i:aj)) (m:=5) W (aA W (aA W W iF) W) W .(c) .(c) .(b) λg0 g1=>#[_,W,W,?_]);let⟨Â,e1,e2,e3,e4⟩:=ED (A:=LkA ss) (af:=λn=>0<=n/\n<5) nd al #[o1,o2,W,m1,m2,e] #[g0,g1];rw[e1];show#[Â,_,_,_,W,by ext,e2,e3]
 .rintro Y ⟨es,x,y,z,rfl,hl,nd,al⟩;show#[W,fP (Y:=[oS (.int c),oS (.int 50),oS (.lst (ss.map bN)),oS (.dt (û es)),x,y,z]) (bC W #[_,W,es,W,by simp at hl;ext,nd,al])]
noncomputable def kd4:Z ai:=["cut","glue","paint","rest"]
def Hc:∀s∈kd4,bh s=ah:=by decide +kernel
def ye(bs:Z YU)(t:Z ai):Prop:=∃b p q,t=[b,p,q]/\b∈bs.map (·.nm)/\bh p=ah/\bh q=ah
abbrev sxE(c:aj)(bs:Z YU)(h:aj)(es:Es)(x y:au Slot):bB:=[oS (.int c),oS (.lst (bs.map cb)),oS (.int h),oS (.lst (kd4.map D.str)),U (.odt (û es)),x,y]
def Qo(c:aj){bs:Z YU}(hh:1<=h)(C:1<=bs.length/\bs.length<=8):Wp (zO [.int c,.lst (bs.map cb),.int h]) λd=>∃es:Es,d=.lst (es.map λe=>.tup (e.1.map D.str++[.int e.2]))/\es.length<=11/\(es.map (·.1)).Nodup/\∀e∈es,ye bs e.1/\1<=e.2/\e.2<=h:=by
 let bl:b8 [.lst (bs.map cb)]=U (.int bs.length):=by show U (D.int (bs.map cb).length)=_;rw[qg]
 show gB (bF (aI W (dA (aI W #[W,dA (hV (λi Y=>∃(es:Es)(x y:au Slot),Y=sxE c bs h es x y/\es.length<=i/\(es.map (·.1)).Nodup/\∀e∈es,ye bs e.1/\1<=e.2/\e.2<=h) (kf (bu (cL W W W .(b) .(b) .(b) λq0 q1=>cB #[_,W,q0,by ext,#[[],B,B,W,qx _,iU,λ_ z=>nomatch z],?_,?_]))))]))))
 .rintro i x Y hx ⟨es,x',y,rfl,hl,nd,al⟩;let⟨hi,rfl⟩:=j8 hx;show aI W (bF (iM (bu (T1 W (cL W (aA W (aA W W iF) W) (aN W bl) .(c) .(c) .(c) λa0 a1=>#[_,W,a0,a1,bu (Zw (bC W (cL W (aA W (aA W W iF) W) W .(c) .(c) .(b) λb0 b1=>zR b0 b1 λp hp=>cB #[by simp,?_])))])))));let m1:=OW (bs:=bs) (i:=(Æ c (1+4*(i:aj)) bs.length).toNat) .(c);generalize bnm bs (Æ c (1+4*(i:aj)) bs.length).toNat=b at m1 ⊢;show bF (Zw (bC W (iM (bu (Zw (bC W (cL (k:=3+4*(i:aj)) (m:=4) W (aA W (aA W W iF) W) W .(c) .(c) .(b) λb0 b1=>zR b0 b1 λq hq=>cB #[by simp,aI (a:=.tup ([b,p,q].map D.str)) W ?_])))))));show Du (es:=es) (t:=[b,p,q]) W .(c) W (Zw (Ï (cL (k:=4+4*(i:aj)) (m:=if 4<h then 4 else h) W (aA W (aA W W iF) W) W .(c) .(c) .(c) λg0 g1=>fV #[_,W,W,?_])));let⟨Â,e1,e2,e3,e4⟩:=ED (A:=ye bs) (af:=λn=>1<=n/\n<=h) nd al #[b,p,q,W,m1,Hc p hp,Hc q hq] (show 1<=1+Æ c (4+4*(i:aj)) (if 4<h then 4 else h)/\_<=h from#[by ext,by ext]);rw[e1];show#[Â,_,_,W,by ext,e2,e3]
 .rintro Y ⟨es,x,y,rfl,hl,nd,al⟩;let ς:es.length<=11:=by simp at hl;ext
  show#[W,fP (Y:=[oS (.int c),oS (.lst (bs.map cb)),oS (.int h),oS (.lst (kd4.map D.str)),oS (.dt (û es)),x,y]) (aI (Cc (λn=>n) W .(c) (λe he=>?_) W λe he=>?_) #[_,W,es,W,ς,nd,al])]
  .obtain⟨⟨b,p,q,e0,_⟩,_⟩:=al e he;rw[e0];show#[by simp,by simp]
  .refine aA W W ?_;show((fg (e.1.map D.str)).map (bc (û es))).bind id=_;rw[mC,qf,Ga nd he];rfl
noncomputable def en:ag->Z D->Z D
 |_,[]=>[]
 |s,x::r=>.tup [.int s,x]::en (s+1) r
def SH:∀(xs:Z D)(s:ag),xs.mapIdx (λi d=>D.tup [.int ((s+i:ag):aj),d])=en s xs:=by
 intro Y7
 induction Y7 with
 |nil=>
  intro _;show W
 |cons x r ih=>
  intro s;rw[List.mapIdx_cons];show _::_=_::en (s+1) r;rw[<-ih (s+1)]
  congr 1
  congr 1
  funext i d
  rw[show s+(i+1)=s+1+i by ext]
def en0(xs:Z D):(xs.mapIdx λi d=>D.tup [.int (i:aj),d])=en 0 xs:=by
 rw[<-SH xs 0]
 congr 1
 funext i d
 rw[nV]
def E4{fe:FE}{ft:FT}{r:bB}{v:ag->aj}(hv:∀i,1<=v i/\v i<=3)(h1:∀(i:ag)s,∃b,ft (oS (.int i)::oS (bN s)::r)=U b)(h2:∀(i:ag)s,fe (oS (.int i)::oS (bN s)::r)=U (dW (s.nm,v i))):∀(ss:Z YM)(k:ag)(a b:au Slot),∃am:Z (ai×aj),ca .(l) ft fe (en k (ss.map bN)) (a::b::r)=U (am.map dW)/\(am.map (·.1)).Sublist (ss.map (·.nm))/\∀w∈am,1<=w.2/\w.2<=3
 |[],k,a,b=>#[[],W,XU _,λ_ z=>nomatch z]
 |s::ss,k,a,b=>by
  let⟨am,e,sb,g⟩:=E4 hv h1 h2 ss (k+1) (oS (.int k)) (oS (bN s));let⟨t,ht⟩:=h1 k s;let e1:ca .(l) ft fe (en k ((s::ss).map bN)) (a::b::r)=(ft (oS (.int k)::oS (bN s)::r)).bind λt=>if t=ah then (fe (oS (.int k)::oS (bN s)::r)).bind λd=>(ca .(l) ft fe (en (k+1) (ss.map bN)) (oS (.int k)::oS (bN s)::r)).map (d::·) else ca .(l) ft fe (en (k+1) (ss.map bN)) (oS (.int k)::oS (bN s)::r):=rfl
  rw[e1,ht,qc,e,h2,qc];cases t with
  |false=>show#[am,W,YG _ sb,g]
  |true=>show#[(s.nm,v k)::am,W,YH _ sb,λw hw=>(cm.mp hw).elim (λe=>by rw[e];show hv k) (g w)]
def E5{n:aj}{fi:FE}{P:D->Prop}(v:ag->aj)(hf:fi Y=U (.lst (ss.map bN)))(hs:ss.length<=40)(nd:(ss.map (·.nm)).Nodup)(hr:eY fv Y=B::B::r)(hv:∀i,1<=v i/\v i<=3)(h1:∀(i:ag)s,∃b,ft (oS (.int i)::oS (bN s)::r)=U b)(h2:∀(i:ag)s,fe (oS (.int i)::oS (bN s)::r)=U (dW (s.nm,v i)))(p:∀am,Λ (ss.map (·.nm)) am->P (.lst (am.map dW))):Wp (aQ (ba (itE fi) .(l) ft fe fv) Y) P:=by
 let⟨am,e,sb,g⟩:=E4 hv h1 h2 ss 0 B B;show#[.lst (am.map dW),?_,p am #[by let:=sb.length_le;simpa using this,λw hw=>#[sb.subset (qX hw),(g w hw).1,by let:=(g w hw).2;ext],sb.nodup nd]];let i0:itE fi Y=U (en 0 (ss.map bN)):=by unfold itE;rw[hf,<-en0];rfl
 let el:(en 0 (ss.map bN)).length<=aK:=by rw[<-en0,tq,qg];unfold aK;ext
 unfold aQ ba;rw[i0,qc,qY el,hr,e];rfl
noncomputable def sN2:Z ai:=["sa","sb"]
def Eo:(∀x∈sN2,bh x=ah)/\sN2.Nodup:=by decide +kernel
def J':∀{k:ag},k<2->∃x:ai,sN2[k]?=U x/\(YR (.str "ab") (.int (k:aj))).bind (λy=>aS (.str "s") y)=U (.str x)
 |0,_=>#["sa",W,W]
 |1,_=>#["sb",W,W]
 |n+2,h=>by ext
abbrev skE(c:aj)(ss:Z YM)(ks:Z Zi)(a b x y:au Slot):bB:=[oS (.int c),oS (.lst (ss.map bN)),U (.own (ks.map dQ)),a,b,x,y]
def Vo(c:aj)(hs:ss.length<=40)(nd:(ss.map (·.nm)).Nodup):Wp (Az [.int c,.lst (ss.map bN)]) λd=>∃ks:Z Zi,d=.lst (ks.map dQ)/\ks.length<=2/\(ks.map (·.nm)).Nodup/\∀k∈ks,ï (ss.map (·.nm)) k:=by
 show gB (n6 (dA (hV (λi Y=>i<=2/\∃(ks:Z Zi)(a b x y:au Slot),Y=skE c ss ks a b x y/\ks.map (·.nm)=sN2.take i/\∀k∈ks,ï (ss.map (·.nm)) k) (kf (bu (cL W W W .(b) .(b) .(b) λq0 q1=>cB #[_,W,q0,by ext,#[by decide,[],B,B,B,B,W,W,λ_ z=>nomatch z],?_,?_]))))))
 .rintro i x Y hx ⟨_,ks,a,b,x',y,rfl,hn,hg⟩;let⟨hi,rfl⟩:=j8 hx;let kl:ks.length<=2:=by let:=bP cM hn;rw[qg,qF] at this;ext
  let⟨nm,e1,e2⟩:=J' (k:=i) .(c);show aI W (bF (cL W W W .(c) .(c) .(b) λr0 r1=>?_));show bF (E5 (n:=0) (λi=>1+(i:aj)%3) W hs nd W (λi=>by ext) (λj s=>?_) (λj s=>?_) λtk gt=>?_)
  .obtain⟨e,_⟩:=cT c (k:=4+(i:aj)) (m:=7) .(c) .(c) .(b);show#[_,bi (aA (aN (ax W .(k)) e) W W)]
  .exact ii (aA W W cG) W
  show bF (E5 (n:=0) (λi=>1+(i:aj)%2) W hs nd W (λi=>by ext) (λj s=>?_) (λj s=>?_) λpt gp=>?_)
  .obtain⟨e,_⟩:=cT c (k:=8+(i:aj)) (m:=7) .(c) .(c) .(b);show#[_,bi (aA (aN (ax W .(k)) e) W W)]
  .exact ii (aA W W cG) W
  show vd (m:=dQ) (xs:=ks) W .(c) (iM (bu (aI (aA (y:=(YR (.str "ab") (.int (i:aj))).getD .non) (z:=.str nm) W ?_ ?_) (bu (cL (k:=12+(i:aj)) (m:=Æ c (1+(i:aj)) 9+1) W W W .(c) .(c) .(c) λf0 f1=>bu (bC W (bu (bC W (bu (bC W (cB #[by simp,#[nm,Æ c (12+(i:aj)) (Æ c (1+(i:aj)) 9+1),Æ c (1+(i:aj)) 9,tk,pt],W,W,by ext,_,_,_,_,_,W,?_,λk hk=>?_])))))))))))
  .rcases(show i=0\/i=1 by ext) with rfl|rfl<;>rfl
  .rw[<-e2];rcases(show i=0\/i=1 by ext) with rfl|rfl<;>rfl
  .rw[dU,hn,kY,e1];rfl
  .rcases cY.mp hk with hk|hk
   .exact hg k hk
   .rw[bM.mp hk];show#[Eo.1 nm (qR e1),#[f0,Int.le_of_lt_add_one f1],#[r0,by show Æ c (1+(i:aj)) 9<=_;ext],gt,gp]
 .rintro Y ⟨_,ks,a,b,x,y,rfl,hn,hg⟩;show#[W,mB (ds:=ks.map dQ) W (fP (bC W #[_,W,ks,W,?_,?_,hg]))]
  .let:=bP cM hn;rw[qg,qF] at this;ext
  .rw[hn];show pY (nG _ _) Eo.2
def jN3:Z ai:=["ja","jb","jc"]
def Cy:(∀x∈jN3,bh x=ah)/\jN3.Nodup:=by decide +kernel
def Ji:∀{k:ag},k<3->∃x:ai,jN3[k]?=U x/\(YR (.str "abc") (.int (k:aj))).bind (λy=>aS (.str "j") y)=U (.str x)
 |0,_=>#["ja",W,W]
 |1,_=>#["jb",W,W]
 |2,_=>#["jc",W,W]
 |n+3,h=>by ext
def grp(cs:Z aj)(j:ag):aj:=Æ (cs.getD (j%cs.length) 0) 12 4
def mem(cs:Z aj)(ss:Z YM)(k n s:ag):Z ai:=((BE s n).filter λj=>decide (grp cs j=k)).map (ť ss)
def S'(h:j<ss.length){g:FE}(hf:f Y=U (.lst (ss.map bN)))(hg:g Y=U (.int (j:aj))):b2 YR (b2 YR f g) .(e) Y=U (.str (ť ss j)):=by let⟨_,e,rfl⟩:=xF hf (aI hg #[j,rfl,by ext,by ext,by rw[fA]]);show e
def QP(hc:0<cs.length)(j:ag){g:FE}(hf:f Y=U (.lst (cs.map D.int)))(hg:g Y=U (.int (j:aj))):b2 YR f (b2 e6 g (cF b8 (J f aq))) Y=U (.int (cs.getD (j%cs.length) 0)):=by
 let hj:j%cs.length<cs.length:=wq _ hc;show aA (y:=.int ((j%cs.length:ag):aj)) hf (aA (y:=.int cs.length) hg (aN (ax hf aC) ?_) ?_) ?_
 .show U (D.int (cs.map D.int).length)=_;rw[qg]
 .show(if (0:aj)<cs.length then U (D.int ((j:aj)%cs.length)) else B)=_;rw[qY .(c)];rfl
 .rw[ixL,qm,pV,qE hj];rfl
def lI{x:D}{xs:Z D}{a:au Slot}{b:aJ}(ht:ft (oS x::r)=U b):ca (aB 0) ft fe (x::xs) (a::r)=if b=ah then (fe (oS x::r)).bind λd=>(ca (aB 0) ft fe xs (oS x::r)).map (d::·) else ca (aB 0) ft fe xs (oS x::r):=by show((ft (oS x::r)).bind λt=>if t=ah then (fe (oS x::r)).bind λd=>(ca (aB 0) ft fe xs (oS x::r)).map (d::·) else ca (aB 0) ft fe xs (oS x::r))=_;rw[ht,qc]
def Hd{cs:Z aj}{ss:Z YM}{k:ag}(hc:0<cs.length):∀(n s:ag)(a:au Slot),s+n<=ss.length->ca (aB 0) (YX (b2 Ε (cF bA (J (b2 YR (M 3) (b2 e6 (M 0) (cF b8 (J (M 3) aq)))) (J (vC (.int 12)) (J .(s) aq)))) (M 2))) (b2 YR (b2 YR (M 1) (M 0)) .(e)) ((BE s n).map λi:ag=>D.int (0+(i:aj))) [a,oS (.lst (ss.map bN)),oS (.int k),oS (.lst (cs.map D.int))]=U ((mem cs ss k n s).map D.str)
 |0,_,_,_=>rfl
 |n+1,s,a,h=>by
  let⟨e,_⟩:=cT (cs.getD (s%cs.length) 0) (k:=12) (m:=4) .(b) .(b) .(b);let ih:=Hd (k:=k) hc n (s+1) (oS (.int (0+(s:aj)))) (ss:=ss) .(c);let t:YX (b2 Ε (cF bA (J (b2 YR (M 3) (b2 e6 (M 0) (cF b8 (J (M 3) aq)))) (J (vC (.int 12)) (J .(s) aq)))) (M 2)) [oS (.int (0+(s:aj))),oS (.lst (ss.map bN)),oS (.int k),oS (.lst (cs.map D.int))]=U (decide (grp cs s=k)):=
   bi (aA (aN (ax (QP hc s W (by rw[BB];rfl)) .(k)) e) W W)
  let v:b2 YR (b2 YR (M 1) (M 0)) .(e) [oS (.int (0+(s:aj))),oS (.lst (ss.map bN)),oS (.int k),oS (.lst (cs.map D.int))]=U (.str (ť ss s)):=S' .(c) W (by rw[BB];rfl);rw[IN,qp,lI t,v,ih];unfold mem;rw[IN,kR];cases decide (grp cs s=k)<;>rfl
def Hb(cs:Z aj)(ss:Z YM)(k:ag):(mem cs ss k ss.length 0).Sublist (ss.map (·.nm)):=by
 let e:ss.map (·.nm)=(BE 0 ss.length).map (ť ss):=by show XI (by simp) λi h1 h2=>?_;unfold ť;simp at h1;simp[h1]
 rw[e];show XV.map _
def GF{k:ag}(h:x∈mem cs ss k ss.length 0):∃j,j<ss.length/\x=ť ss j/\grp cs j=k:=by let⟨j,hj,rfl⟩:=bw.mp h;let⟨h1,h2⟩:=lW.mp hj;let:=List.mem_range'_1.mp h1;show#[j,by ext,W,fT h2]
structure StJ(cs:Z aj)(ss:Z YM)(h:aj)(i:ag)(js:Z Y8):Prop where
 nm:(js.map (·.nm)).Sublist (jN3.take i)
 nd:(js.flatMap (·.ms)).Nodup
 ms:∀x∈js.flatMap (·.ms),∃j,j<ss.length/\x=ť ss j/\grp cs j<i
 gd:∀j∈js,ĝ (ss.map (·.nm)) h j
 ln:js.length<=i
def Oj(nd:(ss.map (·.nm)).Nodup){a b:ag}(ha:a<ss.length)(C:b<ss.length)(h:ť ss a=ť ss b):a=b:=by unfold ť at h;rw[pV,pV,qE (by simpa using ha),qE (by simpa using C)] at h;show(Hs nd).mp h
def StJ.add(st:StJ cs ss h i js)(nd:(ss.map (·.nm)).Nodup){j:Y8}(hn:jN3[i]?=U j.nm)(pm:j.ms.Perm (mem cs ss i ss.length 0))(he:0<=j.ea/\j.ea<=h)(hd:0<=j.du/\j.du<=h)(h1:j.ms≠[]):StJ cs ss h (i+1) (js++[j]):=by
 let sb:=Hb cs ss i;show#[?_,?_,λx hx=>?_,λy hy=>?_,by let:=st.ln;rw[ql];show Nat.succ_le_succ this]
 .rw[dU,kY,hn];show st.nm.append (XU _)
 .rw[IL];show mv.mpr #[st.nd,?_,λx hx y hy e=>?_]
  .simp only[tP,IP,iS];show pm.nodup_iff.mpr (sb.nodup nd)
  .obtain⟨a,ha,e1,g1⟩:=st.ms x hx;simp only[tP,IP,iS] at hy;let⟨b,C,e2,g2⟩:=GF (pm.subset hy);let:=Oj nd ha C (by rw[<-e1,<-e2,e]);subst this;ext
 .rw[IL] at hx;rcases cY.mp hx with hx|hx
  .obtain⟨a,ha,e1,g1⟩:=st.ms x hx;show#[a,ha,e1,by ext]
  .simp only[tP,IP,iS] at hx;let⟨b,C,e2,g2⟩:=GF (pm.subset hx);show#[b,C,e2,by ext]
 .rcases cY.mp hy with hy|hy
  .exact st.gd y hy
  .rw[bM.mp hy];show#[Cy.1 _ (qR hn),he,hd,XH.mpr h1,by rw[pm.length_eq];show sb.length_le,λm hm=>sb.subset (pm.subset hm)]
def StJ.skip(st:StJ cs ss h i js):StJ cs ss h (i+1) js:=
 #[st.nm.trans (List.take_sublist_take_left .(c)),st.nd,λx hx=>by let⟨a,ha,e1,g1⟩:=st.ms x hx;show#[a,ha,e1,by ext],st.gd,by let:=st.ln;ext]
abbrev jbE(c:aj)(cs:Z aj)(ss:Z YM)(h:aj)(js:Z Y8)(a b x y:au Slot):bB:=[oS (.int c),oS (.lst (cs.map D.int)),oS (.lst (ss.map bN)),oS (.int h),U (.own (js.map bq)),a,b,x,y]
def MK(c:aj)(hc:0<cs.length)(hh:1<=h/\h<=1000000)(hs:ss.length<=40)(nd:(ss.map (·.nm)).Nodup)(nb:∀x∈ss.map (·.nm),bh x=ah):Wp (v7 [.int c,.lst (cs.map D.int),.lst (ss.map bN),.int h]) λd=>∃js:Z Y8,d=.lst (js.map bq)/\js.length<=3/\(js.map (·.nm)).Nodup/\(js.flatMap (·.ms)).Nodup/\∀j∈js,ĝ (ss.map (·.nm)) h j:=by
 show gB (n6 (dA (hV (λi Y=>∃(js:Z Y8)(a b x y:au Slot),Y=jbE c cs ss h js a b x y/\StJ cs ss h i js) (kf (bu (Ï (cB #[3,W,by decide,by decide,#[[],B,B,B,B,W,List.nil_sublist _,iU,(λ_ z=>nomatch z),(λ_ z=>nomatch z),qx _],?_,?_])))))))
 .rintro i x Y hx ⟨js,a,b,x',y,rfl,st⟩;let⟨hi,rfl⟩:=j8 hx;let⟨nm,e1,e2⟩:=Ji hi;show aI W (bF (aI (a:=.lst ((mem cs ss i ss.length 0).map D.str)) ?_ ?_))
  .unfold aQ ba;rw[zq (ax (aN (ax W aC) (by show U (D.int (ss.map bN).length)=_;rw[qg])) aC) (zC #[by ext,by ext]),qc,qY (by rw[qg,qW];unfold aK;ext),fA,XS];show bP (ti D.lst) (Hd hc ss.length 0 B .(c))
  show Eh (λY=>∃ms:Z ai,Y=jbE c cs ss h js (oS (.int i)) (oS (.lst (ms.map D.str))) x' y/\ms.Perm (mem cs ss i ss.length 0)) ?_ (fB (jT (Zw (cL W W W .(c) .(c) .(b) λ_ _=>Ï (u5 λb _=>#[b,W,λ_=>?_,λ_=>?_])))))
  rotate_left
  .exact jb (w_1 (bC W (aI (by rw[List.map_reverse];rfl) (.inl #[W,_,W,List.reverse_perm _]))))
  .exact il (.inl #[W,_,W,XB _])
  .rintro _ ⟨ms,rfl,pm⟩;let mb:∀x∈ms,bh x=ah:=λx hx=>nb x ((Hb cs ss i).subset (pm.subset hx));show bF (zS W (aA W (aA W W iF) W) (aA W W W) .(c) .(c) .(c) λea ea0 ea1=>?_);let Zz:∀du:aj,0<=du->du<=h->Wp ((ZG (YX (b2 ĵ (M 6) (aQ (ZA aq)))) (gI 4 (bo (ZA (J (b2 aS (vC (.str "j")) (b2 YR (vC (.str "abc")) (M 5))) (J (M 7) (J (M 8) (J (b2 î (cF bA (J (M 0) (J (b2 aS (vC (.int 44)) (M 5)) (J .(af) aq)))) .(e)) (J (M 6) aq)))))))) aV) (jbE c cs ss h js (oS (.int i)) (oS (.lst (ms.map D.str))) (oS (.int ea)) (oS (.int du)))) λr=>r.1=.nx/\∃(js:Z Y8)(a b x y:au Slot),r.2=jbE c cs ss h js a b x y/\StJ cs ss h (i+1) js:=by
    intro du d0 d1;show fB (jT (Zw (bC W (aI W (aI (RC mb) #[_,W,λhm=>?_,λ_=>il #[W,js,_,_,_,_,W,st.skip]])))));let hm:ms≠[]:=by intro z;rw[z] at hm;simp at hm
    let jl:=st.ln;show vd W .(c) (iM (bu (aI (aA (y:=(YR (.str "abc") (.int (i:aj))).getD .non) (z:=.str nm) W ?_ ?_) (bu (bC W (bu (bC W (bu (Zw (cL W W W .(c) .(c) .(b) λ_ _=>Ï (u5 λod _=>bu (bC W (cB #[by simp,#[nm,ea,du,od,ms],W,W,_,_,_,_,_,W,st.add nd e1 pm #[ea0,by show ea<=h;ext] #[d0,d1] hm])))))))))))))
    .rcases(show i=0\/i=1\/i=2 by ext) with rfl|rfl|rfl<;>rfl
    .rw[<-e2];rcases(show i=0\/i=1\/i=2 by ext) with rfl|rfl|rfl<;>rfl
   show bF (Zw (xj (bu (bC W (bu (cL (k:=37+(i:aj)) (m:=h+1) W W W .(c) .(c) .(c) λd0 d1=>cB #[by simp,?_]))))));show Zw (cL (k:=40+(i:aj)) (m:=3) W W W .(c) .(c) .(b) λq0 q1=>Ï (sE .(b) (oz .(c) (by simp;ext) (uX (Zz h .(c) (IJ _)) (Zz _ d0 .(c))))))
 .rintro Y ⟨js,a,b,x,y,rfl,st⟩;show#[W,mB (ds:=js.map bq) W (fP (bC W #[_,W,js,W,st.ln,pY (st.nm.trans (nG _ _)) Cy.2,st.nd,st.gd]))]
noncomputable def bN8:Z ai:=["bea","beb","bec","bed","bee","bef","beg","beh"]
def GO:(∀x∈bN8,bh x=ah)/\bN8.Nodup:=by decide +kernel
def Uv:∀{k:ag},k<8->∃x:ai,bN8[k]?=U x/\∃y,YR (.str "abcdefgh") (.int (k:aj))=U y/\aS (.str "be") y=U (.str x)
 |0,_=>#[_,W,_,W,W]
 |1,_=>#[_,W,_,W,W]
 |2,_=>#[_,W,_,W,W]
 |3,_=>#[_,W,_,W,W]
 |4,_=>#[_,W,_,W,W]
 |5,_=>#[_,W,_,W,W]
 |6,_=>#[_,W,_,W,W]
 |7,_=>#[_,W,_,W,W]
 |n+8,h=>by ext
def FZ(ns:Z aj):(df ns (U 4) (U 10)).length=min (ns.length-4) 6:=by show(nS (min 10 ns.length-min 4 ns.length) (IC (min 4 ns.length) ns)).length=_;rw[qF,iu];ext
abbrev liE(ns:Z aj)(h c:aj)(cs:Z aj)(m:ag)(b:au Slot)(r:bB):bB:=oS (.scr ns)::oS (.int 6)::oS (.int h)::oS (.int c)::oS (.lst (cs.map D.int))::oS (.int m)::b::r
def JM{nm:α->ai}{xs:Z α}(hl:xs.length=ns.length)(h:∀(i:ag)x,xs[i]?=U x->ns[i]?=U (nm x)):xs.map nm=ns:=by
 show WD λi=>?_;rw[qm];cases e:xs[i]? with
 |none=>
  let:=List.getElem?_eq_none_iff.mp e;rw[wE .(c)];rfl
 |some x=>rw[h i x e];rfl
def Q7(ns:Z aj)(hns:ns.length<=63)(hh:1<=h/\h<=1000000):Wp (xn [.scr ns,.int 6,.int h]) λd=>∃(bs:Z YU)(ss:Z YM)(js:Z Y8)(E:Z ac)(ls:Z Zc)(ks:Z Zi),d=cr bs ss js E ls ks h/\Y9 bs ss js E ls ks h/\ss.length<=12/\js.length<=3:=by
 show gB (bF (mT W λc=>?_));show bF (Zw (aI (rE (z:=.lst ((df ns (U 4) (U 10)).map D.int)) W W W W) (xj (bu (mT W λc3=>cB #[by simp,aI (GC (y:=[c3]) (by rw[FZ];simp;ext)) ?_])))));obtain⟨cs,hcs⟩:∃cs,cs=df ns (U 4) (U 10)++[c3]:=#[_,rfl];let csl:cs.length=min (ns.length-4) 6+1:=by rw[hcs,ql,FZ];rfl
 rw[<-hcs];clear hcs;obtain⟨m,hm⟩:∃m:ag,m=min (max 1 (ns.length-4)) 6:=#[_,rfl];show bF (aI (a:=.int m) (aN (ax (aN (z:=.int (max 1 (ns.length-4):ag)) (ax W (ax (aA (aN W W) W W) aC)) ?_) (ax W aC)) ?_) ?_)
 .show U (D.int (if (ns.length:aj)-4 > 1 then (ns.length:aj)-4 else 1))=_
  congr 2
  split<;>ext
 .show U (D.int (if (6:aj)<(max 1 (ns.length-4):ag) then 6 else (max 1 (ns.length-4):ag)))=_
  congr 2
  split<;>ext
 let m12:1<=m/\m<=6:=by ext
 let mc:m<=cs.length:=by ext
 clear hm;let e2:=cT c (k:=0) (m:=2) .(b) .(b) .(b);let e3:=cT c (k:=0) (m:=3) .(b) .(b) .(b);let e8:=cT c (k:=0) (m:=8) .(b) .(b) .(b);let many:Wp (b2 aS .(f) (cF bA (J (M 3) (J .(e) (J (b2 YR (aQ (ZA (J .(af) (J .(x) (J (vC (.int 8)) aq))))) (cF bA (J (M 3) (J .(f) (J .(x) aq))))) aq)))) (liE ns h c cs m (U (.own [])) [B,B,B,B,B,B])) λd=>∃n:ag,d=.int n/\1<=n/\n<=8:=by
  show Zw (Ï (g8 (bu (bC W (bu (Ï (bu (Zw (aI (a:=.lst [.int 2,.int 3,.int 8]) W (cL (k:=1) (m:=3) W W W .(b) .(b) .(b) λq0 q1=>oz q0 q1 (Nx ?_ ?_ ?_)))))))))))
  .exact cB (aI e2.1 (fV #[(1+Æ c 0 2).toNat,by congr 1;ext,by ext,by ext]))
  .exact cB (aI e3.1 (fV #[(1+Æ c 0 3).toNat,by congr 1;ext,by ext,by ext]))
  .exact cB (aI e8.1 (fV #[(1+Æ c 0 8).toNat,by congr 1;ext,by ext,by ext]))
 let⟨_,enb,nb,rfl,n1,n8⟩:=many;show n6 (dA (hV (λi Y=>i<=8/\∃(bs:Z YU)(k:au Slot),Y=liE ns h c cs m (U (.own (bs.map cb))) [k,B,B,B,B,B]/\bs.map (·.nm)=bN8.take i/\∀b∈bs,ŝ h b) (kf (bu (aI enb (cB #[nb,W,by ext,by ext,#[by decide,[],B,W,W,λ_ z=>nomatch z],?_,?_]))))))
 .rintro i x Y hx ⟨_,bs,k,rfl,hn,hg⟩;let⟨hi,rfl⟩:=j8 hx;let hi:i<8:=by ext
  let bl:bs.length=i:=by let:=bP cM hn;rw[qg,qF] at this;let:bN8.length=8:=rfl;ext
  let⟨nm,e1,y,e2,e3⟩:=Uv hi;show aI W (vd (m:=cb) (xs:=bs) W .(c) (iM (bu (aI (aA W (aA W W e2) e3) (bu (g8 (bu (Zw (mT (k:=1) W λc1=>aI (aA W W iF) (fV (bu (Ï (bu (bC W (cB ((Lg (c1+2*(i:aj)) (h:=h) .(c)).imp λd #[br,e,bl2,f,gi]=>?_))))))))))))))));subst e;show cB #[by simp,#[nm,br],W,W,by ext,_,_,W,?_,λb C=>?_]
  .rw[dU,hn,kY,e1];rfl
  .rcases cY.mp C with C|C
   .exact hg b C
   .rw[bM.mp C];show#[GO.1 nm (qR e1),by show br.length<=10;ext,λp hp=>by let:=gi.iv p hp;show#[this.1,this.2.1,this.2.2.1],gi.gap]
 .rintro Y ⟨_,bs,k,rfl,hn,hg⟩;rw[qg,qW,fA] at hn;let bl:bs.length=nb:=by let:=bP cM hn;rw[qg,qF] at this;let:bN8.length=8:=rfl;ext
  let bdn:(bs.map (·.nm)).Nodup:=by rw[hn];show pY (nG _ _) GO.2
  clear hn;show#[W,bF (g8 (bu (mT (k:=2) W λc2=>bu (bC W (cB ((QN c2 (qO m12.2 .(b))).imp λd #[sn,e,sl,snd,snb]=>?_)))))) ];subst e;show mB (ds:=bs.map cb) W ?_;show bF (Gp (m:=bN) (n:=m) (λi s=>sn[i]?=U s.nm/\Ĝ (bs.map (·.nm)) h s) #[_,ax W aC,W] .(c) W (λi hi=>?_) λss ssl ssq=>?_)
  .let e1:b2 YR (M 3) (M 0) [oS (.int (i:aj)),oS (.lst (bs.map cb)),oS (.int h),oS (.lst (cs.map D.int)),oS (.lst (sn.map D.str))]=U (.int (cs[i]'.(c))):=aA W W (by rw[ixL,qm,qE .(c)];rfl);let e2:b2 YR (M 4) (M 0) [oS (.int (i:aj)),oS (.lst (bs.map cb)),oS (.int h),oS (.lst (cs.map D.int)),oS (.lst (sn.map D.str))]=U (.str (sn[i]'.(c))):=aA W W (by rw[ixL,qm,qE .(c)];rfl);show g8 (bu (aI e1 (bu (aI e2 (bu (bC W (bu (bC W (cB ((RU _ (snb _ (nP _)) .(c) bdn hh.1).imp λd #[s,e,en,gs]=>#[s,e,by rw[en,qE .(c)],gs]))))))))))
  let hsn:ss.map (·.nm)=sn:=JM .(c) λi x hx=>(ssq i x hx).1;let gss:∀s∈ss,Ĝ (bs.map (·.nm)) h s:=λs hs=>by let⟨i,hi⟩:=II hs;show(ssq i s hi).2
  let sdn:(ss.map (·.nm)).Nodup:=by rw[hsn];show snd
  let snb':∀x∈ss.map (·.nm),bh x=ah:=by rw[hsn];show snb
  show bF (g8 (bu (bC W (bu (Ï (bu (bC W (cB ((Kb c (ss:=ss) .(c)).imp λd #[es,e,el,end',eg]=>?_)))))))));subst e;show bF (g8 (bu (mT (k:=3) W λc3=>bu (bC W (bu (bC W (cB ((Qo c3 (bs:=bs) hh.1 .(c)).imp λd #[eu,e,ul,und,ug]=>?_))))))));subst e;show bF (aI (Cc (es:=es) (λn=>if h<n then h else n) W .(c) (λe he=>?_) W λe he=>?_) ?_)
  .obtain⟨⟨a,b,e0,_⟩,_⟩:=eg e he;rw[e0];show#[by simp,by simp]
  .refine aN (ax (aA (z:=.int e.2) W W ?_) (ax W aC)) W;show((fg (e.1.map D.str)).map (bc (û es))).bind id=_;rw[mC,qf,Ga end' he];rfl
  obtain⟨ls,els⟩:∃ls:Z Zc,ls=es.map λe=>#[e.1.getD 0 "",e.1.getD 1 "",if h<e.2 then h else e.2]:=#[_,W];obtain⟨E,eus⟩:∃E:Z ac,E=eu.map λe=>#[e.1.getD 0 "",e.1.getD 1 "",e.1.getD 2 "",e.2]:=#[_,W];let l1:(es.map λe=>D.tup (e.1.map D.str++[.int (if h<e.2 then h else e.2)]))=ls.map dY:=by rw[els,qq];show gf λe he=>?_;let⟨⟨a,b,e0,_⟩,_⟩:=eg e he;rw[e0];show _=dY #[e.1.getD 0 "",e.1.getD 1 "",_];rw[e0];rfl
  let u1:(eu.map λe=>D.tup (e.1.map D.str++[.int e.2]))=E.map eA:=by rw[eus,qq];show gf λe he=>?_;let⟨⟨a,b,q,e0,_⟩,_⟩:=ug e he;rw[e0];show _=eA #[e.1.getD 0 "",e.1.getD 1 "",e.1.getD 2 "",_];rw[e0];rfl
  let l2:(ls.map λl=>[l.a,l.b])=es.map (·.1):=by rw[els,qq];show gf λe he=>?_;let⟨⟨a,b,e0,_⟩,_⟩:=eg e he;show[e.1.getD 0 "",e.1.getD 1 ""]=e.1;rw[e0];rfl
  let u2:(E.map λu=>[u.b,u.p,u.q])=eu.map (·.1):=by rw[eus,qq];show gf λe he=>?_;let⟨⟨a,b,q,e0,_⟩,_⟩:=ug e he;show[e.1.getD 0 "",e.1.getD 1 "",e.1.getD 2 ""]=e.1;rw[e0];rfl
  let l3:∀l∈ls,Κ (ss.map (·.nm)) h l:=λl hl=>by rw[els] at hl;let⟨e,he,rfl⟩:=bw.mp hl;let⟨⟨a,b,e0,h1,h2,h3⟩,h4,h5⟩:=eg e he;rw[e0];show#[h1,h2,h3,?_];show 0<=(if h<e.2 then h else e.2)/\(if h<e.2 then h else e.2)<=h;split<;>ext
  let u3:∀u∈E,Ι (bs.map (·.nm)) h u:=λu hu=>by rw[eus] at hu;let⟨e,he,rfl⟩:=bw.mp hu;let⟨⟨a,b,q,e0,h1,h2,h3⟩,h4⟩:=ug e he;rw[e0];show#[h1,h2,h3,h4]
  let l4:ls.length<=5:=by rw[els,qg];show el
  let u4:E.length<=11:=by rw[eus,qg];show ul
  rw[l1,u1];rw[<-l2] at end';rw[<-u2] at und;clear l1 u1 els eus l2 u2 eg ug;let gok:∀js ks,js.length<=3->(js.map (·.nm)).Nodup->(js.flatMap (·.ms)).Nodup->(∀j∈js,ĝ (ss.map (·.nm)) h j)->ks.length<=2->(ks.map (·.nm)).Nodup->(∀k∈ks,ï (ss.map (·.nm)) k)->Y9 bs ss js E ls ks h:=λjs ks h1 h2 h3 h4 h5 h6 h7=>
   #[hh,by ext,hg,bdn,by ext,gss,sdn,by ext,h4,h2,h3,by ext,u3,und,by ext,l3,end',by ext,h7,h6]
  let Zz:∀ks:Z Zi,ks.length<=2->(ks.map (·.nm)).Nodup->(∀k∈ks,ï (ss.map (·.nm)) k)->Wp ((aF (bo (ZA (J (M 6) (J (M 9) (J (cF v7 (J (M 3) (J (M 4) (J (M 9) .(hb))))) (J (M 11) (J (M 10) (J (M 12) .(hb)))))))))) (liE ns h c cs m (oS (.lst (bs.map cb))) [k,oS (.lst (sn.map D.str)),oS (.lst (ss.map bN)),oS (.lst (ls.map dY)),oS (.lst (E.map eA)),oS (.lst (ks.map dQ))])) λr=>∃d,r.1=.rt d/\∃(bs:Z YU)(ss:Z YM)(js:Z Y8)(E:Z ac)(ls:Z Zc)(ks:Z Zi),d=cr bs ss js E ls ks h/\Y9 bs ss js E ls ks h/\ss.length<=12/\js.length<=3:=by intro ks k1 k2 k3;show fP (iM (bu (bC W (bu (bC W (bu (g8 (bu (bC W (bu (bC W (bu (bC W (bu (bC W (cB ((MK c (cs:=cs) (ss:=ss) .(c) hh .(c) sdn snb').imp λd #[js,e,j1,j2,j3,j4]=>?_)))))))))))))))));subst e;show bu (bC W (bu (bC W (bu (bC W (bu (bC W (cB #[by simp,_,W,bs,ss,js,E,ls,ks,W,gok js ks j1 j2 j3 j4 k1 k2 k3,by ext,j1]))))))))
  show bF (aI (a:=.lst (([]:Z Zi).map dQ)) W (dA (fB (jT (Zw (cL (k:=70) (m:=3) W W W .(b) .(b) .(b) λ_ _=>Ï (u5 λb _=>#[b,W,λ_=>?_,λ_=>il #[W,Zz [] (by simp) iU λ_ z=>nomatch z]])))))));show jb (g8 (bu (mT (k:=1) W λc1=>bu (bC W (cB ((Vo c1 (ss:=ss) .(c) sdn).imp λd #[ks,e,k1,k2,k3]=>?_))))));subst e;show#[W,Zz ks k1 k2 k3]
section
variable{f:α->D}{l:Z (ai×α)}{k j:ai}{v:α}
noncomputable def tb(f:α->D)(l:Z (ai×α)):Z (YQ×D):=l.map λq=>(.inr q.1,f q.2)
noncomputable def lk(l:Z (ai×α))(k:ai):au α:=(l.find? λq=>decide (q.1=k)).map (·.2)
noncomputable def pt(l:Z (ai×α))(k:ai)(v:α):Z (ai×α):=if (l.any λq=>decide (q.1=k))=ah then l.map (λq=>if q.1=k then (q.1,v) else q) else l++[(k,v)]
def Ff(a b:ai):decide ((bS a:YQ)=bS b)=decide (a=b):=by
 by_cases h:a=b
 .rw[h];simp
 .rw[qP h,qP λz=>h (iq z)]
def iI(f:α->D)(k:ai):∀l:Z (ai×α),bc (tb f l) (.inr k)=(lk l k).map f:=by
 intro Y7
 induction Y7 with
 |nil=>
  show W
 |cons x0 l ih=>
  let⟨a,v⟩:=x0;unfold bc lk at ih ⊢;unfold tb at ih ⊢;rw[qp,eX,eX,Ff];by_cases h:a=k
  .rw[qU h];rfl
  .rw[qP h];show ih
def ly(a:ai)(v:α)(l:Z (ai×α))(k:ai):lk ((a,v)::l) k=if a=k then U v else lk l k:=by
 unfold lk;rw[eX];by_cases h:a=k
 .rw[qU h,qY h];rfl
 .rw[qP h,qZ h]
def vz:∀{l:Z (ai×α)},lk l k=B↔k∉l.map (·.1):=by
 intro Y7
 induction Y7 with
 |nil=>
  simp[lk]
 |cons x0 l ih=>
  let⟨a,v⟩:=x0;rw[ly,qp,qN];by_cases h:a=k
  .subst h;simp
  .rw[qZ h,ih];constructor
   .rintro q (z|z)
    .exact h z.symm
    .exact q z
   .exact λq z=>q (.inr z)
def jx:∀{l:Z (ai×α)},lk l k=U v->(k,v)∈l:=by
 intro Y7
 induction Y7 with
 |nil=>
  intro h;cases h
 |cons x0 l ih=>
  let⟨a,w⟩:=x0;intro h;rw[ly] at h;split at h
  .rename_i e;cases h;subst e;show .head _
  .exact .tail _ (ih h)
def uA:∀{l:Z (ai×α)},(l.map (·.1)).Nodup->(k,v)∈l->lk l k=U v
 |(a,w)::l,nd,h=>by
  rw[qp,eG] at nd;rw[ly];rcases cm.mp h with e|h
  .cases e;show qY W
  .rw[qZ λz=>nd.1 (bw.mpr #[_,h,z.symm])];show uA nd.2 h
def SD(l m:Z (ai×α))(k:ai):lk (l++m) k=(lk l k).or (lk m k):=by unfold lk;rw[XR];cases l.find? λq=>decide (q.1=k)<;>rfl
def ur:(l.any λq=>decide (q.1=k))=ah↔k∈l.map (·.1):=by
 rw[mf,bw];constructor
 .rintro⟨q,h1,h2⟩;show#[q,h1,fT h2]
 .rintro⟨q,h1,h2⟩;show#[q,h1,qU h2]
def S9(k:ai)(v:α)(j:ai):∀l:Z (ai×α),lk (l.map λq=>if q.1=k then (q.1,v) else q) j=if j=k then (lk l j).map λ_=>v else lk l j:=by
 intro Y7
 induction Y7 with
 |nil=>
  simp[lk]
 |cons x0 l ih=>
  let⟨a,w⟩:=x0;rw[qp];by_cases h:a=k
  .rw[qY h,ly,ly,ih];by_cases h2:a=j
   .rw[qY h2,qY h2,qY (h2.symm.trans h)];rfl
   .rw[qZ h2,qZ h2]
  .rw[qZ h,ly,ly,ih];by_cases h2:a=j
   .rw[qY h2,qY h2,qZ λz=>h (h2.trans z)]
   .rw[qZ h2,qZ h2]
def wm:lk (pt l k v) j=if j=k then U v else lk l j:=by
 unfold pt;split
 .rename_i h;rw[S9];by_cases e:j=k
  .subst e;rw[qY W,qY W];cases q:lk l j with
   |none=>show bH (ur.mp h) (vz.mp q)
   |some w=>rfl
  .rw[qZ e,qZ e]
 .rename_i h;rw[SD,ly];by_cases e:j=k
  .subst e;rw[qY W,qY W,vz.mpr λz=>h (ur.mpr z)];rfl
  .rw[qZ e,qZ (dj e)];cases lk l j<;>rfl
def GV(k:ai)(v:α)(l:Z (ai×α)):(l.map λq=>if q.1=k then (q.1,v) else q).map (·.1)=l.map (·.1):=by rw[qq];show gf λq _=>?_;show(if q.1=k then (q.1,v) else q).1=q.1;split<;>rfl
def Kr(nd:(l.map (·.1)).Nodup):((pt l k v).map (·.1)).Nodup:=by
 unfold pt;split
 .rw[GV];show nd
 .rename_i h;rw[dU,mv];show#[nd,by simp,λa ha b C e=>h (ur.mpr ?_)];let e2:b=k:=by simpa using C
  rw[<-e2,<-e];show ha
def ou:(pt l k v).length<=l.length+1:=by
 unfold pt;split
 .rw[qg];show kO _
 .rw[ql];show qx _
def sq(f:α->D)(l:Z (ai×α))(k:ai)(v:α):bW (tb f l) (.inr k) (f v)=tb f (pt l k v):=by
 let e:((tb f l).any λkv=>decide (kv.1=.inr k))=l.any λq=>decide (q.1=k):=by
  unfold tb;rw[List.any_map]
  congr 1
  funext q
  show Ff _ _
 unfold bW pt;rw[e];split
 .unfold tb;rw[qq,qq];show gf λq _=>?_;show(if (bS q.1:YQ)=.inr k then _ else _)=((.inr (if q.1=k then (q.1,v) else q).1:YQ),f (if q.1=k then (q.1,v) else q).2);by_cases h:q.1=k
  .rw[qY h,qY (bP bS h)]
  .rw[qZ h,qZ λz=>h (iq z)]
 .unfold tb;rw[dU];rfl
end
def Av{l:Z (ai×α)}{k:ai}{v:α}{q:ai×α}(h:q∈pt l k v):q=(k,v)\/q∈l:=by
 unfold pt at h;split at h
 .obtain⟨x,hx,e⟩:=bw.mp h;split at e
  .rename_i z;rw[<-e,z];show .inl W
  .rw[<-e];show .inr hx
 .rcases cY.mp h with z|z
  .exact .inr z
  .exact .inl (bM.mp z)
def uO{YL:Z (YQ×D)}{k:ai}{fv:FE}(hs:Y[i]?=U (U (.odk YL)))(hl:YL.length<100000)(hk:fk Y=U (.str k))(hv:fv Y=U d)(p:R (.nx,Y.set i (U (.odk (bW YL (.inr k) d))))):Wp (dH i fk fv Y) R:=by unfold dH;rw[hv,qc,hk,qc,hs];show Wp (if YL.length<100000 then _ else _) R;rw[qY hl];show#[_,W,p]
def vF{m:α->D}{xs:Z α}{n:aj}(h0:0<=n)(h1:n<xs.length):∃x∈xs,YR (.lst (xs.map m)) (.int n)=U (m x):=by
 let⟨k,rfl⟩:=pZ h0;let hk:k<xs.length:=by ext
 show#[xs[k],nP hk,?_];rw[ixL,qm,qE hk];rfl
def U1:∀(own:Z (ai×aj))(a b:au Slot),ca .(l) tT (M 0) (own.map dW) [a,b]=U ((own.map (·.1)).map D.str):=by
 intro Y7
 induction Y7 with
 |nil=>
  intro _ _;show W
 |cons p r ih=>
  intro a b;show(bP (ti λy=>D.str p.1::y) (ih (oS (.str p.1)) (oS (.int p.2)))).trans W
noncomputable abbrev ZB(q:ai×aj):D:=.tup [.str q.1,.int q.2]
abbrev bV:=Z (ai×ai×aj)
structure Zb(P:bV):Prop where
 nd:(P.map (·.1)).Nodup
 nb:∀q∈P,bh q.1=ah/\bh q.2.1=ah
def Zb.nil:Zb []:=#[iU,(λ_ z=>nomatch z)]
def Zb.pt{P:bV}(p:Zb P){k:ai}{v:ai×aj}(hk:bh k=ah)(hv:bh v.1=ah):Zb (pt P k v):=#[Kr p.nd,λq hq=>by
 rcases Av hq with rfl|hq
 .exact#[hk,hv]
 .exact p.nb q hq]
def Jw{q:ai×aj}(hq:bh q.1=ah):eqX (ZB q) (ZB q)=U ah:=by unfold eqX;rw[show Ö (ZB q)=U (.tuple [.str q.1,.int q.2]) by simp[ZB,Ö,gq],qc,qc,qY (by simp[fL,pW,nR,rf hq,pX,tQ])];simp[jv,mx]
def OU(P:bV)(C:∀q∈P,bh q.2.1=ah)(nd:(P.map (·.1)).Nodup):∀R:bV,(∀q∈R,q∈P)->my (tb ZB P) (tb ZB R)=U ah:=by
 intro Y7
 induction Y7 with
 |nil=>
  intro _;show W
 |cons q R ih=>
  intro hR;let ih:=ih λx hx=>hR x (.tail _ hx);let e:bc (tb ZB P) (.inr q.1)=U (ZB q.2):=by rw[iI,uA nd (hR q (.head _))];rfl
  show(match bc (tb ZB P) (.inr q.1) with
   |none=>U ar
   |some y=>(eqX (ZB q.2) y).bind λe=>(my (tb ZB P) (tb ZB R)).map (e && ·))=U ah
  rw[e];dsimp only;rw[Jw (C q (hR q (.head _))),ih];rfl
def ya{g:FG}(h1:f Y=U d)(h2:g d Y=U Y'):oM g f Y=U (.nx,Y'):=by unfold oM;rw[h1,qc,h2];rfl
def VO{m:α->D}{xs:Z α}(h1:1<=xs.length):∃x∈xs,YR (.lst (xs.map m)) (.int (-1))=U (m x):=by
 let hk:xs.length-1<xs.length:=by ext
 show#[xs[xs.length-1],nP hk,?_];show atI (xs.map m) (-1)=_;unfold atI ixN;rw[qZ .(b),qg,qY .(c),qc,show(-1+(xs.length:aj)).toNat=xs.length-1 by ext,qm,qE hk];rfl
def oO(m:α->D)(xs:Z α):b8 [.lst (xs.map m)]=U (.int xs.length):=by show U (D.int ((xs.map m).length:ag))=_;rw[qg]
def rH(f:α->D)(P:Z (ai×α)):(tb f P).length=P.length:=qg ..
def Tl(Rt:D->Prop)(ao:bB->Prop)(r:Fl×bB):Prop:=(r.1=.nx/\ao r.2)\/∃d,r.1=.rt d/\Rt d
def Rx(hb:Prop)(d:D):Prop:=(d=.non/\hb)\/∃l,d=.tup l
section
variable{xs:Z D}{ao K:bB->Prop}{b:aJ}
def fH(I:ag->bB->Prop)(hx:fi Y=U xs)(h0:I 0 Y)(hs:∀i x Y,xs[i]?=U x->I i Y->Wp (gg x Y) λY1=>Wp (body Y1) (Tl Rt (I (i+1)))):Wp (bT fi gg body Y) (Tl Rt (I xs.length)):=by
 let key:∀(ys:Z D)(k:ag)(Y:bB),xs.drop k=ys->k+ys.length=xs.length->I k Y->Wp (eB gg body ys Y) (Tl Rt (I xs.length)):=by
  intro ys
  induction ys with
  |nil=>exactλk Y _ e h=>#[_,W,.inl #[W,by rw[<-e];show h]]
  |cons x r ih=>
   intro k Y e el h;let ek:xs[k]?=U x:=by
    let:=bP List.head? e
    rwa [List.head?_drop] at this
   let⟨Y1,e1,⟨fl,Y2⟩,e2,h2⟩:=hs k x Y ek h;unfold eB;rw[e1,qc,e2,qc];rcases h2 with⟨z,h2⟩|⟨d,z,h2⟩
   .cases z;show ih (k+1) Y2 (by rw[<-List.tail_drop,e];rfl) (by rw[qj] at el;ext) h2
   .cases z;show#[_,W,.inr #[d,W,h2]]
 unfold bT;rw[hx];show key xs 0 Y W .(c) h0
def cy(h:Wp (g Y) (Tl Rt ao))(k:∀Y',ao Y'->Wp (g' Y') (Tl Rt K)):Wp (ay g g' Y) (Tl Rt K):=by
 let⟨⟨fl,Y'⟩,e,h⟩:=h;unfold ay;rw[e,qc];rcases h with⟨z,h⟩|⟨d,z,h⟩
 .cases z;show k _ h
 .cases z;show#[_,W,.inr #[d,W,h]]
def dS(h:ft Y=U b)(hf:b=ah->Wp (f Y) Rt)(hn:b=ar->ao Y):Wp (ZG ft (aF f) aV Y) (Tl Rt ao):=by
 unfold ZG;rw[h,qc];cases b with
 |true=>let⟨d,e,q⟩:=hf rfl;show#[(.rt d,Y),by rw[qY W];show bO e,.inr #[d,W,q]]
 |false=>show#[(.nx,Y),by rw[qZ qu];rfl,.inl #[W,hn W]]
def im(h:f Y=U d)(q:Rt d):Wp (aF f Y) (Tl Rt K):=#[_,bO h,.inr #[d,W,q]]
def dI{l:Z D}(h:f Y=U (.lst l)):ZF f Y=U l:=by unfold ZF;rw[h];rfl
def gC(h:Wp (g (ds.map (λd=>U (Slot.sh d))++bU n B)) (Tl Rt λ_=>False)):∃d,aO n g ds=U d/\Rt d:=by
 let⟨⟨fl,Y'⟩,e,h⟩:=h;rcases h with⟨_,h⟩|⟨d,z,h⟩
 .exact h.elim
 .cases z;show#[d,xT e,h]
def rx2{hb:Prop}{x y:D}(h:fr Y=U [x,y]):Wp (bo (ZA fr) Y) (Rx hb):=iM (aI h #[(by decide:(2:ag)<=1000),.inr #[_,W]])
def rx3{hb:Prop}{x y z:D}(h:fr Y=U [x,y,z]):Wp (bo (ZA fr) Y) (Rx hb):=iM (aI h #[(by decide:(3:ag)<=1000),.inr #[_,W]])
end
section
variable{bs:Z YU}{P:bV}{p:ai×aj}
abbrev pD(P:bV):D:=.fdk (tb ZB P)
def lj(hp:lk P m=U p):aU (pD P) (.str m)=U (ZB p):=by show(U (bc (tb ZB P) (.inr m))).bind id=_;rw[iI,hp];rfl
def dG(h1:fo Y=U (pD P))(h2:fk Y=U (.str m))(hp:lk P m=U p)(i:ag)(hd:[.str p.1,.int p.2][i]?=U d):b2 YR (b2 aU fo fk) (vC (.int i)) Y=U d:=aA (aA h1 h2 (lj hp)) W ((Ā _ i).trans hd)
def zy(h1:fk Y=U (.str m))(h2:fo Y=U (pD P)):YX (b2 mL fk fo) Y=U (lk P m).isNone:=bi (aA h1 h2 (by show(U (bc (tb ZB P) (.inr m))).map _=_;rw[iI];cases lk P m<;>rfl))
def xf(hx:bh x=ah)(hn:∀y∈ns,bh y=ah):iL (.str x) (.lst (ns.map D.str))=U (.bl (!decide (x∈ns))):=by
 let sh:fL (.str x)=ah:=by simp[fL,pW,rf hx,pX]
 simp only[iL,inX,Ö,vX,qf,qc,sh,z9 hn,wU,cI,C3]
def BV{bn:Z ai}(C:∀x∈bn,bh x=ah):∀(ws:Z ai)(a:au Slot),(∀x∈ws,bh x=ah)->ca (aB 0) (YX (b2 iL (M 0) (M 1))) (M 0) (ws.map D.str) [a,oS (.lst (bn.map D.str))]=U ((ws.filter λx=>!decide (x∈bn)).map D.str):=by
 intro Y7
 induction Y7 with
 |nil=>
  intro _ _;show W
 |cons x r ih=>
  intro a hw;let ih:=ih (oS (.str x)) λy hy=>hw y (qi _ hy);let t:YX (b2 iL (M 0) (M 1)) [oS (.str x),oS (.lst (bn.map D.str))]=U (!decide (x∈bn)):=bi (aA W W (xf (hw x qh) C));rw[qp,lI t,ih,kR];cases decide (x∈bn)<;>rfl
def D0:∀l:Z ai,iz (l.map D.str)=U l:=by
 intro Y7
 induction Y7 with
 |nil=>
  show W
 |cons x r ih=>
  show(iz (r.map D.str)).map _=_;rw[ih];rfl
def All(ss:Z YM)(P:bV):Prop:=∀s∈ss,∃p,lk P s.nm=U p
def ki{l:Z α}{x y:α}(hs:l[i]?=U x)(hy:y∈l.take (i+1)):y∈l.take i\/y=x:=by
 rw[wW,hs] at hy;rcases cY.mp hy with q|q
 .exact .inl q
 .exact .inr (bM.mp q)
def Rf(g:Y9 bs ss js E ls ks h)(hp:Zb P)(hl:P.length<=100):∃d,yb [aZ bs ss js E ls ks h,pD P]=U d/\Rx (All ss P) d:=by
 let hN:=kA (bs:=bs) (js:=js) (E:=E) (ls:=ls) (ks:=ks) (h:=h) g.sl.2;let nb:∀x∈ss.map (·.nm),bh x=ah:=λx hx=>by let⟨s,hs,rfl⟩:=bw.mp hx;show(g.s s hs).nm
 show gC (bF (aI (cX .(b) W aC hN) ?_));show cy (fH (λi Y=>(∃a b,Y=[oS .(g),oS (pD P),oS (.lst ((ss.map (·.nm)).map D.str)),a,b])/\∀s∈ss.take i,∃p,lk P s.nm=U p) (dI W) #[#[_,_,W],λs hs=>by cases hs] ?_) ?_
 .rintro i x Y hx ⟨⟨a,b,rfl⟩,hI⟩;rw[qq,qm] at hx;let⟨s,hs,rfl⟩:=Za hx;show aI W (dS (zy W W) (λ_=>rx2 .(k)) λhn=>#[#[_,_,W],λt ht=>?_]);rcases ki hs ht with q|rfl
  .exact hI t q
  .exact sR.mp (by rw[Option.isNone_eq_false_iff] at hn;show hn)
 .rintro Y ⟨⟨a,b,rfl⟩,hI⟩;let hA:All ss P:=λs hs=>hI s (by rw[qg,qg,fz];show hs);let ec:ba (itK (M 1)) (aB 0) (YX (b2 iL (M 0) (M 1))) (M 0) [B,U 2] [oS .(g),oS (pD P),oS (.lst ((ss.map (·.nm)).map D.str)),a,b]=U (((P.map (·.1)).filter λx=>!decide (x∈ss.map (·.nm))).map D.str):=by
   let ek:(tb ZB P).map (λkv=>cx kv.1)=(P.map (·.1)).map D.str:=by unfold tb;rw[qq,qq];rfl
   show(if ((tb ZB P).map λkv=>cx kv.1).length<=aK then ca _ _ _ ((tb ZB P).map λkv=>cx kv.1) [B,oS (.lst ((ss.map (·.nm)).map D.str))] else B)=_;rw[qY (by rw[qg];show(P.map _).length<=_;rw[qg];unfold aK;ext),ek];show BV nb _ B λx hx=>by let⟨q,hq,rfl⟩:=bw.mp hx;show(hp.nb q hq).1
  show bF (aI (eU ec) (cy (dS (bi (aA (aN (ax W aC) (oO _ _)) W W)) (λC=>?_) (ao:=λ_=>True) λ_=>trivial) λY' _=>im W (.inl #[W,hA])));show rx2 (ax W (ax (aN (z:=.str (mnS ((P.map (·.1)).filter λx=>!decide (x∈ss.map (·.nm))))) (ax W aC) ?_) aC));show(iz _).bind _=_;rw[D0,qc,qZ];intro z;rw[z] at C;show bH C .(b)
end
noncomputable def oI:au aj->D
 |some n=>.int n
 |none=>.non
def OnW(ss:Z YM)(P:bV):Prop:=∀s∈ss,∃p n,lk P s.nm=U p/\lk s.ws p.1=U n
section
variable{bs:Z YU}{P:bV}{p:ai×aj}
def FM(g:Y9 bs ss js E ls ks h){s:YM}(hs:s∈ss)(b:ai):sD [aZ bs ss js E ls ks h,.str s.nm,.str b]=U (oI (lk s.ws b)):=by
 let key:∃d,sD [aZ bs ss js E ls ks h,.str s.nm,.str b]=U d/\d=oI (lk s.ws b):=by
  show gC (cy (fH (λi Y=>(∃x y,Y=[oS .(g),oS (.str s.nm),oS (.str b),x,y])/\∀w∈s.ws.take i,w.1≠b) (dI (cX .(b) W (ax W aC) (Fi g hs))) #[#[_,_,W],λw hw=>by cases hw] ?_) ?_)
  .rintro i x Y hx ⟨⟨a,c,rfl⟩,hI⟩;rw[qm] at hx;let⟨w,hw,rfl⟩:=Za hx;show aI W (dS (bi (aA W W (DN _ _))) (λC=>aI W ?_) λhn=>#[#[_,_,W],λv hv=>?_])
   .rw[<-fT C,uA (g.s s hs).nd (qR hw)];rfl
   .rcases ki hw hv with q|rfl
    .exact hI v q
    .exact WK hn
  .rintro Y ⟨⟨a,c,rfl⟩,hI⟩;show im W ?_;rw[qg,fz] at hI;rw[vz.mpr λz=>by let⟨w,hw,e⟩:=bw.mp z;show hI w hw e];rfl
 let⟨d,e,rfl⟩:=key;show e
def SY(g:Y9 bs ss js E ls ks h)(hA:All ss P):∃d,xu [aZ bs ss js E ls ks h,pD P]=U d/\Rx (OnW ss P) d:=by
 let hN:=kA (bs:=bs) (js:=js) (E:=E) (ls:=ls) (ks:=ks) (h:=h) g.sl.2;show gC (cy (fH (λi Y=>(∃a b c,Y=[oS .(g),oS (pD P),a,b,c])/\∀s∈ss.take i,∃p n,lk P s.nm=U p/\lk s.ws p.1=U n) (dI (cX .(b) W aC hN)) #[#[_,_,_,W],λs hs=>by cases hs] ?_) ?_)
 .rintro i x Y hx ⟨⟨a,b,c,rfl⟩,hI⟩;rw[qq,qm] at hx;let⟨s,hs,rfl⟩:=Za hx;let hm:=qR hs;let⟨p,hp⟩:=hA s hm;show aI W (bF (aI (dG W W hp 1 W) (bF (aI (aN (ax W (ax W (ax (dG W W hp 0 W) aC))) (FM g hm p.1)) ?_))));cases hn:lk s.ws p.1 with
  |none=>show dS W (λ_=>rx2 .(k)) λz=>by cases z
  |some n=>
   show dS (b:=decide (p.2<0) || decide (h<p.2+n)) ?_ (λ_=>rx2 .(k)) λ_=>#[#[_,_,_,W],λt ht=>?_]
   .let e3:YX (b2 Ő (b2 aS (M 3) (M 4)) (bp "Shop" "last_moment" oq (M 0) aq)) [oS .(g),oS (pD P),oS (.str s.nm),oS (.int p.2),oS (.int n)]=U (decide (h<p.2+n)):=bi (aA W (cX .(b) W aC wX) W);show(if decide (p.2<0)=ah then U ah else YX _ _)=_;cases decide (p.2<0)
    .exact e3
    .rfl
   .rcases ki hs ht with q|rfl
    .exact hI t q
    .exact#[p,n,hp,hn]
 .rintro Y ⟨⟨a,b,c,rfl⟩,hI⟩;show im W (.inl #[W,λs hs=>hI s (by rw[qg,qg,fz];show hs)])
abbrev eD(us:Z (ai×aj)):D:=.fdk (tb D.int us)
def PP(g:Y9 bs ss js E ls ks h)(hO:OnW ss P):∃us,tV [aZ bs ss js E ls ks h,pD P]=U (eD us)/\∀s∈ss,∃n,lk us s.nm=U n:=by
 let hN:=kA (bs:=bs) (js:=js) (E:=E) (ls:=ls) (ks:=ks) (h:=h) g.sl.2;let key:∃d,tV [aZ bs ss js E ls ks h,pD P]=U d/\∃us,d=eD us/\∀s∈ss,∃n,lk us s.nm=U n:=by
  show gC (cy (ao:=λY=>Y=[oS .(g),oS (pD P),U (.odk (tb D.int [])),B,B]) #[_,W,.inl #[W,W]] ?_);rintro Y rfl;show cy (fH (λi Y=>∃us a b,Y=[oS .(g),oS (pD P),U (.odk (tb D.int us)),a,b]/\us.length<=i/\∀s∈ss.take i,∃n,lk us s.nm=U n) (dI (cX .(b) W aC hN)) #[_,_,_,W,qx _,λs hs=>by cases hs] ?_) ?_
  .rintro i x Y hx ⟨us,a,b,rfl,hl,hI⟩;rw[qq,qm] at hx;let⟨s,hs,rfl⟩:=Za hx;let hm:=qR hs;let hi:i<ss.length:=(eV.mp hs).1;let⟨p,n,hp,hn⟩:=hO s hm;let:=g.sl.2;show aI W (bF (aI (aA W W (lj hp)) (uO (d:=.int (p.2+n)) (k:=s.nm) (YL:=tb D.int us) W (by rw[rH];ext) W (aA (x:=.int p.2) (y:=.int n) (aA W W fU) (aN (ax W (ax W (ax (aA W W cG) aC))) ((FM g hm p.1).trans (by rw[hn];rfl))) W) (.inl #[W,pt us s.nm (p.2+n),_,_,by rw[sq];rfl,by let:=ou (l:=us) (k:=s.nm) (v:=p.2+n);ext,λt ht=>?_]))));rw[wm];split
   .exact#[_,W]
   .rename_i Ô;rcases ki hs ht with q|rfl
    .exact hI t q
    .exact bH W Ô
  .rintro Y ⟨us,a,b,rfl,_,hI⟩;show aI W (.inr #[_,W,us,W,λs hs=>hI s (by rw[qg,qg,fz];show hs)])
 let⟨d,e,us,rfl,hE⟩:=key;show#[us,e,hE]
end
section
variable{bs:Z YU}{P:bV}{us:Z (ai×aj)}{p:ai×aj}{n:aj}{s:YM}
def wa(g:Y9 bs ss js E ls ks h)(hs:s∈ss):oh [aZ bs ss js E ls ks h,.str s.nm]=U (.str s.kd):=by show bQ _ W (bO (aA (aA (z:=bN s) (jj 8 W W) W ?_) W fU));show i9 g.sn hs
noncomputable def uM(E:Z ac)(b p q:ai):au ac:=E.find? λu=>decide ([u.b,u.p,u.q]=[b,p,q])
def stI(E:Z ac)(b p q:ai):aj:=match uM E b p q with
 |some u=>u.n
 |none=>0
def Dx{b p q:ai}:wj [aZ bs ss js E ls ks h,.str b,.str p,.str q]=U (.int (stI E b p q)):=by
 show bQ _ W (bO ?_);unfold b3;rw[jj 9 W W,C7 W W W];show U ((bc (E.map λu=>([u.b,u.p,u.q].map (bS:ai->YQ),D.int u.n)) ([b,p,q].map bS)).getD (.int 0))=_;unfold bc stI uM;rw[List.find?_map];let e:E.find? ((λkv=>decide (kv.1=[b,p,q].map (bS:ai->YQ))) ∘ λu=>([u.b,u.p,u.q].map (bS:ai->YQ),D.int u.n))=E.find? λu=>decide ([u.b,u.p,u.q]=[b,p,q]):=by
  congr 1
  funext u
  show IQ.mpr rB
 rw[e];cases E.find? λu=>decide ([u.b,u.p,u.q]=[b,p,q])<;>rfl
def My(hn:lk us m=U n):aU (eD us) (.str m)=U (.int n):=by show(U (bc (tb D.int us) (.inr m))).bind id=_;rw[iI,hn];rfl
def lg(h1:fo Y=U (eD us))(h2:fk Y=U (.str m))(hn:lk us m=U n):b2 aU fo fk Y=U (.int n):=aA h1 h2 (My hn)
abbrev gb(ss:Z YM)(us:Z (ai×aj)):Prop:=∀s∈ss,∃n,lk us s.nm=U n
def mN(hm:m∈ss.map (·.nm)):∃s∈ss,s.nm=m:=by let⟨s,hs,e⟩:=bw.mp hm;show#[s,hs,e]
def bor{a b:aJ}(h1:ft Y=U a)(h2:gt Y=U b):Ã ft gt Y=U (a || b):=by
 unfold Ã;rw[h1,qc];cases a
 .exact h2
 .rfl
def EQ{a b y:α}(h:y∈[a,b]):y=a\/y=b:=by
 rcases cm.mp h with q|q
 .exact .inl q
 .exact .inr (bM.mp q)
def v9{a b:aJ}(h1:fa Y=U (.bl a))(h2:a=ah->fb Y=U (.bl b)):cu fa fb Y=U (.bl (a && b)):=by
 unfold cu;rw[h1];cases a
 .rfl
 .exact h2 W
def iA{a b:aJ}(h1:ft Y=U a)(h2:a=ah->gt Y=U b):f' ft gt Y=U (a && b):=by
 unfold f';rw[h1,qc];cases a
 .rfl
 .exact h2 W
def Rm(g:Y9 bs ss js E ls ks h)(hA:All ss P)(hE:gb ss us):∃d,zo [aZ bs ss js E ls ks h,pD P,eD us]=U d/\Rx True d:=by
 let hN:=kA (bs:=bs) (js:=js) (E:=E) (ls:=ls) (ks:=ks) (h:=h) g.sl.2;show gC (cy (fH (λi Y=>∃a b,Y=[oS .(g),oS (pD P),oS (eD us),a,b]) (dI (cX .(b) W aC hN)) #[_,_,W] ?_) ?_)
 .rintro i x Y hx ⟨a,b,rfl⟩;rw[qq,qm] at hx;let⟨s,hs,rfl⟩:=Za hx;let hm:=qR hs;let⟨p,hp⟩:=hA s hm;let⟨n,hn⟩:=hE s hm;show aI W (bF (aI (cX .(b) W (ax W aC) (G9 g s.nm)) ?_));cases hj:dz js s.nm with
  |none=>show dS W (λz=>by cases z) λ_=>#[_,_,W]
  |some j=>show dS (iA W λ_=>bor (bi (aA (dG W W hp 1 W) (aA W W fU) W)) (bi (aA (lg W W hn) (aA W W ib) W))) (λ_=>rx2 .(k)) λ_=>#[_,_,W]
 .rintro Y ⟨a,b,rfl⟩;show im W (.inl #[W,trivial])
def Oc(g:Y9 bs ss js E ls ks h){b:YU}(C:b∈bs):zk [aZ bs ss js E ls ks h,.str b.nm]=U (.lst (b.br.map Ī)):=by
 show bQ _ W (bO (aN (ax (aA (aA (z:=cb b) (jj 7 W W) W ?_) W fU) aC) (ik (gS (by let:=(g.b b C).len;ext) λx _=>?_))))
 .show bc (bs.map λs=>((.inr s.nm:YQ),cb s)) (.inr b.nm)=_;show i9 g.bn C
 .exact#[by simp[aK],λy hy=>by rcases EQ hy with rfl|rfl<;>trivial]
def C4:∀l:Z aJ,jL (l.map D.bl)=U l:=by
 intro Y7
 induction Y7 with
 |nil=>
  show W
 |cons x r ih=>
  show(jL (r.map D.bl)).map _=_;rw[ih];rfl
def Ea{e st:aj}(he:lk us m=U e):∀(br:Z (aj×aj))(a b:au Slot),∃l:Z aJ,ca .(l) tT (cu (b2 ü (M 2) (M 1)) (b2 ü (M 0) (b2 aU (M 3) (M 4)))) (br.map Ī) [a,b,oS (.int st),oS (eD us),oS (.str m)]=U (l.map D.bl)
 |[],_,_=>#[[],W]
 |q::r,a,b=>by let⟨l,hl⟩:=Ea he r (oS (.int q.1)) (oS (.int q.2));let e1:cu (b2 ü (M 2) (M 1)) (b2 ü (M 0) (b2 aU (M 3) (M 4))) [oS (.int q.1),oS (.int q.2),oS (.int st),oS (eD us),oS (.str m)]=U (.bl (decide (st<q.2) && decide (q.1<e))):=v9 W λ_=>aA W (lg W W he) W;show#[(decide (st<q.2) && decide (q.1<e))::l,?_];show(cu _ _ [oS (.int q.1),oS (.int q.2),oS (.int st),oS (eD us),oS (.str m)]).bind _=_;rw[e1];show bP (ti λx=>D.bl (decide (st<q.2) && decide (q.1<e))::x) hl
def OV(g:Y9 bs ss js E ls ks h)(hO:OnW ss P)(hE:gb ss us):∃d,xR [aZ bs ss js E ls ks h,pD P,eD us]=U d/\Rx True d:=by
 let hN:=kA (bs:=bs) (js:=js) (E:=E) (ls:=ls) (ks:=ks) (h:=h) g.sl.2;show gC (cy (fH (λi Y=>∃a b c,Y=[oS .(g),oS (pD P),oS (eD us),a,b,c]) (dI (cX .(b) W aC hN)) #[_,_,_,W] ?_) ?_)
 .rintro i x Y hx ⟨a,b,c,rfl⟩;rw[qq,qm] at hx;let⟨s,hs,rfl⟩:=Za hx;let hm:=qR hs;let⟨p,k,hp,hk⟩:=hO s hm;let⟨n,hn⟩:=hE s hm;let⟨w,hw,ew⟩:=bw.mp ((g.s s hm).ws _ (jx hk)).1;let⟨l,hl⟩:=Ea hn w.br B B;show aI W (bF (aI (dG W W hp 1 W) (bF (aI (cX .(b) W (ax (dG W W hp 0 W) aC) (by rw[<-ew];show Oc g hw)) (dS (b:=l.any id) (bi (aN (ax (eU (ys:=l.map D.bl) ?_) aC) ?_)) (λ_=>rx2 .(k)) λ_=>#[_,_,_,W])))))
  .show(if (w.br.map Ī).length<=aK then ca _ _ _ _ _ else B)=_;rw[qY (by rw[qg];let:=(g.b w hw).len;unfold aK;ext)];show hl
  .show(jL _).map _=_;rw[C4];rfl
 .rintro Y ⟨a,b,c,rfl⟩;show im W (.inl #[W,trivial])
end
section
variable{bs:Z YU}{P:bV}{us:Z (ai×aj)}{p:ai×aj}{n:aj}{s t:YM}
def ky{b:aJ}(h:ft Y=U b):bE ft Y=U (!b):=by unfold bE;rw[h];rfl
def KP(g:Y9 bs ss js E ls ks h)(hA:All ss P)(hE:gb ss us)(hs:s∈ss)(ht:t∈ss):∃d,zi [aZ bs ss js E ls ks h,pD P,eD us,.str s.nm,.str t.nm]=U d/\∃b,d=.bl b:=by let⟨p,hp⟩:=hA s hs;let⟨q,hq⟩:=hA t ht;show gC (bF (aI W (bF (aI W (cy (ao:=λY=>∃x∈ss,∃y∈ss,Y=[oS .(g),oS (pD P),oS (eD us),oS (.str s.nm),oS (.str t.nm),oS (.str x.nm),oS (.str y.nm),B]) (fB (aI (bi (aA (dG W W hq 1 W) (dG W W hp 1 W) W)) #[λ_=>#[_,W,.inl #[W,t,ht,s,hs,W]],λ_=>#[_,W,.inl #[W,s,hs,t,ht,W]]])) ?_)))));rintro Y ⟨x,hx,y,hy,rfl⟩;let⟨r,hr⟩:=hA y hy;let⟨e,he⟩:=hE x hx;show bF (aI (cX .(b) W (ax (dG W W hp 0 W) (ax (cX .(b) W (ax W aC) (wa g hx)) (ax (cX .(b) W (ax W aC) (wa g hy)) aC))) Dx) (im (aA (dG W W hr 1 W) (aA (lg W W he) W W) W) #[_,W]))
def MP(g:Y9 bs ss js E ls ks h)(hA:All ss P)(hE:gb ss us):∃d,Ak [aZ bs ss js E ls ks h,pD P,eD us]=U d/\Rx True d:=by
 let hN:=kA (bs:=bs) (js:=js) (E:=E) (ls:=ls) (ks:=ks) (h:=h) g.sl.2;show gC (cy (fH (λi Y=>∃a b,Y=[oS .(g),oS (pD P),oS (eD us),a,b]) (dI (aN (ax (cX .(b) W aC hN) aC) (DX ss g.sl.2))) #[_,_,W] ?_) ?_)
 .rintro i x Y hx ⟨a,b,rfl⟩;rw[qm] at hx;let⟨q,hq,rfl⟩:=Za hx;let⟨h1,h2⟩:=Fh (qR hq);let⟨p1,hp1⟩:=hA _ h1;let⟨p2,Ń⟩:=hA _ h2;let⟨_,hc,b,rfl⟩:=KP g hA hE h1 h2;show aI W (dS (iA (bi (aA (dG W W hp1 0 W) (dG W W Ń 0 W) (DN _ _))) λ_=>bi (aN (ax W (ax W (ax W .(k)))) hc)) (λ_=>rx3 (ax W .(k))) λ_=>#[_,_,W])
 .rintro Y ⟨a,b,rfl⟩;show im W (.inl #[W,trivial])
def Mp(g:Y9 bs ss js E ls ks h)(hA:All ss P)(hE:gb ss us):∃d,xK [aZ bs ss js E ls ks h,pD P,eD us]=U d/\Rx True d:=by
 show gC (cy (fH (λi Y=>∃j a b c d,Y=[oS .(g),oS (pD P),oS (eD us),j,a,b,c,d]) (dI (cX .(b) W aC (Gg g))) #[_,_,_,_,_,W] ?_) ?_)
 .rintro i x Y hx ⟨j0,a,b,c,d,rfl⟩;rw[qm] at hx;let⟨j,hj,rfl⟩:=Za hx;let gj:=g.j j (qR hj);let hl:j.ms.length<=40:=by let:=gj.ln;rw[qg] at this;let:=g.sl.2;ext
  show aI W ((fH (Rt:=Rx True) (λ_ Y=>∃a b c d,Y=[oS .(g),oS (pD P),oS (eD us),oS (bq j),a,b,c,d]) (dI (aN (ax (aA W W W) aC) (GB j.ms hl))) #[_,_,_,_,W] ?_).imp λr z=>?_)
  .rintro k y Y hy ⟨a,b,c,d,rfl⟩;rw[qm] at hy;let⟨q,hq,rfl⟩:=Za hy;let in1:∀{w:YM},w∈j.ms.map wrp->∃s∈ss,s.nm=w.nm:=λhw=>by let⟨m,hm,rfl⟩:=bw.mp hw;show mN (gj.ms m hm)
   let⟨h1,h2⟩:=Fh (qR hq);let⟨s1,hs1,e1⟩:=in1 h1;let⟨s2,ſ,e2⟩:=in1 h2;let⟨p1,hp1⟩:=hA _ hs1;let⟨p2,Ń⟩:=hA _ ſ;let⟨n1,hn1⟩:=hE _ hs1;let⟨n2,hn2⟩:=hE _ ſ;rw[e1] at hp1 hn1;rw[e2] at Ń hn2;show aI W (bF (aI (aA (dG W W Ń 1 W) (lg W W hn1) W) (bF (aI (aA (dG W W hp1 1 W) (lg W W hn2) W) (dS (iA (ky (bi W)) λ_=>bor (bi (aA W W F5)) (ky (bi W))) (λ_=>rx3 (ax W .(k))) λ_=>#[_,_,_,_,W])))))
  .rcases z with⟨z,a,b,c,d,e⟩|z
   .exact .inl #[z,_,_,_,_,_,e]
   .exact .inr z
 .rintro Y ⟨j,a,b,c,d,rfl⟩;show im W (.inl #[W,trivial])
def M8(g:Y9 bs ss js E ls ks h)(hA:All ss P)(hE:gb ss us):∃d,yI [aZ bs ss js E ls ks h,pD P,eD us]=U d/\Rx True d:=by
 show gC (cy (fH (λi Y=>∃a b c,Y=[oS .(g),oS (pD P),oS (eD us),a,b,c]) (dI (cX .(b) W aC (ET g))) #[_,_,_,W] ?_) ?_)
 .rintro i x Y hx ⟨a,b,c,rfl⟩;rw[qm] at hx;let⟨l,hl,rfl⟩:=Za hx;let gl:=g.l l (qR hl);let⟨s1,hs1,e1⟩:=mN gl.a;let⟨s2,ſ,e2⟩:=mN gl.b;let⟨n1,hn1⟩:=hE _ hs1;let⟨p2,Ń⟩:=hA _ ſ;rw[e1] at hn1;rw[e2] at Ń;show aI W (dS (bi (aA (dG W W Ń 1 W) (aA (lg W W hn1) W W) W)) (λ_=>rx3 (ax W .(k))) λ_=>#[_,_,_,W])
 .rintro Y ⟨a,b,c,rfl⟩;show im W (.inl #[W,trivial])
end
section
variable{bs:Z YU}{P:bV}{us:Z (ai×aj)}{p:ai×aj}{n:aj}{s t:YM}
def QE(g:Y9 bs ss js E ls ks h):Ag [aZ bs ss js E ls ks h]=U (.lst (ks.map dQ)):=
 bQ _ W (bO (aN (ax (jj 5 W W) aC) (ik (gS (by let:=g.kl;ext) λx hx=>D4 (by rw[qg];show g.sl.2) (g.k x hx)))))
def Ck:∀l:Z aj,jc (l.map D.int)=U l:=by
 intro Y7
 induction Y7 with
 |nil=>
  show W
 |cons x r ih=>
  show(jc (r.map D.int)).map _=_;rw[ih];rfl
def DC:∀(l:Z (ai×aj))(a:au Slot),(∀w∈l,∃n,fe (oS (dW w)::r)=U (.int n))->∃z:Z aj,z.length=l.length/\ca (aB 0) tT fe (l.map dW) (a::r)=U (z.map D.int):=by
 intro Y7
 induction Y7 with
 |nil=>
  intro _ _;show#[[],W,W]
 |cons w l ih=>
  intro a hw;let⟨z,hz,e⟩:=ih (oS (dW w)) λv hv=>hw v (qi _ hv);let⟨n,hn⟩:=hw w qh;show#[n::z,bP (·+1) hz,?_];rw[qp,lI W,qY W,hn,e];rfl
def Fz{t x:au Slot}:∀(l:Z (ai×aj))(a b:au Slot),(∀w∈l,∃c,ft [oS (.str w.1),oS (.int w.2),t,x]=U c)->∃z:Z aj,ca .(l) ft (M 1) (l.map dW) [a,b,t,x]=U (z.map D.int):=by
 intro Y7
 induction Y7 with
 |nil=>
  intro _ _ _;show#[[],W]
 |cons w l ih=>
  intro a b hw;let⟨z,e⟩:=ih (oS (.str w.1)) (oS (.int w.2)) λv hv=>hw v (qi _ hv);let⟨c,hc⟩:=hw w qh;let key:ca .(l) ft (M 1) ((w::l).map dW) [a,b,t,x]=if c=ah then (ca .(l) ft (M 1) (l.map dW) [oS (.str w.1),oS (.int w.2),t,x]).map (D.int w.2::·) else ca .(l) ft (M 1) (l.map dW) [oS (.str w.1),oS (.int w.2),t,x]:=by show(ft [oS (.str w.1),oS (.int w.2),t,x]).bind _=_;rw[hc];rfl
  rw[key,e];cases c
  .exact#[z,W]
  .exact#[w.2::z,W]
def Kp{g:D->au D}{x z:D}(h1:fa Y=U x)(h2:g x=U z):b1 g fa Y=U z:=by unfold b1;rw[h1];show h2
def Gd{z:Z aj}(h:fr Y=U (z.map D.int)):cF rK (J (aQ fr) aq) Y=U (.int z.sum):=aN (ax (eU h) aC) (by show(jc _).map _=_;rw[Ck];rfl)
def ij{xs r:Z D}(h1:fi Y=U xs)(h2:xs.length<=1000)(h3:ca gg ft fe xs (eY fv Y)=U r):ba fi gg ft fe fv Y=U r:=by unfold ba;rw[h1,qc,qY (by unfold aK;ext),h3]
def SU(hA:All ss P)(hE:gb ss us){k:Zi}(gk:ï (ss.map (·.nm)) k)(h40:ss.length<=40)(t:aj):∃d,xW [dQ k,pD P,eD us,.int t]=U d/\∃n,d=.int n:=by
 let hP:∀w∈k.tk,∃p,lk P w.1=U p:=λw hw=>by let⟨s,hs,e⟩:=mN (gk.tk.ws w hw).1;rw[<-e];show hA s hs
 let hQ:∀w∈k.pt,∃p,lk us w.1=U p:=λw hw=>by let⟨s,hs,e⟩:=mN (gk.pt.ws w hw).1;rw[<-e];show hE s hs
 let l1:=gk.tk.ln;let l2:=gk.pt.ln;rw[qg] at l1 l2;let⟨z1,h1⟩:=Fz (ft:=YX (b2 Î (b2 YR (b2 aU (M 3) (M 0)) .(f)) (M 2))) (t:=oS (.int t)) (x:=oS (pD P)) k.tk B B λw hw=>by let⟨p,hp⟩:=hP w hw;show#[_,bi (aA (dG W W hp 1 W) W W)]
 let⟨z2,h2⟩:=Fz (ft:=YX (b2 Î (b2 aU (M 3) (M 0)) (M 2))) (t:=oS (.int t)) (x:=oS (eD us)) k.pt B B λw hw=>by let⟨n,hn⟩:=hQ w hw;show#[_,bi (aA (lg W W hn) W W)]
 show gC (bF (aI (Gd (ij (dI (aA W W W)) (by rw[qg];ext) h1)) (bF (aI (Gd (ij (dI (aA W W W)) (by rw[qg];ext) h2)) (im (aA (aA (aA W W W) W W) W W) #[_,W])))))
def Hi{a b c:aj}(h1:fa Y=U (.int a))(h2:fb Y=U (.int b))(h3:fc Y=U (.int c)):ŉ Î Î fa fb fc Y=U (.bl (decide (a<=b) && decide (b<=c))):=by
 unfold ŉ;rw[h1,qc,h2,qc];show(U (D.bl (decide (a<=b)))).bind _=_;rw[qc];cases decide (a<=b)
 .rfl
 .show(fc Y).bind _=_;rw[h3];rfl
def Ka(g:Y9 bs ss js E ls ks h)(Ě:ss.length<=12)(hA:All ss P)(hE:gb ss us):∃d,yv [aZ bs ss js E ls ks h,pD P,eD us]=U d/\Rx True d:=by
 show gC (cy (fH (λi Y=>∃a b c,Y=[oS .(g),oS (pD P),oS (eD us),a,b,c]) (dI (cX .(b) W aC (QE g))) #[_,_,_,W] ?_) ?_)
 .rintro i x Y hx ⟨a,b,c,rfl⟩;rw[qm] at hx;let⟨k,hk,rfl⟩:=Za hx;let gk:=g.k k (qR hk);let l1:=gk.tk.ln;let l2:=gk.pt.ln;rw[qg] at l1 l2;let⟨z1,n1,e1⟩:=DC (fe:=b2 YR (b2 aU (M 1) .(o)) .(f)) (r:=[oS (pD P)]) k.tk B λw hw=>by let⟨s,hs,e⟩:=mN (gk.tk.ws w hw).1;let⟨p,hp⟩:=hA s hs;rw[e] at hp;show#[p.2,dG W (aA W W cG) hp 1 W]
  let⟨z2,n2,e2⟩:=DC (fe:=b2 aU (M 1) .(o)) (r:=[oS (eD us)]) k.pt B λw hw=>by let⟨s,hs,e⟩:=mN (gk.pt.ws w hw).1;let⟨p,hp⟩:=hE s hs;rw[e] at hp;show#[p,lg W (aA W W cG) hp]
  show aI W (Ej (aI (ij (dI (aA W W W)) (by rw[qg];ext) e1) (cy (aI (xO W (eU (ij (dI (aA W W W)) (by rw[qg];ext) e2)) .(c)) (.inl #[W,W])) ?_)));rintro Y rfl;show mB W ((fH (Rt:=Rx True) (λ_ Y=>∃c,Y=[oS .(g),oS (pD P),oS (eD us),oS (dQ k),oS (.lst ((z1++z2).map D.int)),c]) (xs:=(oR (ST.dd (z1++z2))).map D.int) (dI (Kp W ?_)) #[_,W] ?_).imp λr z=>?_)
  .show(if _ then _ else _)=_;rw[qY (by rw[qg,ql];ext),Ck];rfl
  .rintro j y Y hy ⟨c,rfl⟩;rw[qm] at hy;let⟨t,_,rfl⟩:=Za hy;let⟨_,hv,n,rfl⟩:=SU hA hE gk g.sl.2 t;show aI W (dS (ky (bi (Hi W (aN (ax W (ax W .(k))) hv) (aA W W ib)))) (λ_=>rx3 (ax W (ax (aA W W cG) (ax W aC)))) λ_=>#[_,W])
  .rcases z with⟨z,c,e⟩|z
   .exact .inl #[z,_,_,_,e]
   .exact .inr z
 .rintro Y ⟨a,b,c,rfl⟩;show im W (.inl #[W,trivial])
end
def sC{S x e:D}{F:FQ}(hF:∃d,F [S,x,e]=U d/\Rx True d)(hd:Rx True d):Wp (ZG (YX (b2 Ē (M 2) (vC .non))) (aR 2 (cF F (J (M 0) (J (M 1) (J (M 3) aq))))) aV [oS S,oS x,oS d,oS e]) (Tl Rt λY=>∃d',Rx True d'/\Y=[oS S,oS x,oS d',oS e]):=by
 rcases hd with⟨rfl,_⟩|⟨l,rfl⟩
 .obtain⟨d,e1,r⟩:=hF;show fB (aI W #[λ_=>jb (aI (aN (ax W .(k)) e1) (.inl #[W,d,r,W])),λz=>by cases z])
 .exact fB (aI W #[(λz=>nomatch z),λ_=>il (.inl #[W,_,.inr #[l,W],W])])
section
variable{bs:Z YU}{P:bV}
def RG(g:Y9 bs ss js E ls ks h)(Ě:ss.length<=12)(hp:Zb P)(hl:P.length<=100):∃d,mZ [aZ bs ss js E ls ks h,pD P]=U d/\Rx (OnW ss P) d:=by
 let⟨d1,e1,r1⟩:=Rf g hp hl;show gC (bF (aI (aN .(k) e1) (cy (ao:=λY=>∃d,Rx (OnW ss P) d/\Y=[oS .(g),oS (pD P),oS d,B]) ?_ ?_)))
 .rcases r1 with⟨rfl,hA⟩|⟨l,rfl⟩
  .obtain⟨d2,e2,r2⟩:=SY g hA;show fB (aI W #[λ_=>jb (aI (aN .(k) e2) (.inl #[W,d2,r2,W])),λz=>by cases z])
  .exact fB (aI W #[(λz=>nomatch z),λ_=>il (.inl #[W,_,.inr #[l,W],W])])
 .rintro Y ⟨d,r,rfl⟩;show cy (ao:=λY=>OnW ss P/\Y=[oS .(g),oS (pD P),oS .non,B]) ?_ ?_
  .rcases r with⟨rfl,hO⟩|⟨l,rfl⟩
   .exact dS W (λz=>by cases z) λ_=>#[hO,W]
   .exact dS W (λ_=>aI W (.inr #[l,W])) λz=>by cases z
  .rintro Y ⟨hO,rfl⟩;let hA:All ss P:=λs hs=>by let⟨p,n,hp,_⟩:=hO s hs;show#[p,hp]
   let⟨us,eE,hE⟩:=PP g hO;let⟨d3,e3,r3⟩:=Rm g hA hE;show bF (aI (aN .(k) eE) (bF (aI (aN (ax W .(k)) e3) (cy (sC (OV g hO hE) r3) ?_))));rintro Y ⟨d4,r4,rfl⟩;show cy (sC (MP g hA hE) r4) ?_;rintro Y ⟨d5,r5,rfl⟩;show cy (sC (Mp g hA hE) r5) ?_;rintro Y ⟨d6,r6,rfl⟩;show cy (sC (M8 g hA hE) r6) ?_;rintro Y ⟨d7,r7,rfl⟩;show cy (sC (Ka g Ě hA hE) r7) ?_;rintro Y ⟨d8,r8,rfl⟩;show im W ?_;rcases r8 with⟨e,_⟩|q
   .exact .inl #[e,hO]
   .exact .inr q
end
def B1{l:Z α}(nd:l.Nodup){x:α}(h:l[i]?=U x):x∉l.take i:=λhm=>by let⟨j,hj,e⟩:=wG.mp hm;rw[qF] at hj;let⟨hi,e2⟩:=eV.mp h;rw[List.getElem_take] at e;let:=(Hs nd).mp (e.trans e2.symm);ext
def w8:∀{fs:Fo}{j:ag}{f:ai}{x y:Á},(fs.map (·.1)).Nodup->fs[j]?=U (f,y)->gJ f x fs=fs.set j (f,x)
 |[],j,f,x,y,_,h=>by simp at h
 |(g,z)::r,0,f,x,y,_,h=>by
  simp only[qd,wT,XN] at h;let⟨rfl,rfl⟩:=h;unfold gJ;rw[qY W];rfl
 |(g,z)::r,j+1,f,x,y,nd,h=>by rw[qp,eG] at nd;rw[qe] at h;let Ô:¬f=g:=λe=>nd.1 (by rw[<-e];show qX (f:=(·.1)) (qR h));unfold gJ;rw[qZ Ô,w8 nd.2 h];rfl
section
variable{f k:ai}{fs:Fo}{b:aJ}{fv:FE}{YL:Z (YQ×D)}{kts:Z (Z YQ×D)}{y:Á}
def lf(j:ag)(hs:Y[i]?=U (U (.fo b c fs)))(nd:(fs.map (·.1)).Nodup)(hj:fs[j]?=U (f,.k YL))(hk:fk Y=U (.str k))(hv:fv Y=U d)(hl:YL.length<100000):gT c f i fk fv Y=U (.nx,Y.set i (U (.fo b c (fs.set j (f,.k (bW YL (.inr k) d)))))):=by unfold gT;rw[hv,hk,hs];show(if c=c then match fs.lookup f with|some (.k YL)=>_|some (.t YL)=>_|_=>_ else B)=_;rw[qY W,lw nd hj,<-w8 nd hj];show qY hl
def SW(j:ag){t:Z ai}(hs:Y[i]?=U (U (.fo b c fs)))(nd:(fs.map (·.1)).Nodup)(hj:fs[j]?=U (f,.t kts))(hk:fk Y=U (.tup (t.map D.str)))(hv:fv Y=U d)(hl:kts.length<100000):gT c f i fk fv Y=U (.nx,Y.set i (U (.fo b c (fs.set j (f,.t (bW kts (t.map bS) d)))))):=by unfold gT;rw[hv,hk,hs];show(if c=c then match fs.lookup f with|some (.k YL)=>_|some (.t YL)=>_|_=>_ else B)=_;rw[qY W,lw nd hj,<-w8 nd hj];show((fg (t.map D.str)).bind _)=_;rw[mC];show qY hl
def Ez{ks:Z ai}(nd:ks.Nodup)(n:ag)(hk:ks[n]?=U f)(hf:fs.map (·.1)=ks.take n)(hn:n<100):fs.lookup f=B/\fs.length<100:=by show#[lF (by rw[hf];show B1 nd hk),?_];let:=bP cM hf;rw[qg,qF] at this;ext
def oH{ks:Z ai}(nd:ks.Nodup)(n:ag)(hs:Y[i]?=U (U (.fo b c fs)))(hk:ks[n]?=U f)(hf:fs.map (·.1)=ks.take n)(hv:fv Y=U d)(hn:n<100:=by decide):kG c f i fv Y=U (.nx,Y.set i (U (.fo b c (fs++[(f,.d d)])))):=by unfold kG;rw[hv,hs];show qY #[W,Ez nd n hk hf hn]
def kg{ks:Z ai}(nd:ks.Nodup)(n:ag)(hs:Y[i]?=U (U (.fo b c fs)))(hk:ks[n]?=U f)(hf:fs.map (·.1)=ks.take n)(hn:n<100:=by decide):gw c f i y Y=U (.nx,Y.set i (U (.fo b c (fs++[(f,y)])))):=by unfold gw;rw[hs];show qY #[W,Ez nd n hk hf hn]
def JW(j:ag)(nd:(fs.map (·.1)).Nodup)(hj:fs[j]?=U (f,y))(h1:fo Y=U (Ψ c fs)):bG c f fo Y=U (foF y):=by unfold bG;rw[h1];show(if c=c then (fs.map λz=>(z.1,foF z.2)).lookup f else B)=_;rw[qY W];show lw (i:=j) (by rw[qq];show nd) ?_;rw[qm,hj];rfl
def CY{F:FQ}(hm:m∉fs.map (·.1))(h1:fo Y=U (Ψ c fs))(h2:fr Y=U ds)(h3:F (Ψ c fs::ds)=U d):bp c m F fo fr Y=U d:=by let Ó:(fs.map λz=>(z.1,foF z.2)).lookup m=B:=lF (by rw[qq];show hm);unfold bp;rw[h1];show(if c=c/\(fs.map λz=>(z.1,foF z.2)).lookup m=B then (fr Y).bind λds=>F (Ψ c fs::ds) else B)=_;rw[qY #[W,Ó],h2];show h3
def E9{P:Fo->Prop}(h:Wp (g (U (.fo ah c [])::(ds.map (λd=>U (Slot.sh d))++bU n B))) λr=>r.1=.nx/\∃fs,r.2[0]?=U (U (.fo ah c fs))/\P fs):Wp (ie n c g ds) P:=by let⟨⟨fl,Y'⟩,e,e1,fs,e2,p⟩:=h;subst e1;show#[fs,?_,p];unfold ie;rw[e,qc];rw[e2];show qY W
def cP(e:g Y=U (.nx,Y1))(h:Wp (g' Y1) R):Wp (ay g g' Y) R:=dA (aI e #[W,h])
end
section
variable{bs:Z YU}{kp:D×aj}
noncomputable abbrev Ģ(f:YM->D)(xs:Z YM):Z (YQ×D):=xs.map λs=>(.inr s.nm,f s)
theorem Tf[dE κ]{YL:Z (κ×D)}{k:κ}{v:D}(h:k∉YL.map (·.1)):bW YL k v=YL++[(k,v)]:=by unfold bW;rw[qZ];intro z;let⟨x,hx,e⟩:=mf.mp z;show h (fT e▸qX hx)
theorem mV(nd:(ss.map (·.nm)).Nodup){s:YM}(hs:ss[i]?=U s)(f:YM->D):bW (Ģ f (ss.take i)) (.inr s.nm) (f s)=Ģ f (ss.take (i+1)):=by let e:Ģ f (ss.take (i+1))=Ģ f (ss.take i)++[(.inr s.nm,f s)]:=Dv _ hs;rw[Tf,e];intro z;let⟨p,hp,e⟩:=bw.mp z;let⟨t,ht,rfl⟩:=bw.mp hp;let e:t.nm=s.nm:=iq e;show B1 nd (x:=s.nm) (by rw[qm,hs];rfl) ?_;rw[<-e,<-BF];show qX ht
theorem mI(f:YM->D)(hl:ss.length<=40)(i:ag):(Ģ f (ss.take i)).length<100000:=by rw[qg,qF];ext
noncomputable def lwD(s:YM):D:=.dk (s.ws.map λw=>(.inr w.1,.int w.2))
def jnD(js:Z Y8)(m:ai):D:=match dz js m with
 |some j=>.str j.nm
 |none=>.non
def eaI(js:Z Y8)(m:ai):aj:=match dz js m with
 |some j=>j.ea
 |none=>0
def duI(js:Z Y8)(h:aj)(m:ai):aj:=match dz js m with
 |some j=>j.du
 |none=>h
def ο(js:Z Y8)(lm h:aj)(m:ai):aj:=if h<lm then (if duI js h m<h then duI js h m else h) else (if duI js h m<lm then duI js h m else lm)
abbrev gF4(S:D)(js:Z Y8)(h lm:aj)(kp:D×aj)(l j e m:Z YM):Fo:=[("told_shop",.d S),("kept_plan",.d kp.1),("kept_most",.d (.int kp.2)),("lengths",.k (Ģ lwD l)),("job_names",.k (Ģ (λs=>jnD js s.nm) j)),("early_moments",.k (Ģ (λs=>.int (eaI js s.nm)) e)),("end_marks",.k (Ģ (λs=>.int (ο js lm h s.nm)) m))]
theorem jo:xU.Nodup:=by decide +kernel
abbrev grE(fs:Fo)(S:D)(lm:aj)(kd:D)(mo:aj)(a b c:au Slot):bB:=[U (.fo ah "Grounds" fs),oS S,oS (.int lm),oS kd,oS (.int mo),a,b,c]
theorem Au{nm:α->ai}{f:α->D}{xs:Z α}(hl:xs.length<=1000)(nd:(xs.map nm).Nodup):jA [.lst (xs.map λx=>.tup [.str (nm x),f x])]=U (.dk (xs.map λx=>(.inr (nm x),f x))):=by
 let kn:((xs.map λx=>((.inr (nm x):YQ),f x)).map (·.1)).Nodup:=by rw[qq];let:=wV (S:=λa b:YQ=>a≠b) (bS:ai->YQ) (λa b Ĩ z=>Ĩ (iq z)) nd;rw[qq] at this;show this
 show(if _ then _ else _)=_;rw[qY (by rw[qg];show hl),FR,qf,yW kn]
theorem DJ{κ:Type}[dE κ]{F:κ->au D}{k:κ}:∀{ps:Z (κ×D)}{YT:Z (κ×D)},(∀p∈ps,F p.1=U p.2)->(F k≠B->k∈ps.map (·.1)\/bc YT k=F k)->(F k=B->bc YT k=B)->bc (ps.foldl (λYT kv=>bW YT kv.1 kv.2) YT) k=F k
 |[],YT,_,h2,h3=>by
  cases e:F k with
  |none=>show h3 e
  |some d=>
   rcases h2 (by rw[e];exactλz=>nomatch z) with h|h
   .cases h
   .exact h.trans e
 |p::r,YT,h1,h2,h3=>by
  rw[gc];let hp:=h1 p qh;show DJ (λq hq=>h1 q (qi _ hq)) (λhk=>?_) λhk=>?_
  .rw[mO];by_cases e:k=p.1
   .rw[qY e,e,hp];show .inr W
   .rw[qZ e];rcases h2 hk with h|h
    .exact .inl ((cm.mp h).resolve_left e)
    .exact .inr h
  .rw[mO,qZ (λe=>by rw[e,hp] at hk;cases hk)];show h3 hk
def UD(js:Z Y8)(ls:Z Zc):Z YQ->au D
 |[.inr a,.inr b]=>(dR js ls a b).map D.int
 |_=>B
theorem SZ[dE κ]{l:Z (κ×D)}{k:κ}{v:D}(hl:∀q∈l,μ q.2=ah)(hv:μ v=ah):∀q∈bW l k v,μ q.2=ah:=λq hq=>by
 unfold bW at hq;split at hq
 .obtain⟨p,hp,rfl⟩:=bw.mp hq;by_cases e:p.1=k
  .rw[qY e];show hv
  .rw[qZ e];show hl p hp
 .rcases cY.mp hq with hq|hq
  .exact hl q hq
  .rw[bM.mp hq];show hv
theorem E3{κ:Type}[dE κ]:∀{ps YT:Z (κ×D)},(∀q∈ps,μ q.2=ah)->(∀q∈YT,μ q.2=ah)->∀q∈ps.foldl (λYT kv=>bW YT kv.1 kv.2) YT,μ q.2=ah
 |[],_,_,h=>h
 |p::r,YT,h1,h=>by rw[gc];show E3 (λq hq=>h1 q (qi _ hq)) (SZ h (h1 p qh))
theorem FK:∀{l:Z D},(∀x∈l,μ x=ah)->ng l=ah
 |[],_=>rfl
 |x::r,h=>by rw[ng,h x qh,FK λy hy=>h y (qi _ hy)];rfl
theorem Mm{l:Z (Z YQ×D)}(h:∀q∈l,μ q.2=ah):m6 l=ah:=by rw[Db];show FK λx hx=>by let⟨q,hq,rfl⟩:=bw.mp hx;show h q hq
theorem MC(g:Y9 bs ss js E ls ks h):∃YL,oA [.lst ((((ss.map (·.nm)).flatMap (iO js ls (ss.map (·.nm)))).map λt=>.tup [.tup ([t.1,t.2.1].map D.str),.int t.2.2]))]=U (.dt YL)/\(∀a∈ss.map (·.nm),∀b∈ss.map (·.nm),bc YL (kk a b)=(dR js ls a b).map D.int)/\m6 YL=ah:=by
 let hl:=xM js ls (ss.map (·.nm)) (ss.map (·.nm));rw[qg] at hl;let h2:ss.length*ss.length<=40*40:=A9 g.sl.2 g.sl.2;show#[ro ((((ss.map (·.nm)).flatMap (iO js ls (ss.map (·.nm)))).map λt=>([t.1,t.2.1].map bS,.int t.2.2))),?_,λa ha b C=>?_,Mm (E3 (λq hq=>by let⟨t,_,rfl⟩:=bw.mp hq;rfl) λq hq=>nomatch hq)]
 .show(if _ then _ else _)=_;rw[qY (by rw[qg];ext),CM (t:=λt:GT=>[t.1,t.2.1])];rfl
 .refine DJ (F:=UD js ls) (λp hp=>?_) (λhk=>.inl ?_) λ_=>rfl
  .obtain⟨t,ht,rfl⟩:=bw.mp hp;let⟨x,_,hx⟩:=IM.mp ht;let⟨y,_,hy⟩:=sM.mp hx;let⟨q,hq,rfl⟩:=Za hy;show(dR js ls x y).map D.int=_;rw[hq];rfl
  .let hk:(dR js ls a b).map D.int≠B:=hk;cases e:dR js ls a b with
   |none=>rw[e] at hk;show bH W hk
   |some q=>show bw.mpr #[_,bw.mpr #[(a,b,q),IM.mpr #[a,ha,sM.mpr #[b,C,by rw[e];rfl]],W],W]
theorem BS:∀(os:Z GT)(a b c:au Slot),ca (cj 3 (aX (aB 0) (aX (aB 1) (aX (aB 2) ce)))) tT (bo (ZA (J (bo (ZA (J (M 0) .(y)))) .(hb)))) (os.map dGp) [a,b,c]=U (os.map λt=>.tup [.tup ([t.1,t.2.1].map D.str),.int t.2.2])
 |[],_,_,_=>rfl
 |t::r,a,b,c=>by let e:ca (cj 3 (aX (aB 0) (aX (aB 1) (aX (aB 2) ce)))) tT (bo (ZA (J (bo (ZA (J (M 0) .(y)))) .(hb)))) ((t::r).map dGp) [a,b,c]=(ca (cj 3 (aX (aB 0) (aX (aB 1) (aX (aB 2) ce)))) tT (bo (ZA (J (bo (ZA (J (M 0) .(y)))) .(hb)))) (r.map dGp) [oS (.str t.1),oS (.str t.2.1),oS (.int t.2.2)]).map (D.tup [.tup ([t.1,t.2.1].map D.str),.int t.2.2]::·):=rfl;rw[e,BS r];rfl
theorem OK(g:Y9 bs ss js E ls ks h):yY [aZ bs ss js E ls ks h]=U (.lst (bs.map cb)):=by let hp:Pl 8 (.lst (bs.map cb)):=gS (by let:=g.bl;ext) λx hx=>Gv (g.b x hx);show bQ _ W (bO (aN (ax (jj 0 W W) aC) (ik hp)))
abbrev gFo(bs:Z YU)(ss:Z YM)(js:Z Y8)(E:Z ac)(ls:Z Zc)(ks:Z Zi)(h lm:aj)(kp:D×aj)(YL:Z (Z YQ×D)):Fo:=gF4 .(g) js h lm kp ss ss ss ss++([("breaks",.d (.dk (bs.map λb=>(.inr b.nm,.lst (b.br.map Ī))))),("known_gaps",.d (.dt YL))]:Fo)
structure Ō(ss:Z YM)(js:Z Y8)(ls:Z Zc)(YL:Z (Z YQ×D)):Prop where
 at':∀a∈ss.map (·.nm),∀b∈ss.map (·.nm),bc YL (kk a b)=(dR js ls a b).map D.int
 no:m6 YL=ah
theorem Ah(js:Z Y8)(m:ai){x:D}{F:Y8->D}(hs:Y[i]?=U (oS (rG (dz js m))))(ha:fa Y=U x)(C:∀j,Y[i]?=U (oS (bq j))->fb Y=U (F j)):Ŭ (YX (b2 Ē (M i) (vC .non))) fa fb Y=U (match dz js m with|some j=>F j|none=>x):=by
 unfold Ŭ;cases e:dz js m with
 |none=>
  rw[e] at hs;let:YX (b2 Ē (M i) (vC .non)) Y=U ah:=bi (aA (x:=.non) (by unfold M;rw[hs];rfl) W W);rw[this,qc,qY W,ha]
 |some j=>
  rw[e] at hs;let:YX (b2 Ē (M i) (vC .non)) Y=U ar:=bi (aA (x:=bq j) (by unfold M;rw[hs];rfl) W W);rw[this,qc,qZ qu];show C j hs
inductive KdOk:D->D->Prop where
 |non:KdOk .non .non
 |dk (l:Z (YQ×D)):KdOk (.fdk l) (.dk l)
theorem UJ{k:D}(h:KdOk kd k)(hs:Y[3]?=U (oS kd)):Ŭ (YX (b2 Ē (M 3) (vC .non))) (vC .non) (cF wb (J (M 3) aq)) Y=U k:=by
 let hv:M 3 Y=U kd:=by unfold M;rw[hs]
 unfold Ŭ;cases h with
 |non=>
  rw[show YX (b2 Ē (M 3) (vC .non)) Y=U ah from bi (aA hv W W)];rfl
 |dk l=>
  rw[show YX (b2 Ē (M 3) (vC .non)) Y=U ar from bi (aA hv W W),qc,qZ qu];show aN (ax hv aC) W
def NC(g:Y9 bs ss js E ls ks h)(ġ:KdOk kd kp.1):Wp (yF [aZ bs ss js E ls ks h,.int lm,kd,.int kp.2]) λfs=>∃YL,fs=gFo bs ss js E ls ks h lm kp YL/\Ō ss js ls YL:=by
 let hN:=kA (bs:=bs) (js:=js) (E:=E) (ls:=ls) (ks:=ks) (h:=h) g.sl.2;let⟨YL,hk,hv,Α⟩:=MC g;show E9 (cP (oH jo 0 W W W W) (cP (oH jo 1 W W W (UJ ġ W)) (cP (oH jo 2 W W W W) (cP (kg jo 3 W W W) (cP (kg jo 4 W W W) (cP (kg jo 5 W W W) (cP (kg jo 6 W W W) ?_)))))));show dA (hV (λi Y=>∃a b c,Y=grE (gF4 .(g) js h lm kp (ss.take i) (ss.take i) (ss.take i) (ss.take i)) .(g) lm kd kp.2 a b c) (eL (aI (cX .(b) W aC hN) (aI W #[#[B,B,B,W],?_,?_]))))
 .rintro i x Y hx ⟨a,b,c,rfl⟩;rw[qq,qm] at hx;let⟨s,hs,rfl⟩:=Za hx;let hm:=qR hs;let gs:=g.s s hm;let nd:∀l j e m:Z YM,((gF4 .(g) js h lm kp l j e m).map (·.1)).Nodup:=λl j e m=>xz jo 7;show aI W (cP (lf (fs:=gF4 .(g) js h lm kp (ss.take i) (ss.take i) (ss.take i) (ss.take i)) (k:=s.nm) (d:=lwD s) 3 W (nd _ _ _ _) W W (aN (ax (cX .(b) W (ax W aC) (Fi g hm)) aC) (Au (by let:=gs.l4;ext) gs.nd)) (mI _ g.sl.2 _)) ?_);rw[mV g.sn hs lwD];show bF (aI (cX .(b) W (ax W aC) (G9 g s.nm)) ?_);show cP (lf (fs:=gF4 .(g) js h lm kp (ss.take (i+1)) (ss.take i) (ss.take i) (ss.take i)) (k:=s.nm) (d:=jnD js s.nm) 4 W (nd _ _ _ _) W W (Ah js s.nm (F:=λj=>.str j.nm) W W λj hj=>aA (x:=bq j) (by unfold M;rw[hj]) W cG) (mI _ g.sl.2 _)) ?_;rw[mV g.sn hs λs=>jnD js s.nm];let e5:∀fs:Fo,Ŭ (YX (b2 Ē (M 6) (vC .non))) .(e) (b2 YR (M 6) .(f)) (grE fs .(g) lm kd kp.2 (oS (.str s.nm)) (oS (rG (dz js s.nm))) c)=U (.int (eaI js s.nm)):=λfs=>by show(Ah js s.nm (F:=λj=>.int j.ea) W W λj hj=>aA (x:=bq j) (by unfold M;rw[hj]) W fU).trans ?_;unfold eaI;cases dz js s.nm<;>rfl
  show cP (lf (fs:=gF4 .(g) js h lm kp (ss.take (i+1)) (ss.take (i+1)) (ss.take i) (ss.take i)) (k:=s.nm) (d:=.int (eaI js s.nm)) 5 W (nd _ _ _ _) W W (e5 _) (mI _ g.sl.2 _)) ?_;rw[mV g.sn hs λs=>.int (eaI js s.nm)];show bF (aI (a:=.int (duI js h s.nm)) ?_ ?_)
  .refine(Ah js s.nm (x:=.int h) (F:=λj=>.int j.du) W (cX .(b) W aC wX) λj hj=>aA (x:=bq j) (by unfold M;rw[hj]) W ib).trans ?_;unfold duI;cases dz js s.nm<;>rfl
  show aI (lf (fs:=gF4 .(g) js h lm kp (ss.take (i+1)) (ss.take (i+1)) (ss.take (i+1)) (ss.take i)) (k:=s.nm) (d:=.int (ο js lm h s.nm)) 6 W (nd _ _ _ _) W W (aN (ax W (ax (cX .(b) W aC wX) (ax W aC))) W) (mI _ g.sl.2 _)) #[W,?_];rw[mV g.sn hs λs=>.int (ο js lm h s.nm)];show#[_,_,_,W]
 .rintro Y ⟨a,b,c,rfl⟩;rw[qg,qg,fz];show#[W,cP (oH (fs:=gF4 .(g) js h lm kp ss ss ss ss) jo 7 W W W (aN (ax (cX .(b) W aC (OK g)) aC) (Au (nm:=λb:YU=>b.nm) (f:=λb=>.lst (b.br.map Ī)) (by let:=g.bl;ext) g.bn))) (aI (oH jo 8 W W W (aN (ax ?_ aC) hk)) #[W,_,W,YL,W,#[hv,Α]])]
  .let hl:=xM js ls (ss.map (·.nm)) (ss.map (·.nm));rw[qg] at hl;let h2:ss.length*ss.length<=40*40:=A9 g.sl.2 g.sl.2;show eU ?_;unfold ba ZF;rw[aN (ax W aC) (Qt g)];show(if _ then _ else _)=_;rw[qY (by rw[qg];unfold aK;ext)];show BS _ _ _ _
end
def zF:∀l:Z ai,iB (l.map D.str)=ah:=by
 intro Y7
 induction Y7 with
 |nil=>
  show W
 |cons x r ih=>
  show(Ρ (.str x) && iB (r.map D.str))=ah;rw[ih];rfl
section
variable{bs:Z YU}{kp:D×aj}{A P:Z (YQ×D)}{s:YM}
noncomputable abbrev fF(G:D)(Γ A af:Z (YQ×D))(T:Z (Z YQ×D))(P:Z (YQ×D)):Fo:=[("grounds",.d G),("open_benches",.k Γ),("firsts",.k A),("lasts",.k af),("put_pairs",.t T),("notes",.k P)]
def lkF:aJ->Á->D
 |true=>loF
 |false=>foF
def lkD(z:aJ)(c:ai)(fs:Fo):D:=.ins c (fs.map λq=>(q.1,lkF z q.2))
theorem nu:g9.Nodup:=by decide +kernel
theorem oW(G:D)(Γ A af:Z (YQ×D))(T:Z (Z YQ×D))(P:Z (YQ×D)):((fF G Γ A af T P).map (·.1)).Nodup:=nu
abbrev gD(bs:Z YU)(ss:Z YM)(js:Z Y8)(E:Z ac)(ls:Z Zc)(ks:Z Zi)(h lm:aj)(kp:D×aj)(YL:Z (Z YQ×D)):D:=Ψ "Grounds" (gFo bs ss js E ls ks h lm kp YL)
abbrev Zv(z:aJ)(bs:Z YU)(ss:Z YM)(js:Z Y8)(E:Z ac)(ls:Z Zc)(ks:Z Zi)(h lm:aj)(kp:D×aj)(YL:Z (Z YQ×D))(Γ A af:Z (YQ×D))(T:Z (Z YQ×D))(P:Z (YQ×D)):D:=lkD z "Facts" (fF (gD bs ss js E ls ks h lm kp YL) Γ A af T P)
theorem Mc{f:ai}{fs:Fo}{y:Á}(j:ag)(nd:(fs.map (·.1)).Nodup)(hj:fs[j]?=U (f,y))(h1:fo Y=U (lkD z c fs)):bG c f fo Y=U (lkF z y):=by unfold bG;rw[h1];show(if c=c then (fs.map λq=>(q.1,lkF z q.2)).lookup f else B)=_;rw[qY W];show lw (i:=j) (by rw[qq];show nd) ?_;rw[qm,hj];rfl
theorem yM{F:FQ}{fs:Fo}(hm:m∉fs.map (·.1))(h1:fo Y=U (lkD z c fs))(h2:fr Y=U ds)(h3:F (lkD z c fs::ds)=U d):bp c m F fo fr Y=U d:=by let Ó:(fs.map λq=>(q.1,lkF z q.2)).lookup m=B:=lF (by rw[qq];show hm);unfold bp;rw[h1];show(if c=c/\(fs.map λq=>(q.1,lkF z q.2)).lookup m=B then (fr Y).bind λds=>F (lkD z c fs::ds) else B)=_;rw[qY #[W,Ó],h2];show h3
theorem lC:aU (lkF z (.k Γ)) (.str x)=bc Γ (.inr x):=by cases z<;>(show(U (bc Γ (.inr x))).bind id=_;rfl)
def gA{f:ai}{y:Á}(j:ag)(h1:fo Y=U (Zv z bs ss js E ls ks h lm kp YL Γ A af T P))(hj:(fF (gD bs ss js E ls ks h lm kp YL) Γ A af T P)[j]?=U (f,y)):bG "Facts" f fo Y=U (lkF z y):=Mc j (oW _ _ _ _ _ _) hj h1
def jH{f:ai}{y:Á}(j:ag)(h1:fo Y=U (Zv z bs ss js E ls ks h lm kp YL Γ A af T P))(hj:(gFo bs ss js E ls ks h lm kp YL)[j]?=U (f,y)):bG "Grounds" f (bG "Facts" "grounds" fo) Y=U (foF y):=JW (fs:=gFo bs ss js E ls ks h lm kp YL) j jo hj ((gA 0 h1 W).trans (by cases z<;>rfl))
noncomputable def wn(s:YM):Z ai:=s.ws.map (·.1)
theorem sj{fs:Fo}(h:g (U (.fo ah c fs)::(ds.map (λd=>U (Slot.sh d))++bU n B))=U (.nx,U (.fo ah c ê)::Y')):jk n c g fs ds=U (.non,ê):=by unfold jk;rw[h,qc];show qY W
theorem yo{b:aJ}{fs:Fo}(h1:Y[i]?=U (U (.fo b c fs)))(h2:f (Y.set i (oS (Ψ c fs)))=U d)(h3:Ρ d=ah):bwF i f Y=U d:=by unfold bwF;rw[h1];show(f _).bind _=_;rw[h2];show qY h3
theorem u7{f:FA}{b:aJ}{fs:Fo}(h1:Y[i]?=U (U (.fo b c fs)))(h2:f (Y.set i (oS (Ψ c fs)))=U ds)(h3:iB ds=ah):jS i f Y=U ds:=by unfold jS;rw[h1];show(f _).bind _=_;rw[h2];show qY h3
theorem K1{bn:Z ai}(C:∀x∈bn,bh x=ah):∀(ws:Z ai)(a:au Slot),(∀x∈ws,bh x=ah)->ca (aB 0) (YX (b2 iC (M 0) (M 1))) (M 0) (ws.map D.str) [a,oS (.lst (bn.map D.str))]=U ((ws.filter λx=>decide (x∈bn)).map D.str):=by
 intro Y7
 induction Y7 with
 |nil=>
  intro _ _;show W
 |cons x r ih=>
  intro a hw;let ih:=ih (oS (.str x)) λy hy=>hw y (qi _ hy);let t:YX (b2 iC (M 0) (M 1)) [oS (.str x),oS (.lst (bn.map D.str))]=U (decide (x∈bn)):=bi (aA W W (zY (hw x qh) C));rw[qp,lI t,ih,kR];cases decide (x∈bn)<;>rfl
theorem rW(g:Y9 bs ss js E ls ks h)(hs:s∈ss):∀x∈wn s,bh x=ah:=λx hx=>by let⟨w,hw,rfl⟩:=bw.mp hx;show g.bnn _ ((g.s s hs).ws w hw).1
def rV(g:Y9 bs ss js E ls ks h)(hs:s∈ss)(h1:fo Y=U (Zv z bs ss js E ls ks h lm kp YL Γ A af T P))(hk:fk Y=U (.str s.nm)):b2 aU (bG "Grounds" "lengths" (bG "Facts" "grounds" fo)) fk Y=U (lwD s):=
 aA (jH 3 h1 W) hk (show((U (bc (Ģ lwD ss) (.inr s.nm))).bind id)=_ by rw[i9 g.sn hs];rfl)
theorem D6:(s.ws.map λw=>((.inr w.1:YQ),D.int w.2)).map (λkv=>cx kv.1)=(wn s).map D.str:=by unfold wn;rw[qq,qq];rfl
def Fb(g:Y9 bs ss js E ls ks h)(hs:s∈ss){bn:Z ai}(C:∀x∈bn,bh x=ah)(hl:Γ.length<100000):p9 (fF (gD bs ss js E ls ks h lm kp YL) Γ A af T P) [.str s.nm,.lst (bn.map D.str)]=U (.non,fF (gD bs ss js E ls ks h lm kp YL) (bW Γ (.inr s.nm) (.lst (((wn s).filter λx=>decide (x∈bn)).map D.str))) A af T P):=by
 show sj (lf 1 W (oW _ _ _ _ _ _) W W (yo W (eU ?_) (zF _)) hl);unfold v5;rw[rV (z:=ar) g hs W W];let hfl:lfS (oS (.lst (bn.map D.str)))=oS (.lst (bn.map D.str)):=qY (by show(bn.map D.str).all gN=ah;rw[nY,gE];exactλ_ _=>rfl)
 show(if (s.ws.map λw=>((.inr w.1:YQ),D.int w.2)).length<=aK then (ca _ _ _ ((s.ws.map λw=>((.inr w.1:YQ),D.int w.2)).map λkv=>cx kv.1) [B,lfS (oS (.lst (bn.map D.str)))]).bind _ else B)=_;rw[qY (by rw[qg];let:=(g.s s hs).l4;unfold aK;ext),hfl,D6,K1 C (wn s) B (rW g hs),qc,qY];rw[nY,gE];exactλ_ _=>rfl
theorem yQ{k:ai}{x y:D}{G:D}(ha:A.length<100000)(C:af.length<100000):oZ (fF G Γ A af T P) [.str k,x,y]=U (.non,fF G Γ (bW A (.inr k) x) (bW af (.inr k) y) T P):=by show sj ((nh (lf 2 W (oW _ _ _ _ _ _) W W W ha)).trans (lf 3 W (oW _ _ _ _ _ _) W W W C))
def GN(g:Y9 bs ss js E ls ks h)(hs:s∈ss):vV [Zv z bs ss js E ls ks h lm kp YL Γ A af T P,.str s.nm]=U (.int (ο js lm h s.nm)):=
 bQ _ W (bO (aA (jH 6 W W) W (show((U (bc (Ģ (λs=>.int (ο js lm h s.nm)) ss) (.inr s.nm))).bind id)=_ by rw[i9 g.sn hs];rfl)))
def ş(s:YM)(b:ai):aj:=match bc (s.ws.map λw=>((.inr w.1:YQ),D.int w.2)) (.inr b) with
 |some (.int n)=>n
 |_=>0
theorem Hh(nd:(s.ws.map (·.1)).Nodup){w:ai×aj}(hw:w∈s.ws):bc (s.ws.map λw=>((.inr w.1:YQ),D.int w.2)) (.inr w.1)=U (.int w.2):=i9 nd hw
theorem Ao(nd:(s.ws.map (·.1)).Nodup){w:ai×aj}(hw:w∈s.ws):ş s w.1=w.2:=by unfold ş;rw[Hh nd hw]
theorem zp(nd:(s.ws.map (·.1)).Nodup){b:ai}(C:b∈wn s):aU (lwD s) (.str b)=U (.int (ş s b)):=by let⟨w,hw,rfl⟩:=bw.mp C;rw[Ao nd hw];show(U (bc (s.ws.map λw=>((.inr w.1:YQ),D.int w.2)) (.inr w.1))).bind id=_;rw[Hh nd hw];rfl
theorem QC(nd:(s.ws.map (·.1)).Nodup):∀(l:Z ai)(a:au Slot),(∀b∈l,b∈wn s)->ca (aB 0) tT (b2 aU (M 1) (M 0)) (l.map D.str) [a,oS (lwD s)]=U ((l.map (ş s)).map D.int):=by
 intro Y7
 induction Y7 with
 |nil=>
  intro _ _;show W
 |cons x r ih=>
  intro a hl;let e:=ih (oS (.str x)) λb C=>hl b (qi _ C);rw[qp,lI W,qY W,e];let:b2 aU (M 1) (M 0) [oS (.str x),oS (lwD s)]=U (.int (ş s x)):=aA W W (zp nd (hl x qh));rw[this];rfl
theorem Jc:∀l:Z aj,jc (l.map D.int)=U l:=by
 intro Y7
 induction Y7 with
 |nil=>
  show W
 |cons x r ih=>
  show(jc (r.map D.int)).map _=_;rw[ih];rfl
def Uu(g:Y9 bs ss js E ls ks h)(hs:s∈ss){o:Z ai}(ho:bc Γ (.inr s.nm)=U (.lst (o.map D.str)))(hw:∀b∈o,b∈wn s)(hl:o.length<=1000):Ae [Zv z bs ss js E ls ks h lm kp YL Γ A af T P,.str s.nm]=U (.lst ((o.map (ş s)).map D.int)):=by show bQ _ W ((gR (rV g hs W W)).trans (bO (eU ?_)));unfold ba ZF;rw[aA (gA 1 W W) W (lC.trans ho)];show(if (o.map D.str).length<=aK then _ else _)=_;rw[qY (by rw[qg];unfold aK;ext)];show QC (g.s s hs).nd o B hw
def least_of(g:Y9 bs ss js E ls ks h)(hs:s∈ss){o:Z ai}(ho:bc Γ (.inr s.nm)=U (.lst (o.map D.str)))(hw:∀b∈o,b∈wn s)(hl:o.length<=1000):vR [Zv z bs ss js E ls ks h lm kp YL Γ A af T P,.str s.nm]=U (rZ (o.map (ş s))):=by show bQ _ W (bO ?_);unfold b1;rw[yM (show("open_lengths":ai)∉g9 by decide +kernel) W (ax W aC) (Uu g hs ho hw hl)];show(jc ((o.map (ş s)).map D.int)).map rZ=_;rw[Jc];rfl
theorem lO{F:Fo->Z D->au (D×Fo)}{b:aJ}{fs:Fo}(h1:Y[i]?=U (U (.fo b c fs)))(hm:m∉fs.map (·.1))(h2:fr Y=U ds)(h3:F fs ds=U (d,ê)):gO c m i F fr Y=U (.nx,Y.set i (U (.fo b c ê))):=by unfold gO;rw[h1];show(if c=c/\fs.lookup m=B then _ else B)=_;rw[qY #[W,lF hm],h2,qc,h3];rfl
theorem Ve(l:Z ai):l.filter (λx=>decide (x∈l))=l:=List.filter_eq_self.mpr λx hx=>qU hx
end
section
variable{bs:Z YU}{kp:D×aj}{A P:Z (YQ×D)}{s:YM}
noncomputable def mxZ(i j:aj):aj:=if j > i then j else i
def lsW(s:YM):aj:=mnI (s.ws.map (·.2))
theorem UX(nd:(s.ws.map (·.1)).Nodup){l:Z (ai×aj)}(hl:∀w∈l,w∈s.ws):(l.map (·.1)).map (ş s)=l.map (·.2):=by rw[qq];show gf λw hw=>Ao nd (hl w hw)
theorem Nq{ns:Z aj}(h:ns≠[]):rZ ns=.int (mnI ns):=qZ h
def N8(g:Y9 bs ss js E ls ks h)(hs:s∈ss)(ho:bc Γ (.inr s.nm)=U (.lst ((wn s).map D.str))):vR [Zv z bs ss js E ls ks h lm kp YL Γ A af T P,.str s.nm]=U (.int (lsW s)):=by
 rw[least_of g hs ho (λ_ h=>h) (by unfold wn;rw[qg];let:=(g.s s hs).l4;ext)];rw[show(wn s).map (ş s)=s.ws.map (·.2) from UX (g.s s hs).nd λ_ h=>h,Nq]
 .rfl
 intro z;let h1:=bP cM z;rw[qg] at h1;let h3:=(g.s s hs).l1;simp only[qo] at h1;ext
abbrev opS(s:YM):D:=.lst ((wn s).map D.str)
abbrev fiS(js:Z Y8)(nw:aj)(s:YM):D:=.int (mxZ nw (eaI js s.nm))
abbrev laS(js:Z Y8)(lm h:aj)(s:YM):D:=.int (ο js lm h s.nm-lsW s)
abbrev fiE(fs:Fo)(S:D)(lm:aj)(kd:D)(mo nw:aj)(a b c:au Slot):bB:=[U (.fo ah "Facts" fs),oS S,oS (.int lm),oS .non,oS kd,oS (.int mo),oS (.int nw),a,b,c]
abbrev oT(G:D)(js:Z Y8)(lm h nw:aj)(l:Z YM):Fo:=fF G (Ģ opS l) (Ģ (fiS js nw) l) (Ģ (laS js lm h) l) [] []
def GU(g:Y9 bs ss js E ls ks h)(ġ:KdOk kd kp.1):Wp (nc [aZ bs ss js E ls ks h,.int lm,.non,kd,.int kp.2,.int nw]) λfs=>∃YL,fs=oT (gD bs ss js E ls ks h lm kp YL) js lm h nw ss/\Ō ss js ls YL:=by
 let hN:=kA (bs:=bs) (js:=js) (E:=E) (ls:=ls) (ks:=ks) (h:=h) g.sl.2;let⟨_,hg,YL,rfl,hk⟩:=NC (lm:=lm) (kp:=kp) g ġ;let nm:∀{m:ai},m∉g9->∀{G:D}{Γ A af:Z (YQ×D)}{T:Z (Z YQ×D)}{P:Z (YQ×D)},m∉(fF G Γ A af T P).map (·.1):=λhm=>hm;show E9 (cP (oH (d:=gD bs ss js E ls ks h lm kp YL) nu 0 W W W (aN (ax W (ax W .(k))) (by rw[show([aZ bs ss js E ls ks h,D.int lm,kd,.int kp.2]++[]:Z D)=[aZ bs ss js E ls ks h,.int lm,kd,.int kp.2] from W,hg];rfl))) (cP (kg nu 1 W W W) (cP (kg nu 2 W W W) (cP (kg nu 3 W W W) (cP (kg nu 4 W W W) (cP (kg nu 5 W W W) ?_))))));show hV (λi Y=>∃a b c,Y=fiE (oT (gD bs ss js E ls ks h lm kp YL) js lm h nw (ss.take i)) .(g) lm kd kp.2 nw a b c) (eL (aI (cX .(b) W aC hN) (aI W #[#[B,B,B,W],?_,?_])))
 .rintro i x Y hx ⟨a,b,c,rfl⟩;rw[qq,qm] at hx;let⟨s,hs,rfl⟩:=Za hx;let hm:=qR hs;show aI W (bF (aI (yo (d:=.int (eaI js s.nm)) W (aA (jH (z:=ar) 5 W W) W (show((U (bc (Ģ (λs=>.int (eaI js s.nm)) ss) (.inr s.nm))).bind id)=_ by rw[i9 (nm:=λs:YM=>s.nm) g.sn hm];rfl)) W) ?_));let e1:=mV g.sn hs opS;let e2:=mV g.sn hs (fiS js nw);let e3:=mV g.sn hs (laS js lm h);show fB (aI (a:=ar) W #[(λq=>nomatch q),λ_=>?_])
  .refine cP (lO W (nm .(b)) (u7 W (ax W (ax (aN (z:=.lst ((wn s).map D.str)) (ax (rV (z:=ar) g hm W W) aC) ?_) aC)) ?_) (Fb g hm (rW g hm) (mI _ g.sl.2 _))) ?_
   .show U (D.lst ((s.ws.map λw=>((.inr w.1:YQ),D.int w.2)).map λkv=>cx kv.1))=_;rw[D6]
   .show(Ρ (.str s.nm) && (iB ((wn s).map D.str) && ah))=ah;rw[zF];rfl
   rw[Ve,e1];let hn:=N8 (lm:=lm) (kp:=kp) (YL:=YL) (Γ:=Ģ opS (ss.take (i+1))) (A:=Ģ (fiS js nw) (ss.take i)) (af:=Ģ (laS js lm h) (ss.take i)) (T:=[]) (P:=[]) (z:=ar) g hm (by show i9 (nm:=λs:YM=>s.nm) (f:=opS) (pY ((nG _ _).map _) g.sn) ?_;rw[kY,hs];simp)
   show aI (lO W (nm .(b)) (u7 W (ax W (ax (aN .(k) W) (ax (aA (CY (c:="Facts") (nm .(b)) W (ax W aC) (GN (z:=ar) g hm)) (CY (c:="Facts") (nm .(b)) W (ax W aC) hn) W) aC))) W) (yQ (mI _ g.sl.2 _) (mI _ g.sl.2 _))) #[W,?_];show#[oS (.str s.nm),oS (.int (eaI js s.nm)),c,?_];unfold oT;rw[<-e2,<-e3];rfl
 .rintro Y ⟨a,b,c,rfl⟩;rw[qg,qg,fz];show#[W,_,W,YL,W,hk]
theorem QF{k:ai}{G:D}(hp:P.length<100000):zT (fF G Γ A af T P) [.str k]=U (.non,fF G Γ A af T (bW P (.inr k) (.bl ah))):=by show sj (lf 5 W (oW _ _ _ _ _ _) W W W hp)
theorem Ep{a b:ai}{G:D}(hp:T.length<100000):vT (fF G Γ A af T P) [.str a,.str b]=U (.non,fF G Γ A af (bW T (kk a b) (.bl ah)) P):=by show sj (SW (t:=[a,b]) 4 W (oW _ _ _ _ _ _) W (ii W W) W hp)
end
def E2{a b:Z ai}(ha:∀x∈a,bh x=ah)(C:∀x∈b,bh x=ah):Ε (.lst (a.map D.str)) (.lst (b.map D.str))=U (.bl (decide (a=b))):=by
 let e0:Ε (.lst (a.map D.str)) (.lst (b.map D.str))=vN (.lst (a.map D.str)) (.lst (b.map D.str)):=rfl;let p:∀l:Z ai,Ö (.lst (l.map D.str))=U (.list (l.map jw)):=λl=>by simp[Ö,vX]
 rw[e0];unfold vN eqX;rw[p a,p b,qc,qc,qY #[xN ha,xN C]];show U (D.bl (mx (a.map jw) (b.map jw)))=_;rw[F4]
section
variable{bs:Z YU}{kp:D×aj}{A P:Z (YQ×D)}{s t:YM}{bm:YM->Z ai}{f l:aj}
structure Op(ss:Z YM)(bm:YM->Z ai)(Γ:Z (YQ×D)):Prop where
 at':∀s∈ss,bc Γ (.inr s.nm)=U (.lst ((bm s).map D.str))
structure Bn(ss:Z YM)(bm:YM->Z ai):Prop where
 nb:∀s∈ss,∀x∈bm s,bh x=ah
noncomputable def sm(bm:YM->Z ai)(s t:YM):aJ:=decide ((bm s).length=1) && decide (bm s=bm t)
theorem OT(C:Bn ss bm)(ho:Op ss bm Γ)(hs:s∈ss)(ht:t∈ss)(h1:fa Y=U (.lst ((bm s).map D.str)))(h2:fb Y=U (.lst ((bm t).map D.str))):cu (b2 î (cF b8 (J fa aq)) .(f)) (b2 Ε fa fb) Y=U (.bl (sm bm s t)):=by
 let e1:b2 î (cF b8 (J fa aq)) .(f) Y=U (.bl (decide ((bm s).length=1))):=by
  show(aA (x:=.int (bm s).length) (aN (ax h1 aC) ?_) W W).trans ?_
  .show U (D.int ((bm s).map D.str).length)=_;rw[qg]
  .congr 2
   rw[IQ];ext
 let e2:b2 Ε fa fb Y=U (.bl (decide (bm s=bm t))):=aA h1 h2 (E2 (C.nb s hs) (C.nb t ht));show v9 e1 λ_=>e2
def zc(ho:Op ss bm Γ)(hs:s∈ss)(h1:fo Y=U (Zv z bs ss js E ls ks h lm kp YL Γ A af T P))(h2:fk Y=U (.str s.nm)):b2 aU (bG "Facts" "open_benches" fo) fk Y=U (.lst ((bm s).map D.str)):=
 aA (gA 1 h1 W) h2 (lC.trans (ho.at' s hs))
def J5(C:Bn ss bm)(ho:Op ss bm Γ)(hs:s∈ss)(ht:t∈ss):uW [Zv z bs ss js E ls ks h lm kp YL Γ A af T P,.str s.nm,.str t.nm]=U (.bl (sm bm s t)):=
 bQ _ W (bO (OT C ho hs ht (zc ho hs W W) (zc ho ht W W)))
def dJ{F:FQ}(hm:m∉g9)(h1:fo Y=U (Zv z bs ss js E ls ks h lm kp YL Γ A af T P))(h2:fr Y=U ds)(h3:F (Zv z bs ss js E ls ks h lm kp YL Γ A af T P::ds)=U d):bp "Facts" m F fo fr Y=U d:=yM (fs:=fF (gD bs ss js E ls ks h lm kp YL) Γ A af T P) hm h1 h2 h3
def gpI(js:Z Y8)(E:Z ac)(ls:Z Zc)(bm:YM->Z ai)(s t:YM):aj:=
 if sm bm s t=ah then (if stI E ((bm s).getD 0 "") s.kd t.kd > (dR js ls s.nm t.nm).getD 0 then stI E ((bm s).getD 0 "") s.kd t.kd else (dR js ls s.nm t.nm).getD 0) else (dR js ls s.nm t.nm).getD 0
def B5(g:Y9 bs ss js E ls ks h)(hk:Ō ss js ls YL)(C:Bn ss bm)(ho:Op ss bm Γ)(hs:s∈ss)(ht:t∈ss):sH [Zv z bs ss js E ls ks h lm kp YL Γ A af T P,.str s.nm,.str t.nm]=U (.int (gpI js E ls bm s t)):=by
 let em:∀y w:au Slot,bp "Facts" "have_one_bench" uW (M 0) (J (M 1) .(hb)) [oS (Zv z bs ss js E ls ks h lm kp YL Γ A af T P),oS (.str s.nm),oS (.str t.nm),y,w]=U (.bl (sm bm s t)):=λy w=>dJ .(b) W .(k) (J5 C ho hs ht);let e1:b3 wo (bG "Grounds" "known_gaps" (bG "Facts" "grounds" (M 0))) (bo (ZA (J (M 1) .(hb)))) .(e) [oS (Zv z bs ss js E ls ks h lm kp YL Γ A af T P),oS (.str s.nm),oS (.str t.nm),B,B]=U (.int ((dR js ls s.nm t.nm).getD 0)):=by unfold b3;rw[jH 8 W W,ii W W];show U ((bc YL (kk s.nm t.nm)).getD (.int 0))=_;rw[hk.at' _ (qX hs) _ (qX ht)];cases dR js ls s.nm t.nm<;>rfl
 unfold gpI;cases e:sm bm s t with
 |false=>
  rw[qZ qu];show bQ _ W ((gR e1).trans (rg ?_ (bO W)));show ky (bi ((em _ _).trans (by rw[e])))
 |true=>
  rw[qY W];let l1:(bm s).length=1:=by unfold sm at e;rw[dB] at e;show fT e.1
  let⟨b0,hb0⟩:=List.length_eq_one_iff.mp l1;show bQ _ W ((gR e1).trans ((gP ?_).trans ((gR (d:=aZ bs ss js E ls ks h) ?_).trans (bO (aN (ax W (ax (d:=.int (stI E ((bm s).getD 0 "") s.kd t.kd)) ?_ aC)) W)))))
  .exact ky (bi ((em _ _).trans (by rw[e])))
  .exact dJ .(b) W aC (bQ _ W (bO (jH 0 W W)))
  .refine cX .(b) W (ax (aA (zc ho hs W W) W ?_) (ax (cX .(b) W (ax W aC) (wa g hs)) (ax (cX .(b) W (ax W aC) (wa g ht)) aC))) Dx;rw[hb0];rfl
def EA(hA:bc A (.inr s.nm)=U (.int f)):rY [Zv z bs ss js E ls ks h lm kp YL Γ A af T P,.str s.nm]=U (.int f):=
 bQ _ W (bO (aA (gA 2 W W) W (lC.trans hA)))
def EF(hB:bc af (.inr s.nm)=U (.int l)):sd [Zv z bs ss js E ls ks h lm kp YL Γ A af T P,.str s.nm]=U (.int l):=
 bQ _ W (bO (aA (gA 3 W W) W (lC.trans hB)))
def QV:uN [Zv z bs ss js E ls ks h lm kp YL Γ A af T P]=U (.int kp.2):=
 bQ _ W (bO (jH 2 W W))
def tR{b:aJ}(hk:iG kp.1 .non=U (.bl b)):jz [Zv z bs ss js E ls ks h lm kp YL Γ A af T P]=U (.bl b):=
 bQ _ W (bO (aA (jH 1 W W) W hk))
def P5:tU [Zv z bs ss js E ls ks h lm kp YL Γ A af T P]=U .(g):=
 bQ _ W (bO (jH 0 W W))
def LG(hk:kp.1=.dk kl):oe [Zv z bs ss js E ls ks h lm kp YL Γ A af T P,.str m]=U ((bc kl (.inr m)).getD .non):=by let hh:jz [Zv z bs ss js E ls ks h lm kp YL Γ A af T P]=U (.bl ah):=tR (by rw[hk];rfl);show bQ _ W (bO ?_);unfold Ŭ;rw[bi (dJ .(b) W aC hh),qc,qY W];show aA (jH 1 W W) W ?_;rw[hk];rfl
def ND{y:D}(hk:kp.1=.dk kl)(hz:sx [.dk kl]=U y):se [Zv z bs ss js E ls ks h lm kp YL Γ A af T P]=U y:=by let hh:jz [Zv z bs ss js E ls ks h lm kp YL Γ A af T P]=U (.bl ah):=tR (by rw[hk];rfl);show bQ _ W (bO ?_);unfold Ŭ;rw[bi (dJ .(b) W aC hh),qc,qY W];show aN (ax (jH 1 W W) aC) (by rw[hk];show hz)
def Rg{o:Z ai}(hO:bc Γ (.inr s.nm)=U (.lst (o.map D.str))):vA [Zv z bs ss js E ls ks h lm kp YL Γ A af T P,.str s.nm]=U (.lst (o.map D.str)):=
 bQ _ W (bO (aN (ax (aA (gA 1 W W) W (lC.trans hO)) aC) W))
def IY(hT:T.map (·.1)=ts.map λp=>kk p.1 p.2):xD [Zv ar bs ss js E ls ks h lm kp YL Γ A af T P]=U (.lst (ts.map λp=>.tup [.str p.1,.str p.2])):=by show bQ _ W (bO (aN (ax (gA 4 W W) aC) ?_));show U (D.lst (T.map λkv=>.tup (kv.1.map cx)))=_;rw[show(T.map λkv=>D.tup (kv.1.map cx))=(T.map (·.1)).map λk=>.tup (k.map cx) by rw[qq];rfl,hT,qq];rfl
def P7(hN:P.map (·.1)=ns.map bS):uk [Zv ar bs ss js E ls ks h lm kp YL Γ A af T P]=U (.lst (ns.map D.str)):=by show bQ _ W (bO (aN (ax (gA 5 W W) aC) ?_));show U (D.lst (P.map λkv=>cx kv.1))=_;rw[show(P.map λkv=>cx kv.1)=(P.map (·.1)).map cx by rw[qq];rfl,hN,qq];rfl
def NR(g:Y9 bs ss js E ls ks h)(hs:s∈ss){o:Z ai}{b:ai}{st:aj}(hO:bc Γ (.inr s.nm)=U (.lst (o.map D.str)))(ho:∀x∈o,x∈wn s)(hA:bc A (.inr s.nm)=U (.int f))(hB:bc af (.inr s.nm)=U (.int l))(C:bh b=ah):
  An [Zv z bs ss js E ls ks h lm kp YL Γ A af T P,.str s.nm,.str b,.int st]=U (.bl (decide (b∈o) && (decide (f<=st) && decide (st<=l)) && decide (st+ş s b<=ο js lm h s.nm))):=by
 let nb:∀x∈o,bh x=ah:=λx hx=>rW g hs x (ho x hx);let e1:YX (b2 iL (M 2) (b2 aU (bG "Facts" "open_benches" (M 0)) (M 1))) [oS (Zv z bs ss js E ls ks h lm kp YL Γ A af T P),oS (.str s.nm),oS (.str b),oS (.int st)]=U (!decide (b∈o)):=bi (aA W (aA (gA 1 W W) W (lC.trans hO)) (xf C nb));let e2:bE (YX (ŉ Î Î (b2 aU (bG "Facts" "firsts" (M 0)) (M 1)) (M 3) (b2 aU (bG "Facts" "lasts" (M 0)) (M 1)))) [oS (Zv z bs ss js E ls ks h lm kp YL Γ A af T P),oS (.str s.nm),oS (.str b),oS (.int st)]=U (!(decide (f<=st) && decide (st<=l))):=ky (bi (Hi (aA (gA 2 W W) W (lC.trans hA)) W (aA (gA 3 W W) W (lC.trans hB))));let e3:=bor e1 e2;by_cases hh:b∈o/\f<=st/\st<=l
 .refine bQ _ W ((gP (e3.trans ?_)).trans (bO ?_))
  .simp[hh]
  .refine(aA (aA W (aA (rV g hs W W) W (zp (g.s s hs).nd (ho b hh.1))) W) (dJ .(b) W (ax W aC) (GN g hs)) W).trans ?_;simp[hh]
 .let q:(decide (b∈o) && (decide (f<=st) && decide (st<=l)))=ar:=by
   rw[XW,XW];by_cases q:b∈o
   .by_cases q2:f<=st
    .exact .inr (.inr (qP λq3=>hh #[q,q2,q3]))
    .exact .inr (.inl (qP q2))
   .exact .inl (qP q)
  rw[q];show bQ _ W (rg (e3.trans ?_) (bO W));rw[<-Bool.not_and,q];rfl
end
def Na{p q:ai×aj}(hp:bh p.1=ah)(hq:bh q.1=ah):ĵ (ZB p) (ZB q)=U (.bl (!decide (p=q))):=by
 let e0:ĵ (ZB p) (ZB q)=o6 (ZB p) (ZB q):=rfl;let sh:∀r:ai×aj,bh r.1=ah->fL (.tuple [.str r.1,.int r.2])=ah:=λr h=>by simp[fL,pW,nR,rf h,pX,tQ]
 let pd:∀r:ai×aj,Ö (ZB r)=U (.tuple [.str r.1,.int r.2]):=λr=>by simp[Ö,gq]
 rw[e0];unfold o6 eqX;rw[pd,pd,qc,qc,qY #[sh p hp,sh q hq]];show U (D.bl (!jv (.tuple [.str p.1,.int p.2]) (.tuple [.str q.1,.int q.2])))=_
 congr 3
 let⟨a,i⟩:=p;let⟨b,j⟩:=q;rw[kK];simp[jv,mx]
def plO(P:bV)(m:ai):ai×aj:=(lk P m).getD ("",0)
def nv{P:bV}{p:ai×aj}(h:lk P m=U p):plO P m=p:=by unfold plO;rw[h];rfl
noncomputable def sAt(ss:Z YM)(m:ai):YM:=(ss.find? λs=>decide (s.nm=m)).getD #[m,m,[]]
def kr:∀{ss:Z YM}{s:YM},(ss.map (·.nm)).Nodup->s∈ss->sAt ss s.nm=s
 |t::r,s,nd,hs=>by
  rw[qp,eG] at nd;unfold sAt;rw[eX];by_cases e:t.nm=s.nm
  .rw[qU e];rcases cm.mp hs with q|q
   .exact q.symm
   .exact bH (qX (f:=(·.nm)) q) (by rw[<-e];show nd.1)
  .rw[qP e];rcases cm.mp hs with q|q
   .exact bH (by rw[q]) e
   .exact kr nd.2 q
structure FSt(ss:Z YM)(kd:D)(Γ A af:Z (YQ×D))(T:Z (Z YQ×D))(N:Z (YQ×D))(on:YM->Z ai)(fa la:YM->aj)(ts:Z (ai×ai))(ns:Z ai):Prop where
 o:Op ss on Γ
 ow:∀s∈ss,∀x∈on s,x∈wn s
 ak:A.map (·.1)=ss.map λs=>bS s.nm
 a:∀s∈ss,bc A (.inr s.nm)=U (.int (fa s))
 b:∀s∈ss,bc af (.inr s.nm)=U (.int (la s))
 tk:T.map (·.1)=ts.map λp=>kk p.1 p.2
 tm:∀p∈ts,∃a∈ss,∃b∈ss,p=(a.nm,b.nm)
 tl:ts.length<=100
 nk:N.map (·.1)=ns.map bS
 nl:ns.length<=100
 nm:∀m∈ns,∃K:bV,kd=.dk (tb ZB K)/\∃p,lk K m=U p
variable{on:YM->Z ai}{la:YM->aj}
section
variable{bs:Z YU}{kp:D×aj}{A N:Z (YQ×D)}{s t:YM}{fa:YM->aj}{P:bV}
def FSt.bn(F:FSt ss kp.1 Γ A af T N on fa la ts ns)(g:Y9 bs ss js E ls ks h):Bn ss on:=⟨λs hs x hx=>rW g hs x (F.ow s hs x hx)⟩
def inW(js:Z Y8)(lm h:aj)(on:YM->Z ai)(fa la:YM->aj)(s:YM)(p:ai×aj):aJ:=decide (p.1∈on s) && (decide (fa s<=p.2) && decide (p.2<=la s)) && decide (p.2+ş s p.1<=ο js lm h s.nm)
def ι(ss:Z YM)(js:Z Y8)(E:Z ac)(ls:Z Zc)(on:YM->Z ai)(P:bV)(p:ai×ai):aJ:=decide ((plO P p.1).2+ş (sAt ss p.1) (plO P p.1).1+gpI js E ls on (sAt ss p.1) (sAt ss p.2)<=(plO P p.2).2)
theorem Tk(nd:(s.ws.map (·.1)).Nodup){b:ai}{n:aj}(hn:lk s.ws b=U n):ş s b=n:=Ao nd (jx hn)
def P0(g:Y9 bs ss js E ls ks h)(hk:Ō ss js ls YL)(F:FSt ss kp.1 Γ A af T N on fa la ts ns)(hO:OnW ss P){p:ai×ai}(hp:p∈ts):vU [Zv z bs ss js E ls ks h lm kp YL Γ A af T N,pD P,.str p.1,.str p.2]=U (.bl (ι ss js E ls on P p)):=by let⟨a,ha,b,C,rfl⟩:=F.tm p hp;let⟨pa,n,e1,e2⟩:=hO a ha;let⟨pb,_,e3,_⟩:=hO b C;unfold ι;rw[nv e1,nv e3,kr g.sn ha,kr g.sn C];show bQ _ W ((gR (aA (dG W W e1 1 W) (aA (rV g ha W W) (dG W W e1 0 W) (zp (g.s a ha).nd (bw.mpr #[_,jx e2,W]))) W)).trans (bO (aA (dG W W e3 1 W) (aA W (dJ .(b) W .(k) (B5 g hk (F.bn g) F.o ha C)) W) W)))
end
def FU{b:ai->aJ}:∀(l:Z ai)(a:au Slot),(∀x∈l,ft (oS (.str x)::r)=U (b x))->ca (aB 0) ft (M 0) (l.map D.str) (a::r)=U ((l.filter b).map D.str):=by
 intro Y7
 induction Y7 with
 |nil=>
  intro _ _;show W
 |cons x l ih=>
  intro a h;rw[qp,lI (h x qh),ih _ λy hy=>h y (qi _ hy),kR];cases b x<;>rfl
def TR{b:ai->aJ}:∀(l:Z ai)(a:au Slot),(∀x∈l,fe (oS (.str x)::r)=U (.bl (b x)))->ca (aB 0) tT fe (l.map D.str) (a::r)=U ((l.map b).map D.bl):=by
 intro Y7
 induction Y7 with
 |nil=>
  intro _ _;show W
 |cons x l ih=>
  intro a h;rw[qp,lI W,qY W,h x qh,ih _ λy hy=>h y (qi _ hy)];rfl
noncomputable abbrev dPr(p:ai×ai):D:=.tup [.str p.1,.str p.2]
def Oy{b:ai×ai->aJ}:∀(l:Z (ai×ai))(a c:au Slot),(∀p∈l,fe (oS (.str p.1)::oS (.str p.2)::r)=U (.bl (b p)))->ca .(l) tT fe (l.map dPr) (a::c::r)=U ((l.map b).map D.bl):=by
 intro Y7
 induction Y7 with
 |nil=>
  intro _ _ _;show W
 |cons p l ih=>
  intro a c h;let e:ca .(l) tT fe ((p::l).map dPr) (a::c::r)=(fe (oS (.str p.1)::oS (.str p.2)::r)).bind λd=>(ca .(l) tT fe (l.map dPr) (oS (.str p.1)::oS (.str p.2)::r)).map (d::·):=rfl;rw[e,h p qh,ih _ _ λy hy=>h y (qi _ hy)];rfl
def xE{l:Z aJ}(h:fr Y=U (l.map D.bl)):cF eQ (J (aQ fr) aq) Y=U (.bl (l.all id)):=aN (ax (eU h) aC) (by show(jL _).map _=_;rw[C4];rfl)
def uw{A:Z (YQ×D)}(h:fo Y=U (.fdk A)):itK fo Y=U (A.map λkv=>cx kv.1):=by unfold itK;rw[h];rfl
def Tq{A:Z (Z YQ×D)}(h:fo Y=U (.fdt A)):jM fo Y=U (A.map λkv=>.tup (kv.1.map cx)):=by unfold jM;rw[h];rfl
def Rb{f:α->D}:∀P:Z (ai×α),oX (tb f P)=U (P.map (·.1)):=by
 intro Y7
 induction Y7 with
 |nil=>
  show W
 |cons x0 r ih=>
  let⟨k,v⟩:=x0;show(oX (tb f r)).map (k::·)=_;rw[ih];rfl
def ŀ(P K:bV)(m:ai):aJ:=!decide (plO P m=plO K m)
section
variable{bs:Z YU}{A N:Z (YQ×D)}{s t:YM}{fa:YM->aj}{P K:bV}
abbrev Θ(ss:Z YM)(K:bV):Prop:=Zb K/\K.length<=5/\∀q∈K,∃s∈ss,s.nm=q.1
def Dj(hP:Zb P)(hA:All ss P)(hK:Θ ss K)(hm:m∈K.map (·.1)):∃p q,lk P m=U p/\lk K m=U q/\ĵ (ZB p) (ZB q)=U (.bl (ŀ P K m)):=by let⟨q,hq,rfl⟩:=bw.mp hm;let⟨s,hs,e⟩:=hK.2.2 q hq;let⟨p,hp⟩:=hA s hs;rw[e] at hp;let hk:=uA hK.1.nd hq;show#[p,q.2,hp,hk,?_];unfold ŀ;rw[nv hp,nv hk];show Na (hP.nb _ (jx hp)).2 (hK.1.nb _ hq).2
def LY(F:FSt ss .non Γ A af T N on fa la ts ns):oV [Zv ah bs ss js E ls ks h lm (.non,mo) YL Γ A af T N,pD P]=U (.bl ah):=by
 let hh:jz [Zv ah bs ss js E ls ks h lm (.non,mo) YL Γ A af T N]=U (.bl ar):=tR W;let hn:ns=[]:=by
  cases ns with
  |nil=>rfl
  |cons m r=>let⟨K,e,_⟩:=F.nm m qh;cases e
 let hN:N=[]:=by let:=F.nk;rw[hn] at this;show XT.mp this
 subst hN;let e1:se [Zv ah bs ss js E ls ks h lm (.non,mo) YL Γ A af T []]=U (.lst []):=by show bQ _ W (bO ?_);unfold Ŭ;rw[bi (dJ .(b) W aC hh),qc,qZ qu];rfl
 show bQ _ W ((gR (eU (ij (dI (dJ .(b) W aC e1)) .(b) W))).trans ((gP ?_).trans (bO (xE (l:=[]) (ij (xs:=[]) ?_ .(b) W)))))
 .exact iA (b:=ar) (bi (dJ .(b) W aC hh)) λz=>nomatch z
 .exact uw (A:=[]) (gA (z:=ah) 5 W W)
def KH(hK:Θ ss K):sx [.dk (tb ZB K)]=U (.lst ((i7 (K.map (·.1))).map D.str)):=by show(oX (tb ZB K)).bind _=_;rw[Rb,qc,qY (by rw[qg];let:=hK.2.1;ext)]
def Sz(F:FSt ss (.dk (tb ZB K)) Γ A af T N on fa la ts ns)(hP:Zb P)(hA:All ss P)(hK:Θ ss K):oV [Zv ah bs ss js E ls ks h lm (.dk (tb ZB K),mo) YL Γ A af T N,pD P]=U (.bl (decide ((((K.map (·.1)).filter (ŀ P K)).length:aj)<=mo) && ns.all (ŀ P K))):=by
 let hh:jz [Zv ah bs ss js E ls ks h lm (.dk (tb ZB K),mo) YL Γ A af T N]=U (.bl ah):=tR W;let pm:(i7 (K.map (·.1))).Perm (K.map (·.1)):=wS _ Ŗ;let tst:∀m∈K.map (·.1),b2 ĵ (b2 aU (M 1) (M 0)) (bp "Facts" "kept_place" oe (M 2) (J (M 0) aq)) [oS (.str m),oS (pD P),oS (Zv ah bs ss js E ls ks h lm (.dk (tb ZB K),mo) YL Γ A af T N)]=U (.bl (ŀ P K m)):=λm hm=>by let⟨p,q,h1,h2,h3⟩:=Dj hP hA hK hm;show aA (aA W W (lj h1)) (dJ .(b) W (ax W aC) ((LG W).trans ?_)) h3;rw[iI,h2];rfl
 let ln:((i7 (K.map (·.1))).filter (ŀ P K)).length=((K.map (·.1)).filter (ŀ P K)).length:=(pm.filter _).length_eq;let nin:∀m∈ns,m∈K.map (·.1):=λm hm=>by
  let⟨K',e,p,hp⟩:=F.nm m hm;let e2:=bP (λd=>match d with|D.dk l=>bc l (.inr m)|_=>B) e;let e3:bc (tb ZB K) (.inr m)=bc (tb ZB K') (.inr m):=e2;rw[iI,iI,hp] at e3;cases q:lk K m with
  |none=>rw[q] at e3;cases e3
  |some v=>show bw.mpr #[_,jx q,W]
 let en0:bp "Facts" "kept_names" se (M 0) aq [oS (Zv ah bs ss js E ls ks h lm (.dk (tb ZB K),mo) YL Γ A af T N),oS (pD P),B]=U (.lst ((i7 (K.map (·.1))).map D.str)):=dJ .(b) W aC (ND W (KH hK));let e0:=ij (fv:=[B,U 1,U 0]) (dI en0) (by rw[qg,pm.length_eq,qg];let:=hK.2.1;ext) (FU _ B λx hx=>bi (tst x (pm.mem_iff.mp hx)));let eg:f' (YX (bp "Facts" "has_kept" jz (M 0) aq)) (YX (b2 Ő (cF b8 .(hb)) (bp "Facts" "most_moved" uN (M 0) aq))) [oS (Zv ah bs ss js E ls ks h lm (.dk (tb ZB K),mo) YL Γ A af T N),oS (pD P),oS (.lst (((i7 (K.map (·.1))).filter (ŀ P K)).map D.str))]=U (decide (mo<(((K.map (·.1)).filter (ŀ P K)).length:aj))):=by show(iA (bi (dJ .(b) W aC hh)) λ_=>bi (aA (aN (ax W aC) (oO _ _)) (dJ .(b) W aC QV) W)).trans ?_;rw[ln];rfl
 let en:ba (itK (bG "Facts" "notes" (M 0))) (aB 0) tT (b2 ĵ (b2 aU (M 1) (M 0)) (bp "Facts" "kept_place" oe (M 2) (J (M 0) aq))) [B,U 1,U 0] [oS (Zv ah bs ss js E ls ks h lm (.dk (tb ZB K),mo) YL Γ A af T N),oS (pD P),oS (.lst (((i7 (K.map (·.1))).filter (ŀ P K)).map D.str))]=U ((ns.map (ŀ P K)).map D.bl):=by
  let ek:N.map (λkv=>cx kv.1)=ns.map D.str:=by rw[show(N.map λkv=>cx kv.1)=(N.map (·.1)).map cx by rw[qq];rfl,F.nk,qq];rfl
  show ij (uw (gA (z:=ah) 5 W W)) (by rw[ek,qg];let:=F.nl;ext) ?_;rw[ek];show TR _ B λx hx=>tst x (nin x hx)
 by_cases hm:(((K.map (·.1)).filter (ŀ P K)).length:aj)<=mo
 .refine(bQ _ W ((gR (eU e0)).trans ((gP (eg.trans ?_)).trans (bO (xE en))))).trans ?_
  .rw[qP .(c)]
  .rw[qU hm,nY];rfl
 .rw[qP hm];show bQ _ W ((gR (eU e0)).trans (rg (eg.trans ?_) (bO W)));rw[qU .(c)]
end
section
variable{bs:Z YU}{kp:D×aj}{A N:Z (YQ×D)}{s t:YM}{fa:YM->aj}{P:bV}
def Win(ss:Z YM)(js:Z Y8)(lm h:aj)(on:YM->Z ai)(fa la:YM->aj)(P:bV):Prop:=∀s∈ss,∃p,lk P s.nm=U p/\inW js lm h on fa la s p=ah
theorem Jr{b:ai}(C:b∈wn s):∃n,lk s.ws b=U n:=by
 cases e:lk s.ws b with
 |some n=>show#[n,W]
 |none=>show bH C (vz.mp e)
def UH(F:FSt ss kp.1 Γ A af T N on fa la ts ns)(w:Win ss js lm h on fa la P):OnW ss P:=λs hs=>by let⟨p,h1,h2⟩:=w s hs;unfold inW at h2;rw[dB,dB,gY] at h2;let⟨n,hn⟩:=Jr (F.ow s hs _ h2.1.1);show#[p,n,h1,hn]
def Sk(g:Y9 bs ss js E ls ks h)(hk:Ō ss js ls YL)(Ě:ss.length<=12)(F:FSt ss kp.1 Γ A af T N on fa la ts ns)(hP:Zb P)(e1:mZ [aZ bs ss js E ls ks h,pD P]=U d1)(eK:OnW ss P->oV [Zv ah bs ss js E ls ks h lm kp YL Γ A af T N,pD P]=U (.bl kB)):
  ∃d,we [Zv ah bs ss js E ls ks h lm kp YL Γ A af T N,pD P]=U d/\∃b,d=.bl b/\(b=ah↔Win ss js lm h on fa la P/\ts.all (ι ss js E ls on P)=ah/\kB=ah/\mX d1=ah):=by
 let ek:A.map (λkv=>cx kv.1)=(ss.map (·.nm)).map D.str:=by rw[show(A.map λkv=>cx kv.1)=(A.map (·.1)).map cx by rw[qq];rfl,F.ak,qq,qq];rfl
 let hX:=uw (Y:=[oS (Zv ah bs ss js E ls ks h lm kp YL Γ A af T N),oS (pD P),B]) (gA (z:=ah) (fo:=M 0) 2 W W);rw[ek] at hX;show gC (cy (fH (λi Y=>(∃a,Y=[oS (Zv ah bs ss js E ls ks h lm kp YL Γ A af T N),oS (pD P),a])/\∀s∈ss.take i,∃p,lk P s.nm=U p/\inW js lm h on fa la s p=ah) hX #[#[_,W],λs hs=>by cases hs] ?_) ?_)
 .rintro i x Y hx ⟨⟨a,rfl⟩,hI⟩;rw[qq,qm] at hx;let⟨s,hs,rfl⟩:=Za hx;let hm:=qR hs;cases hp:lk P s.nm with
  |none=>
   show aI W (dS (b:=ah) ?_ (λ_=>aI W #[ar,W,(λq=>nomatch q),λq=>?_]) λq=>nomatch q)
   .let e:YX (b2 mL (M 2) (M 1)) [oS (Zv ah bs ss js E ls ks h lm kp YL Γ A af T N),oS (pD P),oS (.str s.nm)]=U ah:=(zy W W).trans (by rw[hp];rfl);show(YX (b2 mL (M 2) (M 1)) [oS (Zv ah bs ss js E ls ks h lm kp YL Γ A af T N),oS (pD P),oS (.str s.nm)]).bind _=_;rw[e];rfl
   .obtain⟨p,Š,_⟩:=q.1 s hm;rw[hp] at Š;cases Š
  |some p=>
   let nb:=(hP.nb _ (jx hp)).2;let ew:=NR (z:=ah) (kp:=kp) (YL:=YL) (lm:=lm) (T:=T) (P:=N) (st:=p.2) g hm (F.o.at' s hm) (F.ow s hm) (F.a s hm) (F.b s hm) nb;show aI W (dS (bor ((zy W W).trans (by rw[hp])) (ky (bi (dJ .(b) W (ax W (ax (dG W W hp 0 W) (ax (dG W W hp 1 W) aC))) ew)))) (λq=>aI W #[ar,W,(λq=>nomatch q),λq2=>?_]) λq=>#[#[_,W],λt ht=>?_])
   .obtain⟨p',Š,hw⟩:=q2.1 s hm;rw[hp] at Š;cases Š;unfold inW at hw;rw[hw] at q;cases q
   .rcases ki hs ht with r|rfl
    .exact hI t r
    .refine#[p,hp,?_];let q2:(!inW js lm h on fa la t p)=ar:=q;rw[BG] at q2;show q2
 .rintro Y ⟨⟨a,rfl⟩,hI⟩;let hW:Win ss js lm h on fa la P:=λs hs=>hI s (by rw[qg,qg,fz];show hs);let hO:=UH F hW;let et:T.map (λkv=>D.tup (kv.1.map cx))=ts.map dPr:=by rw[show(T.map λkv=>D.tup (kv.1.map cx))=(T.map (·.1)).map λk=>.tup (k.map cx) by rw[qq];rfl,F.tk,qq];rfl
  let hT:=Tq (Y:=[oS (Zv ah bs ss js E ls ks h lm kp YL Γ A af T N),oS (pD P),a]) (gA (z:=ah) (fo:=M 0) (y:=.t T) (f:="put_pairs") 4 W W);rw[et] at hT;let ea:=xE (ij (gg:=cj 2 (aX (aB 0) (aX (aB 1) ce))) (ft:=tT) (fe:=bp "Facts" "keeps_order" vU (M 3) (J (M 2) (J (M 0) .(y)))) (fv:=[B,B,U 1,U 0]) hT (by rw[qg];let:=F.tl;ext) (Oy (b:=ι ss js E ls on P) ts B B λp hp=>dJ .(b) W (ax W .(k)) (P0 g hk F hO hp)));show cy (ao:=λY=>ts.all (ι ss js E ls on P)=ah/\Y=[oS (Zv ah bs ss js E ls ks h lm kp YL Γ A af T N),oS (pD P),a]) (dS (ky (bi ea)) (λq=>aI W #[ar,W,(λq=>nomatch q),λq2=>?_]) λq=>#[?_,W]) ?_
  .rw[nY] at q;let q3:=q2.2.1;rw[show ts.all (id ∘ ι ss js E ls on P)=ts.all (ι ss js E ls on P) from W,q3] at q;cases q
  .rw[BG,nY] at q;show q
  .rintro Y ⟨ha,rfl⟩;show im (v9 (dJ .(b) W (ax W aC) (eK hO)) λ_=>aA (aN (ax (dJ .(b) W aC P5) (ax W aC)) e1) W W) #[_,W,?_];rw[dB];show#[λq=>#[hW,ha,q.1,q.2],λq=>#[q.2.2.1,q.2.2.2]]
end
def lq{o:au α}{a:α}(h:Wp o λd=>d=a):o=U a:=by let⟨d,e,rfl⟩:=h;show e
section
variable{bs:Z YU}{kp:D×aj}{A N:Z (YQ×D)}{s t:YM}{fa:YM->aj}{P:bV}
theorem QJ{JL:D}(hm:bh m=ah):∀(js:Z Y8)(a:au Slot),(∀j∈js,∀x∈j.ms,bh x=ah)->∃a',eB (aB 2) (ZG (YX (b2 iC (M 1) (b2 YR (M 2) .(s)))) (aF (M 2)) aV) (js.map bq) [oS JL,oS (.str m),a]=U ((match dz js m with|some j=>Fl.rt (bq j)|none=>Fl.nx),[oS JL,oS (.str m),a']):=by
 intro Y7
 induction Y7 with
 |nil=>
  intro a _;show#[a,W]
 |cons j r ih=>
  intro a hn;let hT:YX (b2 iC (M 1) (b2 YR (M 2) .(s))) [oS JL,oS (.str m),oS (bq j)]=U (decide (m∈j.ms)):=
   bi (aA W (aA W W mG) (zY hm (hn j qh)))
  let hg:aB 2 (bq j) [oS JL,oS (.str m),a]=U [oS JL,oS (.str m),oS (bq j)]:=rfl;by_cases hj:m∈j.ms
  .refine#[oS (bq j),?_];let e:dz (j::r) m=U j:=by unfold dz;rw[eX,qU hj]
   rw[qU hj] at hT;rw[e,qp];unfold eB;rw[hg,qc,EK hT];rfl
  .let e:dz (j::r) m=dz r m:=by unfold dz;rw[eX,qP hj]
   rw[qP hj] at hT;let⟨a',ha⟩:=ih (oS (bq j)) (λx hx=>hn x (qi _ hx));show#[a',?_];rw[e,qp];unfold eB;rw[hg,qc,GE hT];show ha
theorem Po(hm:bh m=ah)(hn:∀j∈js,∀x∈j.ms,bh x=ah):z6 [cr bs ss js E ls ks h,.str m]=U (rG (dz js m)):=by
 let⟨a',e⟩:=QJ hm js B hn;let e2:bT (ZF (b2 YR (M 0) .(af))) (aB 2) (ZG (YX (b2 iC (M 1) (b2 YR (M 2) .(s)))) (aF (M 2)) aV) [oS .(m),oS (.str m),B]=_:=(oU (by unfold ZF;rw[aA W W (Ā _ 2)];rfl)).trans e;cases hj:dz js m with
 |none=>
  rw[hj] at e2;show bQ _ W ((nh e2).trans (bO W))
 |some j=>
  rw[hj] at e2;show bQ [oS .(m),oS (.str m),B] (Y':=[oS .(m),oS (.str m),a']) W ?_;unfold ay;rw[e2];rfl
theorem Qi(g:Y9 bs ss js E ls ks h):∀j∈js,∀x∈j.ms,bh x=ah:=λj hj x hx=>by let⟨s,hs,rfl⟩:=bw.mp ((g.j j hj).ms x hx);show(g.s s hs).nm
theorem J4(g:Y9 bs ss js E ls ks h)(hm:bh m=ah):vG [cr bs ss js E ls ks h,.int lm,.str m]=U (.int (ο js lm h m)):=by
 show lq ?_;show gB (bF (aI (aN (ax W (ax (aA W W (Ā _ 6)) aC)) W) (bF (aI (aN .(k) (Po hm (Qi g))) ?_))));unfold ο duI;cases e:dz js m with
 |none=>
  show dA (fB (aI W #[(λz=>nomatch z),λ_=>il #[W,fP (bC W #[_,W,?_])]]))
  congr 1
  split<;>simp[*]
 |some j=>
  show dA (fB (aI W #[λ_=>jb (aI (aN (ax W (ax (aA W W ib) aC)) W) #[W,fP (bC W #[_,W,?_])]),(λz=>nomatch z)]))
  congr 1
  split<;>simp[*]
theorem Q8(hl:ws.length<=1000)(nd:(ws.map (·.1)).Nodup):jA [.lst (ws.map dW)]=U (.dk (tb D.int ws)):=Au hl nd
theorem yE{k:ai}{n:aj}(h:lk ws k=U n):aU (.dk (tb D.int ws)) (.str k)=U (.int n):=by show(U (bc (tb D.int ws) (.inr k))).bind id=_;rw[iI,h];rfl
theorem F1{l:Z (YQ×D)}{b:aJ}(h1:Y[i]?=U (U (.odk l)))(h2:ft (Y.set i (oS (.dk l)))=U b):lA i ft Y=U b:=by unfold lA;rw[h1];show h2
abbrev duE(Fc σ YK S Sh:D)(lm:aj)(kd:D)(mo:aj)(us:Z (ai×aj))(r:bB):bB:=oS Fc::oS σ::oS YK::oS S::oS Sh::oS (.int lm)::oS kd::oS (.int mo)::U (.odk (tb D.int us))::r
inductive KdR:D->D->Prop where
 |non:KdR .non .non
 |dk (K:bV):KdR (.fdk (tb ZB K)) (.dk (tb ZB K))
def kBo(P:bV)(kd:D)(mo:aj)(ns:Z ai)(b:aJ):Prop:=(kd=.non->b=ah)/\∀K:bV,kd=.dk (tb ZB K)->b=(decide ((((K.map (·.1)).filter (ŀ P K)).length:aj)<=mo) && ns.all (ŀ P K))
theorem Gi{K:bV}(F:FSt ss (.dk (tb ZB K)) Γ A af T N on fa la ts ns):∀m∈ns,m∈K.map (·.1):=λm hm=>by
 let⟨K',e,p,hp⟩:=F.nm m hm;let e2:=bP (λd=>match d with|D.dk l=>bc l (.inr m)|_=>B) e;let e3:bc (tb ZB K) (.inr m)=bc (tb ZB K') (.inr m):=e2;rw[iI,iI,hp] at e3;cases q:lk K m with
 |none=>rw[q] at e3;cases e3
 |some v=>show bw.mpr #[_,jx q,W]
def Vh{K:bV}{Rt:D->Prop}{σ YK Sh a8:D}{r:bB}{x:au Slot}(g:Y9 bs ss js E ls ks h)(F:FSt ss (.dk (tb ZB K)) Γ A af T N on fa la ts ns)(hP:Zb P)(hA:All ss P)(hK:Θ ss K){us:Z (ai×aj)}{b9 b10 b11 b12 b13 b14 b15:au Slot}:∃d,(ay (aR 16 (aQ (ba (itK (M 6)) (aB 0) (YX (b2 ĵ (b2 aU (M 1) (M 0)) (b2 aU (M 2) (M 0)))) (M 0) [B,U 3,U 6]))) (aF (cu (b2 Î (cF b8 (J (M 16) aq)) (M 7)) (b2 Ε (aQ (ba (ZF (bp "Facts" "noted" uk (M 0) aq)) (aB 0) (YX (b2 iL (M 0) (M 1))) (M 0) [B,U 16])) (aQ (ZA aq)))))) (duE (Zv ar bs ss js E ls ks h lm kp YL Γ A af T N) σ YK (pD P) Sh lm (.fdk (tb ZB K)) mo us [b9,b10,b11,b12,b13,b14,b15,x])=U (.rt d,duE (Zv ar bs ss js E ls ks h lm kp YL Γ A af T N) σ YK (pD P) Sh lm (.fdk (tb ZB K)) mo us [b9,b10,b11,b12,b13,b14,b15,oS (.lst (((K.map (·.1)).filter (ŀ P K)).map D.str))])/\d=.bl (decide ((((K.map (·.1)).filter (ŀ P K)).length:aj)<=mo) && ns.all (ŀ P K)):=by
 let ek:(tb ZB K).map (λkv=>cx kv.1)=(K.map (·.1)).map D.str:=by unfold tb;rw[qq,qq];rfl
 let nk:∀x∈K.map (·.1),bh x=ah:=λx hx=>by let⟨q,hq,rfl⟩:=bw.mp hx;show(hK.1.nb q hq).1
 let nM:∀x∈(K.map (·.1)).filter (ŀ P K),bh x=ah:=λx hx=>nk x (lW.mp hx).1;let nN:∀x∈ns,bh x=ah:=λx hx=>nk x (Gi F x hx);let e1:ba (itK (M 6)) (aB 0) (YX (b2 ĵ (b2 aU (M 1) (M 0)) (b2 aU (M 2) (M 0)))) (M 0) [B,U 3,U 6] (duE (Zv ar bs ss js E ls ks h lm kp YL Γ A af T N) σ YK (pD P) Sh lm (.fdk (tb ZB K)) mo us [b9,b10,b11,b12,b13,b14,b15,x])=U (((K.map (·.1)).filter (ŀ P K)).map D.str):=by show ij (uw W) (by rw[ek,qg,qg];let:=hK.2.1;ext) ?_;rw[ek];show FU _ B λm hm=>?_;let⟨p,q,h1,h2,h3⟩:=Dj hP hA hK hm;show bi (aA (aA W W (lj h1)) (aA W W (lj h2)) h3)
 show#[_,(gR (eU e1)).trans (bO (v9 (aA (aN (ax W aC) (oO _ _)) W W) λ_=>aA (eU (ij (dI (dJ .(b) W aC (P7 F.nk))) (by rw[qg];let:=F.nl;ext) (BV nM ns B nN))) W (E2 (b:=[]) (λx hx=>nN x (lW.mp hx).1) λx hx=>nomatch hx))),?_]
 congr 2
 rw[kK,gY,List.filter_eq_nil_iff,gE];constructor
 .intro q m hm;let:=q m hm;simp only[wR,pU,Classical.not_not] at this;show(lW.mp this).2
 .intro q m hm z;simp only[wR,pU] at z;show z (lW.mpr #[Gi F m hm,q m hm])
end
section
variable{bs:Z YU}{kp:D×aj}{A N:Z (YQ×D)}{s t:YM}{fa:YM->aj}{P:bV}
def LJ(g:Y9 bs ss js E ls ks h)(hk:Ō ss js ls YL)(Ě:ss.length<=12)(F:FSt ss kp.1 Γ A af T N on fa la ts ns)(hP:Zb P)(e1:mZ [aZ bs ss js E ls ks h,pD P]=U d1)(r1:Rx (OnW ss P) d1)(hd:KdR kd kp.1)(hK:∀K,kp.1=.dk (tb ZB K)->Θ ss K)(hB:kBo P kp.1 mo ns kB):
  ∃d,wd [Zv ar bs ss js E ls ks h lm kp YL Γ A af T N,cr bs ss js E ls ks h,.lst [aZ bs ss js E ls ks h,.int lm,kd,.int mo],pD P]=U d/\∃b,d=.bl b/\(b=ah↔Win ss js lm h on fa la P/\ts.all (ι ss js E ls on P)=ah/\kB=ah/\mX d1=ah):=by
 letI env:=duE (Zv ar bs ss js E ls ks h lm kp YL Γ A af T N) .(m) (.lst [aZ bs ss js E ls ks h,.int lm,kd,.int mo]) (pD P) .(g) lm kd mo
 show gC (cy #[_,ya W W,.inl #[W,W]] ?_);rintro Y rfl;let ei:YX (b2 iG (cF mZ (J (M 4) (J (M 3) aq))) (vC .non)) [oS (Zv ar bs ss js E ls ks h lm kp YL Γ A af T N),oS .(m),oS (.lst [aZ bs ss js E ls ks h,.int lm,kd,.int mo]),oS (pD P),oS .(g),oS (.int lm),oS kd,oS (.int mo),B,B,B,B,B,B,B,B,B]=U (!mX d1):=bi (aA (aN .(k) e1) W W);show cy (ao:=λY=>d1=.non/\OnW ss P/\Y=[oS (Zv ar bs ss js E ls ks h lm kp YL Γ A af T N),oS .(m),oS (.lst [aZ bs ss js E ls ks h,.int lm,kd,.int mo]),oS (pD P),oS .(g),oS (.int lm),oS kd,oS (.int mo),B,B,B,B,B,B,B,B,B]) (dS ei (λq=>aI W #[ar,W,(λq=>nomatch q),λq2=>?_]) λq=>?_) ?_
 .rw[q2.2.2.2] at q;cases q
 .rcases r1 with⟨e,hO⟩|⟨l,e⟩
  .exact#[e,hO,W]
  .rw[e] at q;cases q
 rintro Y ⟨rfl,hO,rfl⟩;let hA:All ss P:=λs hs=>by let⟨p,n,hp,_⟩:=hO s hs;show#[p,hp]
 show cy #[_,W,.inl #[W,W]] ?_;rintro Y rfl;show cy (fH (λi Y=>(∃us a b c d e,Y=env us [a,b,c,d,e,B,B,B]/\us.length<=i/\∀s∈ss.take i,lk us s.nm=U ((plO P s.nm).2+ş s (plO P s.nm).1))/\∀s∈ss.take i,inW js lm h on fa la s (plO P s.nm)=ah) (dI (aA W W (Ā _ 1))) #[#[[],_,_,_,_,_,W,qx _,λs hs=>by cases hs],λs hs=>by cases hs] ?_) ?_
 .rintro i x Y hx ⟨⟨us,a,b,c,d,e,rfl,hl,hE⟩,hI⟩;rw[qm] at hx;let⟨s,hs,rfl⟩:=Za hx;let hm:=qR hs;let hi:i<ss.length:=(eV.mp hs).1;let⟨p,n,hp,hn⟩:=hO s hm;let epl:=nv hp;let eln:ş s p.1=n:=Tk (g.s s hm).nd hn;let nb:=(hP.nb _ (jx hp)).2;let no:∀x∈on s,bh x=ah:=(F.bn g).nb s hm;show aI W (cy #[_,ya (aA W W (lj hp)) W,.inl #[W,W]] ?_);rintro Y rfl;show cy (ao:=λY=>Y=env (pt us s.nm (p.2+n)) [oS (.str s.nm),oS (.str s.kd),oS (.lst (s.ws.map dW)),oS (.str p.1),oS (.int p.2),B,B,B]) (uO W (by rw[rH];ext) W (aA W (aA (aN (ax W aC) (Q8 (by let:=(g.s s hm).l4;ext) (g.s s hm).nd)) W (yE hn)) W) (.inl #[W,by rw[sq];rfl])) ?_;rintro Y rfl;let Τ:bp "Facts" "open_to" vA (M 0) (J (M 9) aq) (env (pt us s.nm (p.2+n)) [oS (.str s.nm),oS (.str s.kd),oS (.lst (s.ws.map dW)),oS (.str p.1),oS (.int p.2),B,B,B])=U (.lst ((on s).map D.str)):=dJ .(b) W (ax W aC) (Rg (F.o.at' s hm));let ũ:bp "Facts" "first_of" rY (M 0) (J (M 9) aq) (env (pt us s.nm (p.2+n)) [oS (.str s.nm),oS (.str s.kd),oS (.lst (s.ws.map dW)),oS (.str p.1),oS (.int p.2),B,B,B])=U (.int (fa s)):=dJ .(b) W (ax W aC) (EA (F.a s hm));let Υ:bp "Facts" "last_of" sd (M 0) (J (M 9) aq) (env (pt us s.nm (p.2+n)) [oS (.str s.nm),oS (.str s.kd),oS (.lst (s.ws.map dW)),oS (.str p.1),oS (.int p.2),B,B,B])=U (.int (la s)):=dJ .(b) W (ax W aC) (EF (F.b s hm));let t1:=bor (bi (aA (fa:=M 12) W Τ (xf nb no))) (bor (bi (aA (fa:=M 13) (g:=ü) W ũ W)) (bi (aA (fa:=M 13) (g:=Ő) W Υ W)));show cy (ao:=λY=>(p.1∈on s/\fa s<=p.2/\p.2<=la s)/\Y=env (pt us s.nm (p.2+n)) [oS (.str s.nm),oS (.str s.kd),oS (.lst (s.ws.map dW)),oS (.str p.1),oS (.int p.2),B,B,B]) (dS t1 (λq=>aI W #[ar,W,(λq=>nomatch q),λq2=>?_]) λq=>#[?_,W]) ?_
  .obtain⟨p',Š,hw⟩:=q2.1 s hm;rw[hp] at Š;cases Š;unfold inW at hw;simp only[dB,gY] at hw;simp only[Bb,wR,pU,gY] at q;rcases q with q|q|q
   .exact(q hw.1.1).elim
   .omega
   .omega
  .simp only[Bool.or_eq_false_iff,BG,pU,gY] at q;show#[q.1,by ext,by ext]
  rintro Y ⟨hw1,rfl⟩;let t2:lA 8 (YX (b2 Ő (b2 aU (M 8) (M 9)) (cF vG (J (M 1) (J (M 5) (J (M 9) aq)))))) (env (pt us s.nm (p.2+n)) [oS (.str s.nm),oS (.str s.kd),oS (.lst (s.ws.map dW)),oS (.str p.1),oS (.int p.2),B,B,B])=U (decide (ο js lm h s.nm<p.2+n)):=F1 W (bi (aA (aA W W (yE (by rw[wm,qY W]))) (aN (ax W .(k)) (J4 g (g.s s hm).nm)) W));let Į:inW js lm h on fa la s p=decide (p.2+n<=ο js lm h s.nm):=by unfold inW;rw[qU hw1.1,qU hw1.2.1,qU hw1.2.2,eln];rfl
  show dS t2 (λq=>aI W #[ar,W,(λq=>nomatch q),λq2=>?_]) λq=>#[#[_,_,_,_,_,_,W,?_,λt ht=>?_],λt ht=>?_]
  .obtain⟨p',Š,hw⟩:=q2.1 s hm;rw[hp] at Š;cases Š;rw[Į,gY] at hw;rw[gY] at q;ext
  .let:=ou (l:=us) (k:=s.nm) (v:=p.2+n);ext
  .rw[wm];rcases ki hs ht with r|rfl
   .split
    .rename_i he;let ets:t=s:=by rw[<-kr g.sn (pP r),he,kr g.sn hm]
     subst ets;rw[epl,eln]
    .exact hE t r
   .rw[qY W,epl,eln]
  .rcases ki hs ht with r|rfl
   .exact hI t r
   .rw[epl,Į,gY];rw[pU] at q;ext
 .rintro Y ⟨⟨us,a,b,c,d,e,rfl,_,hE⟩,hI⟩;rw[qg,fz] at hE hI;let hW:Win ss js lm h on fa la P:=λs hs=>by let⟨p,hp⟩:=hA s hs;show#[p,hp,by rw[<-nv hp];show hI s hs]
  show cy (fH (λi Y=>(∃x y,Y=env us [a,b,c,d,e,x,y,B])/\∀p∈ts.take i,ι ss js E ls on P p=ah) (dI (dJ (z:=ar) .(b) W aC (IY F.tk))) #[#[_,_,W],λp hp=>by cases hp] ?_) ?_
  .rintro i x Y hx ⟨⟨x1,x2,rfl⟩,hI2⟩;rw[qm] at hx;let⟨q,hq,rfl⟩:=Za hx;let⟨a1,ha1,b1,š,rfl⟩:=F.tm q (qR hq);let⟨pb,_,e3,_⟩:=hO b1 š;let et:lA 8 (YX (b2 ü (b2 YR (b2 aU (M 3) (M 15)) .(f)) (b2 aS (b2 aU (M 8) (M 14)) (bp "Facts" "gap_of" sH (M 0) (J (M 14) (J (M 15) aq)))))) (env us [a,b,c,d,e,oS (.str a1.nm),oS (.str b1.nm),B])=U (!ι ss js E ls on P (a1.nm,b1.nm)):=by
    show F1 W ((bi (aA (dG W W e3 1 W) (aA (aA W W (yE (hE a1 ha1))) (dJ (z:=ar) .(b) W .(k) (B5 g hk (F.bn g) F.o ha1 š)) W) W)).trans ?_);unfold ι;rw[kr g.sn ha1,kr g.sn š,nv e3]
    congr 1
    rw[kK];simp
   show aI W (dS et (λq2=>aI W #[ar,W,(λq=>nomatch q),λq3=>?_]) λq2=>#[#[_,_,W],λp hp=>?_])
   .rw[gE.mp q3.2.1 _ (qR hq)] at q2;cases q2
   .rcases ki hq hp with r|rfl
    .exact hI2 p r
    .rw[BG] at q2;show q2
  .rintro Y ⟨⟨x1,x2,rfl⟩,hI2⟩;rw[qg,fz] at hI2;let ha:ts.all (ι ss js E ls on P)=ah:=gE.mpr hI2;let⟨k1,k2⟩:=kp;cases hd with
   |non=>
    show cy (dS (b:=ah) (ao:=λ_=>False) W (λ_=>aI W #[ah,W,λ_=>#[hW,ha,hB.1 W,W],λ_=>rfl]) λq=>nomatch q) λY q=>q.elim
   |dk K=>
    show cy (dS (b:=ar) (ao:=λY=>Y=env us [a,b,c,d,e,x1,x2,B]) W (λq=>nomatch q) λ_=>rfl) ?_;rintro Y rfl;let⟨d,e9,rfl⟩:=Vh (mo:=mo) (lm:=lm) (kp:=(.dk (tb ZB K),k2)) (YL:=YL) (Rt:=λ_=>True) (σ:=cr bs ss js E ls ks h) (YK:=.lst [aZ bs ss js E ls ks h,.int lm,.fdk (tb ZB K),.int mo]) (Sh:=aZ bs ss js E ls ks h) (a8:=.non) (r:=[]) (x:=B) (us:=us) (b9:=a) (b10:=b) (b11:=c) (b12:=d) (b13:=e) (b14:=x1) (b15:=x2) g F hP hA (hK K W);show#[_,e9,.inr #[_,W,_,W,?_]];rw[<-hB.2 K W];show#[λq=>#[hW,ha,q,W],λq=>q.2.2.1]
end
def Gw{P:Z (YQ×D)->Prop}(h:Wp (g (ds.map (λd=>U (Slot.sh d))++bU n B)) λr=>∃YL,r.1=.od YL/\P YL):Wp (oP n g ds) P:=by let⟨⟨fl,Y'⟩,e,YL,e1,p⟩:=h;subst e1;show#[YL,?_,p];unfold oP;rw[e];rfl
def MX:bh ("elder":ai)=ah:=by decide +kernel
def uE(h:fr Y=U ds)(hl:ds.length<=1000):ZA fr Y=U ds:=by unfold ZA;rw[h];show qY (by unfold aK;ext)
section
variable{bs:Z YU}
abbrev plE(c:aj)(ss:Z YM)(h:aj)(P:bV)(r:bB):bB:=oS (.int c)::oS (.lst (ss.map bN))::oS (.int h)::U (.odk (tb ZB P))::r
def Q3(c:aj)(g:Y9 bs ss js E ls ks h):Wp (pf [.int c,.lst (ss.map bN),.int h]) λd=>∃K:bV,d=tb ZB K/\Θ ss K:=by
 show Gw (cP W (dA (hV (λi Y=>i<=5/\∃(P:bV)(a b e f q:au Slot),Y=plE c ss h P [a,b,e,f,q]/\Zb P/\P.length<=i/\∀q∈P,∃s∈ss,s.nm=q.1) (kf (bu (cL W W W .(b) .(b) .(b) λq0 q1=>cB #[_,W,q0,by ext,#[by decide,[],B,B,B,B,B,W,.nil,fy _,λq hq=>nomatch hq],?_,?_]))))))
 .rintro i x Y hx ⟨_,P,a,b,e,f,q,rfl,pk,pl,pn⟩;let⟨hi,rfl⟩:=j8 hx;let⟨d1,u0,u1⟩:=cT c (k:=104+(i:aj)) (m:=(ss.length:aj)) .(c) .(c) (by let:=g.sl.1;ext);let⟨s,hs,es⟩:=vF u0 u1;let gs:=g.s s hs;let⟨w,hw,ew⟩:=VO gs.l1;let⟨d2,v0,v1⟩:=cT c (k:=110+(i:aj)) (m:=5) .(c) .(c) .(b);let⟨d3,z0,z1⟩:=cT c (k:=116+(i:aj)) (m:=h+1) .(c) .(c) (by let:=g.hh.1;ext);let C:bh w.1=ah:=g.bnn _ (gs.ws w hw).1;show aI W (cP (ya (aA W (aN (ax W (ax (aA W W W) (ax (aN (ax W aC) (oO bN ss)) aC))) d1) es) W) ?_);show bF (Zw (aI (eU (uE (ax (aA (aA W W ew) W cG) (ax W aC)) (show(2:ag)<=1000 by decide))) (aI (aA (aN (ax W (ax (aA W W W) (ax W aC))) d2) W (lq (sE .(b) W))) ((oz (P:=λd=>∃b,d=D.str b/\bh b=ah) .(c) (by show _<((2:ag):aj);ext) (uX #[_,W,C] #[_,W,MX])).imp ?_))));rintro _ ⟨b',rfl,į⟩;show uO (k:=s.nm) (d:=ZB (b',Æ c (116+(i:aj)) (h+1))) W (by rw[rH];ext) W (ii W (aN (ax W (ax (aA W W W) (ax (aA W W W) aC))) d3)) #[W,by ext,?_];show#[pt P s.nm (b',Æ c (116+(i:aj)) (h+1)),oS (.int (i:aj)),oS (.str s.nm),oS (.str s.kd),oS (.lst (s.ws.map dW)),oS (.str b'),?_,pk.pt gs.nm į,?_,λq hq=>?_]
  .show[_,_,_,U (Slot.odk (bW (tb ZB P) (.inr s.nm) (ZB (b',Æ c (116+(i:aj)) (h+1))))),_,_,_,_,_]=_;rw[sq]
  .let:=ou (l:=P) (k:=s.nm) (v:=(b',Æ c (116+(i:aj)) (h+1)));ext
  .rcases Av hq with rfl|hq
   .exact#[s,hs,W]
   .exact pn q hq
 .rintro Y ⟨_,P,a,b,e,f,q,rfl,pk,pl,pn⟩;show#[W,(.od (tb ZB P),plE c ss h P [a,b,e,f,q]),W,_,W,P,W,pk,by ext,pn]
abbrev scE(c:aj)(σ:D)(P:bV)(at':aj)(a b w:au Slot):bB:=[oS (.int c),oS σ,U (.odk (tb ZB P)),oS (.int at'),a,b,w]
def RF(c:aj)(g:Y9 bs ss js E ls ks h)(Ě:ss.length<=12):Wp (oE [.int c,cr bs ss js E ls ks h]) λd=>∃P:bV,d=tb ZB P/\Zb P/\P.length<=12/\All ss P/\∀q∈P,∃s∈ss,s.nm=q.1:=by
 show Gw (cP W (bF (cL W W W .(b) .(b) .(b) λ_ _=>?_)));show dA (hV (λi Y=>∃P at' a b w,Y=scE c .(m) P at' a b w/\Zb P/\P.length<=i/\(∀s∈ss.take i,∃p,lk P s.nm=U p)/\∀q∈P,∃s∈ss,s.nm=q.1) (eL (aI (aA W W (Ā _ 1)) (aI W #[#[[],_,_,_,_,W,.nil,fy _,(λs hs=>nomatch hs),λq hq=>nomatch hq],?_,?_]))))
 .rintro i x Y hx ⟨P,at',a,b,w,rfl,pk,pl,pa,pn⟩;let⟨_,hy,rfl⟩:=vn hx;rw[qm] at hy;let⟨s,hs,rfl⟩:=Za hy;let hm:=qR hs;let hi:i<ss.length:=(eV.mp hs).1;let gs:=g.s s hm;let⟨d2,v0,v1⟩:=cT c (k:=131+2*(i:aj)) (m:=(s.ws.length:aj)) .(c) .(c) (by let:=gs.l1;ext);let⟨v,hv,ev⟩:=vF v0 v1;let⟨d3,_,_⟩:=cT c (k:=132+2*(i:aj)) (m:=5) .(c) .(c) .(b);let⟨d4,_,_⟩:=cT c (k:=132+2*(i:aj)) (m:=h+1) .(c) .(c) (by let:=g.hh.1;ext);let⟨d5,_,_⟩:=cT c (k:=132+2*(i:aj)) (m:=4) .(c) .(c) .(b);let m2:∀{f:FE}{Y:bB},f Y=U (.int (i:aj))->b2 cJ .(af) f Y=U (.int (2*(i:aj))):=λhf=>aA W hf (lq (kc (.inl .(b)) W));show aI W (bF (aI (aA (aA W W ib) (aN (ax W (ax (aA W (m2 W) W) (ax (aN (ax (aA W W ib) aC) (oO dW s.ws)) aC))) d2) ev) ?_));show dA (uO (k:=s.nm) (d:=ZB (v.1,at')) W (by rw[rH];ext) (aA W W cG) (ii (aA W W cG) W) #[W,?_]);let Zz:∀n:aj,∃P' t a b w,[oS (.int c),oS .(m),U (.odk (bW (tb ZB P) (.inr s.nm) (ZB (v.1,at')))),oS (.int n),oS (.int (i:aj)),oS (bN s),oS (dW v)]=scE c .(m) P' t a b w/\Zb P'/\P'.length<=i+1/\(∀s∈ss.take (i+1),∃p,lk P' s.nm=U p)/\∀q∈P',∃s∈ss,s.nm=q.1:=λn=>by
   show#[pt P s.nm (v.1,at'),n,_,_,_,by rw[sq],pk.pt gs.nm (g.bnn _ (gs.ws v hv).1),?_,λt ht=>?_,λq hq=>?_]
   .let:=ou (l:=P) (k:=s.nm) (v:=(v.1,at'));ext
   .rw[wm];split
    .exact#[_,W]
    .rename_i Ô;rcases ki hs ht with r|rfl
     .exact pa t r
     .exact bH W Ô
   .rcases Av hq with rfl|hq
    .exact#[s,hm,W]
    .exact pn q hq
  show fB (aI (bi (aA (aN (ax W (ax (aA W (m2 W) W) (ax W aC))) d3) W W)) #[λ_=>jb (aI (aN (ax W (ax (aA W (m2 W) W) (ax (aA (aA W W (Ā _ 6)) W W) aC))) d4) #[W,Zz _]),λ_=>jb (aI (aA (aA W (aA W W fU) W) (aN (ax W (ax (aA W (m2 W) W) (ax W aC))) d5) W) #[W,Zz _])])
 .rintro Y ⟨P,at',a,b,w,rfl,pk,pl,pa,pn⟩;rw[tq,qg] at pl pa;rw[fz] at pa;show#[W,(.od (tb ZB P),scE c .(m) P at' a b w),W,_,W,P,W,pk,by ext,pa,pn]
end
def Fy[dE κ]{l:Z (κ×D)}{k:κ}{v:D}:(bW l k v).map (·.1)=if k∈l.map (·.1) then l.map (·.1) else l.map (·.1)++[k]:=by
 unfold bW;by_cases h:k∈l.map (·.1)
 .rw[qY h,qY]
  .rw[qq];show gf λq _=>?_;show(if q.1=k then (q.1,v) else q).1=q.1;split<;>rfl
  .obtain⟨q,hq,e⟩:=bw.mp h;show mf.mpr #[q,hq,qU e]
 .rw[qZ h,qZ]
  .rw[dU];rfl
  .intro z;let⟨q,hq,e⟩:=mf.mp z;show h (bw.mpr #[q,hq,fT e])
def BZ[dE κ]{l:Z (κ×D)}{k x:κ}{v:D}(h:x∈(bW l k v).map (·.1)):x=k\/x∈l.map (·.1):=by
 rw[Fy] at h;split at h
 .exact .inr h
 .rcases cY.mp h with q|q
  .exact .inr q
  .exact .inl (bM.mp q)
structure Ă(ss:Z YM)(kd:D)(Γ A af:Z (YQ×D))(T:Z (Z YQ×D))(N:Z (YQ×D))(n:ag):Prop where
 o:∀s∈ss,∃l:Z ai,bc Γ (.inr s.nm)=U (.lst (l.map D.str))/\∀x∈l,x∈wn s
 ak:A.map (·.1)=ss.map λs=>bS s.nm
 a:∀s∈ss,∃n,bc A (.inr s.nm)=U (.int n)
 b:∀s∈ss,∃n,bc af (.inr s.nm)=U (.int n)
 t:∀k∈T.map (·.1),∃a∈ss,∃b∈ss,k=kk a.nm b.nm
 nt:∀k∈N.map (·.1),∃m,k=bS m/\∃K:bV,kd=.dk (tb ZB K)/\∃p,lk K m=U p
 ln:Γ.length<=n/\A.length<=n/\af.length<=n/\T.length<=n/\N.length<=n
section
variable{A N:Z (YQ×D)}{s t:YM}
def Ă.up(F:Ă ss kd Γ A af T N n){m:ag}(h:n<=m):Ă ss kd Γ A af T N m:=#[F.o,F.ak,F.a,F.b,F.t,F.nt,by let:=F.ln;ext]
def EH{x:aj}(ha:∀s∈ss,∃n,bc A (.inr s.nm)=U (.int n)):∀t∈ss,∃n,bc (bW A (.inr s.nm) (.int x)) (.inr t.nm)=U (.int n):=λt ht=>by
 rw[mO];split
 .exact#[_,W]
 .exact ha t ht
def Ă.win(F:Ă ss kd Γ A af T N n)(hs:s∈ss)(x y:aj):Ă ss kd Γ (bW A (.inr s.nm) (.int x)) (bW af (.inr s.nm) (.int y)) T N (n+1):=
 #[F.o,by rw[Fy,qY (by rw[F.ak];show bw.mpr #[s,hs,W])];show F.ak,EH F.a,EH F.b,F.t,F.nt,by let:=F.ln;let:=j7 A (.inr s.nm) (.int x);let:=j7 af (.inr s.nm) (.int y);ext]
def Ă.opn(F:Ă ss kd Γ A af T N n)(nd:(ss.map (·.nm)).Nodup)(hs:s∈ss)(p:ai->aJ):Ă ss kd (bW Γ (.inr s.nm) (.lst (((wn s).filter p).map D.str))) A af T N (n+1):=
 #[λt ht=>by
  rw[mO];split
  .rename_i e;show#[_,W,λx hx=>?_];let e2:t.nm=s.nm:=iq e;let:=(lW.mp hx).1;rw[<-kr nd ht,e2,kr nd hs];show this
  .exact F.o t ht,F.ak,F.a,F.b,F.t,F.nt,by
  let:=F.ln;let:=j7 Γ (.inr s.nm) (.lst (((wn s).filter p).map D.str));ext]
def Ă.ord(F:Ă ss kd Γ A af T N n)(hs:s∈ss)(ht:t∈ss):Ă ss kd Γ A af (bW T (kk s.nm t.nm) (.bl ah)) N (n+1):=
 #[F.o,F.ak,F.a,F.b,λk hk=>by
  rcases BZ hk with rfl|q
  .exact#[s,hs,t,ht,W]
  .exact F.t k q,F.nt,by
  let:=F.ln;let:=j7 T (kk s.nm t.nm) (.bl ah);ext]
def Ă.note(F:Ă ss kd Γ A af T N n){K:bV}{p:ai×aj}(e:kd=.dk (tb ZB K))(hp:lk K m=U p):Ă ss kd Γ A af T (bW N (.inr m) (.bl ah)) (n+1):=
 #[F.o,F.ak,F.a,F.b,F.t,λk hk=>by
  rcases BZ hk with rfl|q
  .exact#[m,W,K,e,p,hp]
  .exact F.nt k q,by
  let:=F.ln;let:=j7 N (.inr m) (.bl ah);ext]
end
def SL{fs:Fo}{Q:Fo->Prop}(h:Wp (g (U (.fo ah c fs)::(ds.map (λd=>U (Slot.sh d))++bU n B))) (Tl (λ_=>False) λY=>∃ê r,Y=U (.fo ah c ê)::r/\Q ê)):Wp (jk n c g fs ds) λr=>r.1=.non/\Q r.2:=by
 let⟨⟨fl,Y'⟩,e,h⟩:=h;rcases h with⟨z,ê,r,er,q⟩|⟨_,_,z⟩
 .cases z;subst er;show#[(.non,ê),sj e,W,q]
 .exact z.elim
def mY{b:aJ}{ao:bB->Prop}(C:ft Y=U b)(h1:b=ah->∃Y',g Y=U (.nx,Y')/\ao Y')(h0:ao Y):Wp (ZG ft g aV Y) (Tl Rt ao):=by
 unfold ZG;rw[C,qc];cases b with
 |true=>let⟨Y',e,j⟩:=h1 rfl;show#[_,by rw[qY W];show e,.inl #[W,j]]
 |false=>show#[_,by rw[qZ qu];rfl,.inl #[W,h0]]
section
variable{bs:Z YU}{kp:D×aj}{A N:Z (YQ×D)}{s t:YM}
theorem O9(h4:s.ws.length<=4)(hf:f Y=U (.lst (s.ws.map dW))):aQ (ba (ZF f) .(l) tT (M 0) [B,B]) Y=U (.lst ((wn s).map D.str)):=
 eU (ij (dI hf) (by rw[qg];ext) (U1 s.ws B B))
def Lm(g:Y9 bs ss js E ls ks h)(Ě:ss.length<=12)(hd:KdR kd kp.1)(c:aj)(F:Ă ss kp.1 Γ A af T N 12):Wp (zx (fF (gD bs ss js E ls ks h lm kp YL) Γ A af T N) [cr bs ss js E ls ks h,kd,.int c]) λr=>r.1=.non/\∃Γ A af T N,r.2=fF (gD bs ss js E ls ks h lm kp YL) Γ A af T N/\Ă ss kp.1 Γ A af T N 84:=by
 letI env:=λfs(a b w:au Slot)=>([U (.fo ah "Facts" fs),oS .(m),oS kd,oS (.int c),a,b,w]:bB)
 letI G:=gD bs ss js E ls ks h lm kp YL
 show SL (Q:=λfs=>∃Γ A af T N,fs=fF G Γ A af T N/\Ă ss kp.1 Γ A af T N 84) ((fH (Rt:=λ_=>False) (λi Y=>∃Γ A af T N a b w,Y=env (fF G Γ A af T N) a b w/\Ă ss kp.1 Γ A af T N (12+6*i)) (xs:=(ss.map bN).mapIdx λi d=>.tup [.int i,d]) ?_ #[Γ,A,af,T,N,B,B,B,W,F] ?_).imp λr q=>?_)
 .show((b2 YR (M 1) .(f)) _).bind yV=_;rw[aA W W (Ā _ 1)];rfl
 .rintro i x Y hx ⟨Γ,A,af,T,N,a,b,w,rfl,F⟩;let⟨_,hy,rfl⟩:=vn hx;rw[qm] at hy;let⟨s,hs,rfl⟩:=Za hy;let hm:=qR hs;let hi:i<ss.length:=(eV.mp hs).1;let⟨dw,_,_⟩:=cT c (k:=60+(i:aj)) (m:=9) .(c) .(c) .(b);let⟨d9,_,_⟩:=cT c (k:=70+(i:aj)) (m:=9) .(c) .(c) .(b);let⟨dh,_,_⟩:=cT c (k:=70+(i:aj)) (m:=h+1) .(c) .(c) (by let:=g.hh.1;ext);let⟨d2,v0,_⟩:=cT c (k:=70+(i:aj)) (m:=2) .(c) .(c) .(b);let⟨d3,_,_⟩:=cT c (k:=70+(i:aj)) (m:=3) .(c) .(c) .(b);generalize Æ c (60+(i:aj)) 9=w at dw
  letI e2:=λΓ A af T N=>env (fF G Γ A af T N) (oS (.int (i:aj))) (oS (bN s)) (oS (.int w))
  letI ao:=λn(Y:bB)=>∃Γ A af T N,Y=e2 Γ A af T N/\Ă ss kp.1 Γ A af T N n
  let Jup:∀{n Y},ao n Y->ao (n+1) Y:=λ#[Γ,A,af,T,N,e,F]=>#[Γ,A,af,T,N,e,F.up (kO _)];let prev:∀{Γ A af T N},(0:aj)<(i:aj)->∃t∈ss,b2 YR (b2 YR (b2 YR (M 1) .(f)) (b2 io (M 4) .(f))) .(e) (e2 Γ A af T N)=U (.str t.nm):=λ{Γ A af T N}hp=>by let⟨t,ht,et⟩:=vF (m:=bN) (xs:=ss) (n:=(i:aj)-1) .(c) .(c);show#[t,ht,aA (aA (aA W W (Ā _ 1)) (aA W W W) et) W cG]
  show aI W (bF (aI (aN (ax W (ax (aA W W W) (ax W aC))) dw) (cy (ao:=ao (12+6*i+1)) (mY (b:=decide (w=1)) (bi (aA W W W)) (λ_=>?_) (Jup #[Γ,A,af,T,N,W,F])) ?_)))
  .obtain⟨l,hl⟩:=F.b s hm;let:=F.ln;show#[_,lO W (show("set_window":ai)∉g9 by decide +kernel) (u7 W (ax (aA W W cG) (ax (aN (ax W (ax (aA W W W) (ax W aC))) d9) (ax (dJ (z:=ar) (bs:=bs) (ss:=ss) (js:=js) (E:=E) (ls:=ls) (ks:=ks) (h:=h) (lm:=lm) (kp:=kp) (YL:=YL) (Γ:=Γ) (A:=A) (af:=af) (T:=T) (P:=N) .(b) W (ax (aA W W cG) aC) (EF hl)) aC))) W) (yQ .(c) .(c)),Γ,_,_,T,N,W,F.win hm _ _]
  rintro Y ⟨Γ,A,af,T,N,rfl,F⟩;show cy (ao:=ao (12+6*i+2)) (mY (b:=decide (w=2)) (bi (aA W W W)) (λ_=>?_) (Jup #[Γ,A,af,T,N,W,F])) ?_
  .obtain⟨f,hf⟩:=F.a s hm;let:=F.ln;show#[_,lO W (show("set_window":ai)∉g9 by decide +kernel) (u7 W (ax (aA W W cG) (ax (dJ (z:=ar) (bs:=bs) (ss:=ss) (js:=js) (E:=E) (ls:=ls) (ks:=ks) (h:=h) (lm:=lm) (kp:=kp) (YL:=YL) (Γ:=Γ) (A:=A) (af:=af) (T:=T) (P:=N) .(b) W (ax (aA W W cG) aC) (EA hf)) (ax (aN (ax W (ax (aA W W W) (ax (aA (aA W W (Ā _ 6)) W W) aC))) dh) aC))) W) (yQ .(c) .(c)),Γ,_,_,T,N,W,F.win hm _ _]
  rintro Y ⟨Γ,A,af,T,N,rfl,F⟩;show cy (ao:=ao (12+6*i+3)) (mY (b:=decide (w=3)) (bi (aA W W W)) (λ_=>?_) (Jup #[Γ,A,af,T,N,W,F])) ?_
  .let:=F.ln;let hw:∀x∈(wn s).drop (Æ c (70+(i:aj)) 2).toNat,bh x=ah:=λx hx=>rW g hm x (Ih hx);show#[_,lO W (show("set_open":ai)∉g9 by decide +kernel) (ax (aA W W cG) (ax (xX (O9 (s:=s) (g.s s hm).l4 (aA W W ib)) (aN (ax W (ax (aA W W W) (ax W aC))) d2) v0) aC)) (by rw[<-IK];show Fb g hm hw .(c)),_,A,af,T,N,W,F.opn g.sn hm _]
  rintro Y ⟨Γ,A,af,T,N,rfl,F⟩;show cy (ao:=ao (12+6*i+4)) ?_ ?_
  .let:=F.ln;generalize hk:kp.1=k1 at hd F;cases hd with
   |non=>show mY (b:=decide (w=4) && ar) (iA (bi (aA W W W)) λ_=>iA (a:=ar) (b:=ar) W λq=>nomatch q) (λq=>by rw[AW] at q;cases q) (Jup #[Γ,A,af,T,N,rfl,by rw[hk];show F])
   |dk K=>
    show mY (b:=decide (w=4) && (ah && (lk K s.nm).isSome)) (iA (bi (aA W W W)) λ_=>iA (a:=ah) W λ_=>bi (aA (aA W W cG) W (?_:o3 (.str s.nm) (.fdk (tb ZB K))=U (.bl (lk K s.nm).isSome)))) (λq=>?_) (Jup #[Γ,A,af,T,N,W,by rw[hk];show F])
    .show(U (bc (tb ZB K) (.inr s.nm))).map _=_;rw[iI];cases lk K s.nm<;>rfl
    .rw[dB,wM] at q;let⟨p,hp⟩:=sR.mp q.2;show#[_,lO W (show("put_note":ai)∉g9 by decide +kernel) (ax (aA W W cG) aC) (QF .(c)),Γ,A,af,T,_,W,by rw[hk];show F.note W hp]
  rintro Y ⟨Γ,A,af,T,N,rfl,F⟩;show cy (ao:=ao (12+6*i+5)) (mY (b:=decide (w=5) && decide ((0:aj)<(i:aj))) (iA (bi (aA W W W)) λ_=>bi (aA W W W)) (λq=>?_) (Jup #[Γ,A,af,T,N,W,F])) ?_
  .rw[dB,gY,gY] at q;let:=F.ln;let⟨t,ht,et⟩:=prev (Γ:=Γ) (A:=A) (af:=af) (T:=T) (N:=N) q.2;show#[_,lO W (show("put_order":ai)∉g9 by decide +kernel) (ax et (ax (aA W W cG) aC)) (Ep .(c)),Γ,A,af,_,N,W,F.ord ht hm]
  rintro Y ⟨Γ,A,af,T,N,rfl,F⟩;show(mY (Rt:=λ_=>False) (ao:=ao (12+6*i+6)) (b:=decide (w=6) && (decide ((0:aj)<(i:aj)) && decide (Æ c (70+(i:aj)) 3=1))) (iA (bi (aA W W W)) λ_=>iA (bi (aA W W W)) λ_=>bi (aA (aN (ax W (ax (aA W W W) (ax W aC))) d3) W W)) (λq=>?_) (Jup #[Γ,A,af,T,N,W,F])).imp λr q=>?_
  .rw[dB,dB,gY,gY] at q;let:=F.ln;let⟨t,ht,et⟩:=prev (Γ:=Γ) (A:=A) (af:=af) (T:=T) (N:=N) q.2.1;show#[_,lO W (show("put_order":ai)∉g9 by decide +kernel) (ax (aA W W cG) (ax et aC)) (Ep .(c)),Γ,A,af,_,N,W,F.ord hm ht]
  .rcases q with⟨q,Γ,A,af,T,N,e,F⟩|⟨_,_,q⟩
   .exact .inl #[q,Γ,A,af,T,N,_,_,_,e,by rw[show 12+6*(i+1)=12+6*i+6 by ext];show F]
   .exact q.elim
 .rcases q with⟨q,Γ,A,af,T,N,a,b,w,e,F⟩|⟨_,_,q⟩
  .rw[tq,qg] at F;show .inl #[q,_,_,e,Γ,A,af,T,N,W,F.up .(c)]
  .exact q.elim
end
def onF(Γ:Z (YQ×D))(s:YM):Z ai:=((bc Γ (.inr s.nm)).bind λd=>match d with|.lst l=>iz l|_=>B).getD []
def inF(A:Z (YQ×D))(s:YM):aj:=match bc A (.inr s.nm) with
 |some (.int n)=>n
 |_=>0
noncomputable def tsF(T:Z (Z YQ×D)):Z (ai×ai):=T.map λq=>match q.1 with
 |[.inr a,.inr b]=>(a,b)
 |_=>("","")
noncomputable def nsF(N:Z (YQ×D)):Z ai:=N.map λq=>match q.1 with
 |.inr a=>a
 |_=>""
section
variable{bs:Z YU}{kp:D×aj}{A N:Z (YQ×D)}{P:bV}
theorem Er{s:YM}(h:∃n,bc A (.inr s.nm)=U (.int n)):bc A (.inr s.nm)=U (.int (inF A s)):=by let⟨n,e⟩:=h;unfold inF;rw[e]
theorem Ă.st(F:Ă ss kd Γ A af T N 84):FSt ss kd Γ A af T N (onF Γ) (inF A) (inF af) (tsF T) (nsF N):=by
 let ho:∀s∈ss,bc Γ (.inr s.nm)=U (.lst ((onF Γ s).map D.str))/\∀x∈onF Γ s,x∈wn s:=λs hs=>by
  let⟨l,e,hl⟩:=F.o s hs;let:onF Γ s=l:=by unfold onF;rw[e,qc];show(iz (l.map D.str)).getD []=l;rw[D0];rfl
  rw[this];show#[e,hl]
 let ln:=F.ln;show#[⟨λs hs=>(ho s hs).1⟩,λs hs=>(ho s hs).2,F.ak,λs hs=>Er (F.a s hs),λs hs=>Er (F.b s hs),?_,λp hp=>?_,by unfold tsF;rw[qg];ext,?_,by unfold nsF;rw[qg];ext,λm hm=>?_]
 .unfold tsF;rw[qq];show gf λq hq=>?_;let⟨a,_,b,_,e⟩:=F.t q.1 (qX hq);let⟨k,v⟩:=q;subst e;rfl
 .obtain⟨q,hq,rfl⟩:=bw.mp hp;let⟨a,ha,b,C,e⟩:=F.t q.1 (qX hq);show#[a,ha,b,C,by rw[e]]
 .unfold nsF;rw[qq];show gf λq hq=>?_;let⟨m,e,_⟩:=F.nt q.1 (qX hq);show q.1=bS (match q.1 with|.inr a=>a|_=>"");rw[e]
 .obtain⟨q,hq,rfl⟩:=bw.mp hm;let⟨m,e,r⟩:=F.nt q.1 (qX hq);rw[e];show r
theorem Py(g:Y9 bs ss js E ls ks h)(Ě:ss.length<=12):Ă ss kd (Ģ opS ss) (Ģ (fiS js nw) ss) (Ģ (laS js lm h) ss) [] [] 12:=by
 show#[λs hs=>#[wn s,i9 g.sn hs,λx hx=>hx],?_,λs hs=>#[_,i9 g.sn hs],λs hs=>#[_,i9 g.sn hs],(λk hk=>nomatch hk),(λk hk=>nomatch hk),?_]
 .rw[qq];rfl
 .simp only[qg,qo];ext
theorem ze:∀K σ:bV,tb ZB K=tb ZB σ->K=σ
 |[],[],_=>rfl
 |[],_::_,h=>nomatch h
 |_::_,[],h=>nomatch h
 |(a,p,i)::K,(b,q,j)::σ,h=>by let⟨h1,h2⟩:=dN h;rw[ze K σ h2];simp at h1;let⟨rfl,rfl,rfl⟩:=h1;rfl
def Kx(g:Y9 bs ss js E ls ks h)(hk:Ō ss js ls YL)(Ě:ss.length<=12)(F:Ă ss kp.1 Γ A af T N 84)(hP:Zb P)(hl:P.length<=100)(hd:KdR kd kp.1)(hK:∀K,kp.1=.dk (tb ZB K)->Θ ss K/\mo=kp.2):
  ∃b,we [Zv ah bs ss js E ls ks h lm kp YL Γ A af T N,pD P]=U (.bl b)/\wd [Zv ar bs ss js E ls ks h lm kp YL Γ A af T N,cr bs ss js E ls ks h,.lst [aZ bs ss js E ls ks h,.int lm,kd,.int mo],pD P]=U (.bl b):=by
 let⟨d1,e1,r1⟩:=RG g Ě hP hl;let S:=F.st;obtain⟨kB,eK,hB⟩:∃kB,(OnW ss P->oV [Zv ah bs ss js E ls ks h lm kp YL Γ A af T N,pD P]=U (.bl kB))/\kBo P kp.1 mo (nsF N) kB:=by
  let⟨k1,k2⟩:=kp;cases hd with
  |non=>show#[ah,λ_=>LY S,λ_=>rfl,λK e=>nomatch e]
  |dk K=>
   show#[_,λhO=>Sz S hP (λs hs=>by let⟨p,n,hp,_⟩:=hO s hs;show#[p,hp]) (hK K W).1,(λe=>nomatch e),λK' e=>?_];let e2:tb ZB K=tb ZB K':=D.dk.inj e;let e3:K=K':=ze K K' e2;rw[e3,(hK K W).2]
 let⟨x,ex,b,rfl,C⟩:=Sk g hk Ě S hP e1 eK;let⟨y,ey,c,rfl,hc⟩:=LJ g hk Ě S hP e1 r1 hd (λK e=>(hK K e).1) hB;let:b=c:=by rw[kK];show C.trans hc.symm
 show#[b,ex,by rw[ey,this]]
end
def tS{l:Z (YQ×D)}(h:f Y=U (.fdk l)):nz i f Y=U (.nx,Y.set i (U (.odk l))):=by unfold nz;rw[h];rfl
def S6{l:Z (YQ×D)}(h:Y[i]?=U (U (.odk l))):iD i g Y=g (Y.set i (oS (.fdk l))):=by unfold iD;rw[h]
def rN{l:Z (YQ×D)}(h:Y[i]?=U (U (.odk l)))(k:Wp (g (Y.set i (oS (.fdk l)))) R):Wp (iD i g Y) R:=by rw[S6 h];show k
def vW{k:ai}{fv:FE}{P:bV}{v:ai×aj}(h1:Y[i]?=U (U (.odk (tb ZB P))))(hl:P.length<100000)(hk:fk Y=U (.str k))(hv:fv Y=U (ZB v)):dH i fk fv Y=U (.nx,Y.set i (U (.odk (tb ZB (pt P k v))))):=by unfold dH;rw[hv,hk,h1];show(if (tb ZB P).length<100000 then U (Fl.nx,Y.set i (U (Slot.odk (bW (tb ZB P) (.inr k) (ZB v))))) else B)=_;rw[qY (by rw[rH];show hl),sq]
noncomputable def γ(P:bV)(k:ai):bV:=P.filter λq=>decide (q.1≠k)
def Sb(P:bV)(k:ai):(tb ZB P).filter (λkv=>decide (kv.1≠bS k))=tb ZB (γ P k):=by
 unfold tb γ;rw[List.filter_map]
 congr 1
 show List.filter_congr λq _=>?_;show IQ.mpr #[λh z=>h (bP bS z),λh z=>h (iq z)]
def Zb.dp{P:bV}(p:Zb P)(k:ai):Zb (γ P k):=#[pY ((XV).map _) p.nd,λq hq=>p.nb q (lW.mp hq).1]
def Td{P:bV}{k:ai}{p:ai×aj}(h1:Y[i]?=U (U (.odk (tb ZB P))))(hk:fk Y=U (.str k))(hp:lk P k=U p):wg i fk Y=U (.nx,Y.set i (U (.odk (tb ZB (γ P k))))):=by unfold wg;rw[hk,h1];show(if (bc (tb ZB P) (.inr k)).isSome=ah then U (Fl.nx,Y.set i (U (Slot.odk ((tb ZB P).filter λkv=>decide (kv.1≠bS k))))) else B)=_;rw[qY (by rw[iI,hp];rfl),Sb]
def z8:bh ("zzzzzzzz":ai)=ah:=by decide +kernel
def bez:bh ("bez":ai)=ah:=by decide +kernel
section
variable{bs:Z YU}{P:bV}
abbrev PlO(P:bV):Prop:=Zb P/\P.length<=20
def TL(c:aj)(g:Y9 bs ss js E ls ks h)(hP:Zb P)(hl:P.length<=12)(hA:All ss P):∃P1 P2 P3 P4,uo [pD P,cr bs ss js E ls ks h,.int c]=U (.lst ([P1,P2,P3,P4].map pD))/\PlO P1/\PlO P2/\PlO P3/\PlO P4:=by let⟨d1,u0,u1⟩:=cT c (k:=150) (m:=(ss.length:aj)) .(b) .(b) (by let:=g.sl.1;ext);let⟨s,hs,es⟩:=vF u0 u1;let⟨d2,_,_⟩:=cT c (k:=151) (m:=3) .(b) .(b) .(b);let⟨p,hp⟩:=hA s hs;let C:=(hP.nb _ (jx hp)).2;let hn:=(g.s s hs).nm;let l1:=λv=>ou (l:=P) (k:=("zzzzzzzz":ai)) (v:=v);let l2:=λv=>ou (l:=P) (k:=s.nm) (v:=v);show#[γ P s.nm,pt P ("zzzzzzzz":ai) p,pt P s.nm (("bez":ai),p.2),pt P s.nm (p.1,p.2+1-Æ c 151 3),?_,#[hP.dp _,by let:=Wr (λq:ai×ai×aj=>decide (q.1≠s.nm)) P;unfold γ;ext],#[hP.pt z8 C,by let:=l1 p;ext],#[hP.pt hn bez,by let:=l2 (("bez":ai),p.2);ext],#[hP.pt hn C,by let:=l2 (p.1,p.2+1-Æ c 151 3);ext]];show lq ?_;unfold uo;clear l1 l2;generalize (tK "zzzzzzzz")=zz;generalize (tK "bez")=bz;show gB (bF (aI (aA (aA (aA W W (Ā _ 1)) (aN (ax W (ax W (ax (aN (ax (aA W W (Ā _ 1)) aC) (oO bN ss)) aC))) d1) es) W cG) ?_));show cP (Y1:=[oS (pD P),oS .(m),oS (.int c),oS (.str s.nm),U (.odk (tb ZB P)),B,B,B]) (tS W) ?_;show cP (Y1:=[oS (pD P),oS .(m),oS (.int c),oS (.str s.nm),U (.odk (tb ZB (γ P s.nm))),B,B,B]) (Td W W hp) ?_;show cP (Y1:=[oS (pD P),oS .(m),oS (.int c),oS (.str s.nm),U (.odk (tb ZB (γ P s.nm))),U (.odk (tb ZB P)),B,B]) (tS W) ?_;show cP (Y1:=[oS (pD P),oS .(m),oS (.int c),oS (.str s.nm),U (.odk (tb ZB (γ P s.nm))),U (.odk (tb ZB (pt P zz p))),B,B]) (vW (v:=p) W .(c) W (aA W W (lj hp))) ?_;show cP (Y1:=[oS (pD P),oS .(m),oS (.int c),oS (.str s.nm),U (.odk (tb ZB (γ P s.nm))),U (.odk (tb ZB (pt P zz p))),U (.odk (tb ZB P)),B]) (tS W) ?_;show cP (Y1:=[oS (pD P),oS .(m),oS (.int c),oS (.str s.nm),U (.odk (tb ZB (γ P s.nm))),U (.odk (tb ZB (pt P zz p))),U (.odk (tb ZB (pt P s.nm (bz,p.2)))),B]) (vW (v:=(bz,p.2)) W .(c) W (ii W (dG W W hp 1 W))) ?_;show cP (Y1:=[oS (pD P),oS .(m),oS (.int c),oS (.str s.nm),U (.odk (tb ZB (γ P s.nm))),U (.odk (tb ZB (pt P zz p))),U (.odk (tb ZB (pt P s.nm (bz,p.2)))),U (.odk (tb ZB P))]) (tS W) ?_;show cP (Y1:=[oS (pD P),oS .(m),oS (.int c),oS (.str s.nm),U (.odk (tb ZB (γ P s.nm))),U (.odk (tb ZB (pt P zz p))),U (.odk (tb ZB (pt P s.nm (bz,p.2)))),U (.odk (tb ZB (pt P s.nm (p.1,p.2+1-Æ c 151 3))))]) (vW (v:=(p.1,p.2+1-Æ c 151 3)) W .(c) W (ii (dG W W hp 0 W) (aA (aA (dG W W hp 1 W) W W) (aN (ax W .(k)) d2) W))) ?_;show rN W (rN W (rN W (rN W (fP (aI (eU (uE (ax W (ax W .(k))) (show(4:ag)<=1000 by decide))) #[_,W,W])))))
def ML(g:Y9 bs ss js E ls ks h):Y9 bs ss js [] [] [] h:=
 #[g.hh,g.bl,g.b,g.bn,g.sl,g.s,g.sn,g.jl,g.j,g.jn,g.jm,fy _,(λx hx=>nomatch hx),iU,fy _,(λx hx=>nomatch hx),iU,fy _,(λx hx=>nomatch hx),iU]
end
def QA{l:Z (YQ×D)}(h1:Y[i]?=U (U (.odk l)))(h2:f (Y.set i (oS (.dk l)))=U d)(h3:Ρ d=ah):nB i f Y=U d:=by unfold nB;rw[h1];show(f _).bind _=_;rw[h2];show qY h3
def Gj{F:Z D->au Fo}{dd:Z D}{fs:Fo}(h1:fr Y=U ds)(h2:F (ds++dd)=U fs):n9 c j F dd fr Y=U (.nx,Y.set j (U (.fo ar c fs))):=by unfold n9;rw[h1,qc,h2];rfl
def JE{b:aJ}{fs:Fo}(h1:Y[i]?=U (U (.fo b c fs)))(h2:f (Y.set i (oS (fzD c fs)))=U d)(h3:Ρ d=ah):p5 i f Y=U d:=by unfold p5;rw[h1];show(f _).bind _=_;rw[h2];show qY h3
def Vj{P:bV}(p:Zb P):uP (pD P) (pD P)=U (.bl ar):=by
 let e:Ax (pD P) (pD P)=U ah:=by show(if (tb ZB P).length=(tb ZB P).length then my (tb ZB P) (tb ZB P) else U ar)=_;rw[qY W];show OU P (λq hq=>(p.nb q hq).2) p.nd P λ_ h=>h
 unfold uP;rw[e];rfl
def GH{P:bV}{k:ai}{v:ai×aj}(hk:k∈P.map (·.1)):(pt P k v).map (·.1)=P.map (·.1):=by unfold pt;rw[qY (ur.mpr hk)];show GV k v P
section
variable{bs:Z YU}{P:bV}
def Θ.put{K:bV}{v:ai×aj}(hK:Θ ss K)(hm:m∈K.map (·.1))(C:bh v.1=ah):Θ ss (pt K m v):=by
 let hn:bh m=ah:=by let⟨q,hq,rfl⟩:=bw.mp hm;show(hK.1.nb q hq).1
 let e:=GH (v:=v) hm;show#[hK.1.pt hn C,by let:=bP cM e;rw[qg,qg] at this;let:=hK.2.1;ext,λq hq=>?_];let:q.1∈K.map (·.1):=by rw[<-e];show qX hq
 let⟨r,hr,e2⟩:=bw.mp this;rw[<-e2];show hK.2.2 r hr
def Dl(c:aj)(g:Y9 bs ss js E ls ks h)(Ě:ss.length<=12):∃P:bV,dkZ oE [.int c,cr bs ss js E ls ks h]=U (pD P)/\Zb P/\P.length<=12/\All ss P:=by let⟨_,e,P,rfl,p1,p2,p3,_⟩:=RF c g Ě;show#[P,by unfold dkZ;rw[e];rfl,p1,p2,p3]
def Rw(g:Y9 bs ss js E ls ks h)(Ě:ss.length<=12):∀(l:Z aj)(a:au Slot),∃Ps:Z bV,Ps.length=l.length/\ca (aB 0) tT (cF (dkZ oE) (J (M 0) .(y))) (l.map D.int) [a,oS .(m)]=U (Ps.map pD)/\∀P∈Ps,PlO P:=by
 intro Y7
 induction Y7 with
 |nil=>
  intro _;show#[[],W,W,λ_ hP=>nomatch hP]
 |cons c l ih=>
  intro a;let⟨Ps,h1,h2,h3⟩:=ih (oS (.int c));let⟨P,e,p1,p2,_⟩:=Dl c g Ě;show#[P::Ps,bP (·+1) h1,?_,λQ hQ=>?_]
  .rw[qp,lI W,qY W,aN .(k) e,h2];rfl
  .rcases cm.mp hQ with rfl|hQ
   .exact#[p1,by ext]
   .exact h3 Q hQ
abbrev laE(S σ Sh:D)(c lm:aj)(kd:Slot)(mo:aj)(F:Slot)(x:D)(r:bB):bB:=oS S::oS σ::oS Sh::oS (.int c)::oS (.int lm)::U kd::oS (.int mo)::U F::oS x::r
def Sq(c:aj){S:D}{F0:Slot}(g:Y9 bs ss js E ls ks h)(Ě:ss.length<=12)(hP:Zb P)(hA:All ss P):Wp ((ay (t6 5 pf (J (M 3) (J (b2 YR (M 1) .(f)) (J (b2 YR (M 1) (vC (.int 6))) aq)))) (ay (bT (ZF (nB 5 (Õ (cF mM (J (M 5) aq)) pN (pS (cF bA (J (M 3) (J (vC (.int 88)) (J .(s) aq)))))))) (aB 9) (dH 5 (M 9) (b2 aU (M 8) (M 9)))) (iD 5 (n9 "Facts" 7 nc [] (J (M 2) (J (M 4) (J (vC .non) (J (M 5) (J (M 6) (J (cF iJ (J (b2 YR (M 1) (vC (.int 6))) (J (cF bA (J (M 3) (J (vC (.int 89)) (J .(x) aq)))) aq))) aq))))))))))
  (laE S .(m) .(g) c lm (.sh .non) mo F0 (pD P) [B,B,B,B,B,B])) λr=>r.1=.nx/\∃(K:bV)(nw:aj)(YL:Z (Z YQ×D))(a:au Slot),r.2=laE S .(m) .(g) c lm (.sh (.fdk (tb ZB K))) mo (.fo ar "Facts" (oT (gD bs ss js E ls ks h lm (.dk (tb ZB K),mo) YL) js lm h nw ss)) (pD P) [a,B,B,B,B,B]/\Θ ss K/\Ō ss js ls YL:=by
 let⟨_,ek,K0,rfl,hK0⟩:=Q3 c g;let⟨d88,v0,_⟩:=cT c (k:=88) (m:=4) .(b) .(b) .(b);let⟨d89,_,_⟩:=cT c (k:=89) (m:=3) .(b) .(b) .(b);show cP (Y1:=laE S .(m) .(g) c lm (.odk (tb ZB K0)) mo F0 (pD P) [B,B,B,B,B,B]) ?_ ?_
 .unfold t6;rw[ax W (ax (aA W W (Ā _ 1)) (ax (aA W W (Ā _ 6)) aC))];show(pf _).map _=_;rw[show pf _=_ from ek];rfl
 let el:nB 5 (Õ (cF mM (J (M 5) aq)) pN (pS (cF bA (J (M 3) (J (vC (.int 88)) (J .(s) aq)))))) (laE S .(m) .(g) c lm (.odk (tb ZB K0)) mo F0 (pD P) [B,B,B,B,B,B])=U (.lst (((K0.map (·.1)).take (Æ c 88 4).toNat).map D.str)):=by show QA W (zv (aN (ax W aC) ?_) (aN (ax W .(k)) d88) v0 |>.trans (by rw[BF])) (zF _);show U (D.lst ((tb ZB K0).map λkv=>cx kv.1))=_;unfold tb;rw[qq,qq];rfl
 show dA ((fH (Rt:=λ_=>False) (λ_ Y=>∃K a,Y=laE S .(m) .(g) c lm (.odk (tb ZB K)) mo F0 (pD P) [a,B,B,B,B,B]/\Θ ss K/\K.map (·.1)=K0.map (·.1)) (dI el) #[K0,B,W,hK0,W] ?_).imp λr q=>?_)
 .rintro i x Y hx ⟨K,a,rfl,hK,ey⟩;rw[qm] at hx;let⟨m,hm,rfl⟩:=Za hx;let hm1:m∈K.map (·.1):=by rw[ey];show pP (qR hm)
  let⟨q,hq,rfl⟩:=bw.mp hm1;let⟨s,hs,es⟩:=hK.2.2 q hq;let⟨p,hp⟩:=hA s hs;rw[es] at hp;show aI W #[_,vW W (by let:=hK.2.1;ext) W (aA W W (lj hp)),.inl #[W,pt K q.1 p,_,W,hK.put hm1 (hP.nb _ (jx hp)).2,(GH hm1).trans ey]]
 .rcases q with⟨q,K,a,e,hK,_⟩|⟨_,_,q⟩
  .refine#[q,?_];rw[e];let nn:∃nw:aj,cF iJ (J (b2 YR (M 1) (vC (.int 6))) (J (cF bA (J (M 3) (J (vC (.int 89)) (J .(x) aq)))) aq)) (laE S .(m) .(g) c lm (.sh (.fdk (tb ZB K))) mo F0 (pD P) [a,B,B,B,B,B])=U (.int nw):=#[_,aN (ax (aA W W (Ā _ 6)) (ax (aN (ax W .(k)) d89) aC)) W];let⟨nw,en⟩:=nn;let⟨fs,ef,YL,rfl,hg⟩:=GU (kp:=(.dk (tb ZB K),mo)) (kd:=.fdk (tb ZB K)) (nw:=nw) g (.dk _);show rN W #[(.nx,laE S .(m) .(g) c lm (.sh (.fdk (tb ZB K))) mo (.fo ar "Facts" (oT (gD bs ss js E ls ks h lm (.dk (tb ZB K),mo) YL) js lm h nw ss)) (pD P) [a,B,B,B,B,B]),?_,W,K,nw,YL,a,W,hK,hg];show Gj (ds:=[aZ bs ss js E ls ks h,.int lm,.non,.fdk (tb ZB K),.int mo,.int nw]) (ax W (ax W (ax W (ax W (ax W (ax en aC)))))) ef
  .exact q.elim
end
def Kt{F:Fo->Z D->au (D×Fo)}{b:aJ}{fs:Fo}{r:D×Fo}(h1:Y[i]?=U (U (.fo b c fs)))(h2:fr Y=U ds)(h3:F fs ds=U r):sA c i F fr Y=U (.nx,Y.set i (U (.fo b c r.2))):=by unfold sA;rw[h1];show(if c=c then (fr Y).bind _ else B)=_;rw[qY W,h2,qc,h3];rfl
def MM{S:bB->Prop}(h:Wp (g Y) λr=>r.1=.nx/\S r.2)(k:∀Y',S Y'->Wp (g' Y') R):Wp (ay g g' Y) R:=dA (h.imp λr q=>#[q.1,k _ q.2])
def Qc{x y:Z D}(h1:x≠[])(h2:y≠[])(h3:x.length+y.length<=aK):iX (.tup x) (.tup y)=U (.tup (x++y)):=qY #[h1,h2,h3]
def Mq(ns:Z aj):(df ns (U 4) (U 20)).length<=ns.length:=by show(nS _ (IC _ ns)).length<=_;rw[qF,iu];ext
section
variable{bs:Z YU}{P:bV}
def U8(ns:Z aj)(hns:ns.length<=63):Ci [.scr ns]=U (.bl ah):=by
 show lq ?_;let⟨_,eh,h,rfl,hh⟩:=LQ ns;let⟨_,el,bs,ss,js,E,ls,ks,rfl,g,Ě,j3⟩:=Q7 ns hns hh;let⟨_,ec,c0,rfl⟩:=u8 ns 0;let⟨d83,_,_⟩:=cT c0 (k:=83) (m:=3) .(b) .(b) .(b);show gB (bF (aI (aN (ax W (ax W (ax (aN (ax W aC) eh) aC))) el) ?_));let cut:Wp ((ZG (YX (b2 Ő (cF bA (J (cF gM (J (M 0) (J .(e) aq))) (J (vC (.int 83)) (J .(x) aq)))) .(e))) (aR 1 (b2 iX (Õ (M 1) pN (pS .(x))) (bo (ZA (J (aQ (ZA aq)) (J (aQ (ZA aq)) (J (aQ (ZA aq)) (J (b2 YR (M 1) (vC (.int 6))) aq)))))))) aV) [oS (.scr ns),oS .(m),B,B,B,B,B,B,B,B,B,B,B,B,B]) λr=>r.1=.nx/\∃E ls ks,r.2=[oS (.scr ns),oS .(m),B,B,B,B,B,B,B,B,B,B,B,B,B]/\Y9 bs ss js E ls ks h:=by
  show fB (aI (bi (aA (aN (ax (aN .(k) ec) .(k)) d83) W W)) #[λ_=>jb (aI (aA (y:=.tup [.lst [],.lst [],.lst [],.int h]) (rE W W W W) ?_ ?_) #[W,[],[],[],W,ML g]),λ_=>il #[W,E,ls,ks,W,g]])
  .exact lq (iM (aI (ax W (ax W (ax W (ax (aA W W (Ā _ 6)) aC)))) #[(by decide:(4:ag)<=1000),W]))
  .exact(Qc (x:=[.lst (bs.map cb),.lst (ss.map bN),.lst (js.map bq)]) (y:=[.lst [],.lst [],.lst [],.int h]) (λq=>nomatch q) (λq=>nomatch q) (show 3+4<=aK by unfold aK;ext)).trans W
 show dA (cut.imp ?_);rintro⟨fl,Y⟩ ⟨rfl,E,ls,ks,e,g⟩;subst e;show#[W,?_];clear el cut;let ml:(js.flatMap (·.ms)).length<=300:=by
  let:=zV (f:=λj:Y8=>j.ms) (m:=40) (l:=js) λj hj=>by let:=(g.j j hj).ln;rw[qg] at this;ext
  ext
 let⟨_,e3,c,rfl⟩:=u8 ns 3;let⟨_,e2,c2,rfl⟩:=u8 ns 2;let⟨d84,x0,x1⟩:=cT c (k:=84) (m:=3) .(b) .(b) .(b);let⟨d85,_,_⟩:=cT c (k:=85) (m:=h / 4+1) .(b) .(b) .(c);let⟨d86,_,_⟩:=cT c (k:=86) (m:=2) .(b) .(b) .(b);let⟨d87,_,_⟩:=cT c (k:=87) (m:=4) .(b) .(b) .(b);let⟨P,eP,hP,lP,hA⟩:=Dl c g Ě;show bF (aI (aN (ax W aC) (Ky g ml)) (bF (aI (aN .(k) e3) ?_)));show bF (aI (aA (aA W W (Ā _ 6)) (aA (aN (ax W .(k)) d84) (aN (ax W (ax W (ax (aA (aA (aA W W (Ā _ 6)) W (lq (sE .(b) W))) W W) aC))) d85) (lq (kc (.inl .(c)) W))) W) ?_);obtain⟨lm,hlm⟩:∃lm,lm=h-Æ c 84 3*Æ c 85 (h / 4+1):=#[_,rfl];obtain⟨mo,hmo⟩:∃mo,mo=Æ c 87 4:=#[_,rfl];let⟨_,ef,kv0,rfl,hg0⟩:=GU (lm:=lm) (kp:=(.non,0)) (kd:=.non) (nw:=0) g .non;rw[<-hlm];show bF (aI W (bF (aI (aN (ax W .(k)) d87) ?_)));rw[<-hmo];show cP (Gj (ds:=[aZ bs ss js E ls ks h,.int lm]) .(k) ef) (bF (aI (aN .(k) eP) ?_));show MM (S:=λY=>∃kd k1 m1 nw YL a,Y=laE (.scr ns) .(m) .(g) c lm (.sh kd) mo (.fo ar "Facts" (oT (gD bs ss js E ls ks h lm (k1,m1) YL) js lm h nw ss)) (pD P) [a,B,B,B,B,B]/\KdR kd k1/\(∀K,k1=.dk (tb ZB K)->Θ ss K/\mo=m1)/\Ō ss js ls YL) (fB (aI (bi (aA (aN (ax W .(k)) d86) W W)) #[λ_=>(Sq c g Ě hP hA).imp λr q=>?_,λ_=>il #[W,.non,.non,0,0,kv0,B,W,.non,(λK e=>nomatch e),hg0]])) ?_
 .obtain⟨q,K,nw,YL,a,e,hK,hg⟩:=q;show#[q,_,_,mo,nw,YL,a,e,.dk K,λK' e=>#[by rw[<-ze K K' (D.dk.inj e)];show hK,W],hg]
 rintro Y ⟨kd,k1,m1,nw,YL,a,rfl,hd,hK,hg⟩;let⟨⟨_,fs⟩,eC,_,Γ,A,af,T,N,efs,hF⟩:=Lm (lm:=lm) (kp:=(k1,m1)) (YL:=YL) g Ě hd c2 (Py (js:=js) (lm:=lm) (h:=h) (nw:=nw) (kd:=k1) g Ě);subst efs;show cP (Kt W (ax W (ax W (ax (aN .(k) e2) aC))) eC) ?_;let⟨Ps,hl1,ς,hPs⟩:=Rw g Ě (df ns (U 4) (U 20)) B;let⟨P1,P2,P3,P4,eO,q1,q2,q3,q4⟩:=TL c g hP lP hA;let hc16:=Mq ns;show bF (aI (aA (x:=.lst ([P].map pD)) (y:=.lst (Ps.map pD)) (eU (uE (ax W aC) (show(1:ag)<=1000 by decide))) (eU (ij (dI (rE (z:=.lst ((df ns (U 4) (U 20)).map D.int)) W W W W)) (by rw[qg];ext) ς)) (GZ (by rw[qg,qg,hl1];show 1+_<=_;unfold aK;ext))) ?_);let hAll:∀Q∈([P]++Ps)++[P1,P2,P3,P4],PlO Q:=λQ hQ=>by
  rcases cY.mp hQ with q|q
  .rcases cY.mp q with q|q
   .rw[bM.mp q];show#[hP,by ext]
   .exact hPs Q q
  .rcases cm.mp q with rfl|q
   .exact q1
   .rcases cm.mp q with rfl|q
    .exact q2
    .rcases EQ q with rfl|rfl
     .exact q3
     .exact q4
 letI fe:=fF (gD bs ss js E ls ks h lm (k1,m1) YL) Γ A af T N
 letI en:=λb10(r:bB)=>laE (.scr ns) .(m) .(g) c lm (.sh kd) mo (.fo ar "Facts" fe) (pD P) (a::b10::r)
 letI b10:au Slot:=oS (.lst ([P].map pD++Ps.map pD))
 show dA ((fH (Rt:=λ_=>False) (λ_ Y=>∃x y z w,Y=en b10 [x,y,z,w]) (xs:=(([P]++Ps)++[P1,P2,P3,P4]).map pD) ?_ #[B,B,B,B,W] ?_).imp λr q=>?_)
 .refine dI (aA (x:=.lst ([P].map pD++Ps.map pD)) W (aN (ax W .(k)) eO) ((GZ ?_).trans ?_))
  .rw[ql,qg,qg,qg,hl1];show(1+_)+4<=_;unfold aK;ext
  .rw[dU,dU]
 .rintro i x Y hx ⟨y1,y2,y3,y4,rfl⟩;rw[qm] at hx;let⟨Q,hQ,rfl⟩:=Za hx;let⟨pk,pl⟩:=hAll Q (qR hQ);let⟨b,eg,ed⟩:=Kx (kp:=(k1,m1)) (mo:=mo) g hg Ě hF pk .(c) hd hK;show aI W (bF (aI (aN (z:=pD Q) (ax W aC) W) (bF (aI (JE (d:=.bl b) W (yM (z:=ah) (c:="Facts") (fs:=fe) (show("goes":ai)∉g9 by decide +kernel) W (ax W aC) eg) W) (bF (aI (yo (d:=.bl b) W (aN (ax W (ax W (ax (eU (uE (ax W (ax W .(k))) (show(4:ag)<=1000 by decide))) (ax W aC)))) ed) W) ?_))))));show dS (b:=ar) ?_ (λq=>nomatch q) λ_=>#[_,_,_,_,W];show bor (a:=ar) (b:=ar) (ky (b:=ah) (bi (aN .(k) W))) (bor (a:=ar) (b:=ar) (bi (aA W W (by cases b<;>rfl))) (bi (aA rfl rfl (Vj pk))))
 .rcases q with⟨q,y1,y2,y3,y4,e⟩|⟨_,_,q⟩
  .exact#[q,fP (aI W #[_,W,W])]
  .exact q.elim
end
end Law
section
variable{g:FG}
def Ë(N':Z ai)(hi:DI O X tg iter fi)(C:N'.Nodup->DB O X N' scope tg ō ő g ft fe:=by intro nd;show⟨λ_ _ _ _ _=>#[by right,by first|show lR|(show uf ?_;exfalso),by ac_rfl]⟩)(hn:N'.Nodup:=by decide +kernel)(hc:X.calm=ah:=by rfl)(hk:scope.kind=.function:=by rfl)(h:vt scope.names X.env.scope.names=ah:=by rfl)(F:t4 N' fv X.N X.env.scope.names scope.names=ah:=by rfl)(hs:∀x,kJ iter X.env x=bd x:=by intro _;rfl):DO O X .(q) (ba fi g ft fe fv):=SE hc (.of hk h) (.of F) hi (C hn) hs
def lH(i:ag){y:ai}(hN:X.N.Nodup)(N':Z ai)(hi:DI O X tg iter fi)(C:N'.Nodup->DB O X N' scope tg ō ő g ft fe:=by intro nd;show⟨λ_ _ _ _ _=>#[by right,by first|show lR|(show uf ?_;exfalso),by ac_rfl]⟩)(hn:N'.Nodup:=by decide +kernel)(hc:X.calm=ah:=by rfl)(hk:scope.kind=.function:=by rfl)(h:vt scope.names X.env.scope.names=ah:=by rfl)(F:t4 N' fv X.N X.env.scope.names scope.names=ah:=by rfl)(hy:X.N[i]?=U y:=by rfl)(hyl:X.env.scope.names.lookup y=U .local:=by rfl)(hsw:dq .(q) (U (.Name y py)) Œ.line X.env=bd ah:=by rfl)(hs:∀x,kJ iter X.env x=bd x:=by intro _;rfl):DS O X (.Assign [.Name y py] .(q) Œ) (aR i (aQ (ba fi g ft fe fv))):=KZ i hN hc (.of hk h) (.of F) hi (C hn) hy hyl hsw hs
end
def gx:eq "all"=U (.builtin "all"):=by decide +kernel
def Re:eq "isinstance"=U (.builtin "isinstance"):=by decide +kernel
def Q1:eq "len"=U (.builtin "len"):=by decide +kernel
def Jz:eq "max"=U (.builtin "max"):=by decide +kernel
def zD:eq "min"=U (.builtin "min"):=by decide +kernel
def TH:eq "sorted"=U (.builtin "sorted"):=by decide +kernel
def Cq:eq "sum"=U (.builtin "sum"):=by decide +kernel
def TX:eq "any"=U (.builtin "any"):=by decide +kernel
def Me:eq "bool"=U (.type "bool"):=by decide +kernel
def jF:eq "dict"=U (.type "dict"):=by decide +kernel
def NG:eq "int"=U (.type "int"):=by decide +kernel
def oN:eq "list"=U (.type "list"):=by decide +kernel
def J7:eq "str"=U (.type "str"):=by decide +kernel
def GW:eq "tuple"=U (.type "tuple"):=by decide +kernel
def Ks:eq "set"=U (.type "set"):=by decide +kernel
abbrev Ze(N:Z ai)(k:ag)(sc:Scope):Prop:=ZC N (N.take k) sc
section
variable{st:Stmt}{k:ag}
def Zm.cl(F:Zm K mg x st)(S:ZC N ps (aD st))(Y6:N.Nodup->∀(f:av)(Y0:aw)(A:cH)(outer:Z cA)(s:aH)(H:Hp)(us:XK),ZH k (A.deeper (dc x (aD st) s.heap.objs.size f Y0))->Ø O (dy ø P w K mg base N x (aD st) f Y0 A outer s H us).nox (bZ st) g)
  (C:∀a b c d e f(v:ag->aw),eN (cZ x x (c7 st) (bZ st) (aD st) .none a b c d e f) #[(cC ps.length).map v,[]]=bd (ps.zip ((cC ps.length).map v)):=by exactλ_ _ _ _ _ _ _=>rfl):η O P w K mg base x ps.length (k+1) (aO (N.length-ps.length) g):=F.cal S (bn C) (Y6 S.nd)
def Y4.cl(Γ:Zy O K mg c hb)(F:Y4 K hb c m qual st)(S:ZC N ps (aD st))(Y6:N.Nodup->∀(f:av)(Y0:aw)(A:cH)(outer:Z cA)(s:aH)(H:Hp)(us:XK),ZH k .(j)->Ø O .(i).nox (bZ st) g)
  (C:∀a b c d e f(v:ag->aw),eN (cZ m qual (c7 st) (bZ st) (aD st) .none a b c d e f) #[(cC ps.length).map v,[]]=bd (ps.zip ((cC ps.length).map v)):=by exactλ_ _ _ _ _ _ _=>rfl):Í O P w K mg base c m ps.length (k+1) (aO (N.length-ps.length) g):=Y4.cal Γ F S (bn C) (Y6 S.nd)
end
set_option maxHeartbeats 4000000
variable{C_Facts C_Grounds C_Shop:av}
namespace Law
def l34{E:Z α}{YY:Z β}{P:Z α->Z β->Prop}(k:∀a b c f g h i,P [a,b,c] [f,g,h,i])(h1:E.length+4=7)(h2:YY.length=4):P E YY:=match E,YY,h1,h2 with|[_,_,_],[_,_,_,_],_,_=>k ..
def l74{E:Z α}{YY:Z β}{P:Z α->Z β->Prop}(k:∀a b c d e f g h i j l,P [a,b,c,d,e,f,g] [h,i,j,l])(h1:E.length+(4-4)=7)(h2:YY.length=4):P E YY:=match E,YY,h1,h2 with|[_,_,_,_,_,_,_],[_,_,_,_],_,_=>k ..
def l3K{E YY:Z α}{z:α}{P:Z α->Z α->Prop}(k:∀a b c f g h i,P [a,b,c] [f,g,h,i])(h1:(E++(YY.take 3++[z])).length=7)(h2:YY.length=4):P E YY:=l34 k (by rw[ql,ql,qF,h2] at h1;show h1) h2
def Jb:Ze ["_law_script","_law_k"] 2 (aD (YV 70)):=aW
def Mf:Ze ["_law_cell","_law_k","_law_many","_law_left","_law_j","_law_number"] 3 (aD (YV 71)):=aW
def Nc:Ze ["_law_script","_law_cell"] 1 (aD (YV 81)):=aW
def PM:Ze ["_law_cell","_law_k","_law_most"] 3 (aD (YV 73)):=aW
def TU:Ze ["_law_cell","_law_k","_law_horizon_here","_law_breaks_here","_law_at","_law_j","_law_begin","_law_end"] 3 (aD (YV 74)):=aW
def DD:Ze ["_law_cell","_law_many","_law_letters","_law_stem","_law_at","_law_found","_law_k"] 2 (aD (YV 72)):=aW
def M4:Ze ["_law_cell","_law_name","_law_benches","_law_horizon_here","_law_kind","_law_at","_law_some","_law_ways","_law_k","_law_bench","_law_most"] 4 (aD (YV 75)):=aW
def Eb:Ze ["_law_cell","_law_k","_law_steps","_law_found","_law_j","_law_one","_law_other"] 3 (aD (YV 77)):=aW
def xJ:Ze ["_law_cell","_law_benches","_law_horizon_here","_law_kinds","_law_found","_law_j","_law_key"] 3 (aD (YV 78)):=aW
def JQ:Ze ["_law_cell","_law_steps","_law_stocks_here","_law_j","_law_room","_law_takes","_law_puts"] 2 (aD (YV 79)):=aW
def K4:Ze ["_law_cell","_law_cells","_law_steps","_law_horizon_here","_law_jobs_here","_law_k","_law_some","_law_early","_law_due_here"] 4 (aD (YV 76)):=aW
def Fm:Ze ["_law_script","_law_most","_law_horizon_here","_law_cell","_law_cells","_law_many","_law_benches","_law_k","_law_names_here","_law_steps","_law_links","_law_setups_here","_law_stocks_here"] 3 (aD (YV 80)):=aW
def SO:Ze ["thing"] 1 (aD (YV 28)):=aW
def Qa:Ze ["thing","least","most"] 3 (aD (YV 31)):=aW
def T8:Ze ["thing","many"] 2 (aD (YV 33)):=aW
def KQ:Ze ["row","horizon"] 2 (aD (YV 47)):=aW
def SI:Ze ["thing","least","most"] 3 (aD (YV 32)):=aW
def Vi:Ze ["breaks","horizon"] 2 (aD (YV 48)):=aW
def Ny:Ze ["thing"] 1 (aD (YV 29)):=aW
def Ph:Ze ["row","horizon"] 2 (aD (YV 49)):=aW
def KU:Ze ["things"] 1 (aD (YV 35)):=aW
def NY:Ze ["benches","horizon"] 2 (aD (YV 50)):=aW
def Q0:Ze ["thing","names"] 2 (aD (YV 34)):=aW
def Uz:Ze ["row","bench_names","horizon"] 3 (aD (YV 51)):=aW
def Nb:Ze ["ways","bench_names","horizon"] 3 (aD (YV 52)):=aW
def OB:Ze ["row","bench_names","horizon"] 3 (aD (YV 53)):=aW
def Q9:Ze ["steps","bench_names","horizon"] 3 (aD (YV 54)):=aW
def Lq:Ze ["row","step_names","horizon"] 3 (aD (YV 55)):=aW
def Vk:Ze ["jobs","step_names","horizon","members","row"] 3 (aD (YV 56)):=aW
def R4:Ze ["row","bench_names","horizon"] 3 (aD (YV 57)):=aW
def T5:Ze ["setups","bench_names","horizon"] 3 (aD (YV 58)):=aW
def KS:Ze ["row","step_names","horizon"] 3 (aD (YV 59)):=aW
def JJ:Ze ["links","step_names","horizon"] 3 (aD (YV 60)):=aW
def Q5:Ze ["row","step_names"] 2 (aD (YV 61)):=aW
def Pn:Ze ["rows","step_names"] 2 (aD (YV 62)):=aW
def Li:Ze ["row","step_names"] 2 (aD (YV 63)):=aW
def Kw:Ze ["stocks","step_names"] 2 (aD (YV 64)):=aW
def Nh:Ze ["benches","steps","jobs","setups","links","stocks","horizon","bench_names","step_names"] 7 (aD (YV 65)):=aW
def ES:Ze ["thing"] 1 (aD (YV 67)):=aW
def D2:Ze ["self","benches","steps","jobs","setups","links","stocks","horizon","part","row","step"] 8 (aD (bD (YV 68) 0)):=aW
def SA:Ze ["_law_lists_here"] 1 (aD (YV 82)):=aW
def Rj:Ze ["self"] 1 (aD (bD (YV 68) 9)):=aW
def Rz:Ze ["self","step"] 2 (aD (bD (YV 68) 10)):=aW
def SB:Ze ["self","step"] 2 (aD (bD (YV 68) 12)):=aW
def Vn:Ze ["self"] 1 (aD (bD (YV 68) 7)):=aW
def NW:Ze ["self"] 1 (aD (bD (YV 68) 1)):=aW
def S5:Ze ["self"] 1 (aD (bD (YV 68) 3)):=aW
def N2:Ze ["things","pairs","place","one"] 1 (aD (YV 2)):=aW
def Vs:Ze ["self"] 1 (aD (bD (YV 68) 5)):=aW
def E6:Ze ["shop","gaps","job","pair","one","other","gap"] 1 (aD (YV 3)):=aW
def JG:Ze ["shop","names","gaps","orders","one"] 1 (aD (YV 4)):=aW
def C9:Ze ["self","shop","limit","kept","most","step","job","due"] 5 (aD (bD (YV 6) 0)):=aW
def Cb:Ze ["self","step","benches"] 3 (aD (bD (YV 22) 32)):=aW
def Da:Ze ["self","step","first","last"] 4 (aD (bD (YV 22) 31)):=aW
def Sd:Ze ["self","step"] 2 (aD (bD (YV 22) 5)):=aW
def Nt:Ze ["self","step","lengths"] 2 (aD (bD (YV 22) 13)):=aW
def J6:Ze ["self","step"] 2 (aD (bD (YV 22) 14)):=aW
def zj:Ze ["self","shop","limit","holds","kept","most","now","step","early","start"] 7 (aD (bD (YV 22) 0)):=aW
def Ac:Ze ["_law_cell","_law_lists_here","_law_found","_law_at","_law_k","_law_row","_law_way"] 2 (aD (YV 88)):=aW
def vQ:Ze ["_law_cell","_law_steps","_law_horizon_here","_law_found","_law_j","_law_name","_law_kind","_law_ways","_law_bench"] 3 (aD (YV 87)):=aW
def Vx:Ze ["self","step"] 2 (aD (bD (YV 22) 4)):=aW
def VT:Ze ["self","step"] 2 (aD (bD (YV 22) 3)):=aW
def FB:Ze ["self","step"] 2 (aD (bD (YV 22) 34)):=aW
def FV:Ze ["self","one","other"] 3 (aD (bD (YV 22) 33)):=aW
def BW:Ze ["_law_facts","_law_lists_here","_law_kept_here","_law_cell","_law_k","_law_row","_law_way"] 4 (aD (YV 89)):=aW
def p6:Ze ["_law_schedule_here","_law_lists_here","_law_cell","_law_name","_law_less","_law_more","_law_other","_law_late"] 3 (aD (YV 91)):=aW
def P8:Ze ["self","step","bench","start"] 4 (aD (bD (YV 22) 17)):=aW
def T6:Ze ["self","one","other"] 3 (aD (bD (YV 22) 25)):=aW
def Ss:Ze ["self"] 1 (aD (bD (YV 22) 1)):=aW
def Sj:Ze ["self","bench","first","second"] 4 (aD (bD (YV 68) 14)):=aW
def JV:Ze ["self","step"] 2 (aD (bD (YV 68) 11)):=aW
def Cw:Ze ["self","one","other","gap","shop"] 3 (aD (bD (YV 22) 26)):=aW
def VB:Ze ["self","schedule","one","other","end"] 4 (aD (bD (YV 22) 28)):=aW
def Tw:Ze ["shop","schedule","names","step","strangers"] 2 (aD (YV 10)):=aW
def Ta:Ze ["shop","step","bench","way_bench","length"] 3 (aD (YV 8)):=aW
def OY:Ze ["shop","schedule","step","start","length"] 2 (aD (YV 11)):=aW
def EL:Ze ["shop","schedule","ends","step","place"] 2 (aD (YV 9)):=aW
def LP:Ze ["shop","schedule","ends","step","job"] 3 (aD (YV 12)):=aW
def QS:Ze ["self","bench"] 2 (aD (bD (YV 68) 13)):=aW
def NH:Ze ["shop","schedule","ends","step","start","breaks"] 3 (aD (YV 13)):=aW
def Kd:Ze ["shop","schedule","ends","one","other","earlier","later","setup"] 5 (aD (YV 14)):=aW
def Mg:Ze ["shop","schedule","ends","one","other"] 3 (aD (YV 15)):=aW
def TM:Ze ["shop","schedule","ends","job","one","other","told_way","other_way"] 3 (aD (YV 16)):=aW
def Ry:Ze ["shop","schedule","ends","one","other","gap"] 3 (aD (YV 17)):=aW
def Q2:Ze ["self"] 1 (aD (bD (YV 68) 6)):=aW
def y9:Ze ["stock","schedule","ends","moment","taken","put"] 4 (aD (YV 18)):=aW
def Gy:Ze ["shop","schedule","ends","stock","moments","moment"] 3 (aD (YV 19)):=aW
def L7:Ze ["shop","schedule","broken","ends"] 2 (aD (YV 20)):=aW
def RJ:Ze ["self"] 1 (aD (bD (YV 22) 9)):=aW
def NU:Ze ["self"] 1 (aD (bD (YV 22) 10)):=aW
def ON:Ze ["self","step"] 2 (aD (bD (YV 22) 11)):=aW
def KR:Ze ["self"] 1 (aD (bD (YV 22) 12)):=aW
def Ov:Ze ["self","schedule","moved"] 2 (aD (bD (YV 22) 29)):=aW
def LV:Ze ["self","schedule","step"] 2 (aD (bD (YV 22) 30)):=aW
def Sn:Ze ["self","step"] 2 (aD (bD (YV 22) 6)):=aW
def VE:Ze ["_law_lists_here","_law_step_here","_law_job_here"] 2 (aD (YV 83)):=aW
def Tu:Ze ["_law_lists_here","_law_limit","_law_step_here","_law_found","_law_job_here"] 3 (aD (YV 84)):=aW
def Qq:Ze ["self"] 1 (aD (bD (YV 22) 7)):=aW
def Uj:Ze ["self"] 1 (aD (bD (YV 22) 8)):=aW
def xL:Ze ["_law_facts","_law_lists_here","_law_more","_law_schedule_here","_law_shop_here","_law_limit","_law_kept_here","_law_most","_law_ends","_law_name","_law_kind","_law_ways","_law_bench","_law_start","_law_one","_law_other","_law_moved"] 4 (aD (YV 90)):=aW
def jp:Ze ["_law_script","_law_lists_here","_law_shop_here","_law_cell","_law_limit","_law_kept_here","_law_most","_law_facts","_law_first","_law_name","_law_some","_law_schedule_here","_law_handed","_law_found","_law_due_here"] 1 (aD (YV 92)):=aW
noncomputable def Ξ(mg:ai->au aw)(x:ai):Tok:=match mg x with|some (.int _ t)=>t|_=>0
def tkI_of{h:Heap}{n:aj}{t:Tok}(X:K.In h)(G:h.Ns fK mg)(a:tu K fK x=U (U (.int n t))):mg x=U (.int n (Ξ mg x)):=by let q:=tw X G a;rw[q];unfold Ξ;rw[q]
structure Vd(K:aT)(mg:ai->au aw)(C_Facts C_Grounds C_Shop:av):Prop where
 z_all:mg "all"=B
 z_any:mg "any"=B
 z_bool:mg "bool"=B
 z_dict:mg "dict"=B
 z_enumerate:mg "enumerate"=B
 z_int:mg "int"=B
 z_isinstance:mg "isinstance"=B
 z_len:mg "len"=B
 z_list:mg "list"=B
 z_max:mg "max"=B
 z_min:mg "min"=B
 z_range:mg "range"=B
 z_set:mg "set"=B
 z_sorted:mg "sorted"=B
 z_str:mg "str"=B
 z_sum:mg "sum"=B
 z_tuple:mg "tuple"=B
 k_LONGEST_NAME:mg "LONGEST_NAME"=U (.int 8 (Ξ mg "LONGEST_NAME"))
 k_MOST_AMOUNT:mg "MOST_AMOUNT"=U (.int 1000000 (Ξ mg "MOST_AMOUNT"))
 k_MOST_BENCHES:mg "MOST_BENCHES"=U (.int 8 (Ξ mg "MOST_BENCHES"))
 k_MOST_BREAKS:mg "MOST_BREAKS"=U (.int 10 (Ξ mg "MOST_BREAKS"))
 k_MOST_HORIZON:mg "MOST_HORIZON"=U (.int 1000000 (Ξ mg "MOST_HORIZON"))
 k_MOST_JOBS:mg "MOST_JOBS"=U (.int 40 (Ξ mg "MOST_JOBS"))
 k_MOST_LINKS:mg "MOST_LINKS"=U (.int 100 (Ξ mg "MOST_LINKS"))
 k_MOST_SETUPS:mg "MOST_SETUPS"=U (.int 100 (Ξ mg "MOST_SETUPS"))
 k_MOST_STEPS:mg "MOST_STEPS"=U (.int 40 (Ξ mg "MOST_STEPS"))
 k_MOST_STOCKS:mg "MOST_STOCKS"=U (.int 6 (Ξ mg "MOST_STOCKS"))
 k_MOST_WAYS:mg "MOST_WAYS"=U (.int 4 (Ξ mg "MOST_WAYS"))
 d0:Zm K mg "_law_cell_at" (YV 70)
 d1:Zm K mg "_law_draw" (YV 71)
 d2:Zm K mg "_law_horizon" (YV 81)
 d3:Zm K mg "_law_moment" (YV 73)
 d4:Zm K mg "_law_breaks" (YV 74)
 d5:Zm K mg "_law_names" (YV 72)
 d6:Zm K mg "_law_step" (YV 75)
 d7:Zm K mg "_law_pairs" (YV 77)
 d8:Zm K mg "_law_setups" (YV 78)
 d9:Zm K mg "_law_stocks" (YV 79)
 d10:Zm K mg "_law_jobs" (YV 76)
 d11:Zm K mg "_law_lists" (YV 80)
 d12:Zm K mg "is_whole" (YV 28)
 d13:Zm K mg "is_within" (YV 31)
 d14:Zm K mg "is_tuple" (YV 33)
 d15:Zm K mg "is_break" (YV 47)
 d16:Zm K mg "is_list" (YV 32)
 d17:Zm K mg "are_breaks" (YV 48)
 d18:Zm K mg "is_name" (YV 29)
 d19:Zm K mg "is_bench" (YV 49)
 d20:Zm K mg "are_unlike" (YV 35)
 d21:Zm K mg "are_benches" (YV 50)
 d22:Zm K mg "is_one_of" (YV 34)
 d23:Zm K mg "is_way" (YV 51)
 d24:Zm K mg "are_ways" (YV 52)
 d25:Zm K mg "is_step" (YV 53)
 d26:Zm K mg "are_steps" (YV 54)
 d27:Zm K mg "is_job" (YV 55)
 d28:Zm K mg "are_jobs" (YV 56)
 d29:Zm K mg "is_setup" (YV 57)
 d30:Zm K mg "are_setups" (YV 58)
 d31:Zm K mg "is_link" (YV 59)
 d32:Zm K mg "are_links" (YV 60)
 d33:Zm K mg "is_amount" (YV 61)
 d34:Zm K mg "are_amounts" (YV 62)
 d35:Zm K mg "is_stock" (YV 63)
 d36:Zm K mg "are_stocks" (YV 64)
 d37:Zm K mg "first_bad_part" (YV 65)
 d38:Zm K mg "fresh" (YV 67)
 d39:Y4 K C_Shop "Shop" "__init__" "Shop.__init__" (bD (YV 68) 0)
 d40:Zm K mg "_law_shop" (YV 82)
 d41:Y4 K C_Shop "Shop" "step_names" "Shop.step_names" (bD (YV 68) 9)
 d42:Y4 K C_Shop "Shop" "ways_of" "Shop.ways_of" (bD (YV 68) 10)
 d43:Y4 K C_Shop "Shop" "job_of" "Shop.job_of" (bD (YV 68) 12)
 d44:Y4 K C_Shop "Shop" "last_moment" "Shop.last_moment" (bD (YV 68) 7)
 d45:Y4 K C_Shop "Shop" "bench_rows" "Shop.bench_rows" (bD (YV 68) 1)
 d46:Y4 K C_Shop "Shop" "job_rows" "Shop.job_rows" (bD (YV 68) 3)
 d47:Zm K mg "pairs_of" (YV 2)
 d48:Y4 K C_Shop "Shop" "link_rows" "Shop.link_rows" (bD (YV 68) 5)
 d49:Zm K mg "greatest_gaps" (YV 3)
 d50:Zm K mg "known_orders" (YV 4)
 d51:Y4 K C_Grounds "Grounds" "__init__" "Grounds.__init__" (bD (YV 6) 0)
 d52:Y4 K C_Facts "Facts" "set_open" "Facts.set_open" (bD (YV 22) 32)
 d53:Y4 K C_Facts "Facts" "set_window" "Facts.set_window" (bD (YV 22) 31)
 d54:Y4 K C_Facts "Facts" "end_mark" "Facts.end_mark" (bD (YV 22) 5)
 d55:Y4 K C_Facts "Facts" "open_lengths" "Facts.open_lengths" (bD (YV 22) 13)
 d56:Y4 K C_Facts "Facts" "least_of" "Facts.least_of" (bD (YV 22) 14)
 d57:É K C_Facts "Facts" "__init__" "Facts.__init__" (bD (YV 22) 0) [.non,.non,.int 0,.int 0]
 d58:Zm K mg "_law_schedule" (YV 88)
 d59:Zm K mg "_law_kept" (YV 87)
 d60:Y4 K C_Facts "Facts" "last_of" "Facts.last_of" (bD (YV 22) 4)
 d61:Y4 K C_Facts "Facts" "first_of" "Facts.first_of" (bD (YV 22) 3)
 d62:Y4 K C_Facts "Facts" "put_note" "Facts.put_note" (bD (YV 22) 34)
 d63:Y4 K C_Facts "Facts" "put_order" "Facts.put_order" (bD (YV 22) 33)
 d64:Zm K mg "_law_changed" (YV 89)
 d65:Zm K mg "_law_others" (YV 91)
 d66:Y4 K C_Facts "Facts" "is_in_window" "Facts.is_in_window" (bD (YV 22) 17)
 d67:Y4 K C_Facts "Facts" "have_one_bench" "Facts.have_one_bench" (bD (YV 22) 25)
 d68:Y4 K C_Facts "Facts" "shop" "Facts.shop" (bD (YV 22) 1)
 d69:Y4 K C_Shop "Shop" "setup_of" "Shop.setup_of" (bD (YV 68) 14)
 d70:Y4 K C_Shop "Shop" "kind_of" "Shop.kind_of" (bD (YV 68) 11)
 d71:Y4 K C_Facts "Facts" "gap_of" "Facts.gap_of" (bD (YV 22) 26)
 d72:Y4 K C_Facts "Facts" "keeps_order" "Facts.keeps_order" (bD (YV 22) 28)
 d73:Zm K mg "broken_step" (YV 10)
 d74:Zm K mg "length_on" (YV 8)
 d75:Zm K mg "broken_way" (YV 11)
 d76:Zm K mg "ends_of" (YV 9)
 d77:Zm K mg "broken_job" (YV 12)
 d78:Y4 K C_Shop "Shop" "breaks_of" "Shop.breaks_of" (bD (YV 68) 13)
 d79:Zm K mg "broken_break" (YV 13)
 d80:Zm K mg "are_too_close" (YV 14)
 d81:Zm K mg "broken_bench" (YV 15)
 d82:Zm K mg "broken_apart" (YV 16)
 d83:Zm K mg "broken_link" (YV 17)
 d84:Y4 K C_Shop "Shop" "stock_rows" "Shop.stock_rows" (bD (YV 68) 6)
 d85:Zm K mg "level_at" (YV 18)
 d86:Zm K mg "broken_stock" (YV 19)
 d87:Zm K mg "first_broken" (YV 20)
 d88:Y4 K C_Facts "Facts" "has_kept" "Facts.has_kept" (bD (YV 22) 9)
 d89:Y4 K C_Facts "Facts" "kept_names" "Facts.kept_names" (bD (YV 22) 10)
 d90:Y4 K C_Facts "Facts" "kept_place" "Facts.kept_place" (bD (YV 22) 11)
 d91:Y4 K C_Facts "Facts" "most_moved" "Facts.most_moved" (bD (YV 22) 12)
 d92:Y4 K C_Facts "Facts" "keeps_enough" "Facts.keeps_enough" (bD (YV 22) 29)
 d93:Y4 K C_Facts "Facts" "goes" "Facts.goes" (bD (YV 22) 30)
 d94:Y4 K C_Facts "Facts" "open_to" "Facts.open_to" (bD (YV 22) 6)
 d95:Zm K mg "_law_job" (YV 83)
 d96:Zm K mg "_law_mark" (YV 84)
 d97:Y4 K C_Facts "Facts" "orders" "Facts.orders" (bD (YV 22) 7)
 d98:Y4 K C_Facts "Facts" "noted" "Facts.noted" (bD (YV 22) 8)
 d99:Zm K mg "_law_due" (YV 90)
structure Vw(K:aT)(mg:ai->au aw)(C_Facts C_Grounds C_Shop:av):Prop extends Vd K mg C_Facts C_Grounds C_Shop where
 O_Facts:Zy .(a) K mg "Facts" C_Facts
 cf_Facts:CF .(a) K "Facts" g9
 O_Grounds:Zy .(a) K mg "Grounds" C_Grounds
 cf_Grounds:CF .(a) K "Grounds" xU
 O_Shop:Zy .(a) K mg "Shop" C_Shop
 cf_Shop:CF .(a) K "Shop" BL
section
variable(V:Vw K mg C_Facts C_Grounds C_Shop)
include V
set_option hygiene false
local macro_rules | `(tactic| ac_rfl)=>`(tactic| first
 |exact bR _
 |exact oJ
 |(refine o8 (by assumption) hr .(b) rfl ?_ (by first|exact ln3|exact ln2|exact Φ|exact ln4|exact ln5|exact ln6|exact ln7);(and_intros))
 |(refine uT ?_ ?_;(ac_rfl);(ac_rfl))
 |(refine zg ?_ ?_;(ac_rfl);(ac_rfl))
 |(refine DO.de (yp ?_);(and_intros))
 |exact uj
 |(refine D7 ?_;(and_intros))
 |(refine dF VC rfl V.z_len Q1 ?_;(and_intros))
 |(refine QO (by first|assumption|exact V.cf_Facts|exact V.cf_Grounds|exact V.cf_Shop) (by decide +kernel) ?_;(ac_rfl))
 |(refine Ec (cg hr) ?_ ?_;(ac_rfl);(ac_rfl))
 |(refine VQ (by assumption) hr .(b) ?_ ?_ (by first|exact ln3|exact ln2|exact Φ|exact ln4|exact ln5|exact ln6|exact ln7);(ac_rfl);(and_intros))
 |(refine tX ?_ ?_;(ac_rfl);(ac_rfl))
 |(refine Lb ?_ ?_;(ac_rfl);(ac_rfl))
 |(refine zP (by first|exact uL|exact Hj|exact Al (rF hr)|exact BI (rF hr)|exact BN|exact FW|exact Et|exact oB|exact D9|exact zb|exact C1 (cg hr)|exact DK (cg hr)) ?_ ?_ (by first|exact rS _|rfl);(ac_rfl);(ac_rfl))
 |(refine LB ?_ ?_;(ac_rfl);(ac_rfl))
 |(refine yH ?_;(ac_rfl))
 |exact yn
 |exact yy
 |(refine zE ?_ ?_ ?_;(ac_rfl);(first|exact uF|(refine uq ?_;ac_rfl));(first|exact uF|(refine uq ?_;ac_rfl)))
 |(refine dF (gu rfl) rfl V.z_all gx ?_;(and_intros))
 |(refine dF Tx rfl V.z_isinstance Re ?_;(and_intros))
 |(refine dF (Mz rfl) rfl V.z_min zD ?_;(and_intros))
 |(refine dF (Pd rfl) rfl V.z_max Jz ?_;(and_intros))
 |(refine Qp ?_ ?_;(ac_rfl);(ac_rfl))
 |exact VH rfl (by first|exact V.k_LONGEST_NAME|exact V.k_MOST_AMOUNT|exact V.k_MOST_BENCHES|exact V.k_MOST_BREAKS|exact V.k_MOST_HORIZON|exact V.k_MOST_JOBS|exact V.k_MOST_LINKS|exact V.k_MOST_SETUPS|exact V.k_MOST_STEPS|exact V.k_MOST_STOCKS|exact V.k_MOST_WAYS)
 |exact nj rfl V.z_bool Me
 |exact nj rfl V.z_int NG
 |exact nj rfl V.z_list oN
 |exact nj rfl V.z_tuple GW
 |exact nj rfl V.z_str J7
 |exact nj rfl V.z_dict jF
 |exact nj rfl V.z_set Ks
 |(refine MB (by assumption) hr .(b) ?_;(ac_rfl))
 |(refine NE ?_ ?_;(ac_rfl);(ac_rfl))
 |(refine Jm ?_ ?_;(ac_rfl);(ac_rfl))
 |(refine NP ?_ ?_;(ac_rfl);(ac_rfl))
 |(refine KG ?_;(ac_rfl))
 |(refine RP ?_;(ac_rfl))
 |(refine t7 ?_ ?_ ?_;(exfalso);(ac_rfl);(ac_rfl))
 |(refine Ly oB oB ?_ ?_ ?_;(ac_rfl);(ac_rfl);(ac_rfl)))
local macro_rules | `(tactic| split)=>`(tactic| first
 |(intro nd f Y0 A outer s H us hr;infer_instance))
local macro_rules | `(tactic| and_intros)=>`(tactic| first
 |exact cE
 |(refine cw ?_ ?_;(ac_rfl);(and_intros)))
local macro_rules | `(tactic| exfalso)=>`(tactic| first
 |(refine ny (by first|exact uL|exact Hj|exact Al (rF hr)|exact BI (rF hr)|exact BN|exact FW|exact Et|exact oB|exact D9|exact zb|exact C1 (cg hr)|exact DK (cg hr)) ?_ ?_ (by first|exact rS _|rfl);(ac_rfl);(ac_rfl))
 |(refine iY ?_;(exfalso))
 |(refine DW.dt ?_;(symm))
 |(refine Vl oB oB ?_ ?_ ?_;(ac_rfl);(ac_rfl);(ac_rfl))
 |(refine iH ?_;(ac_rfl)))
local macro_rules | `(tactic| symm)=>`(tactic| first
 |(refine je ?_;(exfalso))
 |(refine hZ ?_ ?_;(exfalso);(symm))
 |(refine Ad ?_;(exfalso))
 |(refine u6 ?_ ?_;(exfalso);(symm)))
local macro_rules | `(tactic| infer_instance)=>`(tactic| first
 |(refine uv _ ?_;(infer_instance))
 |(refine bx ?_;(nofun))
 |(refine aG ?_ ?_;(nofun);(infer_instance))
 |exact cR)
local macro_rules | `(tactic| nofun)=>`(tactic| first
 |(refine cV ?_;(ac_rfl))
 |(refine fZ _ nd ?_;(ac_rfl))
 |(refine cO ?_ ?_ ?_;(exfalso);(infer_instance);(infer_instance))
 |(refine c8 dv rfl ?_ ?_ ?_;(left);(right);(infer_instance))
 |(refine Km _ ?_;(ac_rfl))
 |(refine OD _ nd (yp ?_);(and_intros)))
local macro_rules | `(tactic| left)=>`(tactic| first
 |(refine mD ?_;(ac_rfl))
 |(refine Qs rfl V.z_range ?_;(and_intros))
 |(refine VF rfl V.z_enumerate ?_;(ac_rfl)))
local macro_rules | `(tactic| right)=>`(tactic| first
 |exact k0 _ nd
 |exact FP rfl (j9 (k0 _ nd) (j9 (k0 _ nd) yk))
 |exact FP rfl (j9 (k0 _ nd) (j9 (k0 _ nd) (j9 (k0 _ nd) yk))))
def y7:.(d) "_law_cell_at" 2 1 gM:=
 V.d0.cl Jb (by split)
def gz:.(d) "_law_draw" 3 1 bA:=
 V.d1.cl Mf (by split)
def RI:.(d) "_law_horizon" 1 2 zh:=
 V.d2.cl Nc (have:=y7 V;let:=gz V;by split)
def yh:.(d) "_law_moment" 3 2 ni:=
 V.d3.cl PM (have:=gz V;by split)
def QQ:.(d) "_law_breaks" 3 3 Aw:=
 V.d4.cl TU (have:=gz V;let:=yh V;by split)
def Mn:.(d) "_law_names" 2 2 xP:=
 V.d5.cl DD λnd f Y0 A outer s H us hr=>
  let:=gz V;(aG (by nofun) (aG (fZ 3 DD.nd (R7 PySem.F.plainAttrs_str PySem.F.slot_str_join PySem.F.type_str_join Tp uj (cw (DO.de (Ë ["_law_k","_law_letters","_law_cell"] (by left))) cE))) .(n)))
def Ox:.(d) "_law_step" 4 3 zZ:=
 V.d6.cl M4 (have:=gz V;let:=yh V;by split)
def Od:.(d) "_law_pairs" 3 2 yf:=
 V.d7.cl Eb λnd f Y0 A outer s H us hr=>
  let:=gz V;(aG (Aq 3 Eb.nd) (aG (c8 dv W (by left) (by right) (aG (by nofun) (aG (by nofun) (bx (cO (UP 3 (DW.dt (u6 (by exfalso) (Ad (ny (xx (cg hr)) .(D) (bR 3) (by rfl)))))) (bx (iE 3 (cg hr) .(D) .(D))) cR))))) (zl 3 .(n))))
def O1:.(d) "_law_setups" 3 2 zO:=
 V.d8.cl xJ λnd f Y0 A outer s H us hr=>
  let:=gz V;(aG (by nofun) (aG (Aq 4 xJ.nd) (aG (c8 dv W (by left) (by right) (aG (by nofun) (aG (fZ 6 xJ.nd (tY (bR 6) .(D))) (bx (iE 4 (cg hr) (bR 6) .(D)))))) (zl 4 (bx (cV (Fe 4 (DO.de (Ë ["_law_key","_law_found"] (Aa (bR 4)) λnd=>⟨λ_ _ _ _ _=>#[(by right),lR,(tY (bR 0) .(D))]⟩)))))))))
def Qj:.(d) "_law_stocks" 2 2 Az:=
 V.d9.cl JQ λnd f Y0 A outer s H us hr=>
  let:=gz V;(aG (by nofun) (aG (c8 dv W (by left) (by right) (aG (by nofun) (aG (lH 5 nd ["_law_k","_law_step_here","_law_cell","_law_j"] (by left)) (aG (lH 6 nd ["_law_k","_law_step_here","_law_cell","_law_j"] (by left)) .(n))))) .(n)))
def PY:.(d) "_law_jobs" 4 3 v7:=
 V.d10.cl K4 λnd f Y0 A outer s H us hr=>
  let:=gz V;let:=yh V;(aG (by nofun) (aG (c8 dv W (by left) (by right) (aG (lH 6 nd ["_law_j","_law_steps","_law_k","_law_cells"] (by left)) .(n))) .(n)))
def M':.(d) "_law_lists" 3 4 xn:=
 V.d11.cl Fm λnd f Y0 A outer s H us hr=>
  let:=QQ V;let:=y7 V;let:=gz V;let:=PY V;let:=Mn V;let:=Od V;let:=O1 V;let:=Ox V;let:=Qj V;(aG (by nofun) (aG (by nofun) (aG (by nofun) (aG (by nofun) (aG (by nofun) (aG (by nofun) (uv 6 (aG (lH 9 nd ["_law_k","_law_benches","_law_horizon_here","_law_cells","_law_names_here"] (by left)) (aG (by nofun) (aG (by nofun) (aG (fZ 10 Fm.nd (Fe 10 (DO.de (Ë ["_law_pair","_law_horizon_here","_law_links"] (Aa (bR 10)) λnd=>⟨λ_ _ _ _ _=>#[(by right),lR,(tY (bR 0) .(D))]⟩)))) .(n))))))))))))
def PH:.(d) "is_whole" 1 1 um:=
 V.d12.cl SO (by split)
def lr:.(d) "is_within" 3 2 gQ:=
 V.d13.cl Qa (have:=PH V;by split)
def j5:.(d) "is_tuple" 2 1 fW:=
 V.d14.cl T8 (by split)
def Nj:.(d) "is_break" 2 3 vE:=
 V.d15.cl KQ (have:=j5 V;let:=lr V;by split)
def jN:.(d) "is_list" 3 1 hG:=
 V.d16.cl SI (by split)
def L9:.(d) "are_breaks" 2 4 xS:=
 V.d17.cl Vi λnd f Y0 A outer s H us hr=>
  let:=Nj V;let:=jN V;(aG (cO (DW.dt (hZ (by exfalso) (je (iY (iH (dF (gu W) W V.z_all gx (cw (DO.de (Ë ["row","horizon"] (by left))) cE))))))) .(n) cR) (bx (cV (dF (gu W) W V.z_all gx (cw (DO.de (Ë ["place","breaks"] (UK W V.z_range (by and_intros)))) cE)))))
def oG:.(d) "is_name" 1 1 jO:=
 V.d18.cl Ny λnd f Y0 A outer s H us hr=>
  (aG (by nofun) (bx (cV (dF (gu W) W V.z_all gx (cw (DO.de (Ë ["sign"] (M3 (bR 0)))) cE)))))
def Sy:.(d) "is_bench" 2 5 uB:=
 V.d19.cl Ph (have:=L9 V;let:=oG V;let:=j5 V;by split)
def kj:.(d) "are_unlike" 1 1 fN:=
 V.d20.cl KU λnd f Y0 A outer s H us hr=>
  (bx (cV (zP uL (OX W (cg hr) W V.z_len W V.z_set (bR 0)) .(D) (rS _))))
def Ms:.(d) "are_benches" 2 6 zB:=
 V.d21.cl NY λnd f Y0 A outer s H us hr=>
  let:=Sy V;let:=jN V;(aG (cO (DW.dt (hZ (by exfalso) (je (iY (iH (dF (gu W) W V.z_all gx (cw (DO.de (Ë ["row","horizon"] (by left))) cE))))))) .(n) cR) (bx (cV (dC (kj V) hr (cw (DO.de (Ë ["row"] (by left))) cE) Φ))))
def rJ:.(d) "is_one_of" 2 2 ku:=
 V.d22.cl Q0 (have:=oG V;by split)
def Rk:.(d) "is_way" 3 3 vy:=
 V.d23.cl Uz (have:=rJ V;let:=j5 V;let:=lr V;by split)
def Ke:.(d) "are_ways" 3 4 Ai:=
 V.d24.cl Nb λnd f Y0 A outer s H us hr=>
  let:=jN V;let:=Rk V;.(A)
def JT:.(d) "is_step" 3 5 vf:=
 V.d25.cl OB (have:=Ke V;let:=oG V;let:=j5 V;by split)
def NS:.(d) "are_steps" 3 6 xY:=
 V.d26.cl Q9 λnd f Y0 A outer s H us hr=>
  let:=jN V;let:=JT V;.(A)
def P6:.(d) "is_job" 3 3 Ap:=
 V.d27.cl Lq λnd f Y0 A outer s H us hr=>
  let:=jN V;let:=oG V;let:=rJ V;let:=j5 V;let:=lr V;(aG (by nofun) (aG (by nofun) (bx (cV (tX .(D) (yH (dF (gu W) W V.z_all gx (cw (DO.de (Ë ["name","step_names"] (by left))) cE))))))))
def Pe:.(d) "are_jobs" 3 4 zm:=
 V.d28.cl Vk λnd f Y0 A outer s H us hr=>
  let:=kj V;let:=P6 V;let:=jN V;(aG (cO (DW.dt (hZ (by exfalso) (je (iY (iH (dF (gu W) W V.z_all gx (cw (DO.de (Ë ["row","step_names","horizon"] (by left))) cE))))))) .(n) cR) (aG (by nofun) (aG (c8 dv W (by left) (by right) (bx (uy 3 .(D)))) (uv 3 (bx (cV (tX (dC (kj V) hr (cw (DO.de (Ë ["row"] (by left))) cE) Φ) .(D))))))))
def Kv:.(d) "is_setup" 3 3 vg:=
 V.d29.cl R4 (have:=oG V;let:=rJ V;let:=j5 V;let:=lr V;by split)
def Ra:.(d) "are_setups" 3 4 y6:=
 V.d30.cl T5 λnd f Y0 A outer s H us hr=>
  let:=jN V;let:=Kv V;.(A)
def K3:.(d) "is_link" 3 3 vM:=
 V.d31.cl KS (have:=rJ V;let:=j5 V;let:=lr V;by split)
def Ur:.(d) "are_links" 3 4 yR:=
 V.d32.cl JJ λnd f Y0 A outer s H us hr=>
  let:=K3 V;let:=jN V;(aG (cO (DW.dt (hZ (by exfalso) (je (iY (iH (dF (gu W) W V.z_all gx (cw (DO.de (Ë ["row","step_names","horizon"] (by left))) cE))))))) .(n) cR) (bx (cV (dC (kj V) hr (cw (DO.de (Ë ["row"] (by left))) cE) Φ))))
def Vv:.(d) "is_amount" 2 3 wc:=
 V.d33.cl Q5 (have:=rJ V;let:=j5 V;let:=lr V;by split)
def UM:.(d) "are_amounts" 2 4 uH:=
 V.d34.cl Pn λnd f Y0 A outer s H us hr=>
  let:=Vv V;let:=jN V;(aG (cO (DW.dt (hZ (by exfalso) (je (iY (iH (dF (gu W) W V.z_all gx (cw (DO.de (Ë ["row","step_names"] (by left))) cE))))))) .(n) cR) (bx (cV (dC (kj V) hr (cw (DO.de (Ë ["row"] (by left))) cE) Φ))))
def N5:.(d) "is_stock" 2 5 tW:=
 V.d35.cl Li (have:=UM V;let:=oG V;let:=j5 V;let:=lr V;by split)
def Rq:.(d) "are_stocks" 2 6 xw:=
 V.d36.cl Kw λnd f Y0 A outer s H us hr=>
  let:=jN V;let:=N5 V;(aG (cO (DW.dt (hZ (by exfalso) (je (iY (iH (dF (gu W) W V.z_all gx (cw (DO.de (Ë ["row","step_names"] (by left))) cE))))))) .(n) cR) (bx (cV (dC (kj V) hr (cw (DO.de (Ë ["row"] (by left))) cE) Φ))))
def Uc:.(d) "first_bad_part" 7 7 xb:=
 V.d37.cl Nh λnd f Y0 A outer s H us hr=>
  let:=Ms V;let:=Pe V;let:=Ur V;let:=Ra V;let:=NS V;let:=Rq V;let:=lr V;(aG (by nofun) (aG (by nofun) (aG (lH 7 nd ["row"] (by left)) (aG (by nofun) (aG (lH 8 nd ["row"] (by left)) .(n))))))
def T7{k:ag}{eM:FQ}(i8:η .(a) P w K mg base "fresh" 1 k eM):η .(a) P w K mg base "fresh" 1 (k+1) (o9 eM):=
 V.d38.cal (k:=k) ES (bn λ_ _ _ _ _ _ _=>rfl) λf Y0 A outer s H us hr=>
  let nd:=ES.nd;(aG (cO (by exfalso) (bx (cV (DO.de (Ë ["part"] (by left) λnd=>⟨λ_ _ _ _ _=>#[(by right),lR,(o8 i8 hr (qx _) rfl (by and_intros) Φ)]⟩)))) cR) (aG (cO (by exfalso) (bx (cV (gm K8 W V.z_tuple GW (cw (DO.de (Ë ["part"] (by left) λnd=>⟨λ_ _ _ _ _=>#[(by right),lR,(o8 i8 hr (qx _) rfl (by and_intros) Φ)]⟩)) cE)))) cR) .(n)))
def i8:.(d) "fresh" 1 8 eM:=by
 let h:∀n,η .(a) P w K mg base "fresh" 1 n (jC n):=λn=>by
  induction n with
  |zero=>show Zm.none (ps:=["thing"]) V.d38 (bn λ_ _ _ _ _ _ _=>rfl)
  |succ n ih=>show T7 V ih
 show h 8
def J2:CalI .(a) P w K mg base "Shop" 7 9 zd:=
 Y4.calI (k:=8) V.O_Shop V.d39 D2 (bn λ_ _ _ _ _ _ _=>rfl) λf y Y0 A outer s H us hr=>
  let nd:=D2.nd;let:=((Uc V).re y);let:=((i8 V).re y);(aG (by nofun) (aG (cO (by exfalso) (bx K7) cR) (aG (jQ 0 (V.cf_Shop.re y) (.head _) .(D)) (aG (jQ 0 (V.cf_Shop.re y) (.tail _ (.head _)) .(D)) (aG (jQ 0 (V.cf_Shop.re y) (.tail _ (.tail _ (.head _))) .(D)) (aG (jQ 0 (V.cf_Shop.re y) .(h) .(D)) (aG (jQ 0 (V.cf_Shop.re y) (.tail _ .(h)) .(D)) (aG (jQ 0 (V.cf_Shop.re y) (.tail _ (.tail _ .(h))) .(D)) (aG (jQ 0 (V.cf_Shop.re y) (.tail _ (.tail _ (.tail _ .(h)))) (bR 7)) (aG (jQ 0 (V.cf_Shop.re y) (.tail _ (.tail _ (.tail _ (.tail _ .(h))))) (gm (sI W (cg hr)) W V.z_dict jF (cw (DO.de (Ë ["row"] (mD (uV 0 (V.cf_Shop.re y) (.head _))))) cE))) (aG (jQ 0 (V.cf_Shop.re y) (.tail _ (.tail _ (.tail _ (.tail _ (.tail _ .(h)))))) (gm (sI W (cg hr)) W V.z_dict jF (cw (DO.de (Ë ["row"] (mD (uV 0 (V.cf_Shop.re y) (.tail _ (.head _)))))) cE))) (aG (jQ 0 (V.cf_Shop.re y) (.tail _ (.tail _ (.tail _ (.tail _ (.tail _ (.tail _ .(h))))))) (gm (Ex W (cg hr)) W V.z_dict jF (cw (DO.de (Ë ["row"] (mD (uV 0 (V.cf_Shop.re y) .(h))))) cE))) (aG (Of 0 (V.cf_Shop.re y) (.tail _ (.tail _ (.tail _ (.tail _ (.tail _ (.tail _ (.tail _ .(h))))))))) (bx (c8 dv W (mD (uV 0 (V.cf_Shop.re y) (.tail _ (.tail _ (.head _))))) (by right) (bx (c8 dv W (by left) (by right) (bx (Nf 0 (cg hr) (V.cf_Shop.re y) (.tail _ (.tail _ (.tail _ (.tail _ (.tail _ (.tail _ (.tail _ .(h)))))))) (bR 10) (bR 9))))))))))))))))))))
def UY:.(d) "_law_shop" 1 11 yx:=
 V.d40.cl SA λnd f Y0 A outer s H us hr=>
  (bx (cV (T2 (J2 V) hr .(b) W (by and_intros) ln7)))
def jZ:(Í .(a) P w K mg base "Shop") "step_names" 1 1 i4:=
 Y4.cl V.O_Shop V.d41 Rj λnd f Y0 A outer s H us hr=>
  (bx (cV (DO.de (Ë ["row"] (by left)))))
def CG:(Í .(a) P w K mg base "Shop") "ways_of" 2 9 vB:=
 Y4.cl V.O_Shop V.d42 Rz (have:=i8 V;by split)
def Dq:(Í .(a) P w K mg base "Shop") "job_of" 2 9 vq:=
 Y4.cl V.O_Shop V.d43 SB λnd f Y0 A outer s H us hr=>
  (bx (cV (dC (i8 V) hr (cw (BH (cg hr) .(D) (bR 1)) cE) Φ)))
def B9:(Í .(a) P w K mg base "Shop") "last_moment" 1 1 oq:=
 Y4.cl V.O_Shop V.d44 Vn (by split)
def Md:(Í .(a) P w K mg base "Shop") "bench_rows" 1 9 yY:=
 Y4.cl V.O_Shop V.d45 NW (have:=i8 V;by split)
def Ha:(Í .(a) P w K mg base "Shop") "job_rows" 1 9 rQ:=
 Y4.cl V.O_Shop V.d46 S5 (have:=i8 V;by split)
def Ab:.(d) "pairs_of" 1 1 lD:=
 V.d47.cl N2 λnd f Y0 A outer s H us hr=>
  (aG (by nofun) (aG (c8 dv W (by left) (by right) (bx (uy 1 (DO.de (Ë ["other","one"] (by left)))))) .(n)))
def Ch:(Í .(a) P w K mg base "Shop") "link_rows" 1 9 sk:=
 Y4.cl V.O_Shop V.d48 Vs (have:=i8 V;by split)
def Nw:.(d) "greatest_gaps" 1 10 zI:=
 V.d49.cl E6 λnd f Y0 A outer s H us hr=>
  let:=Ha V;let:=Ch V;let:=Ab V;(aG (Aq 1 E6.nd) (aG (c8 dv W (by left) (by right) (bx (cO (by exfalso) (bx (c8 dv W (by left) (by right) (bx (iE 1 (cg hr) (bR 3) oJ)))) cR))) (aG (c8 dv W (by left) (by right) (bx (iE 1 (cg hr) .(D) (bR 6)))) (zl 1 .(n)))))
def Q6:.(d) "known_orders" 1 11 xo:=
 V.d50.cl JG λnd f Y0 A outer s H us hr=>
  let:=jZ V;let:=Nw V;(aG (by nofun) (aG (by nofun) (aG (by nofun) (aG (c8 dv W (by left) (by right) (bx (uy 3 (DO.de (Ë ["other","one","gaps"] (by left) λnd=>⟨λ_ _ _ _ _=>#[(by right),(uf (ny (Dd (cg hr)) .(D) (bR 2) (by rfl))),.(D)]⟩))))) .(n)))))
def Pm:Ê .(a) P w K mg base "Grounds" 4 12 [] yF:=
 Y4.calIU (k:=11) V.O_Grounds V.d51 C9 (bn λ_ _ _ _ _ _ _=>rfl) λf y Y0 A outer s H us hr=>
  let nd:=C9.nd;let:=((Md V).re y);let:=((Dq V).re y);let:=((B9 V).re y);let:=((jZ V).re y);let:=((CG V).re y);let:=((Q6 V).re y);(aG (nZ 0 (V.cf_Grounds.re y) (.head _) (bR 1)) (aG (nZ 0 (V.cf_Grounds.re y) (.tail _ (.head _)) (t7 (by exfalso) yn (gm (KW W) W V.z_dict jF (by and_intros)))) (aG (nZ 0 (V.cf_Grounds.re y) (.tail _ (.tail _ (.head _))) (bR 4)) (aG (lM 0 (V.cf_Grounds.re y) .(h)) (aG (lM 0 (V.cf_Grounds.re y) (.tail _ .(h))) (aG (lM 0 (V.cf_Grounds.re y) (.tail _ (.tail _ .(h)))) (aG (lM 0 (V.cf_Grounds.re y) (.tail _ (.tail _ (.tail _ .(h))))) (aG (c8 dv W (by left) (by right) (aG (j6 0 (cg hr) (V.cf_Grounds.re y) .(h) (bR 5) (gm (sI W (cg hr)) W V.z_dict jF (by and_intros))) (aG (by nofun) (aG (j6 0 (cg hr) (V.cf_Grounds.re y) (.tail _ .(h)) (bR 5) .(D)) (aG (j6 0 (cg hr) (V.cf_Grounds.re y) (.tail _ (.tail _ .(h))) (bR 5) .(D)) (aG (by nofun) (bx (j6 0 (cg hr) (V.cf_Grounds.re y) (.tail _ (.tail _ (.tail _ .(h)))) (bR 5) (dF (Qd W) W V.z_min zD (by and_intros)))))))))) (aG (nZ 0 (V.cf_Grounds.re y) (.tail _ (.tail _ (.tail _ (.tail _ .(h))))) (gm (sI W (cg hr)) W V.z_dict jF (by and_intros))) (bx (nZ 0 (V.cf_Grounds.re y) (.tail _ (.tail _ (.tail _ (.tail _ (.tail _ .(h)))))) (gm (Ex W (cg hr)) W V.z_dict jF (cw (DO.de (Ë ["one","other","gap"] (by left))) cE)))))))))))))
def zM:ð .(a) P w K mg base "Facts" "set_open" 2 1 p9:=
 Y4.calU (k:=0) V.O_Facts V.d52 Cb (bn λ_ _ _ _ _ _ _=>rfl) λf y Y0 A outer s H us hr=>
  let nd:=Cb.nd;let:=V.cf_Facts.re y;let:=V.cf_Grounds.re y;(bx (j6 0 (cg hr) (V.cf_Facts.re y) (.tail _ (.head _)) (bR 1) (zH 0 (DO.de (Oe W (Zd.of W W) (Ğ.of (N':=["bench","benches"]) (fv:=[B,U 2]) W) .(D) ⟨λ_ _ _ _ _=>#[(k0 0 (show(["bench","benches"]:Z ai).Nodup by decide +kernel)),(uf (by exfalso)),(bR 0)]⟩)))))
def ue:ð .(a) P w K mg base "Facts" "set_window" 3 1 oZ:=
 Y4.calU (k:=0) V.O_Facts V.d53 Da (bn λ_ _ _ _ _ _ _=>rfl) λf y Y0 A outer s H us hr=>
  let nd:=Da.nd;(aG (j6 0 (cg hr) (V.cf_Facts.re y) (.tail _ (.tail _ (.head _))) (bR 1) (bR 2)) (bx (j6 0 (cg hr) (V.cf_Facts.re y) .(h) (bR 1) (bR 3))))
def EN:.(u) "end_mark" 2 1 vV:=
 Y4.cl V.O_Facts V.d54 Sd (by split)
def RB:.(u) "open_lengths" 2 1 Ae:=
 Y4.cl V.O_Facts V.d55 Nt λnd f Y0 A outer s H us hr=>
  (aG (by nofun) (bx (cV (DO.de (Ë ["bench","lengths"] (by left))))))
def JZ:.(u) "least_of" 2 2 vR:=
 Y4.cl V.O_Facts V.d56 J6 λnd f Y0 A outer s H us hr=>
  let:=RB V;(bx (cV (OS W W V.z_min .(D))))
def F':Ê .(a) P w K mg base "Facts" 6 14 [.non,.non,.int 0,.int 0] nc/\Ê .(a) P w K mg base "Facts" 6 14 [] nc/\CalIK .(a) P w K mg base "Facts" "now" 6 14 [.non,.non,.int 0] nc:=
 É.cal3 (k:=13) 3 V.O_Facts V.d57 (λ_=>by repeat constructor) (λ_=>by repeat constructor) zj (λ_ _ _ _ _ _ _ E YY h1 h2=>by apply l34 _ h1 h2;exactλ_ _ _ _ _ _ _=>#[_,W,W]) (λ_ _ _ _ _ _ _ E YY h1 h2=>by apply l74 _ h1 h2;exactλ_ _ _ _ _ _ _ _ _ _ _=>#[_,W,W]) (λ_ _ _ _ _ _ _ E YY z h1 h2=>by apply l3K _ h1 h2;exactλ_ _ _ _ _ _ _=>#[_,W,W]) λf y Y0 A outer s H us hr=>
  let nd:=zj.nd;let:=((EN V).re y);let:=((JZ V).re y);let:=((jZ V).re y);let:=V.cf_Facts.re y;let:=V.cf_Grounds.re y;(aG (nZ 0 (V.cf_Facts.re y) (.head _) (NK ((Pm V).re y) hr .(b) W (by and_intros) ln4 W)) (aG (lM 0 (V.cf_Facts.re y) (.tail _ (.head _))) (aG (lM 0 (V.cf_Facts.re y) (.tail _ (.tail _ (.head _)))) (aG (lM 0 (V.cf_Facts.re y) .(h)) (aG (VG 0 (V.cf_Facts.re y) (.tail _ .(h))) (aG (lM 0 (V.cf_Facts.re y) (.tail _ (.tail _ .(h)))) (bx (c8 dv W (by left) (by right) (aG (fZ 8 zj.nd (zH 0 .(D))) (bx (cO (by exfalso) (aG (by nofun) (aG (jI 0 ((zM V).re y) hr .(b) (by and_intros) ln2) (bx (jI 0 ((ue V).re y) hr .(b) (by and_intros) ln3)))) (aG (jI 0 ((zM V).re y) hr .(b) (v8 0 (cw (bR 7) (cw (gm (yX W) W V.z_list oN (by and_intros)) cE))) (vI ln2)) (bx (jI 0 ((ue V).re y) hr .(b) (v8 0 (by and_intros)) (vI ln3)))))))))))))))
def Hf:ζ .(a) P w K mg base "_law_schedule" 2 2 oE:=
 V.d58.calOD (k:=1) Ac (bn λ_ _ _ _ _ _ _=>rfl) λf Y0 A outer s H us hr=>
  let nd:=Ac.nd;let:=gz V;(aG (ud 2 Ac.nd) (aG (by nofun) (aG (c8 dv W (by left) (by right) (aG (by nofun) (aG (iE 2 (cg hr) .(D) .(D)) .(n)))) (bx (BY 2)))))
def Vc:ζ .(a) P w K mg base "_law_kept" 3 2 pf:=
 V.d59.calOD (k:=1) vQ (bn λ_ _ _ _ _ _ _=>rfl) λf Y0 A outer s H us hr=>
  let nd:=vQ.nd;let:=gz V;(aG (ud 3 vQ.nd) (aG (c8 dv W (by left) (by right) (aG (yw .(D) (by right)) (aG (fZ 8 vQ.nd (uT (DO.de (yp (cw (uT (uT (bR 7) (R9 oJ)) oJ) (by and_intros)))) .(D))) (bx (iE 3 (cg hr) (bR 5) .(D)))))) (bx (BY 3))))
def BP:.(u) "last_of" 2 1 sd:=
 Y4.cl V.O_Facts V.d60 Vx (by split)
def CT:.(u) "first_of" 2 1 rY:=
 Y4.cl V.O_Facts V.d61 VT (by split)
def OF:ð .(a) P w K mg base "Facts" "put_note" 1 1 zT:=
 Y4.calU (k:=0) V.O_Facts V.d62 FB (bn λ_ _ _ _ _ _ _=>rfl) λf y Y0 A outer s H us hr=>
  let nd:=FB.nd;(bx (j6 0 (cg hr) (V.cf_Facts.re y) (.tail _ (.tail _ .(h))) (bR 1) yy))
def EO:ð .(a) P w K mg base "Facts" "put_order" 2 1 vT:=
 Y4.calU (k:=0) V.O_Facts V.d63 FV (bn λ_ _ _ _ _ _ _=>rfl) λf y Y0 A outer s H us hr=>
  let nd:=FV.nd;(bx (j6 0 (cg hr) (V.cf_Facts.re y) (.tail _ .(h)) .(D) yy))
def Up:CalU .(a) P w K mg base "_law_changed" "Facts" 3 2 zx:=
 Zm.calU (k:=1) V.d64 BW (bn λ_ _ _ _ _ _ _=>rfl) λf y Y0 A outer s H us hr=>
  let nd:=BW.nd;let:=((CT V).re y);let:=((BP V).re y);let:=((gz V).re y);(bx (c8 dv W (by left) (by right) (aG (by nofun) (aG (cO (by exfalso) (bx (jI 0 ((ue V).re y) hr .(b) (v8 0 (by and_intros)) (vI ln3))) cR) (aG (cO (by exfalso) (bx (jI 0 ((ue V).re y) hr .(b) (v8 0 (by and_intros)) (vI ln3))) cR) (aG (cO (by exfalso) (bx (jI 0 ((zM V).re y) hr .(b) (cw .(D) (cw (zE (DO.de (Ë ["_law_bench","_law_length"] (by left))) (uq .(D)) uF) cE)) ln2)) cR) (aG (cO (DW.dt (u6 (by exfalso) (u6 (by exfalso) (Ad (ny (Dd (cg hr)) .(D) (bR 2) (by rfl)))))) (bx (jI 0 ((OF V).re y) hr .(b) (by and_intros) Φ)) cR) (aG (cO (by exfalso) (bx (jI 0 ((EO V).re y) hr .(b) (by and_intros) ln2)) cR) (bx (cO (by exfalso) (bx (jI 0 ((EO V).re y) hr .(b) (by and_intros) ln2)) cR))))))))))
def Lo:.(d) "_law_others" 3 2 uo:=
 V.d65.cl p6 λnd f Y0 A outer s H us hr=>
  let:=gz V;(aG (by nofun) (aG (vo 4 p6.nd W W V.z_dict (bR 0)) (aG (Vu 4 (bR 3)) (aG (vo 5 p6.nd W W V.z_dict (bR 0)) (aG (iE 5 (cg hr) uj .(D)) (aG (vo 6 p6.nd W W V.z_dict (bR 0)) (aG (iE 6 (cg hr) (bR 3) .(D)) (aG (vo 7 p6.nd W W V.z_dict (bR 0)) (aG (iE 7 (cg hr) (bR 3) .(D)) (oY 6 (oY 5 (oY 4 (oY 7 .(n))))))))))))))
def QL:.(u) "is_in_window" 4 2 An:=
 Y4.cl V.O_Facts V.d66 P8 (have:=EN V;by split)
def Ri:.(u) "have_one_bench" 3 1 uW:=
 Y4.cl V.O_Facts V.d67 T6 (by split)
def EC:.(u) "shop" 1 1 tU:=
 Y4.cl V.O_Facts V.d68 Ss (by split)
def EI:(Í .(a) P w K mg base "Shop") "setup_of" 4 1 wj:=
 Y4.cl V.O_Shop V.d69 Sj λnd f Y0 A outer s H us hr=>
  (bx (cV (CB (cg hr) .(D) .(D) oJ)))
def B':(Í .(a) P w K mg base "Shop") "kind_of" 2 1 oh:=
 Y4.cl V.O_Shop V.d70 JV (by split)
def EY:.(u) "gap_of" 3 2 sH:=
 Y4.cl V.O_Facts V.d71 Cw λnd f Y0 A outer s H us hr=>
  let:=Ri V;let:=EC V;let:=B' V;let:=EI V;(aG (fZ 3 Cw.nd (CB (cg hr) .(D) .(D) oJ)) .(n))
def LM:.(u) "keeps_order" 4 3 vU:=
 Y4.cl V.O_Facts V.d72 VB (have:=EY V;by split)
def Jk:.(d) "broken_step" 2 2 yb:=
 V.d73.cl Tw λnd f Y0 A outer s H us hr=>
  let:=jZ V;(aG (by nofun) (aG (c8 dv W (by left) (by right) (bx (cO (ny (xx (cg hr)) (bR 3) (bR 1) (by rfl)) .(n) cR))) (aG (lH 4 nd ["name","names"] (ut (bR 1))) (aG (cO (by exfalso) (bx (cV (D7 (cw uj (cw (dF (RK W) W V.z_min zD (by and_intros)) cE))))) cR) .(n)))))
def GD:.(d) "length_on" 3 10 sD:=
 V.d74.cl Ta (have:=CG V;by split)
def VS:.(d) "broken_way" 2 11 xu:=
 V.d75.cl OY (have:=B9 V;let:=jZ V;let:=GD V;by split)
def KJ:.(d) "ends_of" 2 11 tV:=
 V.d76.cl EL λnd f Y0 A outer s H us hr=>
  let:=jZ V;let:=GD V;(aG (ud 2 EL.nd) (aG (c8 dv W (by left) (by right) (aG (by nofun) (bx (iE 2 (cg hr) (bR 3) .(D))))) (oY 2 .(n))))
def OL:.(d) "broken_job" 3 10 zo:=
 V.d77.cl LP (have:=Dq V;let:=jZ V;by split)
def Lf:(Í .(a) P w K mg base "Shop") "breaks_of" 2 9 zk:=
 Y4.cl V.O_Shop V.d78 QS (have:=i8 V;by split)
def Nn:.(d) "broken_break" 3 10 xR:=
 V.d79.cl NH λnd f Y0 A outer s H us hr=>
  let:=Lf V;let:=jZ V;(aG (c8 dv W (by left) (by right) (aG (by nofun) (aG (by nofun) (bx (cO (iH (dF (SV W) W V.z_any TX (cw (DO.de (Ë ["begin","until","start","ends","step"] (by left))) cE))) .(n) cR))))) .(n))
def Ru:.(d) "are_too_close" 5 2 zi:=
 V.d80.cl Kd (have:=B' V;let:=EI V;by split)
def RY:.(d) "broken_bench" 3 3 Ak:=
 V.d81.cl Mg (have:=jZ V;let:=Ru V;let:=Ab V;by split)
def Mv:.(d) "broken_apart" 3 10 xK:=
 V.d82.cl TM (have:=Ha V;let:=Ab V;by split)
def PF:.(d) "broken_link" 3 10 yI:=
 V.d83.cl Ry (have:=Ch V;by split)
def Rn:(Í .(a) P w K mg base "Shop") "stock_rows" 1 9 Ag:=
 Y4.cl V.O_Shop V.d84 Q2 (have:=i8 V;by split)
def R6:.(d) "level_at" 4 1 xW:=
 V.d85.cl y9 λnd f Y0 A outer s H us hr=>
  (aG (fZ 4 y9.nd (dF (Do W) W V.z_sum Cq (cw (DO.de (Ë ["step","amount","moment","schedule"] (by left))) cE))) (aG (fZ 5 y9.nd (dF (Do W) W V.z_sum Cq (cw (DO.de (Ë ["step","amount","moment","ends"] (by left))) cE))) .(n)))
def IX:.(d) "broken_stock" 3 10 yv:=
 V.d86.cl Gy λnd f Y0 A outer s H us hr=>
  let:=Rn V;let:=R6 V;(aG (c8 dv W (by left) (by right) (aG (Uq 4 Gy.nd W (Zd.of W W) (Ğ.of (N':=["row","schedule"]) (fv:=[B,U 1]) W) (by left) ⟨λ_ _ _ _ _=>#[(k0 0 (show(["row","schedule"]:Z ai).Nodup by decide +kernel)),lR,.(D)]⟩) (aG (uy 4 (DO.de (Ë ["row","ends"] (by left)))) (uv 4 (bx (c8 dv W (mD (Ln W W V.z_sorted W V.z_set (bR 4))) (by right) .(n))))))) .(n))
def Dp:.(d) "first_broken" 2 12 mZ:=
 V.d87.cl L7 (have:=Mv V;let:=RY V;let:=Nn V;let:=OL V;let:=PF V;let:=Jk V;let:=IX V;let:=VS V;let:=KJ V;by split)
def yd:.(u) "has_kept" 1 1 jz:=
 Y4.cl V.O_Facts V.d88 RJ (by split)
def Jh:.(u) "kept_names" 1 2 se:=
 Y4.cl V.O_Facts V.d89 NU λnd f Y0 A outer s H us hr=>
  let:=yd V;(bx (cV (t7 (by exfalso) (dF (R' W) W V.z_sorted TH (by and_intros)) .(D))))
def Tj:.(u) "kept_place" 2 2 oe:=
 Y4.cl V.O_Facts V.d90 ON λnd f Y0 A outer s H us hr=>
  let:=yd V;(bx (cV (t7 (by exfalso) (BH (cg hr) .(D) (bR 1)) yn)))
def Kl:.(u) "most_moved" 1 1 uN:=
 Y4.cl V.O_Facts V.d91 KR (by split)
def MG:.(u) "keeps_enough" 2 3 oV:=
 Y4.cl V.O_Facts V.d92 Ov λnd f Y0 A outer s H us hr=>
  let:=yd V;let:=Jh V;let:=Tj V;let:=Kl V;(aG (lH 2 nd ["step","schedule","self"] (by left)) (aG (by nofun) (bx (cV (dF (gu W) W V.z_all gx (cw (DO.de (Ë ["step","schedule","self"] (ut .(D)))) cE))))))
def Qk:.(u) "goes" 2 13 we:=
 Y4.cl V.O_Facts V.d93 LV λnd f Y0 A outer s H us hr=>
  let:=QL V;let:=MG V;let:=LM V;let:=EC V;let:=Dp V;(aG (c8 dv W (ut .(D)) (by right) (bx (cO (DW.dt (hZ (ny (xx (cg hr)) (bR 2) (bR 1) (by rfl)) (by symm))) .(n) cR))) (aG (cO (iY (iH (dF (gu W) W V.z_all gx (cw (DO.de (Ë ["one","other","schedule","self"] (Aa .(D)))) cE)))) .(n) cR) .(n)))
def SC:.(u) "open_to" 2 1 vA:=
 Y4.cl V.O_Facts V.d94 Sn λnd f Y0 A outer s H us hr=>
  (bx (cV (gm Va W V.z_list oN (by and_intros))))
def O4:.(d) "_law_job" 2 1 z6:=
 V.d95.cl VE (by split)
def LL:.(d) "_law_mark" 3 2 vG:=
 V.d96.cl Tu (have:=O4 V;by split)
def Ql:.(u) "orders" 1 1 xD:=
 Y4.cl V.O_Facts V.d97 Qq λnd f Y0 A outer s H us hr=>
  (bx (cV (gm (SM W) W V.z_list oN (by and_intros))))
def Ul:.(u) "noted" 1 1 uk:=
 Y4.cl V.O_Facts V.d98 Uj λnd f Y0 A outer s H us hr=>
  (bx (cV (gm (yX W) W V.z_list oN (by and_intros))))
def Uy:.(d) "_law_due" 4 13 wd:=
 V.d99.cl xL λnd f Y0 A outer s H us hr=>
  let:=CT V;let:=EY V;let:=BP V;let:=Ul V;let:=SC V;let:=Ql V;let:=LL V;let:=Dp V;(aG (yw (bR 2) (Ng (n:=4) W (j9 (by right) (j9 (by right) (j9 (by right) (j9 (by right) yk)))))) (aG (by nofun) (aG (ud 8 xL.nd) (aG (c8 dv W (by left) (by right) (aG (yw .(D) (by right)) (aG (iE 8 (cg hr) (bR 9) (zg (bR 13) (Ec (cg hr) (gm (sI W (cg hr)) W V.z_dict jF (by and_intros)) (bR 12)))) (aG (by nofun) (bx (cO (E7 8 (by exfalso)) .(n) cR)))))) (aG (c8 dv W (by left) (by right) (bx (cO (E7 8 (by exfalso)) .(n) cR))) (aG (by nofun) (aG (fZ 16 xL.nd (DO.de (Ë ["_law_name","_law_schedule_here","_law_kept_here"] (ut (bR 6))))) (bx (cV (tX .(D) (yH (zP (Al (rF hr)) (DO.de (Ë ["_law_name","_law_moved"] (by left))) .(D) (rS _)))))))))))))
def Tt  (f:av)(Y0:aw)(A:cH)(outer:Z cA)(s:aH)(H:Hp)(us:XK)(hr:ZH 15 (A.deeper (dc "law" (aD (YV 92)) s.heap.objs.size f Y0))):Ø .(a) (dy ø P w K mg base ["_law_script","_law_lists_here","_law_shop_here","_law_cell","_law_limit","_law_kept_here","_law_most","_law_facts","_law_first","_law_name","_law_some","_law_schedule_here","_law_handed","_law_found","_law_due_here"] "law" (aD (YV 92)) f Y0 A outer s H us).nox (bZ (YV 92)) F2:=
  let nd:=jp.nd;let:=Qk V;let:=y7 V;let:=gz V;let:=Uy V;let:=RI V;let:=M' V;let:=Lo V;let:=UY V;(aG (by nofun) (aG (cO (by exfalso) (bx (fZ 1 jp.nd (tY .(D) .(D)))) cR) (aG (by nofun) (aG (by nofun) (aG (by nofun) (aG (by nofun) (aG (by nofun) (aG (GY 7 jp.nd (F' V).1 hr .(b) W (by and_intros) ln2 W) (aG (fZ 8 jp.nd (o8 ((Hf V)).calZ hr .(b) W (by and_intros) ln2)) (aG (cO (by exfalso) (aG (OE 5 jp.nd (Vc V) hr .(b) W (by and_intros) ln3) (aG (c8 dv W (mD (R1 5 (zE (gm (yX W) W V.z_list oN (by and_intros)) uF (uq .(D))))) (by right) (bx (iE 5 (cg hr) (bR 9) .(D)))) (oY 5 (bx (GY 7 jp.nd (F' V).2.1 hr .(b) W (by and_intros) ln6 W))))) cR) (aG (UB 7 (Up V) hr .(b) W (by and_intros) ln3) (aG (fZ 10 jp.nd (zg .(D) (DO.de (Ë ["_law_one","_law_lists_here"] (by left) λnd=>⟨λ_ _ _ _ _=>#[(by right),lR,(o8 ((Hf V)).calZ hr .(b) rfl (by and_intros) ln2)]⟩)))) (aG (c8 dv W (by left) (by right) (aG (fZ 12 jp.nd (gm (JR W) W V.z_dict jF (by and_intros))) (aG (fZ 13 jp.nd (U9 7 .(D))) (aG (fZ 14 jp.nd (zH 7 .(D))) (bx (cO (DW.dt (hZ (by exfalso) (hZ (by exfalso) (je (ny (Oo (cg hr)) (bR 12) (bR 11) (rS _)))))) .(n) cR)))))) .(n))))))))))))))
end
def yJ(K:aT):Sp:=λvs H Q _=>∃(a:av)(ns:Z aj),vs=[.ref a]/\ñ K H a (ns.map V.int)/\ns.length<=63/\∀H',Q (.bl ah) H'
def all_mk{l:HS}{h:Heap}{fa:av}(X:K.In h)(G:h.Ns fK mg)(hfa:mg "law"=U (.ref fa))
  (ě:tu K fK "Facts"=U (U (.ref C_Facts)))
  (ë:tu K fK "Grounds"=U (U (.ref C_Grounds)))
  (Ŋ:tu K fK "Shop"=U (U (.ref C_Shop)))
  (Ĉ:pq K C_Facts jV=ah)(Ę:sO K C_Facts=ah)(ć:ww K C_Facts=ah)(Ć:cv K (.ref C_Facts) "__setattr__"=U (U (.builtin "object.__setattr__")))(Đ:sP K C_Facts=ah)(đ:fS K (.ref C_Facts)=ah)
  (ď:cv K (.ref C_Facts) "grounds"=U B)
  (č:cv K (.ref C_Facts) "open_benches"=U B)
  (Č:cv K (.ref C_Facts) "firsts"=U B)
  (ċ:cv K (.ref C_Facts) "lasts"=U B)
  (Ċ:cv K (.ref C_Facts) "put_pairs"=U B)
  (ĉ:cv K (.ref C_Facts) "notes"=U B)
  (Û:pq K C_Grounds jV=ah)(é:sO K C_Grounds=ah)(Ú:ww K C_Grounds=ah)(Ù:cv K (.ref C_Grounds) "__setattr__"=U (U (.builtin "object.__setattr__")))(å:sP K C_Grounds=ah)(ç:fS K (.ref C_Grounds)=ah)
  (ä:cv K (.ref C_Grounds) "told_shop"=U B)
  (ã:cv K (.ref C_Grounds) "kept_plan"=U B)
  (â:cv K (.ref C_Grounds) "kept_most"=U B)
  (á:cv K (.ref C_Grounds) "lengths"=U B)
  (à:cv K (.ref C_Grounds) "job_names"=U B)
  (ß:cv K (.ref C_Grounds) "early_moments"=U B)
  (Þ:cv K (.ref C_Grounds) "end_marks"=U B)
  (Ý:cv K (.ref C_Grounds) "breaks"=U B)
  (Ü:cv K (.ref C_Grounds) "known_gaps"=U B)
  (Ĵ:pq K C_Shop jV=ah)(ň:sO K C_Shop=ah)(ĳ:ww K C_Shop=ah)(Ĳ:cv K (.ref C_Shop) "__setattr__"=U (U (.builtin "object.__setattr__")))(Ł:sP K C_Shop=ah)(ł:fS K (.ref C_Shop)=ah)
  (Ŀ:cv K (.ref C_Shop) "benches"=U B)
  (ľ:cv K (.ref C_Shop) "steps"=U B)
  (Ľ:cv K (.ref C_Shop) "jobs"=U B)
  (ļ:cv K (.ref C_Shop) "setups"=U B)
  (Ļ:cv K (.ref C_Shop) "links"=U B)
  (ĺ:cv K (.ref C_Shop) "stocks"=U B)
  (Ĺ:cv K (.ref C_Shop) "horizon"=U B)
  (ĸ:cv K (.ref C_Shop) "bench_by_name"=U B)
  (ķ:cv K (.ref C_Shop) "step_by_name"=U B)
  (Ķ:cv K (.ref C_Shop) "setup_by_names"=U B)
  (Ď:cv K (.ref C_Shop) "job_by_step"=U B)
  (a100:tu K fK "law"=U (U (.ref f100)))(l100:K.lookup f100=U #[oc100,od100,.func (cZ "law" "law" (c7 (YV 92)) (bZ (YV 92)) (aD (YV 92)) .none kV100 dc100 pm100 an100 cd100 ct100),sl100])(c100:nI K cd100 "law"=ah)(k100:fS K (.ref f100)=ah)
  (V:Vd K mg C_Facts C_Grounds C_Shop)
 : ∃fd:kN,(∀(s:aH)(v:aw),px s fd #[[v],[]] [("_law_script",v)])/\∀base:Heap,K.In base->base.Ns fK mg->Zt l.prog w K mg base ø 16 fa fd ["_law_script"] (yJ K):=by
 let e:=hfa.symm.trans (tw X G a100);let e2:=Value.ref.inj (qI e);subst e2;let O_Facts:Zy .(a) K mg "Facts" C_Facts:=#[by unfold Gam;rfl,#[Ĉ,Ę,ć,Ć],tw X G ě,Đ,đ];let cf_Facts:CF .(a) K "Facts" g9:=O_Facts.cf (dO.mpr #[ď,(dO.mpr #[č,(dO.mpr #[Č,(dO.mpr #[ċ,(dO.mpr #[Ċ,(dO.mpr #[ĉ,(IR _)])])])])])]);let O_Grounds:Zy .(a) K mg "Grounds" C_Grounds:=#[by unfold Gam;rfl,#[Û,é,Ú,Ù],tw X G ë,å,ç];let cf_Grounds:CF .(a) K "Grounds" xU:=O_Grounds.cf (dO.mpr #[ä,(dO.mpr #[ã,(dO.mpr #[â,(dO.mpr #[á,(dO.mpr #[à,(dO.mpr #[ß,(dO.mpr #[Þ,(dO.mpr #[Ý,(dO.mpr #[Ü,(IR _)])])])])])])])])]);let O_Shop:Zy .(a) K mg "Shop" C_Shop:=#[by unfold Gam;rfl,#[Ĵ,ň,ĳ,Ĳ],tw X G Ŋ,Ł,ł];let cf_Shop:CF .(a) K "Shop" BL:=O_Shop.cf (dO.mpr #[Ŀ,(dO.mpr #[ľ,(dO.mpr #[Ľ,(dO.mpr #[ļ,(dO.mpr #[Ļ,(dO.mpr #[ĺ,(dO.mpr #[Ĺ,(dO.mpr #[ĸ,(dO.mpr #[ķ,(dO.mpr #[Ķ,(dO.mpr #[Ď,(IR _)])])])])])])])])])])]);let V:Vw K mg C_Facts C_Grounds C_Shop:={V with O_Facts,cf_Facts,O_Grounds,cf_Grounds,O_Shop,cf_Shop};show#[cZ "law" "law" (c7 (YV 92)) (bZ (YV 92)) (aD (YV 92)) .none kV100 dc100 pm100 an100 cd100 ct100,λs v=>.of_eq W,λbase _ _=>?_];let FL:=z7 (st:=YV 92) l100 c100 k100;let ok:Zt l.prog w K mg base ø 16 fa _ ["_law_script"] (spF .(a) K 1 Ci):=FL.okD (k:=15) jp (Tt V fa);show ok.imp λvs H Q us hq=>?_;let⟨a,ns,rfl,hS,Y5,k⟩:=hq;show#[H,[.scr ns],.bl ah,aY.refl H,.cons (.scr hS) .nil,W,U8 ns Y5,λv G' H' _ r=>by rw[r.bl_inv];show k H']
def walk{l:HS}{d:DefRec}{K:A4->aT}(hn:l.most=U 63)(hdf:d.params.defaults=[])
  (hY:∀(w:cD)(h:Heap),YP w h->(K w.params).In h)
  (F:∀(w:cD)(mg:ai->au aw)(fa:av)(h:Heap),(K w.params).In h->h.Ns fK mg->mg d.name=U (.ref fa)->
   ∃fd:kN,(∀(s:aH)(u:aw),px s fd #[[u],[]] [("_law_script",u)])/\∀base:Heap,(K w.params).In base->base.Ns fK mg->Zt l.prog w (K w.params) mg base ø 16 fa fd ["_law_script"] (yJ (K w.params))):
  WA q Ž XP YP l.row.toRowW d [] (λf vs=>HR f vs):=
 L2.walk_of (n:=63) (k:=16) (x:="_law_script") (CX:=λ_=>ø) (sp:=λw=>yJ (K w.params)) hn .(b) hdf #[W,by decide,by decide] hY F (λ_ _ a ns hl _ hS=>#[a,ns,W,hS,hl,λ_=>rfl]) λ_ _ _ _ _ z=>z
end Law
end L2
noncomputable def Zq:=()
end
open PySem PySem.W PyProof.Rows L2
set_option maxRecDepth 100000 in
set_option maxHeartbeats 0 in
theorem PySem.Challenge.cw_shopbound_k34_goes_holds : PySem.Challenge.rw_shopbound_k34_goes.Holds := by
 w_on;o_law;k_head;(case hw=>w_witness2)
 k_fill
 refine Law.walk (l:=YI) rfl rfl (λw h Y=>PySem.W.kIn_of Y) ?F
 case F=>
  intro w mg fa h KX G hmg
  refine' Law.all_mk KX G hmg ?ě ?ë ?Ŋ ?Ĉ ?Ę ?ć ?Ć ?Đ ?đ ?ď ?č ?Č ?ċ ?Ċ ?ĉ ?Û ?é ?Ú ?Ù ?å ?ç ?ä ?ã ?â ?á ?à ?ß ?Þ ?Ý ?Ü ?Ĵ ?ň ?ĳ ?Ĳ ?Ł ?ł ?Ŀ ?ľ ?Ľ ?ļ ?Ļ ?ĺ ?Ĺ ?ĸ ?ķ ?Ķ ?Ď ?a100 ?l100 ?c100 ?k100 ?V
  (case ě=>k_is)
  (case ë=>k_is)
  (case Ŋ=>k_is)
  (case Ĉ=>k_is)
  (case Ę=>k_is)
  (case ć=>k_is)
  (case Ć=>k_is)
  (case Đ=>k_is)
  (case đ=>k_is)
  (case ď=>k_is)
  (case č=>k_is)
  (case Č=>k_is)
  (case ċ=>k_is)
  (case Ċ=>k_is)
  (case ĉ=>k_is)
  (case Û=>k_is)
  (case é=>k_is)
  (case Ú=>k_is)
  (case Ù=>k_is)
  (case å=>k_is)
  (case ç=>k_is)
  (case ä=>k_is)
  (case ã=>k_is)
  (case â=>k_is)
  (case á=>k_is)
  (case à=>k_is)
  (case ß=>k_is)
  (case Þ=>k_is)
  (case Ý=>k_is)
  (case Ü=>k_is)
  (case Ĵ=>k_is)
  (case ň=>k_is)
  (case ĳ=>k_is)
  (case Ĳ=>k_is)
  (case Ł=>k_is)
  (case ł=>k_is)
  (case Ŀ=>k_is)
  (case ľ=>k_is)
  (case Ľ=>k_is)
  (case ļ=>k_is)
  (case Ļ=>k_is)
  (case ĺ=>k_is)
  (case Ĺ=>k_is)
  (case ĸ=>k_is)
  (case ķ=>k_is)
  (case Ķ=>k_is)
  (case Ď=>k_is)
  (case a100=>k_is)
  (case l100=>k_is)
  (case c100=>k_is)
  (case k100=>k_is)
  (case V=>constructor;(case d57=>refine' É.mk' ?xa ?xi ?xl ?xc ?xk ?xt ?xd ?xv;(case xa=>k_is);(case xi=>k_is);(case xl=>k_is);(case xc=>k_is);(case xk=>k_is);(case xt=>k_is);(case xd=>rfl);(case xv=>exact .cons rfl (.cons rfl (.cons #[_,rfl] (.cons #[_,rfl] .nil)))));all_goals first|(refine' Zm.mk' KX G ?a ?l ?c ?k;(case a=>k_is);(case l=>k_is);(case c=>k_is);(case k=>k_is))|(refine' Y4.mk' ?a ?i ?l ?c ?k;(case a=>k_is);(case i=>k_is);(case l=>k_is);(case c=>k_is);(case k=>k_is))|(refine' PySem.W.mg_none_of KX G ?a;(case a=>k_is))|(refine' Law.tkI_of KX G ?a;(case a=>k_is)))
end
end
end
