import PyProof.Rows.All
import Wide.All
import OpenK.KSplit
import OpenK.KNot
import OpenK.KApp
import Wide.FinOn
import Lean
import PyProof.EqAt
import PyProof.EqKinds
import PyProof.TupleCall
import PySem.SetOps
import KE.KDictOf
import PyProof.AttrMiss
import PyProof.IsiH_list
import PyProof.WalkInts
import KE.KMinBuiltin
import PyProof.Rows.CallKwBuiltin
import KE.KEqDict
import KE.KItemsList
import KE.KDictSum
import KE.KRevSl
import PyProof.Rows.SortStr
import PyProof.Rows.SortWalk
import PyProof.DictWalks
import KE.KTryMore
import PyProof.NsDelKeeps
import PyProof.ExcAttrAll.ValueError
import PyProof.StrReplace2
import PyProof.ReprStr
import PyProof.Rows.RuleU_int
import PyProof.InstStoreFacts
import PyProof.ExcInit
import KE.KDictList
import PyProof.MaxThree
import KE.KRevIter
import PyProof.Rows.SortShell
import PyProof.MinMaxWalk
import PyProof.PureStr
import PyProof.Rows.SumAny
import PyProof.ZipIter
import PySem.Challenge.RW_shopbound_k36_whole_all_schedules
set_option Elab.async false
set_option linter.all false
set_option maxRecDepth 100000
local macro_rules|`(universe zz)=>do
 let mut r:=#[]
 let mut l:Array Lean.Name:=#[`PySem.Challenge.pw_shopbound_k36_whole_all_schedules]
 for (k,v) in [("heap",#[1157,39]),("tree",#[1156,1102,938,1023,823,748,682,634,444,616,530,194,171,93]),("view",#[39]),("sts",#[195,1027,749,94,1103,49,683,824,172,635,620])] do for i in v do l:=l.push (.str `PySem.Challenge.cw_shopbound_k36_whole_all_schedules_holds s!"{k}_{i}")
 for i in [:1157] do if Nat.testBit 0x14e9d39c3a70e0f0a739d39d3a70e74e08c38739c3870e1c3870e0403e9c3870e1ce70e1c3870e1c3811e739c39c39c39c394a3c39439c39c3870e0f0e1ce06e0128c1119ce9d3870e1c3870e70e0f0e1c3870e1c3870e1d0100f870e70e73a70e9c38739d3a70e1c3870e1ce1c3870e1c3870e1c3870e808f4e9d1e73a74e9d39d3a73a7441f0273a7202000000000000 i then l:=l.push (.str `PySem.Challenge.cw_shopbound_k36_whole_all_schedules_holds s!"o_{i}")
 for x in l do r:=r.push (← `(noncomputable def $(Lean.mkIdent (.str `PySem.W.Fast s!"tw{x.hash}")) :=Unit.unit))
 return Lean.mkNullNode r
universe zz
open Option renaming some->U,none->B,map->ny,isSome_iff_exists->rY,isSome_map->zO,getD_none->Vc,join_some->VM,getD_some->VN
open _root_ renaming List->Z,Int->ah,Nat->ag,Option->au,Bool->aJ,absurd->bj,Array->bI,congrArg->bM,if_true->cx,String->cD,if_false->cE,DecidableEq->dJ,of_decide_eq_true->eq,decide_eq_true_eq->gw,beq_iff_eq->ko,beq_eq_false_iff_ne->lF,Unit->m8,not_or->sF,of_decide_eq_false->vW,and_self->v9,decide_eq_false_iff_not->Al,instBEqOfDecidableEq->V5,decide_eq_decide->WT
open Bool renaming true->ai,false->ar,and_eq_true->cW,not_true->ic,not_false->lR,eq_iff_iff->m9,true_and->vZ,false_or->zN,not_eq_false'->Ax,and_false->GO,or_eq_true->GX,eq_false_iff->G9,and_eq_true_iff->Hg,not_eq_true'->Ho,and_true->V4,and_eq_false_iff->WU,or_eq_false_iff->WV
open PySem renaming Str->aj,Addr->av,Value->aw,Shared->aH,sizeLine->aK,wpAny->aL,starEach->aM,model->aN,tupleKeyHash->bJ,backTo->bW,cLine->cq,argBest->cr,World->cA,Env->cB,Around->cJ,Pos->di,Program->dy,bootBuiltins->dz,swapsWith->dA,compareOp->dB,sizeLine_eq->eM,intKind->eW,bindArgs->eX,mainGlobals->fu,codeAny->fz,binaryOp->gL,attributeBase->gN,pyNext->hU,NameKind->hV,SetTable->hZ,codeAny_builtin->ia,plainId_quiet->ib,wpAny_mono->iw,Keyword->iy,wpAny_newObj_type->iA,sysModules->i7,wpAny_truthy_bool->jB,assignEach->jC,rawInt->jD,backToKw->jH,keywordEach->jI,wpAny_seqItems->jK,wpAny_tryCatch->jL,holding->ki,pyIter->kj,foldedSetIterable->km,FuncData->ku,Walks->kz,wpAny_setState_of->kD,argsOk->kI,tupleKind->lH,Result->lJ,wpAny_call_entry->lL,mem_of_lookup->ni,IsPart->nq,getItem->nr,atKey->nu,wpAny_pyIter_list->nz,wpAny_of_eq->nB,wpAny_letGo->nD,seqItems?->nF,standAt->oQ,getMethod->oU,BindsTo->oV,bindL->oW,bindC->oX,sliceBounds->oY,callerA->o4,CmpOf->ph,GenState->rO,assign->rP,behindInMarks->rR,codeAny_mono->rV,wpAny_Call_Name_kw->rW,wpAny_typeOf->rZ,valueAt->se,tupleKind_room_in1->si,typeLookup_type->sG,builtinLookup_eq_fast->sH,wpAny_updateSeq->sI,pickOrder->sK,Model->vB,wpAny_passesOwn->vE,callWith->vG,typeLookup->vI,typeIs_str->vK,call_meetsIn->vM,DictEntry->vN,Slot->vR,wpAny_askSetting->vY,wpAny_attempt->v5,wpAny_isInstance->v6,wpAny_setField->v7,letOwnedTupleGo->zy,lastMarks->zz,wpAny_call->zD,pick_run->zG,wpAny_callSpecial?_slot->zH,subscripted->zJ,call_meets->zM,Params->zQ,relabel->zS,PyData->zV,wpAny_storeSet_of->Ac,entryFor->Ae,wpAny_rule->Af,updateSeq->Ai,isSubtype_type->Ap,wpAny_ite_split->Aq,Within->Gm,builtinsNs->Gn,wpAny_Name->Gp,wpAny_execs_nil->Gs,cellsFrom->GD,wpAny_field->GF,slot_list_getitem->GJ,typeIs_int->GK,wpAny_specialOf->GP,call->GR,compEnvC->GU,wpAny_forIn_list->Hc,ofAClassStatement->Hd,setSearchFrom->He,wpAny_throw->Hf,wpAny_pyIter_slot->Hh,wpAny_typeNameOfWhole_keyiter->Hj,wpAny_fieldsOf->Hl,intKind_is->Ht,signature?_of->Hu,wpAny_setEntries_of->Hv,wpAny_execs_cons->UX,wpAny_assign_Name->UY,noFill_tuple_add->U6,sliceRange_one->Ve,wpAny_getItem_list_slice->Vf,wpAny_Dict_empty->Vm,wpAny_Call_method->Vp,wpAny_comprehension_free->Vu,wpAny_pyIter_enum->Vv,codeAny_of_tree->VW,codeAny_call_builtin->VY,hashByValue_scannable->V0,carriedByValue->V1,wpAny_eqIsQuiet_tuple->V2,entryFor_of_tree->V6,wpAny_notOrdered_dict->V7,wpAny_dictEntries->Wb,wpAny_dictEpoch->Wc,wpAny_isOneOf_keyiter->We,firstArgMember->Wf,isSubtype_stop->Wg,wpAny_pyIter_keyiter->Wr,wpAny_pyIter_dict->Wu,wpAny_pyIter_revIter->Ww,entryFor_alias->WA
open PySem.W renaming Frag->aS,findIn->cj,fnOf->cX,keepIn->gr,kia_one->kr,instObj->m5,emptyDict->nc,codeIn->nj,plainGet->oR,isFn->oT,hasDictIn->rS,makesIn->rT,nsIn->sx,mg_of->sy,plainOver->vF,lookIn->zA,plainGet_of->Gw,takerIn->Gx,callWith_K->GB,OpenLaw->GS,handedIn->UZ,kitOne->U0,kitx_list->U1,kitx_dict->U2,methodCall_KW->U4,cellsFrom_some->U5,WalkO->Vt,kdu_collect->Wk,kdl_dict->Wl
open Pure renaming pure->bc
open List renaming mem_map->bo,mem_singleton->bL,replicate->bQ,mem_cons->cg,range->cw,length->cC,lookup->cS,mem_append->c8,forall_mem_cons->dn,nodup_cons->dD,getElem?_eq_some_iff->dM,map_append->dN,take_length->eN,mem_range->eV,find?_cons->eY,foldl_cons->fO,all_eq_true->iu,length_drop->iz,map_congr_left->iC,take_succ->i8,append_nil->jG,any_cons->ky,getD_eq_getElem?_getD->kJ,take_sublist->lK,replicate_succ->lM,nodup_nil->lN,take_of_length_le->lO,getElem_mem->lP,mem_append_left->m6,length_singleton->nt,nodup_append->nE,set_cons_zero->nI,getElem?_set_self->oP,flatten_cons->oZ,append_assoc->o0,lookup_cons->o5,any_eq_true->o6,mem_of_mem_take->pc,all_map->pk,mem_filter->rM,mem_filterMap->rQ,drop_zero->sq,getD->sr,drop_eq_getElem_cons->su,drop_length->sv,take_append_drop->sA,take->sC,filter_cons->sL,flatMap_cons->sO,map_take->sP,getElem?_replicate->vH,getElem?_eq_none->vO,length_eq_zero_iff->vQ,mem_iff_getElem->vT,mem_iff_getElem?->vU,pairwise_map->vX,take_add_one->wb,filterMap_cons->zw,getElem?_take_of_lt->zE,reverse_cons->zL,length_mapIdx->zU,nodup_range->zZ,find?_eq_none->z6,foldl_append->Aa,length_tail->Aj,mergeSort_perm->Am,findIdx?->Ao,length_pos_iff->Ar,drop_of_length_le->Av,range'->Aw,getElem_inj->Go,any_eq_false->Gu,of_mem_zip->GC,foldl->GM,pairwise_iff_getElem->G6,length_reverse->Hr,getElem?_reverse->Hs,map_inj_right->Hw,set_cons_succ->Hx,getElem?_of_mem->Hy,flatMap_append->Hz,mem_flatMap->HA,range'_succ->HB,map_eq_nil_iff->HC,flatMap_nil->HD,forall_mem_nil->HE,ext_getElem?->Vx,getElem?_mapIdx->Vy,getElem?_drop->VF,mem_of_mem_drop->VG,mem_of_find?_eq_some->VH,find?_some->VI,nodup_iff_pairwise_ne->VL,filterMap_cons_some->VP,pairwise_lt_range->VQ,pairwise_mergeSort->Wi,all_cons->Ws,perm_middle->Wy,ext_getElem->WG,map_id'->WI,getElem_range->WK,map_id->WM,find?_append->WN,map_drop->WO,range_eq_range'->WP,map_reverse->WR,any_map->WS,mem_reverse->WW
open PySem.SetTable renaming below->bX,insertAt->ci,runEnd->cV,bits->fM,leap->i4,sizeAbove->kC,fresh->kF,tooFull->lS,turns->nA,fits->o9,grown->sD,has->zY,Probe->z5,fill->G7,slot->VD,layClean->VO,relaid->VR,laid->VS,orStandIn->Wx
open Sum renaming inr->bZ,inl->oO
open PySem.Value renaming ref->cI,int->dh,bool->lG,type->rL,isInt->zv,none->Gk,isStrOf->US,str->UT,isStrOf_shape->UU
open Ne renaming symm->cL
open PySem.PassesOwn renaming never->cT
open PyProof.Rows renaming envOfC->dj,IntsAre->kx,AllBare->lI,IsTup->vA,callWith_type1->vD,StrsAre->vS,Subscript_->zI,seqObj->An,Constant_none->Gq,UnaryOp_->Gr,slot_tuple_getitem->GG,tail_any->GH,slicePart_none->U',subscriptTail_builtinR->Vb,slot_list_sort->Wm,entry_list_sort->Wn,args_list_sort->Wo,sortedHeap_old->Wq,callWith_builtin1->Xp,boot_enumerate->Xu,neg_int->XB
open List.cons renaming inj->eZ
open Int renaming toNat_natCast->e6,le_refl->kK,eq_ofNat_of_zero_le->pj,zero_add->As,le_trans->Wv
open Array renaming length_toList->fy,getElem?_eq_some_iff->gu,getD_eq_getD_getElem?->zX,mem_toList_iff->Gv,toArray_toList->Hq,toList->UW,getElem_toList->VC,replicate->VJ,filterMap->VT,forIn_toList->VZ,getElem?_eq_getElem->WE
open Nat renaming lt_irrefl->fN,zero_le->gM,lt_or_ge->kA,lt_succ_of_lt->lQ,zero_add->lW,lt_succ_self->ng,le_succ->nh,succ_mul->o3,le_of_lt->rN,lt_trans->sg,succ_pos->vy,mod_lt->vz,not_lt_zero->vV,le_add_right->zu,ne_of_gt->zx,le_of_eq->zB,mul_le_mul->zT,min_def->Au,add_assoc->Gi,lt_succ_iff->Gj,not_lt->GV,pow_succ->UR,mul_comm->Vk,lt_trichotomy->VB,min_eq_left->VE,sub_zero->WL
open PySem.SeqAt renaming shaped->fP
open PySem.Heap renaming SameBut->g9,size_push->jF,get?_update_self->nC,dictOf_iff->Ag,ExtBut->Wd
open False renaming elim->ix
open PySem.Around renaming under_plainId->iB,under->Gy
open Sum.inr renaming inj->i6
open ToString renaming toString->i9
open PySem.PyData renaming str->ja,eqv->jJ,eqvAll->nJ,canLayAll0->o8,canLay0->sM,depth->sN,depthAll->wc,int->VA,strOk->WH
open PySem.Str renaming empty->jE,ofString->pf,length->sd
open True renaming intro->kq
open MonadExcept renaming tryCatch->kH
open PySem.Heap.SameBut renaming update->lU,refl->GW
open PySem.F renaming plain_max_loop->lV,plain_min_loop->lX,slot_dict_get->sj,called_set->sE,entry_dict_get->zP,slot_list_getattribute->Ad,entry_max_loop->Ah,entry_min_loop->Ak,plainAttrs_dict->GQ,slot_dict_keyiterator_next->Hi,slot_tuple_add->U7,entry_tuple_add->U8,args_tuple_add_2->U9,slot_list_append->Vh,slot_list_extend->Vi,slot_int_rmul->Vj,args_dict_get_2->Vn,args_dict_get_3->Vo,type_dict_get->Vq,plainAttrs_list->Vz,plain_set_new->VX,slot_dict_iter->V',slot_dict_values->WF
open PySem.NameKind renaming free->nv,cell->zR
open PySem.Obj renaming data_mapFields->nG,mapFields->sJ,putSet->Ab,isFreed_of_fields->Hm,cls_mapFields->Hn,mapSeq->Vg
open PySem.Walks renaming list->o7,dictKeys->Wt
open List.Sublist renaming nodup->pi,refl->WQ,cons->XF,cons₂->XG
open ForInStep renaming yield->sk
open PySem.SetTable.layClean renaming free->sB
open Option.some renaming injEq->v8,inj->W0
open List.Pairwise renaming map->wa,imp_of_mem->Ha,nil->Vs,filterMap->Xw
open PySem.Calls renaming spliced_cons->zC,callWith_builtin->zK,spliced_nil->GA,evalArgs_plain->GL,Name_function_global->UV,call_function_entry->Wj
open PySem.Builtin.Slice renaming slicePlaces->zF,sliceAdjust->GE,slicePartIndex->Xq,sliceApplied->Xr
open PySem.SetTable.below renaming go->zW
open PySem.Shared renaming TypeIs->z7
open PySem.Code renaming isFrame->Gz,frames->U3
open PyProof.Rows.IsTup renaming new->GI
open PySem.Builtin.List renaming listTooLong->GN,listFitsIndex->Xt,listLengthHint->XC
open PySem.Builtin.Str renaming strSliceIndices->GY,tooLong->Xv,glued->XE
open PySem.Txt renaming slice->GZ,join->G0
open PySem.SetTable.probe renaming go->G8
open PyProof.Rows.F renaming plain_set_update_loop->Hb,entry_set_update_loop->VU
open PySem.Heap.IsSliceOf renaming new->Va
open PySem.Heap.DictOf renaming new->Vl
open PySem.W.WData renaming int->Vr
open PySem.Moved renaming trans->VV
open Prod.mk renaming inj->V3,injEq->WJ
open PySem.Builtin.Builtins renaming bindParams->V8
open PySem.CmpOf renaming ints_gt->V9
open PySem.Builtin.Dict renaming showsAll->Wa,updateFrom->Xz
open List.Perm renaming eq_of_pairwise->Wh,refl->Wz
open PySem.Manifest renaming owners->WB
open String renaming ofList->WC
open PySem.pickOrder renaming go->WD
open PySem.Builtin.Range renaming rangeSize->W1
open PySem.EqNone renaming eq_none_none->W2,eq_none_bool->W3,eq_none_int->W4,eq_none_str->W5,eq_bool_none->W6,eq_int_none->W8,eq_str_none->W',ne_none_none->Xc,ne_none_bool->Xd,ne_none_int->Xe,ne_none_str->Xf,ne_bool_none->Xg,ne_int_none->Xi,ne_str_none->Xk
open PySem.EqMixed renaming eq_bool_str->W7,eq_int_str->W9,eq_str_bool->Xa,eq_str_int->Xb,ne_bool_str->Xh,ne_int_str->Xj,ne_str_bool->Xl,ne_str_int->Xm
open PySem.W.Looks renaming here->Xn
open PySem.Within renaming cons->Xo
open PySem.Builtin.Tuple renaming tupleItemsOf->Xs
open PySem.Builtin.Frozenset renaming newClass->Xx,updateFrom->Xy
open PySem.Builtin.Dict_items renaming ownsTuple->XA
open PySem.Challenge renaming pw_shopbound_k36_whole_all_schedules->XD,rw_shopbound_k36_whole_all_schedules->XH
set_option hygiene false
set_option compiler.extract_closed false
local macro_rules
|`(.(a))=>`(Gam C_Facts C_Grounds C_Shop)
|`(.(b))=>`(by omega)
|`(.(c))=>`(by decide)
|`(.(d))=>`(Ţ .(a) P w K mg base)
|`(.(e))=>`(vC (.int 1))
|`(.(f))=>`(vC (.int 0))
|`(.(g))=>`(bd bs ss js E ls ks h)
|`(.(h))=>`(.tail _ (.tail _ (.tail _ (.head _))))
|`(.(i))=>`(Ye z bs ss js E ls ks h lm kp XJ Γ A af T P)
|`(.(j))=>`(dH ã P w K mg base N qual (aC st) f X1 A outer s H us)
|`(.(k))=>`(ax rfl (ax rfl aF))
|`(.(l))=>`(A.deeper (dj qual (aC st) s.heap.objs.size f X1))
|`(.(m))=>`(by infer_instance)
|`(.(n))=>`(bT 2 (aQ (aA 0) (aQ (aA 1) bV)))
|`(.(o))=>`(b2 XV (C 0) .(f))
|`(.(p))=>`(t.put (ao t.mask Hk n0))
|`(.(q))=>`(.ListComp Č [⟨tg,iter,ć,0⟩] scope pos)
|`(.(r))=>`(J (C 1) aq)
|`(.(s))=>`(Yx .(a) P w K mg base "Facts")
|`(.(t))=>`(aN X.prog X.w)
local macro_rules|`(tactic|ac_nf)=>`(tactic|first|exact Or.inl rfl|exact Or.inr rfl|exact Or.inr (Or.inl rfl)|exact Or.inr (Or.inr rfl)|assumption)
set_option bootstrap.genMatcherCode false
set_option genSizeOf false
set_option genSizeOfSpec false
noncomputable section
theorem YB {α:Type u} {β:Type v} {o:au α} {f:α->au β} {b:β} (h:o.bind f=U b):∃a,o=U a/\f a=U b:=Option.bind_eq_some_iff.mp h
theorem YE {α:Type u} {β:Type v} {o:au α} {f:α->β} {b:β} (h:o.map f=U b):∃a,o=U a/\f a=b:=Option.map_eq_some_iff.mp h
noncomputable section
theorem W.{u}{α:Sort u}{a:α}:a=a:=rfl
section
local macro_rules|`(tactic|let $d:letDecl)=>`(tactic|have $d:letDecl)
local macro_rules|`(tactic|let $p:term:=$e)=>do
 let rec go:Nat->Lean.TSyntax `term->Lean.MacroM (Lean.TSyntax `rcasesPat)
  |0,_=>Lean.Macro.throwUnsupported
  |n+1,s=>match s with
   |`(⟨$[$xs],*⟩)=>do let ys←xs.mapM (go n);let zs←ys.mapM fun y=>`(Lean.Parser.Tactic.rcasesPatLo|$y:rcasesPat);`(rcasesPat|⟨$[$zs],*⟩)
   |`(_)=>`(rcasesPat|_)
   |`($x:ident)=>`(rcasesPat|$x:ident)
   |_=>Lean.Macro.throwUnsupported
 `(tactic|obtain $(←go 9 p):rcasesPat:=$e)
local macro_rules|`(tactic|show $t:term)=>`(tactic|first|refine $t|change $t)
local macro_rules|`(tactic|ext)=>`(tactic|first|lia|omega)
local macro_rules|`(#[$x,$y])=>`(⟨$x,$y⟩)|`(#[$x,$y,$z,*])=>`(⟨$x,$y,$z,*⟩)
section
open PySem PySem.Spec PyProof.Rows
def qb:=@Option.bind_some
def qc:=@List.getElem?_cons_zero
def qd:=@List.getElem?_cons_succ
def qe:=@Option.map_some
def qf:=@List.length_map
def qg:=@List.mem_cons_self
def qh:=@List.mem_cons_of_mem
def qi:=@List.length_cons
def qj:=@List.length_append
def ql:=@List.getElem?_map
def qm:=@List.length_nil
def qo:=@List.map_cons
def qp:=@List.map_map
def qq:=@List.cons_append
def qr:=@Bool.false_eq_true
def qt:=@Bool.false_ne_true
def qu:=@Heap.get?_push_of_some
def qv:=@Heap.lt_size
def qw:=@Nat.le_refl
def qx:=@wpAny_bind
def qy:=@Heap.get?_update_other
def qz:=@List.getElem?_set_ne
def qA:=@List.getElem?_append_left
def qB:=@wpAny_pure
def qC:=@List.size_toArray
def qD:=@Nat.ne_of_lt
def qE:=@List.getElem?_eq_getElem
def qF:=@List.length_take
def qG:=@Nat.lt_of_lt_of_le
def qH:=@Heap.get?_push_size
def qI:=@W0
def qJ:=@Array.getElem?_toList
def qL:=@List.not_mem_nil
def qM:=@List.getElem?_append_right
def qN:=@cg
def qO:=@Nat.le_trans
def qP:=@decide_eq_false
def qQ:=@List.map_nil
def qR:=@List.mem_of_getElem?
def qS:=@List.mem_append_right
def qT:=@List.nil_append
def qU:=@decide_eq_true
def qV:=@wpAny_holding
def qW:=@List.length_range
def qX:=@List.mem_map_of_mem
def qY:=@if_pos
def qZ:=@if_neg
end
section
namespace L2
open PySem PySem.Spec PyProof.Rows
abbrev XR:=Sum ah aj
variable{hb i j:ag}
namespace ST
structure Pr where
 j:ag
 more:ag
 i:ag
 pt:ag
def γ(hb:ag)(p:Pr):Pr:=if p.more > 0 then {p with j:=p.j+1,more:=p.more-1} else
 {j:=(i4 hb p.i p.pt).1,more:=cV hb (i4 hb p.i p.pt).1-(i4 hb p.i p.pt).1,i:=(i4 hb p.i p.pt).1,pt:=(i4 hb p.i p.pt).2}
def st0(hb:ag)(h:ah):Pr:={j:=fM h%(hb+1),more:=cV hb (fM h%(hb+1))-fM h%(hb+1),i:=fM h%(hb+1),pt:=fM h}
def it(hb:ag)(h:ah):ag->Pr
 |0=>st0 hb h
 |n+1=>γ hb (it hb h n)
def ao(hb:ag)(h:ah)(n:ag):ag:=(it hb h n).j
noncomputable def lp(hb:ag)(h:ah):ag->ag×ag
 |0=>(fM h%(hb+1),fM h)
 |r+1=>i4 hb (lp hb h r).1 (lp hb h r).2
def lZ(hb:ag)(x:ag×ag):Pr:={j:=x.1,more:=cV hb x.1-x.1,i:=x.1,pt:=x.2}
def u9(hb:ag)(h:ah)(n:ag):∀k,it hb h (n+k)=(Nat.repeat (γ hb) k (it hb h n))
 |0=>rfl
 |k+1=>by rw[<-Gi,it,u9 hb h n k];rfl
def Li(hb i:ag):cV hb i-i<=9:=by unfold cV;split<;>ext
def tF(hb:ag):∀(k:ag)(p:Pr),k<=p.more->Nat.repeat (γ hb) k p={p with j:=p.j+k,more:=p.more-k}
 |0,p,_=>rfl
 |k+1,p,h=>by rw[Nat.repeat,tF hb k p .(b)];unfold γ;rw[qY (by show p.more-k > 0;ext)];simp only[Nat.sub_sub,Gi]
def FO(hb:ag)(h:ah):∀r,∃n,n<=10*r/\it hb h n=lZ hb (lp hb h r)
 |0=>#[0,qw _,W]
 |r+1=>by let⟨n,hn,e⟩:=FO hb h r;let hl:=Li hb (lp hb h r).1;show#[n+(cV hb (lp hb h r).1-(lp hb h r).1)+1,by ext,?_];let e2:=tF hb (cV hb (lp hb h r).1-(lp hb h r).1) (lZ hb (lp hb h r)) (qw _);rw[it,u9,e,e2];unfold γ;rw[qZ (by show ¬((cV hb (lp hb h r).1-(lp hb h r).1)-(cV hb (lp hb h r).1-(lp hb h r).1) > 0);ext)];rfl
def LX(h:ah):fM h<2 ^ 64:=by unfold fM;ext
def ET(hb:ag)(h:ah):∀r,(lp hb h r).2=fM h / 32 ^ r
 |0=>by simp[lp]
 |r+1=>by show(lp hb h r).2 / 32=_;rw[ET hb h r,Nat.div_div_eq_div_mul,UR]
def Q1(hb:ag)(h:ah){r:ag}(hr:13<=r):(lp hb h r).2=0:=by rw[ET];show Nat.div_eq_of_lt (qG (LX h) ?_);show qO .(c) (Nat.pow_le_pow_right .(c) hr)
noncomputable def fl(hb i:ag):ag:=(i*5+1)%(hb+1)
def Ĥ(hb:ag):ag->ag->ag
 |0,i=>i
 |m+1,i=>fl hb (Ĥ hb m i)
def zj(hb:ag)(h:ah):∀m,(lp hb h (13+m)).1=Ĥ hb m (lp hb h 13).1
 |0=>rfl
 |m+1=>by show(i4 hb (lp hb h (13+m)).1 (lp hb h (13+m)).2).1=_;rw[Q1 hb h .(b),zj hb h m];simp[i4,Ĥ,fl]
def tj(hb i:ag)(a:ag):∀b,Ĥ hb (a+b) i=Ĥ hb b (Ĥ hb a i)
 |0=>rfl
 |b+1=>by rw[<-Gi,Ĥ,tj hb i a b];rfl
def wg(hb:ag):ag->ag->Z ag
 |0,_=>[]
 |n+1,i=>i::wg hb n (fl hb i)
def Dj(hb:ag):∀m i,Ĥ hb (m+1) i=Ĥ hb m (fl hb i)
 |0,_=>rfl
 |m+1,i=>by rw[Ĥ,Dj hb m i];rfl
def CQ(hb:ag):∀(n i j:ag),j∈wg hb n i->∃m,m<n/\Ĥ hb m i=j
 |0,_,_,h=>nomatch h
 |n+1,i,j,h=>by
  rcases cg.mp h with e|h
  .exact#[0,vy _,e.symm]
  .obtain⟨m,hm,e⟩:=CQ hb n (fl hb i) j h;show#[m+1,by ext,by rw[Dj];show e]
structure Yg(hb:ag):Prop where
 all:∀j,j<=hb->∃m,m<hb+1/\Ĥ hb m 0=j
 back:Ĥ hb (hb+1) 0=0
def chk(hb:ag):aJ:=(cw (hb+1)).all (λj=>(wg hb (hb+1) 0).contains j) && Ĥ hb (hb+1) 0==0
def sT(h:chk hb=ai):Yg hb:=by unfold chk at h;rw[cW,iu] at h;show#[λj hj=>?_,by simpa using h.2];let:=h.1 j (eV.mpr .(b));show CQ hb (hb+1) 0 j (by simpa using this)
def wR:Yg 7:=sT .(c)
def La:Yg 31:=sT .(c)
def K8:Yg 127:=sT .(c)
def Qh:Yg 511:=sT .(c)
def Yg.reach(F:Yg hb)(hi:i<=hb)(hj:j<=hb):∃m,m<=hb/\Ĥ hb m i=j:=by
 let⟨a,ha,ea⟩:=F.all i hi;let⟨b,M,eb⟩:=F.all j hj;by_cases h:a<=b
 .refine#[b-a,by ext,?_];rw[<-ea,<-tj,show a+(b-a)=b by ext,eb]
 .refine#[hb+1-a+b,by ext,?_];rw[<-ea,<-tj,show a+(hb+1-a+b)=(hb+1)+b by ext,tj,F.back,eb]
def w8(hb:ag)(h:ah):∀r,(lp hb h r).1<=hb
 |0=>Gj.mp (vz _ (vy _))
 |r+1=>Gj.mp (vz _ (vy _))
def Yg.covers(F:Yg hb)(h:ah)(hj:j<=hb):∃n,n<10*(hb+15)/\ao hb h n=j:=by let⟨m,hm,e⟩:=F.reach (w8 hb h 13) hj;let⟨n,hn,en⟩:=FO hb h (13+m);show#[n,by ext,?_];unfold ao;rw[en];show(lp hb h (13+m)).1=j;rw[zj,e]
def AM(hb:ag)(h:ah):∀n,(it hb h n).j+(it hb h n).more<=hb
 |0=>by
  let:=w8 hb h 0;show(lp hb h 0).1+(cV hb (lp hb h 0).1-(lp hb h 0).1)<=hb;unfold cV;split<;>ext
 |n+1=>by
  let ih:=AM hb h n;rw[it];unfold γ;split
  .show(it hb h n).j+1+((it hb h n).more-1)<=hb;ext
  .show(i4 hb (it hb h n).i (it hb h n).pt).1+(cV hb (i4 hb (it hb h n).i (it hb h n).pt).1-(i4 hb (it hb h n).i (it hb h n).pt).1)<=hb;let:(i4 hb (it hb h n).i (it hb h n).pt).1<=hb:=Gj.mp (vz _ (vy _));unfold cV;split<;>ext
def xo(hb:ag)(h:ah)(n:ag):ao hb h n<=hb:=qO (zu _ _) (AM hb h n)
def Yg.first(F:Yg hb)(h:ah)(occ:ag->aJ)(hf:∃j,j<=hb/\occ j=ar):∃n,n<10*(hb+15)/\occ (ao hb h n)=ar/\∀m,m<n->occ (ao hb h m)=ai:=by
 let⟨j,hj,hof⟩:=hf;let⟨n,hn,e⟩:=F.covers h hj;let key:∀n,n<10*(hb+15)->occ (ao hb h n)=ar->∃n,n<10*(hb+15)/\occ (ao hb h n)=ar/\∀m,m<n->occ (ao hb h m)=ai:=by
  intro n
  induction n using Nat.strongRecOn with
  |ind n ih=>
   intro hn ho;by_cases hx:∃m,m<n/\occ (ao hb h m)=ar
   .obtain⟨m,hm,hm2⟩:=hx;show ih m hm .(b) hm2
   .refine#[n,hn,ho,λm hm=>?_];cases q:occ (ao hb h m) with
    |true=>rfl
    |false=>show bj #[m,hm,q] hx
 show key n hn (by rw[e];show hof)
end ST
def oq:XR->aw->aJ
 |.inl k,v=>zv k v
 |.inr x,v=>US x v
def N7(w:cA):XR->ah
 |.inl k=>hashInt k
 |.inr x=>hashStr w x
def iU:∀{k:XR}{v:aw},oq k v=ai->(∃i t,k=oO i/\v=dh i t)\/(∃x t,k=bZ x/\v=UT x t)
 |.inl i,v,h=>by
  let⟨t,e⟩:=Value.isInt_shape h;show .inl #[i,t,W,e]
 |.inr x,v,h=>by let⟨t,e⟩:=UU h;show .inr #[x,t,W,e]
def S9(i:ah)(t:Tok):oq (.inl i) (.int i t)=ai:=by simp[oq,zv]
def TF(x:aj)(t:Tok):oq (.inr x) (.str x t)=ai:=by simp[oq,US]
def UD(a b:ah):decide ((oO a:XR)=oO b)=(a==b):=by
 by_cases e:a=b
 .subst e;simp
 .let h:¬(oO a:XR)=oO b:=λq=>e (Sum.inl.inj q);rw[qP h];show(lF.mpr e).symm
def OE(a b:aj):decide ((bZ a:XR)=bZ b)=decide (a=b):=by
 by_cases e:a=b
 .subst e;simp
 .let h:¬(bZ a:XR)=bZ b:=λq=>e (i6 q);rw[qP h,qP e]
def P6(a:ah)(b:aj):decide ((oO a:XR)=bZ b)=ar:=qP (λq=>nomatch q)
def Kw(a:aj)(b:ah):decide ((bZ a:XR)=oO b)=ar:=qP (λq=>nomatch q)
def cG(prog:dy)(w:cA):PySem.KeyKind prog w XR where
 is:=oq
 hash:=N7 w
 inj:=λv a b ha M=>by
  rcases iU ha with⟨i,t,rfl,rfl⟩|⟨x,t,rfl,rfl⟩
  .rcases iU M with⟨j,u,rfl,e⟩|⟨y,u,rfl,e⟩
   .injection e with e1 _;rw[e1]
   .exact nomatch e
  .rcases iU M with⟨j,u,rfl,e⟩|⟨y,u,rfl,e⟩
   .exact nomatch e
   .injection e with e1 _;rw[e1]
 byValue:=λk v h=>by rcases iU h with⟨i,t,rfl,rfl⟩|⟨x,t,rfl,rfl⟩<;>rfl
 pyHash:=λhv h=>by
  rcases iU hv with⟨i,t,rfl,rfl⟩|⟨x,t,rfl,rfl⟩
  .exact wpAny_pyHash_int h
  .exact wpAny_pyHash_str h
 eqBool:=λhu hv h=>by
  rcases iU hu with⟨i,t,rfl,rfl⟩|⟨x,t,rfl,rfl⟩
  .rcases iU hv with⟨j,u,rfl,rfl⟩|⟨y,u,rfl,rfl⟩
   .rw[UD] at h;show wpAny_eqBool_int h
   .rw[P6] at h;show SeqAt.EqAt.int_str i t y u _ _ _ _ h
  .rcases iU hv with⟨j,u,rfl,rfl⟩|⟨y,u,rfl,rfl⟩
   .rw[Kw] at h;show SeqAt.EqAt.str_int x t j u _ _ _ _ h
   .rw[OE] at h;show wpAny_eqBool_str h
 «strs»:=λk x t v h=>by
  rcases iU h with⟨i,u,rfl,e⟩|⟨y,u,rfl,e⟩
  .exact nomatch e
  .injection e with e1 _;subst e1;cases v<;>rfl
def Po(prog:dy)(w:cA)(i:ah)(t:Tok):(cG prog w).is (.inl i) (.int i t)=ai:=S9 i t
def P3(prog:dy)(w:cA)(x:aj)(t:Tok):(cG prog w).is (.inr x) (.str x t)=ai:=TF x t
inductive V where
 |non|bl (b:aJ)|int (i:ah)|str (x:aj)|ref (a:av)|ty (n:cD)
 deriving dJ
noncomputable def bF:V->aw->Prop
 |.non,u=>u=Gk
 |.bl b,u=>u=lG b
 |.int i,u=>∃t,u=dh i t
 |.str x,u=>∃t,u=UT x t
 |.ref a,u=>u=cI a
 |.ty n,u=>u=rL n
abbrev bi:Z V->Z aw->Prop:=Paired bF
def bi.length{xs:Z V}{E:Z aw}(r:bi xs E):xs.length=E.length:=Paired.length r
def bi.get:∀{xs:Z V}{E:Z aw}{i:ag}{x:V},bi xs E->xs[i]?=U x->∃u,E[i]?=U u/\bF x u
 |_,_,_,_,.nil,e=>by simp at e
 |_,_,0,_,.cons r _,e=>by simp at e;subst e;show#[_,W,r]
 |_,_,i+1,x,.cons _ t,e=>by let⟨u,h1,h2⟩:=bi.get t (by simpa using e);show#[u,by simpa using h1,h2]
def bi.append:∀{xs ys:Z V}{E ws:Z aw},bi xs E->bi ys ws->bi (xs++ys) (E++ws)
 |_,_,_,_,.nil,s=>s
 |_,_,_,_,.cons r t,s=>.cons r (bi.append t s)
def bi.take:∀{xs:Z V}{E:Z aw}(n:ag),bi xs E->bi (xs.take n) (E.take n)
 |_,_,0,_=>.nil
 |_,_,_+1,.nil=>.nil
 |_,_,n+1,.cons r t=>.cons r (bi.take n t)
def bi.drop:∀{xs:Z V}{E:Z aw}(n:ag),bi xs E->bi (xs.drop n) (E.drop n)
 |_,_,0,r=>r
 |_,_,_+1,.nil=>.nil
 |_,_,n+1,.cons _ t=>bi.drop n t
def fD:au V->au aw->Prop
 |some v,U u=>bF v u
 |none,B=>True
 |_,_=>False
variable{κ:Type}
def KV:Z (κ×V)->Z (κ×aw)->Prop:=Paired λ(p:κ×V)(q:κ×aw)=>p.1=q.1/\bF p.2 q.2
def kV:XR->V
 |.inl i=>.int i
 |.inr x=>.str x
inductive HO where
 |lst (xs:Z V)
 |tup (xs:Z V)
 |dK (XJ:Z (XR×V))|dT (XJ:Z (Z XR×V))
 |set (S:ah->aJ) (n:ag)
 |ins (XI dx:av) (fs:Z (aj×V))
 |own (x:av)
 |frz (o:Obj) (u:HO)
 |tbl (ps:bI aw)
 |ext (φ:Heap->Prop)
noncomputable abbrev Hp:=av->au HO
noncomputable def X0(H:Hp)(a:av)(o:HO):Hp:=λb=>if b=a then U o else H b
variable{H:Hp}{a:av}
def bf{o:HO}:X0 H a o a=U o:=by unfold X0;rw[qY W]
def aD{b:av}{o:HO}(h:b≠a):X0 H a o b=H b:=by unfold X0;rw[qZ h]
def RW{o u:HO}:X0 (X0 H a o) a u=X0 H a u:=by
 funext b;unfold X0;split<;>rfl
def xD{b:av}{o u:HO}(h:H a=U o)(h':H b=U u)(d:o≠u):a≠b:=by intro e;subst e;rw[h] at h';show d (qI h')
def bH{b:av}{o:HO}(h:H a=U o)(h':H b=B):a≠b:=by intro e;subst e;rw[h] at h';cases h'
section
variable(P:dy)(w:cA)
def cO(H:Hp)(h:Heap)(a:av):HO->Prop
 |.lst xs=>xs.length<=aK/\∃(XY:Z aw)(n:ag),bi xs XY/\h.get? a=U {cls:=.type "list",data:=.seq XY.toArray n}
 |.tup xs=>xs.length<=aK/\∃XY:Z aw,bi xs XY/\vA h a XY.toArray
 |.dK XJ=>XJ.length<=aK/\(a==i7)=ar/\∃vs,KV XJ vs/\h.DictOf (cG P w) a vs
 |.dT XJ=>XJ.length<=aK/\(a==i7)=ar/\∃xs:Z (Z XR×av×aw),
   Paired (λ(p:Z XR×V)(q:Z XR×av×aw)=>p.1=q.1/\H q.2.1=U (.tup (p.1.map kV))/\bF p.2 q.2.2) XJ xs /\
   ∃o es ep,h.get? a=U o/\o.ExactDict/\o.data=.dict es ep/\es.toList=xs.map (entryOfKey (lH (cG P w)))/\(xs.map (·.1)).Nodup
 |.set S n=>h.SetOf (eW P w) a S n
 |.ins XI dx fs=>H dx=U (.own a)/\fs.length<=1000/\dx≠a/\h.get? a=U (m5 XI dx) /\
   ∃mA,h.Ns1 dx mA/\(∀f,fD (fs.lookup f) (mA f))/\Gm mA (fs.map (·.1))
 |.own _=>∃o,h.get? a=U o
 |.frz o u=>h.get? a=U o/\cO H h a u
 |.tbl ps=>h.get? a=U {cls:=.none,data:=.fields ps}
 |.ext φ=>φ h/\(∃o,h.get? a=U o)/\∀h1 h2:Heap,φ h1->(∀o,h1.get? a=U o->h2.get? a=U o)->φ h2
def Ze(H:Hp)(h:Heap):Prop:=∀a o,H a=U o->cO P w H h a o
end
variable{P:dy}{w:cA}{H':Hp}{h':Heap}
section
variable{h:Heap}{o:HO}
def cO.lt(x:cO P w H h a o):a<h.objs.size:=by
 cases o with
 |lst xs=>let⟨_,_,_,_,e⟩:=x;show qv e
 |tup xs=>let⟨_,_,_,p⟩:=x;show p.lt
 |dK XJ=>let⟨_,_,_,_,o,_,_,e,_⟩:=x;show qv e
 |dT XJ=>let⟨_,_,_,_,o,_,_,e,_⟩:=x;show qv e
 |set S n=>let⟨o,_,_,_,e,_⟩:=x;show qv e
 |ins XI dx fs=>let⟨_,_,_,e,_⟩:=x;show qv e
 |own y=>let⟨_,e⟩:=x;show qv e
 |frz ob u=>let⟨e,_⟩:=x;show qv e
 |tbl ps=>show qv (x)
 |ext φ=>let⟨_,⟨_,e⟩,_⟩:=x;show qv e
def Paired.mapP{α β:Type}{F G:α->β->Prop}:∀{l₁:Z α}{l₂:Z β},Paired F l₁ l₂->(∀a b,F a b->G a b)->Paired G l₁ l₂
 |_,_,.nil,_=>.nil
 |_,_,.cons r t,f=>.cons (f _ _ r) (Paired.mapP t f)
def cO.stay(x:cO P w H h a o)(k:∀b u,(b=a\/H b=U (.own a))->h.get? b=U u->h'.get? b=U u)
  (ho:∀b,H b=U (.own a)->H' b=U (.own a))(ht:∀b xs,H b=U (.tup xs)->H' b=U (.tup xs)):cO P w H' h' a o:=by
 induction o with
 |lst xs=>let⟨z,XY,n,r,e⟩:=x;show#[z,XY,n,r,k _ _ (.inl W) e]
 |tup xs=>let⟨z,XY,r,ob,e,c⟩:=x;show#[z,XY,r,ob,k _ _ (.inl W) e,c]
 |dK XJ=>let⟨z,y,vs,r,ob,es,ep,e,c⟩:=x;show#[z,y,vs,r,ob,es,ep,k _ _ (.inl W) e,c]
 |dT XJ=>
  let⟨z,y,xs,r,ob,es,ep,e,c⟩:=x;show#[z,y,xs,Paired.mapP r λp q z=>#[z.1,ht _ _ z.2.1,z.2.2],ob,es,ep,k _ _ (.inl W) e,c]
 |set S n=>let⟨ob,es,ep,t,e,c⟩:=x;show#[ob,es,ep,t,k _ _ (.inl W) e,c]
 |ins XI dx fs=>
  let⟨d,z,ne,e,mA,⟨od,es,ep,e2,c⟩,r⟩:=x;show#[ho _ d,z,ne,k _ _ (.inl W) e,mA,#[od,es,ep,k _ _ (.inr d) e2,c],r]
 |own y=>let⟨ob,e⟩:=x;show#[ob,k _ _ (.inl W) e]
 |frz ob u ih=>let⟨e,q⟩:=x;show#[k _ _ (.inl W) e,ih q]
 |tbl ps=>
  let e:h.get? a=U {cls:=.none,data:=.fields ps}:=x;show k a _ (.inl W) e
 |ext φ=>let⟨p,⟨o,e⟩,st⟩:=x;show#[st _ _ p λo q=>k _ _ (.inl W) q,#[o,k _ _ (.inl W) e],st]
def Ze.lt(x:Ze P w H h)(e:H a=U o):a<h.objs.size:=(x a o e).lt
def Ze.fresh(x:Ze P w H h)(e:h.objs.size<=a):H a=B:=by
 cases q:H a with
 |none=>rfl
 |some u=>show bj (qG (x.lt q) e) (fN _)
def Ze.kept(x:Ze P w H h)(k:∀b u,h.get? b=U u->h'.get? b=U u):Ze P w H h':=λa o e=>
 (x a o e).stay (λb u _ q=>k b u q) (λ_ q=>q) λ_ _ q=>q
def Ze.laid(x:Ze P w H h)(k:∀b u,h.get? b=U u->h'.get? b=U u)(hp:h.objs.size<=a)(new:cO P w (X0 H a o) h' a o):Ze P w (X0 H a o) h':=λb u e=>by
 let hn:=x.fresh hp;by_cases M:b=a
 .subst M;rw[bf] at e;cases e;show new
 .rw[aD M] at e;show(x b u e).stay (λc v _ q=>k c v q) (λc q=>by rw[aD (bH q hn)];show q) λc xs q=>by rw[aD (bH q hn)];show q
end
def Rd(H:Hp)(a:av)(u:HO):Prop:=H a=U u\/∃o,H a=U (.frz o u)
def Rd.ok{h:Heap}{u:HO}(r:Rd H a u)(x:Ze P w H h):cO P w H h a u:=by
 rcases r with r|⟨o,r⟩
 .exact x a u r
 .obtain⟨_,q⟩:=x a _ r;show q
noncomputable def Mut:au HO->Prop
 |some (.lst _)=>True
 |some (.dK _)=>True
 |some (.dT _)=>True
 |some (.set _ _)=>True
 |some (.ins _ _ _)=>True
 |some (.ext _)=>True
 |_=>False
section
variable{h:Heap}{x e:av}{o':HO}
def Ze.write(ok:Ze P w H h)(mu:Mut (H x))(he:e=x\/H e=U (.own x))(k:∀b u,b≠e->h.get? b=U u->h'.get? b=U u)(heo:∃u,h'.get? e=U u)
  (new:cO P w (X0 H x o') h' x o'):Ze P w (X0 H x o') h':=λb u q=>by
 let nown:∀c y,H c=U (.own y)->c≠x:=λc y r z=>by subst z;rw[r] at mu;show mu
 let ntup:∀c xs,H c=U (.tup xs)->c≠x:=λc xs r z=>by subst z;rw[r] at mu;show mu
 by_cases M:b=x
 .subst M;rw[bf] at q;cases q;show new
 .rw[aD M] at q;by_cases hbe:b=e
  .let q':H b=U (.own x):=by
    rcases he with z|z
    .exact bj (hbe.trans z) M
    .rw[hbe];show z
   rw[q] at q';cases q';let⟨v,hv⟩:=heo;show#[v,by rw[hbe];show hv]
  .refine(ok b u q).stay (λc v hc r=>k c v ?_ r) (λc r=>by rw[aD (nown c b r)];show r) λc xs r=>by rw[aD (ntup c xs r)];show r
   rcases hc with rfl|hc
   .exact hbe
   .rintro rfl;rcases he with z|z
    .exact nown c b hc z
    .rw[hc] at z;cases z;show M W
end
structure Un(fs ex:Z av)(H H':Hp)(h h':Heap):Prop where
 keep:∀b o,h.get? b=U o->H b=B->b∉fs->b∉ex->h'.get? b=U o
 slot:∀b o,h.get? b=U o->H b=B->b∈fs->b∉ex->∃sl,h'.get? b=U {o with slots:=sl}
 free:∀b o,h.get? b=U o->H b=B->b∉ex->H' b=B
 there:∀b o,h.get? b=U o->b∉ex->∃o',h'.get? b=U o'
 tups:∀b xs,H b=U (.tup xs)->H' b=U (.tup xs)
 frzs:∀b o u,H b=U (.frz o u)->H' b=U (.frz o u)
 tbls:∀b ps,H b=U (.tbl ps)->∃more,H' b=U (.tbl (ps++more))
variable{H1 H2:Hp}
section
variable{fs À ex ex':Z av}{h h1 h2:Heap}{x e:av}{o:HO}
def Un.any(u:Un fs ex H H1 h h1){b:av}{ob:Obj}(q:h.get? b=U ob)(n:H b=B)(hx:b∉ex):∃sl,h1.get? b=U {ob with slots:=sl}:=by
 by_cases M:b∈fs
 .exact u.slot b ob q n M hx
 .exact#[ob.slots,u.keep b ob q n M hx]
def Un.kept(k:∀b u,h.get? b=U u->h'.get? b=U u):Un fs ex H H h h':=
 #[λb ob q _ _ _=>k b ob q,λb ob q _ _ _=>#[ob.slots,k b ob q],λ_ _ _ n _=>n,λb ob q _=>#[ob,k b ob q],λ_ _ q=>q,λ_ _ _ q=>q,λ_ ps q=>#[#[],by rw[q];simp]]
def Un.refl:Un fs ex H H h h:=Un.kept λ_ _ q=>q
def Un.laid(k:∀b u,h.get? b=U u->h'.get? b=U u)(hp:h.objs.size<=a)(hn:H a=B):Un fs ex H (X0 H a o) h h' where
 keep:=λb u q _ _ _=>k b u q
 slot:=λb u q _ _ _=>#[u.slots,k b u q]
 free:=λb u q n _=>by rw[aD (qD (qG (qv q) hp))];show n
 there:=λb u q _=>#[u,k b u q]
 tups:=λb xs q=>by rw[aD (bH q hn)];show q
 frzs:=λb u xs q=>by rw[aD (bH q hn)];show q
 tbls:=λb ps q=>#[#[],by rw[aD (bH q hn),q];simp]
def Un.write(mu:Mut (H x))(he:e=x\/H e=U (.own x))(k:∀b u,b≠e->h.get? b=U u->h'.get? b=U u)(heo:∃u,h'.get? e=U u):Un fs ex H (X0 H x o) h h':=by
 let hx:∀b,H b=B->b≠x:=λb n z=>by subst z;rw[n] at mu;show mu
 let M:∀b,H b=B->b≠e:=λb n z=>by
  subst z;rcases he with r|r
  .exact hx b n r
  .rw[n] at r;cases r
 let hm:∀b u,H b=U u->¬Mut (U u)->b≠x:=λb u q nm z=>by subst z;rw[q] at mu;show nm mu
 show#[λb u q n _ _=>k b u (M b n) q,λb u q n _ _=>#[u.slots,k b u (M b n) q],λb u q n _=>by rw[aD (hx b n)];show n,λb u q _=>?_,
  λb xs q=>by rw[aD (hm b _ q λz=>z)];show q,λb u xs q=>by rw[aD (hm b _ q λz=>z)];show q,λb ps q=>#[#[],by rw[aD (hm b _ q λz=>z),q];simp]]
 by_cases hbe:b=e
 .subst hbe;show heo
 .exact#[u,k b u hbe q]
end
noncomputable def trk(h:Heap)(H:Hp):Z av:=(cw h.objs.size).filter λa=>(H a).isSome
def jN(h:Heap)(H:Hp):Heap:=PySem.W.hideAll h (trk h H)
def Tu(h:Heap)(H:Hp):(jN h H).objs.size=h.objs.size:=PySem.W.hideAll_size _ _
def Tv{h:Heap}{b:av}{o:Obj}(e:h.get? b=U o)(n:H b=B):(jN h H).get? b=U o:=
 PySem.W.hideAll_get _ e λhm=>by let q:(H b).isSome=ai:=(rM.mp hm).2;rw[n] at q;simp at q
def MC{h:Heap}{b:av}{o:Obj}(e:(jN h H).get? b=U o):h.get? b=U o/\H b=B:=by
 let e':h.get? b=U o:=PySem.W.of_hideAll (trk h H) e;show#[e',?_];cases q:H b with
 |none=>rfl
 |some x=>
  let hm:b∈trk h H:=rM.mpr #[eV.mpr (qv e'),by simp[q]];let z:(jN h H).get? b=B:=PySem.W.hideAll_none (trk h H) hm;rw[z] at e;cases e
noncomputable def OD(g h:Heap)(σ:av):Z (av×Obj):=(cw h.objs.size).filterMap λa=>if a=σ\/(g.get? a).isSome=ai then B else (h.get? a).map λo=>(a,o)
def bS(g h:Heap)(σ d:av):Z (av×Obj):=(OD g h σ).filter λp=>decide (p.1≠d)
structure Mod(K:aS)(mg:aj->au aw)(base:Heap):Prop where
 kin:K.In base
 glob:base.Ns fu mg
 blt:∃mb,base.Ns Gn mb/\∀x:aj,x≠"__name__"->mb x=dz x
 nolimit:base.NoLimit
structure Cx where
 prog:dy
 w:cA
 K:aS
 mg:aj->au aw
 base:Heap
 A:cJ
 N:Z aj
 Z6:aH
 Z9:Hp
 env:cB
 outer:Z cB
 stack:Z cB
 ex:Z av
 fn:aj->aJ
 calm:aJ
 pn:Z (av×Obj)
 xe:aw->aH->Prop
noncomputable def Š(l:Z cB):Z av:=l.filterMap (·.frame)
abbrev Cx.fs(X:Cx):Z av:=Š X.outer
def Ġ(sc:Scope)(x:aj):Prop:=sc.names.lookup x=U .local\/sc.names.lookup x=U .cell\/sc.names.lookup x=U .free
def Ŷ(sc:Scope)(x:aj):Prop:=sc.names.lookup x=U .local\/sc.names.lookup x=U .cell
def LV(env:cB)(h:Heap)(m:aj->au aw)(x:aj)(u:aw):Prop:=
 (env.kindOf x=U .local/\m x=U u)\/((env.kindOf x=U .cell\/env.kindOf x=U .free)/\∃c,env.cells.lookup x=U c/\h.IsCell c (U u))
structure Cx.Ok(X:Cx):Prop where
 mod:Mod X.K X.mg X.base
 kind:X.env.scope.kind=.function
 glob:X.env.globals=fu
 blt:X.env.builtins=Gn
 above:X.Z6.heap.objs.size<=X.env.locals
 inj:∀x y c,X.env.cells.lookup x=U c->X.env.cells.lookup y=U c->x=y
 has:∀x,(X.env.kindOf x=U .cell\/X.env.kindOf x=U .free)->∃c,X.env.cells.lookup x=U c
 cab:∀x c,X.fn x=ai->X.env.cells.lookup x=U c->X.Z6.heap.objs.size<=c
 hd:X.calm=ai->X.A.handled=B
 frames:X.A.frames=U X.stack
 stk:X.stack=X.outer\/(X.stack=X.env::X.outer/\X.env.frame=U X.env.locals)
 exf:∀b∈X.ex,b≠X.env.locals/\∀x c,X.env.cells.lookup x=U c->c≠b
 bs:∀b o,X.base.get? b=U o->X.Z6.heap.get? b=U o/\X.Z9 b=B
 bsz:X.base.objs.size<=X.Z6.heap.objs.size
 noex:∀b o,X.base.get? b=U o->b∉X.ex
 exfs:∀b∈X.ex,b∉X.fs
 funs:X.Z6.heap.FunFrames X.base X.outer
 frf:∀b∈X.fs,X.Z9 b=B
structure XS(X:Cx)(Z':Z (av×Obj))(L:Z (au V))(H:Hp)(s:aH):Prop where
 ok:X.Ok
 os:s.os=X.Z6.os
 bare:lI s.gens
 base:Un X.fs X.ex X.Z9 H X.Z6.heap s.heap
 loc:∃m,s.heap.Ns X.env.locals m/\∀(i:ag)(x:aj)(v:V),X.N[i]?=U x->L[i]?=U (U v)->Ġ X.env.scope x->∃u,bF v u/\LV X.env s.heap m x u
 cell:∀x c,X.env.cells.lookup x=U c->∃v,s.heap.IsCell c v
 free:H X.env.locals=B
 freeC:∀x c,X.env.cells.lookup x=U c->H c=B
 pin:∀p∈X.pn++Z',s.heap.get? p.1=U p.2/\H p.1=B/\p.1≠X.env.locals/\p.1∉X.fs/\∀v,p.2.data≠.cell v
 hok:Ze X.prog X.w H s.heap
 len:L.length=X.N.length
variable{X:Cx}{Z':Z (av×Obj)}{s s':aH}{t':ag}{d':Drawn}{N:Z aj}{x:aj}{A:cJ}{us:aw->aH->Prop}{v:V}{u:aw}
section
variable{L:Z (au V)}
def Cx.Ok.nofr(ok:X.Ok){b:av}{o:Obj}(e:X.base.get? b=U o):b∉X.fs:=λM=>by let:=(ok.funs.mem M).1;rw[e] at this;cases this
def XS.bs(I:XS X Z' L H s):∀b o,X.base.get? b=U o->s.heap.get? b=U o/\H b=B:=λb o e=>
 #[I.base.keep b o (I.ok.bs b o e).1 (I.ok.bs b o e).2 (I.ok.nofr e) (I.ok.noex b o e),I.base.free b o (I.ok.bs b o e).1 (I.ok.bs b o e).2 (I.ok.noex b o e)]
def XS.bk(I:XS X Z' L H s):∀b o,X.base.get? b=U o->s.heap.get? b=U o:=λb o e=>(I.bs b o e).1
def XS.mod(I:XS X Z' L H s):Mod X.K X.mg X.base:=I.ok.mod
def XS.kIn(I:XS X Z' L H s):X.K.In s.heap:=I.ok.mod.kin.keeps I.bk
def XS.lt(I:XS X Z' L H s):X.env.locals<s.heap.objs.size:=let #[_,hn,_]:=I.loc;hn.lt
def XS.sz(I:XS X Z' L H s):X.Z6.heap.objs.size<=s.heap.objs.size:=qO I.ok.above (rN I.lt)
def XS.nofs(I:XS X Z' L H s)(h:s.heap.objs.size<=a):a∉X.fs:=λM=>by let⟨_,o,ho,_⟩:=I.ok.funs.mem M;show bj (qG (qv ho) (qO I.sz h)) (fN _)
def XS.cne(I:XS X Z' L H s):∀x c,X.env.cells.lookup x=U c->c≠X.env.locals:=λx c e z=>by let⟨v,o,ho,hd⟩:=I.cell x c e;let⟨m,⟨o',es,ep,Ñ,Ö,_⟩,_⟩:=I.loc;rw[z,Ñ] at ho;cases ho;rw[Ö] at hd;cases hd
def XS.funs(I:XS X Z' L H s):s.heap.FunFrames X.base X.outer:=by
 let all:∀(l:Z cB),(∀b∈Š l,b∈X.fs)->X.Z6.heap.FunFrames X.base l->s.heap.FunFrames X.base l:=by
  intro l
  induction l with
  |nil=>intro _ _;trivial
  |cons env r ih=>
   intro hs hl;let⟨hk,⟨σ,o,hf,hn,ho,hd⟩,hr⟩:=hl;let hL:σ∈X.fs:=hs σ (by unfold Š;rw[zw,hf];show qg);let⟨sl,e⟩:=I.base.slot σ o ho (I.ok.frf σ hL) hL λz=>I.ok.exfs σ z hL;show#[hk,#[σ,_,hf,hn,e,hd],ih (λb M=>hs b (by unfold Š;rw[zw,hf];show qh _ M)) hr]
 show all X.outer (λ_ M=>M) I.ok.funs
def XS.stack(I:XS X Z' L H s):s.heap.FunFrames X.base X.stack:=by
 rcases I.ok.stk with e|⟨e,hf⟩
 .rw[e];show I.funs
 .rw[e];let⟨m,hn,_⟩:=I.loc;show .cons (by rw[I.ok.kind];decide) hf hn ?_ I.funs;show Heap.get?_none_of_le (qO I.ok.bsz I.ok.above)
def XS.stkSub(I:XS X Z' L H s):∀b∈Š X.stack,b∈X.env.locals::X.fs:=λb M=>by
 rcases I.ok.stk with e|⟨e,hf⟩
 .rw[e] at M;show qh _ M
 .rw[e] at M;unfold Š at M;rw[zw,hf] at M;show M
def XS.stkFree(I:XS X Z' L H s):∀b∈Š X.stack,H b=B:=λb M=>by
 rcases cg.mp (I.stkSub b M) with e|M
 .rw[e];show I.free
 .obtain⟨_,o,ho,_⟩:=I.ok.funs.mem M;show I.base.free b o ho (I.ok.frf b M) λz=>I.ok.exfs b z M
def XS.step{g':bI rO}{ch:Z av}(I:XS X Z' L H s)
  (ŝ:∀b∈ch,(b∈X.ex\/X.Z6.heap.objs.size<=b)/\b≠X.env.locals/\(∀x c,X.env.cells.lookup x=U c->c≠b)/\∀p∈X.pn++Z',p.1≠b)
  (keep:∀b o,b≠X.env.locals->b∉X.fs->b∉ch->s.heap.get? b=U o->H b=B->h'.get? b=U o)
  (slot:∀b o,b≠X.env.locals->b∈X.fs->b∉ch->s.heap.get? b=U o->H b=B->∃sl,h'.get? b=U {o with slots:=sl})(free:∀b o,b∉ch->s.heap.get? b=U o->H b=B->H' b=B)
  (there:∀b o,b∉ch->s.heap.get? b=U o->∃o',h'.get? b=U o')
  (tups:∀b xs,H b=U (.tup xs)->H' b=U (.tup xs))(frzs:∀b o u,H b=U (.frz o u)->H' b=U (.frz o u))(tbls:∀b ps,H b=U (.tbl ps)->∃more,H' b=U (.tbl (ps++more)))
  (ns:∀m,s.heap.Ns X.env.locals m->h'.Ns X.env.locals m)(hok:Ze X.prog X.w H' h')(hg:lI g'):
  XS X Z' L H' {s with heap:=h',gens:=g',drawn:=d',toks:=t'}:=by
 let neL:∀b o,X.Z6.heap.get? b=U o->b≠X.env.locals:=λb o e=>qD (qG (qv e) I.ok.above);let ν:∀b o,X.Z6.heap.get? b=U o->b∉X.ex->b∉ch:=λb o e hx M=>by
  rcases(ŝ b M).1 with z|z
  .exact hx z
  .exact bj (qG (qv e) z) (fN _)
 let cellK:∀x c,X.env.cells.lookup x=U c->∀v,s.heap.IsCell c v->h'.IsCell c v:=λx c e v #[o,ho,hd]=>by
  let nch:c∉ch:=λz=>(ŝ c z).2.2.1 x c e W;by_cases hc:c∈X.fs
  .obtain⟨sl,q⟩:=slot c o (I.cne x c e) hc nch ho (I.freeC x c e);show#[_,q,hd]
  .exact#[o,keep c o (I.cne x c e) hc nch ho (I.freeC x c e),hd]
 show#[I.ok,I.os,hg,#[λb o e n M hx=>?_,λb o e n M hx=>?_,λb o e n hx=>?_,λb o e hx=>?_,λb xs e=>tups b xs (I.base.tups b xs e),λb o xs e=>frzs b o xs (I.base.frzs b o xs e),λb ps e=>?_],?_,λx c e=>?_,?_,λx c e=>?_,λp hp=>?_,hok,I.len]
 .exact keep b o (neL b o e) M (ν b o e hx) (I.base.keep b o e n M hx) (I.base.free b o e n hx)
 .obtain⟨sl,e1⟩:=I.base.slot b o e n M hx;let⟨sl',e2⟩:=slot b _ (neL b o e) M (ν b o e hx) e1 (I.base.free b o e n hx);show#[sl',e2]
 .obtain⟨o',e1⟩:=I.base.there b o e hx;show free b o' (ν b o e hx) e1 (I.base.free b o e n hx)
 .obtain⟨o',e1⟩:=I.base.there b o e hx;show there b o' (ν b o e hx) e1
 .obtain⟨m1,e1⟩:=I.base.tbls b ps e;let⟨m2,e2⟩:=tbls b _ e1;show#[m1++m2,by rw[e2,Array.append_assoc]]
 .obtain⟨m,hn,hl⟩:=I.loc;show#[m,ns m hn,λi x v e1 e2 e3=>?_];let⟨u,r,l⟩:=hl i x v e1 e2 e3;show#[u,r,?_];rcases l with l|⟨k,c,e,z⟩
  .exact .inl l
  .exact .inr #[k,c,e,cellK x c e _ z]
 .obtain⟨v,z⟩:=I.cell x c e;show#[v,cellK x c e v z]
 .obtain⟨m,⟨o,_,_,ho,_⟩,_⟩:=I.loc;show free _ o (λz=>(ŝ _ z).2.1 W) ho I.free
 .obtain⟨v,o,ho,hd⟩:=I.cell x c e;show free c o (λz=>(ŝ c z).2.2.1 x c e W) ho (I.freeC x c e)
 .obtain⟨e,n,ne,nf,d⟩:=I.pin p hp;let nch:p.1∉ch:=λz=>(ŝ p.1 z).2.2.2 p hp W;show#[keep p.1 p.2 ne nf nch e n,free p.1 p.2 nch e n,ne,nf,d]
def XS.un(I:XS X Z' L H s)(u:Un X.fs [] H H' s.heap h')(hok:Ze X.prog X.w H' h'):XS X Z' L H' {s with heap:=h',toks:=t'}:=by
 let⟨m,⟨o,es,ep,ho,r⟩,_⟩:=id I.loc;let⟨sl,hL⟩:=u.any ho I.free (by simp);show I.step (ch:=[]) (λ_ z=>nomatch z) (λb o _ M _ e n=>u.keep b o e n M (by simp)) (λb o _ M _ e n=>u.slot b o e n M (by simp)) (λb o _ e n=>u.free b o e n (by simp)) (λb o _ e=>u.there b o e (by simp)) u.tups u.frzs u.tbls (λm' hm=>by let⟨o',Yj,Δ,Ñ,r'⟩:=hm;rw[ho] at Ñ;cases Ñ;show#[_,Yj,Δ,hL,r']) hok I.bare
def XS.call{g':bI rO}{ch:Z av}(I:XS X Z' L H s)(u:Un (Š X.stack) ch H H' s.heap h')(hok:Ze X.prog X.w H' h')(hg:lI g')
  (ŝ:∀b∈ch,(b∈X.ex\/X.Z6.heap.objs.size<=b)/\b≠X.env.locals/\(∀x c,X.env.cells.lookup x=U c->c≠b)/\∀p∈X.pn++Z',p.1≠b):
  XS X Z' L H' {s with heap:=h',gens:=g',drawn:=d',toks:=t'}:=by
 let⟨m,⟨o,es,ep,ho,r⟩,_⟩:=id I.loc;let⟨sl,hL⟩:=u.any ho I.free λz=>(ŝ _ z).2.1 W;show I.step ŝ (λb o hL M hc e n=>u.keep b o e n (λz=>(cg.mp (I.stkSub b z)).elim hL M) hc) (λb o _ _ hc e n=>u.any e n hc) (λb o hc e n=>u.free b o e n hc) (λb o hc e=>u.there b o e hc) u.tups u.frzs u.tbls (λm' hm=>by let⟨o',Yj,Δ,Ñ,r'⟩:=hm;rw[ho] at Ñ;cases Ñ;show#[_,Yj,Δ,hL,r']) hok hg
def XS.turned{it:av}(I:XS X Z' L H s)(k:∀b o,b≠it->s.heap.get? b=U o->h'.get? b=U o)(hn:H it=B)(hL:it≠X.env.locals)
  (h1:it∈X.ex\/X.Z6.heap.objs.size<=it)(h2:∀x c,X.env.cells.lookup x=U c->c≠it)(h3:∀p∈X.pn++Z',p.1≠it):XS X Z' L H {s with heap:=h',toks:=t'}:=by
 let nit:∀b u,H b=U u->b≠it:=λb u e z=>by rw[z,hn] at e;cases e
 show I.step (ch:=[it]) (λb M=>?_) (λb o _ _ hc e _=>k b o (λz=>hc (by simp[z])) e) (λb o _ _ hc e _=>#[o.slots,k b o (λz=>hc (by simp[z])) e]) (λ_ _ _ _ n=>n)
  (λb o hc e=>#[o,k b o (λz=>hc (by simp[z])) e]) (λ_ _ e=>e) (λ_ _ _ e=>e) (λb ps e=>#[#[],by rw[e];simp]) (λm hm=>?_) (λb u e=>?_) I.bare
 .let e:b=it:=by simpa using M
  subst e;show#[h1,hL,h2,h3]
 .obtain⟨o,es,ep,ho,r⟩:=hm;show#[o,es,ep,k _ o (cL hL) ho,r]
 .refine(I.hok b u e).stay (λc v hc q=>k c v ?_ q) (λ_ q=>q) λ_ _ q=>q;rcases hc with z|z
  .rw[z];show nit b u e
  .exact nit c _ z
def XS.tok(I:XS X Z' L H s)(t:ag):XS X Z' L H {s with toks:=t}:=I.un Un.refl I.hok
def XS.kept{t':ag}(I:XS X Z' L H s)(k:∀b u,s.heap.get? b=U u->h'.get? b=U u):XS X Z' L H {s with heap:=h',toks:=t'}:=I.un (Un.kept k) (I.hok.kept k)
def XS.laid{a:av}{o:HO}{t':ag}(I:XS X Z' L H s)(k:∀b u,s.heap.get? b=U u->h'.get? b=U u)(hp:s.heap.objs.size<=a)(new:cO X.prog X.w (X0 H a o) h' a o):
  XS X Z' L (X0 H a o) {s with heap:=h',toks:=t'}:=I.un (Un.laid k hp (I.hok.fresh hp)) (I.hok.laid k hp new)
def XS.write{x e:av}{o:HO}{t':ag}(I:XS X Z' L H s)(mu:Mut (H x))(he:e=x\/H e=U (.own x))(k:∀b u,b≠e->s.heap.get? b=U u->h'.get? b=U u)(heo:∃u,h'.get? e=U u)
  (new:cO X.prog X.w (X0 H x o) h' x o):XS X Z' L (X0 H x o) {s with heap:=h',toks:=t'}:=I.un (Un.write mu he k heo) (I.hok.write mu he k heo new)
def XS.pins_of{μ:Z (av×Obj)}(I:XS X Z' L H s)(h:∀p∈μ,s.heap.get? p.1=U p.2/\H p.1=B/\p.1≠X.env.locals/\p.1∉X.fs/\∀v,p.2.data≠.cell v):XS X μ L H s:=
 #[I.ok,I.os,I.bare,I.base,I.loc,I.cell,I.free,I.freeC,λp hp=>(c8.mp hp).elim (λz=>I.pin p (m6 _ z)) (h p),I.hok,I.len]
def EM(hN:N.Nodup)(a:N[i]?=U x)(b:N[j]?=U x):i=j:=by let⟨h1,e1⟩:=dM.mp a;let⟨h2,e2⟩:=dM.mp b;show(Go hN).mp (e1.trans e2.symm)
def ER{hb:vB}{Q:m8->aH->Prop}(I:XS X Z' L H s)(hN:X.N.Nodup)(hi:X.N[i]?=U x)(hx:Ŷ X.env.scope x)(r:bF v u)
  (h:∀s',XS X Z' (L.set i (U v)) H s'->(∃a,g9 a s.heap s'.heap/\(a=X.env.locals\/X.env.cells.lookup x=U a))->Q () s')(hf:X.fn x=ai\/X.env.scope.names.lookup x=U .local:=by ac_nf):aL hb A (storeName X.env x u) Q us s:=by
 let⟨m,hn,hl⟩:=id I.loc;let hcls:(X.env.scope.kind==.class || (X.env.scope.kind==.module && X.env.locals != X.env.globals))=ar:=by rw[I.ok.kind];rfl
 let hiσ:i < L.length:=by rw[I.len];show(dM.mp hi).1
 let cne:=I.cne;let Ķ:∀{a:av}{h':Heap},(∃o,s.heap.get? a=U o/\H a=B)->g9 a s.heap h'->Ze X.prog X.w H h':=λ{a h'}ha hs b ob e=>by
  let⟨_,_,ĕ⟩:=ha;show(I.hok b ob e).stay (λc w' hc q=>(hs.2 c ?_).trans q) (λ_ q=>q) λ_ _ q=>q;rintro rfl;rcases hc with rfl|hc
  .rw[ĕ] at e;cases e
  .rw[ĕ] at hc;cases hc
 rcases hx with hk|hk
 .refine wpAny_storeName_local hk hn (λh' hn' hs=>?_) hcls;let⟨oL,_,_,Λ,_⟩:=id hn;show h _ #[I.ok,I.os,I.bare,#[λb o e n M hx=>?_,λb o e n M hx=>?_,I.base.free,λb o e hx=>?_,I.base.tups,I.base.frzs,I.base.tbls],#[_,hn',λj y v' e1 e2 e3=>?_],λy c e=>?_,I.free,I.freeC,λp hp=>?_,Ķ #[oL,Λ,I.free] hs,by simpa using I.len] #[_,hs,.inl W]
  .exact(hs.2 b (qD (qG (qv e) I.ok.above))).trans (I.base.keep b o e n M hx)
  .obtain⟨sl,e1⟩:=I.base.slot b o e n M hx;show#[sl,(hs.2 b (qD (qG (qv e) I.ok.above))).trans e1]
  .obtain⟨o',e1⟩:=I.base.there b o e hx;show#[o',(hs.2 b (qD (qG (qv e) I.ok.above))).trans e1]
  .by_cases hj:j=i
   .subst hj;rw[hi] at e1;cases e1;rw[oP hiσ] at e2;cases e2;show#[u,r,.inl #[hk,by simp]]
   .rw[qz (cL hj)] at e2;let⟨u',r',q⟩:=hl j y v' e1 e2 e3;show#[u',r',?_];rcases q with⟨k,e⟩|⟨k,c,e,z⟩
    .refine .inl #[k,?_];let:y≠x:=λe=>hj (EM hN e1 (e▸hi));simp[this,e]
    .exact .inr #[k,c,e,z.sameBut hs (cne y c e)]
  .obtain⟨w',z⟩:=I.cell y c e;show#[w',z.sameBut hs (cne y c e)]
  .obtain⟨e,n,ne,nf,d⟩:=I.pin p hp;show#[(hs.2 p.1 ne).trans e,n,ne,nf,d]
 .let hfn:X.fn x=ai:=by
   rcases hf with z|z
   .exact z
   .rw[z] at hk;cases hk
  let⟨c,hc⟩:=I.ok.has x (.inl hk);let⟨w',z⟩:=I.cell x c hc;show wpAny_storeName_cell I.ok.kind hk hc z (λh' Ş hs=>?_);let⟨oc,hoc,hocd⟩:=id z;show h {s with heap:=h'} #[I.ok,I.os,I.bare,#[λb o e n M hx=>?_,λb o e n M hx=>?_,I.base.free,λb o e hx=>?_,I.base.tups,I.base.frzs,I.base.tbls],#[m,hn.sameBut hs (cL (cne x c hc)),λj y v' e1 e2 e3=>?_],λy c' e=>?_,I.free,I.freeC,λp hp=>?_,Ķ #[oc,hoc,I.freeC x c hc] hs,by simpa using I.len] #[c,hs,.inr hc]
  .exact(hs.2 b (qD (qG (qv e) (I.ok.cab x c hfn hc)))).trans (I.base.keep b o e n M hx)
  .obtain⟨sl,e1⟩:=I.base.slot b o e n M hx;show#[sl,(hs.2 b (qD (qG (qv e) (I.ok.cab x c hfn hc)))).trans e1]
  .obtain⟨o',e1⟩:=I.base.there b o e hx;show#[o',(hs.2 b (qD (qG (qv e) (I.ok.cab x c hfn hc)))).trans e1]
  .by_cases hj:j=i
   .subst hj;rw[hi] at e1;cases e1;rw[oP hiσ] at e2;cases e2;show#[u,r,.inr #[.inl hk,c,hc,Ş]]
   .rw[qz (cL hj)] at e2;let⟨u',r',q⟩:=hl j y v' e1 e2 e3;show#[u',r',?_];rcases q with q|⟨k,c',e,z'⟩
    .exact .inl q
    .refine .inr #[k,c',e,z'.sameBut hs ?_];rintro rfl;show hj (EM hN e1 (I.ok.inj _ _ _ e hc▸hi))
  .by_cases hcc:c'=c
   .subst hcc;show#[_,Ş]
   .obtain⟨w2,z2⟩:=I.cell y c' e;show#[w2,z2.sameBut hs hcc]
  .obtain⟨e,n,ne,nf,d⟩:=I.pin p hp;show#[(hs.2 p.1 ?_).trans e,n,ne,nf,d];intro q;rw[q,hoc] at e;let q':oc=p.2:=qI e;show d w' (by rw[<-q'];show hocd)
def A7{hb:vB}{Q:m8->aH->Prop}(I:XS X Z' L H s)(hN:X.N.Nodup)(hi:X.N[i]?=U x)(hx:Ŷ X.env.scope x)(r:bF v u)
  (h:∀s',XS X Z' (L.set i (U v)) H s'->Q () s')(hf:X.fn x=ai\/X.env.scope.names.lookup x=U .local:=by ac_nf):aL hb A (storeName X.env x u) Q us s:=
 ER I hN hi hx r (λs' I' _=>h s' I') hf
def XS.call'{ch:Z av}(I:XS X Z' L H s)(ho:s'.os=s.os)(u:Un (Š X.stack) ch H H' s.heap s'.heap)(hok:Ze X.prog X.w H' s'.heap)(hg:lI s'.gens)
  (ŝ:∀b∈ch,(b∈X.ex\/X.Z6.heap.objs.size<=b)/\b≠X.env.locals/\(∀x c,X.env.cells.lookup x=U c->c≠b)/\∀p∈X.pn++Z',p.1≠b):XS X Z' L H' s':=by
 let⟨h',g',d',t',o'⟩:=s';let e:o'=s.os:=ho;subst e;show I.call u hok hg ŝ
end
abbrev XK:=aw->au av->Hp->Prop
abbrev St:=Z (au V)
abbrev VK:=V->Hp->Prop
abbrev TE:=St->Hp->VK->Prop
abbrev TT:=St->Hp->(aJ->Hp->Prop)->Prop
abbrev TA:=St->Hp->(Z V->Hp->Prop)->Prop
structure gm where
 nx:St->Hp->Prop
 rt:VK
 bk:St->Hp->Prop:=λ_ _=>False
 ct:St->Hp->Prop:=λ_ _=>False
abbrev TS:=gm->St->Hp->Prop
def EP(X:Cx)(Z':Z (av×Obj))(L:St)(Q:VK)(u:aw)(s':aH):Prop:=∃v H',XS X Z' L H' s'/\bF v u/\Q v H'
def TP(X:Cx)(Z':Z (av×Obj))(L:St)(Q:aJ->Hp->Prop)(b:aJ)(s':aH):Prop:=∃H',XS X Z' L H' s'/\Q b H'
def AP(X:Cx)(Z':Z (av×Obj))(L:St)(Q:Z V->Hp->Prop)(E:Z aw)(s':aH):Prop:=∃vs H',XS X Z' L H' s'/\bi vs E/\Q vs H'
def SP(X:Cx)(Z':Z (av×Obj))(D:gm)(f:Flow)(s':aH):Prop:=
 match f with
 |.next=>∃Z5 H',XS X Z' Z5 H' s'/\D.nx Z5 H'
 |.brk=>∃Z5 H',XS X Z' Z5 H' s'/\D.bk Z5 H'
 |.cont=>∃Z5 H',XS X Z' Z5 H' s'/\D.ct Z5 H'
 |.ret u=>∃v Z5 H',XS X Z' Z5 H' s'/\bF v u/\D.rt v H'
def PE(X:Cx)(e:Expr)(t:TE):Prop:=
 ∀(Z':Z (av×Obj))(s:aH)(L:St)(H:Hp)(Q:VK),XS X Z' L H s->t L H Q->aL .(t) X.A (eval e X.env) (EP X Z' L Q) X.xe s
def PT(X:Cx)(e:Expr)(t:TT):Prop:=
 ∀(Z':Z (av×Obj))(s:aH)(L:St)(H:Hp)(Q:aJ->Hp->Prop),XS X Z' L H s->t L H Q->aL .(t) X.A (isTrue e X.env (eval e X.env)) (TP X Z' L Q) X.xe s
def PW(X:Cx)(e:Expr)(t:TT):Prop:=
 ∀(Á:Sem aw)(Z':Z (av×Obj))(s:aH)(L:St)(H:Hp)(Q:aJ->Hp->Prop),XS X Z' L H s->t L H Q->aL .(t) X.A (isTrue e X.env Á) (TP X Z' L Q) X.xe s
variable{e:Expr}
def PW.pt{t:TT}(h:PW X e t):PT X e t:=h _
def PA(X:Cx)(es:Z Expr)(t:TA):Prop:=
 ∀(pos:di)(Z':Z (av×Obj))(s:aH)(L:St)(H:Hp)(Q:Z V->Hp->Prop),XS X Z' L H s->t L H Q->aL .(t) X.A (spliced (bW pos (aM es X.env))) (AP X Z' L Q) X.xe s
def PS(X:Cx)(st:Stmt)(t:TS):Prop:=
 ∀(Z':Z (av×Obj))(s:aH)(L:St)(H:Hp)(D:gm),XS X Z' L H s->t D L H->aL .(t) X.A (exec st X.env) (SP X Z' D) X.xe s
def Ě(X:Cx)(st:Z Stmt)(t:TS):Prop:=
 ∀(Z':Z (av×Obj))(s:aH)(L:St)(H:Hp)(D:gm),XS X Z' L H s->t D L H->aL .(t) X.A (execs st X.env) (SP X Z' D) X.xe s
variable{α:Type}
def YI{t:Sem α}{Q Q':α->aH->Prop}{hb:vB}(h:aL hb A t Q us s)(hQ:∀a s,Q a s->Q' a s):aL hb A t Q' us s:=iw h hQ λ_ _ x=>x
variable{pos:di}{L:St}{Q:aw->aH->Prop}{b:Expr}{ta:TE}
section
noncomputable def Fy(i:ag):TE:=λL H Q=>∃v,L[i]?=U (U v)/\Q v H
noncomputable def tC(v:V):TE:=λ_ H Q=>Q v H
def gH(hN:X.N[i]?=U x)(hv:Ġ X.env.scope x)(hd:(x==("__debug__":aj))=ar:=by decide)(Yp:(x==("__classdict__":aj))=ar:=by decide):PE X (.Name x pos) (Fy i):=by
 intro Z' s L H Q I h;let⟨v,e,h⟩:=h;let⟨m,hn,hl⟩:=I.loc;let⟨u,r,l⟩:=hl i x v hN e hv;let Yy:EP X Z' L Q u s:=#[v,H,I,r,h];rcases l with⟨hk,hm⟩|⟨hk,c,hc,Ł⟩
 .exact Gp (wpAny_loadName_local I.ok.kind hk hn hm Yy) hd
 .rcases hk with hk|hk
  .exact Gp (wpAny_loadName_cell I.ok.kind hk hc Ł Yy) hd
  .exact Gp (wpAny_loadName_free I.ok.kind hk hc Ł Yy Yp) hd
def Gb{i j pos}:PE X (.Constant (.int i) j pos) (tC (.int i)):=λ_ _ _ H _ I h=>wpAny_Constant_int #[.int i,H,I.tok _,#[_,W],h]
def Lu{b j pos}:PE X (.Constant (.bool b) j pos) (tC (.bl b)):=λ_ _ _ H _ I h=>Constant_bool #[.bl b,H,I,W,h]
def Qv{j pos}:PE X (.Constant .none j pos) (tC .non):=λ_ _ _ H _ I h=>Gq #[.non,H,I,W,h]
def SU{x j pos}:PE X (.Constant (.str x) j pos) (tC (.str x)):=λ_ _ _ H _ I h=>Calls.Constant_str #[.str x,H,I.tok _,#[_,W],h]
def Gl(X:Cx)(x:aj):Prop:=X.env.kindOf x=U .globalImplicit
def yF(I:XS X Z' L H s)(hg:Gl X x)(hm:X.mg x=U u)(h:Q u s)
  (hd:(x==("__debug__":aj))=ar:=by decide):aL .(t) X.A (eval (.Name x pos) X.env) Q us s:=
 UV I.ok.kind hg (Calls.loadGlobal_global (by rw[I.ok.glob];show I.mod.glob.keeps I.bk) hm h) hd
def jM(I:XS X Z' L H s)(hg:Gl X x)(hm:X.mg x=B)(hv:dz x=U u)(h:Q u s)
  (hn:x≠"__name__":=by decide)(hd:(x==("__debug__":aj))=ar:=by decide):aL .(t) X.A (eval (.Name x pos) X.env) Q us s:=by
 let⟨mb,h1,h2⟩:=I.mod.blt;show UV I.ok.kind hg (Calls.loadGlobal_builtin (by rw[I.ok.glob];show I.mod.glob.keeps I.bk) hm (by rw[I.ok.blt];show h1.keeps I.bk) ((h2 x hn).trans hv) h) hd
def HS(hg:Gl X x)(hm:X.mg x=U u)(r:bF v u)(hd:(x==("__debug__":aj))=ar:=by decide):PE X (.Name x pos) (tC v):=
 λ_ _ _ H _ I h=>yF I hg hm #[v,H,I,r,h] hd
def R3(hg:Gl X x)(hm:X.mg x=B)(hv:dz x=U u)(r:bF v u)(hn:x≠"__name__":=by decide)(hd:(x==("__debug__":aj))=ar:=by decide):PE X (.Name x pos) (tC v):=
 λ_ _ _ H _ I h=>jM I hg hm hv #[v,H,I,r,h] hn hd
variable{a:Expr}{tb:TE}
noncomputable def tB(t:TE):TT:=λL H Q=>t L H λx H1=>∃c,x=.bl c/\Q c H1
def OU{t:TE}(h:PE X e t)(he:∀Á,isTrue e X.env Á=(do let v ←Á;oQ e.pos;ki [v] (truthy v)):=by intro _;rfl):PT X e (tB t):=by intro Z' s L H Q I hw;show isTrue_plain (YI (h Z' s L H _ I hw) λv s1 #[x,H1,I1,r1,q1]=>?_) (he _);let⟨d,rfl,q⟩:=q1;cases r1;show jB #[H1,I1,q]
variable{tA tB':TT}{bS:Z Expr}
noncomputable def IF(t u:TT):TT:=λL H Q=>t L H λc H1=>if c=ai then u L H1 Q else Q ar H1
noncomputable def tOr(t u:TT):TT:=λL H Q=>t L H λc H1=>if c=ai then Q ai H1 else u L H1 Q
noncomputable def UM(t:TT):TT:=λL H Q=>t L H λc H1=>Q (!c) H1
def LD(ha:PT X a tA):PW X (.BoolOp .And [a] pos) tA:=by
 intro wh Z' s L H Q I h;show isTrue_and (YI (ha Z' s L H Q I h) λc s1 e=>?_);cases c with
 |true=>show isTrue_and_nil e
 |false=>show e
def J2(ha:PT X a tA):PW X (.BoolOp .Or [a] pos) tA:=by
 intro wh Z' s L H Q I h;show isTrue_or (YI (ha Z' s L H Q I h) λc s1 e=>?_);cases c with
 |false=>show isTrue_or_nil e
 |true=>show e
def OS(ha:PT X a tA)(M:PW X (.BoolOp .And (b::bS) pos) tB'):PW X (.BoolOp .And (a::b::bS) pos) (IF tA tB'):=by
 intro wh Z' s L H Q I h;show isTrue_and (YI (ha Z' s L H _ I h) λc s1 #[H1,I1,q1]=>?_);cases c with
 |true=>show M wh Z' s1 L H1 Q I1 q1
 |false=>show#[H1,I1,q1]
def OA(ha:PT X a tA)(M:PW X (.BoolOp .Or (b::bS) pos) tB'):PW X (.BoolOp .Or (a::b::bS) pos) (tOr tA tB'):=by
 intro wh Z' s L H Q I h;show isTrue_or (YI (ha Z' s L H _ I h) λc s1 #[H1,I1,q1]=>?_);cases c with
 |true=>show#[H1,I1,q1]
 |false=>show M wh Z' s1 L H1 Q I1 q1
def N4(ha:PT X a tA):PT X (.UnaryOp .Not a pos) (UM tA):=by intro Z' s L H Q I h;show isTrue_not (ha Z' s L H (λc H1=>Q (!c) H1) I h)
def RC(ta tb:TE):TE:=λL H Q=>ta L H λx H1=>∃c,x=.bl c/\if c=ai then tb L H1 Q else Q (.bl ar) H1
def P9(ta tb:TE):TE:=λL H Q=>ta L H λx H1=>∃c,x=.bl c/\if c=ai then Q (.bl ai) H1 else tb L H1 Q
noncomputable def LS(ta:TE):TE:=λL H Q=>ta L H λx H1=>∃c,x=.bl c/\Q (.bl (!c)) H1
def Jd{op}{t:TE}(h:PE X a t):PE X (.BoolOp op [a] pos) t:=λZ' s L H Q I hw=>BoolOp_one (h Z' s L H Q I hw)
def Oa(ha:PE X a ta)(M:PE X (.BoolOp .And (b::bS) pos) tb):PE X (.BoolOp .And (a::b::bS) pos) (RC ta tb):=by
 intro Z' s L H Q I h;show BoolOp_and (YI (ha Z' s L H _ I h) λv s1 #[x,H1,I1,r1,q1]=>?_);let⟨c,rfl,q1⟩:=q1;cases r1;show jB ?_;cases c with
 |true=>show M Z' s1 L H1 Q I1 q1
 |false=>show#[.bl ar,H1,I1,W,q1]
def Tz(ha:PE X a ta)(M:PE X (.BoolOp .Or (b::bS) pos) tb):PE X (.BoolOp .Or (a::b::bS) pos) (P9 ta tb):=by
 intro Z' s L H Q I h;show BoolOp_or (YI (ha Z' s L H _ I h) λv s1 #[x,H1,I1,r1,q1]=>?_);let⟨c,rfl,q1⟩:=q1;cases r1;show jB ?_;cases c with
 |false=>show M Z' s1 L H1 Q I1 q1
 |true=>show#[.bl ai,H1,I1,W,q1]
def JB(ha:PE X a ta):PE X (.UnaryOp .Not a pos) (LS ta):=by intro Z' s L H Q I h;show Gr (YI (ha Z' s L H _ I h) λv s1 #[x,H1,I1,r1,q1]=>?_);let⟨c,rfl,q1⟩:=q1;cases r1;show not_of (jB #[.bl (!c),H1,I1,W,q1])
def tIf(t:TT)(ta tb:TE):TE:=λL H Q=>t L H λc H1=>if c=ai then ta L H1 Q else tb L H1 Q
def Q9{c:Expr}(hc:PT X c tA)(ha:PE X a ta)(M:PE X b tb):PE X (.IfExp c a b pos) (tIf tA ta tb):=by
 intro Z' s L H Q I h;show wpAny_IfExp (YI (hc Z' s L H _ I h) λd s1 #[H1,I1,q1]=>?_);cases d with
 |true=>show ha Z' s1 L H1 Q I1 q1
 |false=>show M Z' s1 L H1 Q I1 q1
end
def Zv(K:aS)(H:Hp)(a:av)(xs:Z V):Prop:=
 Rd H a (.lst xs) \/
  ∃(o:Obj)(XY:bI aw)(n:ag),K.lookup a=U o/\o.cls=.type "list"/\o.dict=B/\o.data=.seq XY n/\XY.size<=aK/\bi xs XY.toList
def į(K:aS)(H:Hp)(a:av)(xs:Z V):Prop:=
 Rd H a (.tup xs) \/
  ∃(o:Obj)(XY:bI aw)(n:ag),K.lookup a=U o/\o.cls=.type "tuple"/\o.data=.seq XY n/\XY.size<=aK/\bi xs XY.toList
noncomputable def Np:aw->au V
 |.none=>U .non
 |.bool b=>U (.bl b)
 |.int i _=>U (.int i)
 |.str x _=>U (.str x)
 |.ref a=>U (.ref a)
 |.type n=>U (.ty n)
 |_=>B
def bF.abs{x:V}(r:bF x u):Np u=U x:=by
 cases x with
 |non=>cases r;rfl
 |bl _=>cases r;rfl
 |int _=>let⟨t,rfl⟩:=r;rfl
 |str _=>let⟨t,rfl⟩:=r;rfl
 |ref _=>cases r;rfl
 |ty _=>cases r;rfl
variable{y:V}
def bF.inj{x:V}(r:bF x u)(q:bF y u):x=y:=qI (r.abs.symm.trans q.abs)
def bi.inj:∀{xs ys:Z V}{E:Z aw},bi xs E->bi ys E->xs=ys
 |_,_,_,.nil,.nil=>rfl
 |_,_,_,.cons r t,.cons r' t'=>by rw[r.inj r',bi.inj t t']
variable{ys:Z V}
section
variable{xs:Z V}
def XS.list(I:XS X Z' L H s)(h:Zv X.K H a xs):∃XY:Z aw,bi xs XY/\PlainL s.heap a XY.toArray/\xs.length<=aK:=by
 rcases h with h|⟨o,XY,n,hk,hc,hd,hs,hz,r⟩
 .obtain⟨z,XY,n,r,e⟩:=h.ok I.hok;show#[XY,r,#[_,n,e,W,W,W],z]
 .refine#[XY.toList,r,#[o,n,I.kIn a o hk,hc,hd,by simpa using hs],?_];let e:=r.length;simp only[fy] at e;ext
def XS.tuple(I:XS X Z' L H s)(h:į X.K H a xs):∃XY:Z aw,bi xs XY/\vA s.heap a XY.toArray/\xs.length<=aK:=by
 rcases h with h|⟨o,XY,n,hk,hc,hs,hz,r⟩
 .obtain⟨z,XY,r,p⟩:=h.ok I.hok;show#[XY,r,p,z]
 .refine#[XY.toList,r,#[o,I.kIn a o hk,hc,n,by simpa using hs],?_];let e:=r.length;simp only[fy] at e;ext
def XS.list_inj(I:XS X Z' L H s)(h:Zv X.K H a xs)(h':Zv X.K H a ys):xs=ys:=by
 let⟨XY,r,⟨o,n,e,_,_,d⟩,_⟩:=I.list h;let⟨Ĩ,r',⟨o',n',e',_,_,d'⟩,_⟩:=I.list h';rw[e] at e';cases e';rw[d] at d';injection d' with d1 _;let:XY=Ĩ:=by simpa using bM UW d1
 subst this;show r.inj r'
def XS.tuple_inj(I:XS X Z' L H s)(h:į X.K H a xs)(h':į X.K H a ys):xs=ys:=by
 let⟨XY,r,⟨o,e,_,n,d⟩,_⟩:=I.tuple h;let⟨Ĩ,r',⟨o',e',_,n',d'⟩,_⟩:=I.tuple h';rw[e] at e';cases e';rw[d] at d';injection d' with d1 _;let:XY=Ĩ:=by simpa using bM UW d1
 subst this;show r.inj r'
end
noncomputable abbrev Cx.wish(X:Cx)(us:aw->aH->Prop):Cx:={X with xe:=us}
noncomputable abbrev Cx.nox(X:Cx):Cx:=X.wish λ_ _=>False
def Cx.Ok.wish(ok:X.Ok)(us:aw->aH->Prop):(X.wish us).Ok:=
 #[ok.mod,ok.kind,ok.glob,ok.blt,ok.above,ok.inj,ok.has,ok.cab,ok.hd,ok.frames,ok.stk,ok.exf,ok.bs,ok.bsz,ok.noex,ok.exfs,ok.funs,ok.frf]
def Cx.Ok.unwish(ok:(X.wish us).Ok):X.Ok:=
 #[ok.mod,ok.kind,ok.glob,ok.blt,ok.above,ok.inj,ok.has,ok.cab,ok.hd,ok.frames,ok.stk,ok.exf,ok.bs,ok.bsz,ok.noex,ok.exfs,ok.funs,ok.frf]
def XS.wish(I:XS X Z' L H s)(us:aw->aH->Prop):XS (X.wish us) Z' L H s:=#[I.ok.wish us,I.os,I.bare,I.base,I.loc,I.cell,I.free,I.freeC,I.pin,I.hok,I.len]
def XS.unwish(I:XS (X.wish us) Z' L H s):XS X Z' L H s:=#[I.ok.unwish,I.os,I.bare,I.base,I.loc,I.cell,I.free,I.freeC,I.pin,I.hok,I.len]
def SP.unwish{D:gm}{f:Flow}{s':aH}(h:SP (X.wish us) Z' D f s'):SP X Z' D f s':=by
 cases f with
 |next=>let⟨Z5,H',I,q⟩:=h;show#[Z5,H',I.unwish,q]
 |brk=>let⟨Z5,H',I,q⟩:=h;show#[Z5,H',I.unwish,q]
 |cont=>let⟨Z5,H',I,q⟩:=h;show#[Z5,H',I.unwish,q]
 |ret u=>let⟨v,Z5,H',I,r,q⟩:=h;show#[v,Z5,H',I.unwish,r,q]
def Ě.nox{st:Z Stmt}{t:TS}(h:Ě X.nox st t):Ě X st t:=λZ' s L H D I hw=>
 iw (h Z' s L H D (I.wish _) hw) (λ_ _ q=>q.unwish) λ_ _ z=>ix z
variable{st:Stmt}{te:TE}{tc:TT}
section
variable{bS:Z Stmt}{t u:TS}
noncomputable def QP:TS:=λD L H=>D.nx L H
noncomputable def HZ(t u:TS):TS:=λD L H=>t {D with nx:=u D} L H
def UI:Ě X [] QP:=λ_ _ L H _ I h=>Gs #[L,H,I,h]
def M'(h1:PS X st t)(h2:Ě X bS u):Ě X (st::bS) (HZ t u):=by
 intro Z' s L H D I h;show UX (YI (h1 Z' s L H {D with nx:=u D} I h) λf s1 q=>?_);cases f with
 |next=>
  let⟨Z5,H',I',q⟩:=q;show h2 Z' s1 Z5 H' D I' q
 |ret v=>show q
 |brk=>show q
 |cont=>show q
def JJ(h1:PS X st t):Ě X [st] t:=by
 intro Z' s L H D I h;show UX (YI (h1 Z' s L H D I h) λf s1 q=>?_);cases f with
 |next=>show Gs q
 |ret v=>show q
 |brk=>show q
 |cont=>show q
def XS.quiet(I:XS X Z' L H s):interactive X.env=ar:=by simp[interactive,I.ok.kind]
noncomputable def Qe(te:TE):TS:=λD L H=>te L H λ_ H1=>D.nx L H1
def wM(he:PE X e te)(hs:dA e B pos.line X.env=bc ar:=by rfl):PS X (.Expr e pos) (Qe te):=by intro Z' s L H D I h;show wpAny_Expr_any (YI (he Z' s L H _ I h) λv s1 #[x,H1,I1,r1,q1]=>#[L,H1,I1,q1]) I.quiet hs
noncomputable def Ug(te:TE):TS:=λD L H=>te L H D.rt
def M5(he:PE X e te):PS X (.Return (U e) pos) (Ug te):=by intro Z' s L H D I h;show wpAny_Return_some (YI (he Z' s L H _ I h) λv s1 #[x,H1,I1,r1,q1]=>#[x,L,H1,I1,r1,q1])
noncomputable def LZ(c:TT)(t u:TS):TS:=λD L H=>c L H λb H1=>if b=ai then t D L H1 else u D L H1
def IR{c:Expr}{a b:Z Stmt}(hc:PT X c tc)(ha:Ě X a t)(M:Ě X b u):PS X (.If c a b pos) (LZ tc t u):=by
 intro Z' s L H D I h;show wpAny_If (YI (hc Z' s L H _ I h) λd s1 #[H1,I1,q1]=>?_);cases d with
 |true=>show ha Z' s1 L H1 D I1 q1
 |false=>show M Z' s1 L H1 D I1 q1
end
abbrev TG:=V->St->Hp->(St->Hp->Prop)->Prop
abbrev TGs:=Z V->St->Hp->(St->Hp->Prop)->Prop
def PG(X:Cx)(Ã:Expr)(t:TG):Prop:=
 ∀(Z':Z (av×Obj))(s:aH)(L:St)(H:Hp)(v:V)(u:aw)(Q:St->Hp->Prop),XS X Z' L H s->bF v u->t v L H Q->
  aL .(t) X.A (rP Ã X.env u) (λ_ s'=>∃Z5 H',XS X Z' Z5 H' s'/\Q Z5 H') X.xe s
def PGs(X:Cx)(ts:Z Expr)(t:TGs):Prop:=
 ∀(Z':Z (av×Obj))(s:aH)(L:St)(H:Hp)(vs:Z V)(E:Z aw)(Q:St->Hp->Prop),XS X Z' L H s->bi vs E->t vs L H Q->
  aL .(t) X.A (assignInOrder ((jC ts X.env).map (·.2)) E) (λ_ s'=>∃Z5 H',XS X Z' Z5 H' s'/\Q Z5 H') X.xe s
variable{es:Z Expr}{n:ag}{tg:Expr}{YQ:di}
noncomputable def rC(i:ag):TG:=λv L H Q=>Q (L.set i (U v)) H
def Qg(hN:X.N.Nodup)(hi:X.N[i]?=U x)(hx:Ŷ X.env.scope x)(hf:X.fn x=ai\/X.env.scope.names.lookup x=U .local:=by ac_nf):PG X (.Name x pos) (rC i):=by intro Z' s L H v u Q I r h;show UY (A7 I hN hi hx r (λs' I'=>#[_,H,I',h]) hf)
noncomputable def KA:TGs:=λvs L H Q=>vs=[]/\Q L H
noncomputable def Ou(t:TG)(u:TGs):TGs:=λvs L H Q=>∃v r,vs=v::r/\t v L H λZ5 H'=>u r Z5 H' Q
def Ng:PGs X [] KA:=by intro Z' s L H vs E Q I r h;let⟨e,h⟩:=h;subst e;cases r;show assignInOrder_nil #[L,H,I,h]
def MW{t:TG}{u:TGs}(h1:PG X e t)(h2:PGs X es u)
  (hs:(jC (e::es) X.env).map (·.2)=rP e X.env::(jC es X.env).map (·.2):=by rfl):PGs X (e::es) (Ou t u):=by
 intro Z' s L H vs E Q I r h;let⟨v,vr,e1,h⟩:=h;subst e1;cases r with
 |cons r rr=>
  rw[hs];show assignInOrder_cons (YI (h1 Z' s L H _ _ _ I r h) λ_ s1 #[Z2,H1,I1,q1]=>?_);show h2 Z' s1 Z2 H1 _ _ Q I1 rr q1
def KY(K:aS)(n:ag)(t:TGs):TG:=λv L H Q=>∃a xs,v=.ref a/\į K H a xs/\xs.length=n/\t xs L H Q
def Oc{k:ag}{t:TGs}(hc:X.calm=ai)(h:PGs X es t)
  (hn:(jC es X.env).length=n:=by rfl)(æ:(jC es X.env).findIdx? (·.1)=B:=by rfl):PG X (.Tuple es k pos) (KY X.K n t):=by
 intro Z' s L H v u Q I r hw;let⟨a,xs,e1,hq,hl,hw⟩:=hw;subst e1;cases r;let⟨XY,rv,ht,hz⟩:=I.tuple hq;show assign_Tuple_tuple (I.ok.hd hc) ht (by simp[hn,<-hl,rv.length]) æ λh' hx=>?_;let I1:XS X Z' L H {s with heap:=h'}:=I.kept λb o e=>hx b o (qD (qv e)) e;show h Z' _ L H xs _ Q I1 (by simpa using rv) hw
noncomputable def rg(te:TE)(g:TG):TS:=λD L H=>te L H λx H1=>g x L H1 D.nx
def Qu{g:TG}(he:PE X e te)(hg:PG X tg g)(hs:swapsWithSole [tg] e pos.line X.env=bc ar:=by rfl)(hw:swappedStores [tg] e X.env=bc B:=by rfl)
  (h1:(jC [tg] X.env).map (·.2)=[rP tg X.env]:=by rfl):PS X (.Assign [tg] e pos) (rg te g):=by
 intro Z' s L H D I h;show wpAny_Assign_stores (YI (he Z' s L H _ I h) λv s1 #[x,H1,I1,r1,q1]=>?_) hs hw;rw[h1];show YI (hg Z' s1 L H1 x v _ I1 r1 q1) λ_ s2 q=>q
def nS(hN:X.N.Nodup)(hi:X.N[i]?=U x)(hx:Ŷ X.env.scope x)(he:PE X e te)(hs:dA e (U (.Name x YQ)) pos.line X.env=bc ar:=by rfl)(hf:X.fn x=ai\/X.env.scope.names.lookup x=U .local:=by ac_nf):
  PS X (.Assign [.Name x YQ] e pos) (rg te (rC i)):=by
 intro Z' s L H D I h;show wpAny_Assign_Name (YI (he Z' s L H _ I h) λv s1 #[y,H1,I1,r1,q1]=>?_) hs;show A7 I1 hN hi hx r1 (λs2 I2=>#[_,H1,I2,q1]) hf
structure It where
 go:ag->Hp->Prop
 yld:ag->Hp->V->Hp->Prop
 stop:ag->Hp->Prop
def gU(X:Cx)(Z':Z (av×Obj))(H:Hp)(b:av):Prop:=
 H b=B/\b≠X.env.locals/\b∉X.fs/\(b∈X.ex\/X.Z6.heap.objs.size<=b)/\(∀x c,X.env.cells.lookup x=U c->c≠b)/\∀p∈X.pn++Z',p.1≠b
def XS.fpOk{b:av}(I:XS X Z' L H s)(M:s.heap.objs.size<=b)(hn:H' b=B):gU X Z' H' b:=by
 show#[hn,zx (qG I.lt M),I.nofs M,.inr (qO I.sz M),λx c e z=>?_,λp hp z=>?_]
 .obtain⟨v,q⟩:=I.cell x c e;show bj (qG q.lt (by rw[z];show M)) (fN _)
 .exact bj (qG (qv (I.pin p hp).1) (by rw[z];show M)) (fN _)
structure Ù(P:dy)(w:cA)(K:aS)(tg:Expr)(ao:It)(fp:Z av)(it:av)(tn:ag->Heap->Prop):Prop where
 mem:it∈fp
 obj:∀i h,tn i h->∀b∈fp,∃o,h.get? b=U o/\∀v,o.data≠.cell v
 keep:∀i h h',tn i h->(∀b∈fp,∀o,h.get? b=U o->h'.get? b=U o)->tn i h'
 item:∀(X:Cx),X.prog=P->X.w=w->X.K=K->X.calm=ai->∀(i:ag)(Z':Z (av×Obj))(s:aH)(L:St)(H:Hp)(us:aw->aH->Prop),XS X Z' L H s->(∀b∈fp,gU X Z' H b)->tn i s.heap->ao.go i H->
  aL (aN P w) X.A (hU (.ref it)) (λr s1=>∃u,r=U u /\
   aL (aN P w) X.A (zy tg (.ref it) u) (λ_ s2=>∃x H',XS X Z' L H' s2/\bF x u/\ao.yld i H x H'/\tn (i+1) s2.heap/\∀b∈fp,H' b=B) us s1) us s
 done:∀(X:Cx),X.prog=P->X.w=w->X.K=K->X.calm=ai->∀(i:ag)(Z':Z (av×Obj))(s:aH)(L:St)(H:Hp)(us:aw->aH->Prop),XS X Z' L H s->(∀b∈fp,gU X Z' H b)->tn i s.heap->ao.stop i H->
  aL (aN P w) X.A (hU (.ref it)) (λr s1=>r=B/\XS X Z' L H s1) us s
 self:∀(A:cJ)(i:ag)(s:aH)(Q:aw->aH->Prop)(us:aw->aH->Prop),tn i s.heap->Q (.ref it) s->aL (aN P w) A (kj (.ref it)) Q us s
abbrev TI:=St->Hp->(It->Hp->Prop)->Prop
def PIE(X:Cx)(Z':Z (av×Obj))(L:St)(tg:Expr)(R:It->Hp->Prop)(itv:aw)(s2:aH):Prop:=
 ∃(it:av)(fp:Z av)(tn:ag->Heap->Prop)(ao:It)(H':Hp),itv=.ref it/\XS X Z' L H' s2/\Ù X.prog X.w X.K tg ao fp it tn/\tn 0 s2.heap/\(∀b∈fp,gU X Z' H' b)/\R ao H'
def PI(X:Cx)(tg iter:Expr)(wi:TI):Prop:=
 ∀(Z':Z (av×Obj))(s:aH)(L:St)(H:Hp)(R:It->Hp->Prop),XS X Z' L H s->wi L H R->
  aL .(t) X.A (eval iter X.env) (λv s1=>aL .(t) X.A (kj v) (PIE X Z' L tg R) X.xe s1) X.xe s
def n9{hb:vB}{it:av}{o:Obj}{n:cD}{vs:bI aw}{Q:m8->aH->Prop}(ho:s.heap.get? it=U o)(hc:o.cls=.type n)(hd:o.data=.fields vs)
  (hn:["enumerate","zip","dict_itemiterator","dict_reverseitemiterator","odict_iterator","itertools.zip_longest","itertools.pairwise"].contains n=ar)(hQ:Q () s):aL hb A (zy tg (.ref it) u) Q us s:=by
 cases tg<;>first
  |show qB hQ
  |(cases u<;>first
    |show qB hQ
    |(show qx (wpAny_load ho ?_);rw[hc,hd];show aL hb A (if (["enumerate","zip","dict_itemiterator","dict_reverseitemiterator","odict_iterator","itertools.zip_longest","itertools.pairwise"].contains n && vs[0]?==U (jD _))=ai then _ else _) Q us s;rw[qZ (by intro h;rw[hn,Bool.false_and] at h;cases h)];show qB hQ))
def Itl(K:aS)(a:av):It:=
 #[λi H=>∃xs x,Zv K H a xs/\xs[i]?=U x,λi H x H'=>H'=H/\∀xs,Zv K H a xs->xs[i]?=U x,λi H=>∃xs,Zv K H a xs/\xs.length<=i]
def Itt(K:aS)(a:av):It:=
 #[λi H=>∃xs x,į K H a xs/\xs[i]?=U x,λi H x H'=>H'=H/\∀xs,į K H a xs->xs[i]?=U x,λi H=>∃xs,į K H a xs/\xs.length<=i]
noncomputable def Itr(lo:ah)(n:ag):It:=#[λi _=>i<n,λi H x H'=>H'=H/\x=.int (lo+i),λi _=>n<=i]
variable{K:aS}
def Qq(a it:av):Ù P w K tg (Itl K a) [it] it (λi h=>h.IsListIter it a i) where
 mem:=by simp
 obj:=λi h st b M=>by
  let e:b=it:=by simpa using M
  subst e;let⟨o,e,c,d⟩:=st;show#[o,e,λv z=>by rw[d] at z;cases z]
 keep:=λi h h' st k=>st.at λo e=>k it (by simp) o e
 item:=by intro X hP hw hK hc i Z' s L H us I hf st hg;subst hP hw hK;let⟨xs,x,hq,hx⟩:=hg;let⟨XY,rv,p,hz⟩:=I.list hq;let⟨u,hu,ru⟩:=rv.get hx;let⟨f0,f1,f2,f3,f4,f5⟩:=hf it (by simp);show wpAny_pyNext_list_item st p.isList (by simpa using hu) λh' Y7 sb=>?_;let I1:XS X Z' L H {s with heap:=h'}:=I.turned (λb o M e=>(sb.2 b M).trans e) f0 f1 f3 f4 f5;let⟨o,e,c,d⟩:=id Y7;show#[u,W,n9 e c d .(c) #[x,H,I1,ru,#[W,λys hy=>by rw[I.list_inj hy hq];show hx],Y7,λb M=>(hf b M).1]]
 done:=by intro X hP hw hK hc i Z' s L H us I hf st hg;subst hP hw hK;let⟨xs,hq,hx⟩:=hg;let⟨XY,rv,p,hz⟩:=I.list hq;let⟨f0,f1,f2,f3,f4,f5⟩:=hf it (by simp);let hl:=rv.length;show wpAny_pyNext_list_end (I.ok.hd hc) st p.isList (by simp;ext) λh' eb=>#[W,I.turned (λb o M e=>eb b o M e) f0 f1 f3 f4 f5]
 self:=λ_ _ _ _ _ st h=>wpAny_pyIter_listiter st h
def IJ(a it:av):Ù P w K tg (Itt K a) [it] it (λi h=>h.IsTupleIter it a i) where
 mem:=by simp
 obj:=λi h st b M=>by
  let e:b=it:=by simpa using M
  subst e;let⟨o,e,c,d⟩:=st;show#[o,e,λv z=>by rw[d] at z;cases z]
 keep:=λi h h' st k=>st.at λo e=>k it (by simp) o e
 item:=by intro X hP hw hK hc i Z' s L H us I hf st hg;subst hP hw hK;let⟨xs,x,hq,hx⟩:=hg;let⟨XY,rv,p,hz⟩:=I.tuple hq;let⟨u,hu,ru⟩:=rv.get hx;let⟨f0,f1,f2,f3,f4,f5⟩:=hf it (by simp);show wpAny_pyNext_tuple_item st (p) (by simpa using hu) λh' Y7 sb=>?_;let I1:XS X Z' L H {s with heap:=h'}:=I.turned (λb o M e=>(sb.2 b M).trans e) f0 f1 f3 f4 f5;let⟨o,e,c,d⟩:=id Y7;show#[u,W,n9 e c d .(c) #[x,H,I1,ru,#[W,λys hy=>by rw[I.tuple_inj hy hq];show hx],Y7,λb M=>(hf b M).1]]
 done:=by intro X hP hw hK hc i Z' s L H us I hf st hg;subst hP hw hK;let⟨xs,hq,hx⟩:=hg;let⟨XY,rv,p,hz⟩:=I.tuple hq;let⟨f0,f1,f2,f3,f4,f5⟩:=hf it (by simp);let hl:=rv.length;show wpAny_pyNext_tuple_end (I.ok.hd hc) st (p) (by simp;ext) λh' eb=>#[W,I.turned (λb o M e=>eb b o M e) f0 f1 f3 f4 f5]
 self:=λ_ _ _ _ _ st h=>wpAny_pyIter_tupleiter st h
def UH(it:av)(lo:ah)(n:ag):Ù P w K tg (Itr lo n) [it] it (λi h=>IsRangeIter h it (lo+(i:ag)*1) ((n:ah)-(i:ag)) 1) where
 mem:=by simp
 obj:=λi h st b M=>by
  let e:b=it:=by simpa using M
  subst e;show#[_,st,λv z=>by let z':Data.fields _=Data.cell v:=z;cases z']
 keep:=λi h h' st k=>k it (by simp) _ st
 item:=by intro X hP hw hK hc i Z' s L H us I hf st hg;subst hP hw hK;let⟨f0,f1,f2,f3,f4,f5⟩:=hf it (by simp);let Ya:=Walks.range (prog:=X.prog) (w:=X.w) (I.ok.hd hc) it lo 1 n;show Ya.item i s _ _ hg st λv h' tk hv Y7 kk=>?_;let⟨t,rfl⟩:=hv;let I1:XS X Z' L H {s with heap:=h',toks:=tk}:=I.turned (λb o M e=>kk b o (by simpa using M) e) f0 f1 f3 f4 f5;show#[_,W,n9 Y7 W W .(c) #[.int (lo+i),H,I1,#[t,?_],#[W,W],Y7,λb M=>(hf b M).1]];rw[Int.mul_one]
 done:=by intro X hP hw hK hc i Z' s L H us I hf st hg;subst hP hw hK;let⟨f0,f1,f2,f3,f4,f5⟩:=hf it (by simp);show wpAny_pyNext_range_end (I.ok.hd hc) st (by let:n<=i:=hg;ext) λh' eb=>#[W,I.turned (λb o M e=>eb b o M e) f0 f1 f3 f4 f5]
 self:=λ_ _ _ _ _ st h=>wpAny_pyIter_rangeiter st h
variable{p:di}{fp:Z av}{iter:Expr}{wi:TI}
def CK{R:It->Hp->Prop}{lo hi:ah}{t u v:Tok}{tk:ag}(I:XS X Z' L H s)(h1 : -(2 ^ 62)<=lo)(h2:lo<2 ^ 62)(h3 : -(2 ^ 62)<=hi)(h4:hi<2 ^ 62)
  (q:R (Itr lo (hi-lo).toNat) H):aL .(t) X.A (kj (.ref s.heap.objs.size)) (PIE X Z' L tg R) us {s with heap:=s.heap.push {cls:=.type "range",data:=.fields [.int lo t,.int hi u,.int 1 v].toArray},toks:=tk}:=by
 show wpAny_pyIter_range (IsRange.new ..) (small_one h1 h2 h3 h4) ?_;let I1:XS X Z' L H {s with heap:=s.heap.push {cls:=.type "range",data:=.fields [.int lo t,.int hi u,.int 1 v].toArray},toks:=tk}:=I.kept λb o e=>qu _ e;show#[(s.heap.push {cls:=.type "range",data:=.fields [.int lo t,.int hi u,.int 1 v].toArray}).objs.size,[(s.heap.push {cls:=.type "range",data:=.fields [.int lo t,.int hi u,.int 1 v].toArray}).objs.size],_,_,H,W,
  I1.kept λb o e=>qu _ e,UH _ lo (hi-lo).toNat,?_,λb M=>?_,q]
 .let e1:lo+((0:ag):ah)*1=lo:=by simp
  let e2:(((hi-lo).toNat:ag):ah)-((0:ag):ah)=W1 lo hi 1:=by rw[rangeSize_one];split<;>ext
  rw[e1,e2];show qH _ W
 .let e:b=(s.heap.push {cls:=.type "range",data:=.fields [.int lo t,.int hi u,.int 1 v].toArray}).objs.size:=by simpa using M
  subst e;show I1.fpOk (qw _) (I1.hok.fresh (qw _))
def MD(ta:TA):TI:=λL H R=>ta L H λvs H1=>∃j:ah,vs=[.int j] /\ -(2 ^ 62)<=j/\j<2 ^ 62/\R (Itr 0 j.toNat) H1
def Ku(ta:TA):TI:=λL H R=>ta L H λvs H1=>∃i j:ah,vs=[.int i,.int j]/\(-(2 ^ 62)<=i/\i<2 ^ 62 /\ -(2 ^ 62)<=j/\j<2 ^ 62)/\R (Itr i (j-i).toNat) H1
def Lq{a:Expr}{ta:TA}(hg:Gl X "range")(hm:X.mg "range"=B)(ha:PA X [a] ta)(hs:aM [a] X.env=[(ar,eval a X.env)]:=by rfl):PI X tg (.Call (.Name "range" p) [a] [] pos) (MD ta):=by
 intro Z' s L H R I h;show Call_ (jM I hg hm boot_range (vD (YI (ha pos Z' s L H _ I h) λE s1 #[vs,H1,I1,r1,q1]=>?_) hs W));let⟨j,e,q1,q2,q⟩:=q1;subst e;cases r1 with
 |cons r rr=>
  cases rr;let⟨t,rfl⟩:=r;show call_range_1 (CK I1 .(b) .(b) q1 q2 (by simpa using q))
def Ju{a:Expr}{ta:TA}(hg:Gl X "range")(hm:X.mg "range"=B)(ha:PA X [a,b] ta)(hs:aM [a,b] X.env=[(ar,eval a X.env),(ar,eval b X.env)]:=by rfl)(Ŀ:aM [b] X.env=[(ar,eval b X.env)]:=by rfl):
  PI X tg (.Call (.Name "range" p) [a,b] [] pos) (Ku ta):=by
 intro Z' s L H R I h;show Call_ (jM I hg hm boot_range (vD (YI (ha pos Z' s L H _ I h) λE s1 #[vs,H1,I1,r1,q1]=>?_) (by rw[hs,Ŀ]) (by rw[Ŀ];rfl)));let⟨i,j,e,⟨q1,q2,q3,q4⟩,q⟩:=q1;subst e;cases r1 with
 |cons r rr=>
  cases rr with
  |cons r' rr=>
   cases rr;let⟨t,rfl⟩:=r;let⟨t',rfl⟩:=r';show call_range_2 (CK I1 q1 q2 q3 q4 q)
def Ox(wi:TI)(g:TG)(tb:TS):TS:=λD L H=>wi L H λao H1=>∃Ya:ag->ag->St->Hp->Prop,(∃m,Ya 0 m L H1)/\∀i m L H,Ya i m L H->
 (ao.stop i H/\D.nx L H)\/(ao.go i H/\∃N:St->Hp->Prop,(∀Z5 H',N Z5 H'->∃m',m'<m/\Ya (i+1) m' Z5 H')/\∀x H',ao.yld i H x H'->g x L H' λZY H2=>tb {D with nx:=N,ct:=N,bk:=D.nx} ZY H2)
noncomputable def pB(fp:Z av)(h:Heap):Z (av×Obj):=fp.filterMap λb=>(h.get? b).map λo=>(b,o)
def uo{h:Heap}{b:av}{o:Obj}(M:b∈fp)(e:h.get? b=U o):(b,o)∈pB fp h:=rQ.mpr #[b,M,by rw[e];rfl]
def Km{h:Heap}{p:av×Obj}(hp:p∈pB fp h):p.1∈fp/\h.get? p.1=U p.2:=by
 let⟨b,M,e⟩:=rQ.mp hp;cases q:h.get? b with
 |none=>rw[q] at e;cases e
 |some o=>
  rw[q] at e;let e':(b,o)=p:=qI e;subst e';show#[M,q]
def XS.pinned(I:XS X Z' L H s)(hf:∀b∈fp,gU X Z' H b)(ho:∀b∈fp,∃o,s.heap.get? b=U o/\∀v,o.data≠.cell v):XS X (Z'++pB fp s.heap) L H s:=
 I.pins_of λp hp=>(c8.mp hp).elim (λz=>I.pin p (qS _ z)) λz=>by let⟨M,e⟩:=Km z;let⟨f0,f1,f2,_⟩:=hf p.1 M;let⟨o,e',d⟩:=ho p.1 M;rw[e] at e';cases e';show#[e,f0,f1,f2,d]
def XS.unpinned{pl:Z (av×Obj)}(I:XS X (Z'++pl) L H s):XS X Z' L H s:=I.pins_of λp hp=>I.pin p (qS _ (m6 _ hp))
def JV{body:Z Stmt}{g:TG}{tb:TS}(hp:PassesOwn .(t) X.A X.env X.xe)(hc:X.calm=ai)(hi:PI X tg iter wi)(hg:PG X tg g)(M:Ě X body tb)
  (hs:∀x,km iter X.env x=bc x:=by intro _;rfl):PS X (.For tg iter body [] pos) (Ox wi g tb):=by
 intro Z' s L H D I h;show wpAny_For (YI (hi Z' s L H _ I h) λv s1 h1=>YI h1 λitv s2 h2=>?_) hs;let⟨it,fp,tn,ao,H2,e,I2,T,Ź,f2,Ya,⟨m0,w0⟩,Ť⟩:=h2;subst e;let Ģ:∀{H':Hp},(∀b∈fp,H' b=B)->∀b∈fp,gU X Z' H' b:=λhn b M=>#[hn b M,(f2 b M).2];show codeAny_forLoop_any (λn s'=>∃i Z5 H',XS X Z' Z5 H' s'/\tn i s'.heap/\(∀b∈fp,H' b=B)/\Ya i n Z5 H') ?_ m0 #[0,L,H2,I2,Ź,λb M=>(f2 b M).1,w0];rintro n s3 ⟨i,ZZ,H3,I3,st3,fr3,w3⟩;rcases Ť i n ZZ H3 w3 with⟨stop,qn⟩|⟨go,N,hN,step⟩
 .refine vE hp (YI (T.done X W W W hc i Z' s3 ZZ H3 X.xe I3 (Ģ fr3) st3 stop) λr s4 #[hr,I4]=>?_);subst hr;show Gs #[ZZ,H3,I4,qn]
 .refine vE hp (YI (T.item X W W W hc i Z' s3 ZZ H3 X.xe I3 (Ģ fr3) st3 go) λr s4 #[u,hr,h4]=>?_);subst hr;show vE hp (YI h4 λ_ s5 #[x,H5,I5,r5,y5,st5,fr5]=>?_);let I5':=I5.pinned (Ģ fr5) (T.obj _ _ st5);show vE hp (YI (hg _ s5 ZZ H5 x u _ I5' r5 (step x H5 y5)) λ_ s6 #[ZR,H6,I6,q6]=>?_);show vE hp (YI (M _ s6 ZR H6 _ I6 q6) λf s7 q7=>?_);let again:∀{Z0:St}{H7:Hp},XS X (Z'++pB fp s5.heap) Z0 H7 s7->N Z0 H7->∃m,m<n/\∃i Z5 H',XS X Z' Z5 H' s7/\tn i s7.heap/\(∀b∈fp,H' b=B)/\Ya i m Z5 H':=λ{Z0 H7}I7 n7=>by let⟨m',hm,w7⟩:=hN Z0 H7 n7;show#[m',hm,i+1,Z0,H7,I7.unpinned,T.keep _ _ _ st5 λb M o e=>(I7.pin (b,o) (qS _ (qS _ (uo M e)))).1,λb M=>?_,w7];let⟨o,e,d⟩:=T.obj _ _ st5 b M;show(I7.pin (b,o) (qS _ (qS _ (uo M e)))).2.1
  cases f with
  |next=>let⟨Z0,H7,I7,n7⟩:=q7;show again I7 n7
  |cont=>let⟨Z0,H7,I7,n7⟩:=q7;show again I7 n7
  |brk=>let⟨Z0,H7,I7,q7⟩:=q7;show#[Z0,H7,I7.unpinned,q7]
  |ret v=>let⟨x7,Z0,H7,I7,r7,q7⟩:=q7;show#[x7,Z0,H7,I7.unpinned,r7,q7]
abbrev R2:=V->V->Hp->VK->Prop
def Yl(X:Cx)(f:aw->aw->Sem aw)(r:R2):Prop:=
 ∀(Z':Z (av×Obj))(s:aH)(L:St)(H:Hp)(x y:V)(v u:aw)(Q:VK),XS X Z' L H s->bF x v->bF y u->r x y H Q->
  aL .(t) X.A (f v u) (EP X Z' L Q) X.xe s
def UnR(X:Cx)(f:aw->Sem aw)(r:V->Hp->VK->Prop):Prop:=
 ∀(Z':Z (av×Obj))(s:aH)(L:St)(H:Hp)(x:V)(v:aw)(Q:VK),XS X Z' L H s->bF x v->r x H Q->
  aL .(t) X.A (f v) (EP X Z' L Q) X.xe s
def dZ(X:Cx)(f:aw)(r:Z V->Hp->VK->Prop):Prop:=
 ∀(Z':Z (av×Obj))(s:aH)(L:St)(H:Hp)(xs:Z V)(E:Z aw)(Q:VK),XS X Z' L H s->bi xs E->r xs H Q->
  aL .(t) X.A (call f E) (EP X Z' L Q) X.xe s
def tOp(r:R2)(ta tb:TE):TE:=λL H Q=>ta L H λx H1=>tb L H1 λy H2=>r x y H2 Q
noncomputable def tUn(r:V->Hp->VK->Prop)(ta:TE):TE:=λL H Q=>ta L H λx H1=>r x H1 Q
noncomputable def rI(XI:ah->ah->Prop)(g:ah->ah->V):R2:=λx y H Q=>∃i j,x=.int i/\y=.int j/\XI i j/\Q (g i j) H
noncomputable def ĸ(g:ah->ah->V):R2:=λx y H Q=>∃i j,x=.int i/\y=.int j/\Q (g i j) H
def rU(g:ah->V):V->Hp->VK->Prop:=λx H Q=>∃i,x=.int i/\Q (g i) H
section
variable{a c:Expr}{tb tc:TE}
def yI(ha:PE X a ta)(M:PE X b tb){R:V->V->Hp->Prop}(I:XS X Z' L H s)
  (h:ta L H λx H1=>tb L H1 λy H2=>R x y H2){f:aw->aw->Sem aw} 
  (hf:∀v u s2 x y H2,XS X Z' L H2 s2->bF x v->bF y u->R x y H2->aL .(t) X.A (f v u) Q X.xe s2):
  aL .(t) X.A (eval a X.env) (λv Z7=>aL .(t) X.A (eval b X.env) (λu Z4=>aL .(t) X.A (f v u) Q X.xe Z4) X.xe Z7) X.xe s:=by
 show YI (ha Z' s L H _ I h) λv s1 #[x,H1,I1,r1,q1]=>?_;show YI (M Z' s1 L H1 _ I1 q1) λu s2 #[y,H2,I2,r2,q2]=>?_;show hf v u s2 x y H2 I2 r1 r2 q2
def O9{op:Operator}{r:R2}(ho:Yl X (gL op) r)(ha:PE X a ta)(M:PE X b tb):PE X (.BinOp a op b pos) (tOp r ta tb):=by intro Z' s L H Q I h;show wpAny_BinOp (yI ha M I h λv u s2 x y H2 I2 rx ry q=>ho Z' s2 L H2 x y v u Q I2 rx ry q)
def QF{op:UnaryOp}{r:V->Hp->VK->Prop}(ho:UnR X (unaryOp op) r)(ha:PE X a ta):PE X (.UnaryOp op a pos) (tUn r ta):=by intro Z' s L H Q I h;show Gr (YI (ha Z' s L H _ I h) λv s1 #[x,H1,I1,r1,q1]=>ho Z' s1 L H1 x v Q I1 r1 q1)
def opI{f:aw->aw->Sem aw}{XI:ah->ah->Prop}{g:ah->ah->ah} 
  (rule:∀(i j:ah)(t u:Tok)(s:aH)(Q:aw->aH->Prop)(us:aw->aH->Prop),XI i j->Q (.int (g i j) s.toks) {s with toks:=s.toks+1}->aL .(t) X.A (f (.int i t) (.int j u)) Q us s):
  Yl X f (rI XI λi j=>.int (g i j)):=by
 intro Z' s L H x y v u Q I rx ry h;let⟨i,j,rfl,rfl,hc,q⟩:=h;let⟨t,rfl⟩:=rx;let⟨t',rfl⟩:=ry;show rule i j t t' s _ _ hc #[.int (g i j),H,I.tok _,#[_,W],q]
def Fb{f:aw->aw->Sem aw}{g:ah->ah->ah} 
  (rule:∀(i j:ah)(t u:Tok)(s:aH)(Q:aw->aH->Prop)(us:aw->aH->Prop),Q (.int (g i j) s.toks) {s with toks:=s.toks+1}->aL .(t) X.A (f (.int i t) (.int j u)) Q us s):
  Yl X f (ĸ λi j=>.int (g i j)):=by
 intro Z' s L H x y v u Q I rx ry h;let⟨i,j,rfl,rfl,q⟩:=h;let⟨t,rfl⟩:=rx;let⟨t',rfl⟩:=ry;show rule i j t t' s _ _ #[.int (g i j),H,I.tok _,#[_,W],q]
def uf{f:aw->aw->Sem aw}{g:ah->ah->aJ} 
  (rule:∀(i j:ah)(t u:Tok)(s:aH)(Q:aw->aH->Prop)(us:aw->aH->Prop),Q (.bool (g i j)) s->aL .(t) X.A (f (.int i t) (.int j u)) Q us s):
  Yl X f (ĸ λi j=>.bl (g i j)):=by
 intro Z' s L H x y v u Q I rx ry h;let⟨i,j,rfl,rfl,q⟩:=h;let⟨t,rfl⟩:=rx;let⟨t',rfl⟩:=ry;show rule i j t t' s _ _ #[.bl (g i j),H,I,W,q]
def IL(i j:ah):Prop:=0<j/\j<1073741824
def Mr(i j:ah):Prop:=0<=j/\j<=1000000/\i.natAbs<2 ^ 64
def tQ(i j:ah):Prop:=(-(2 ^ 64)<i/\i<2 ^ 64)\/(-(2 ^ 64)<j/\j<2 ^ 64)
def tQ.ok{i j:ah}(h:tQ i j):IntMulOk i j:=by
 rcases h with⟨h1,h2⟩|⟨h1,h2⟩
 .exact .of_left (intBits_le_64 h1 h2)
 .exact .of_right (intBits_le_64 h1 h2)
def Le:Yl X (gL .Add) (ĸ λi j=>.int (i+j)):=Fb λ_ _ _ _ _ _ _ q=>add_int q
def TY:Yl X (gL .Sub) (ĸ λi j=>.int (i-j)):=Fb λ_ _ _ _ _ _ _ q=>sub_int q
def UC:Yl X (gL .Mult) (rI tQ λi j=>.int (i*j)):=opI λ_ _ _ _ _ _ _ hc q=>mul_int q hc.ok
def JA:Yl X (gL .FloorDiv) (rI IL λi j=>.int (i / j)):=opI λi j _ _ _ _ _ hc q=>by let h1:(0:ah)<j:=hc.1;let h2:j<1073741824:=hc.2;show floordiv_int .(b) (by rw[Int.fdiv_eq_ediv_of_nonneg i .(b)];show q) (.inl (PyProof.noPylong_small .(b)))
def OH:Yl X (gL .Mod) (rI (λ_ j=>0<j) λi j=>.int (i%j)):=opI λi j _ _ _ _ _ hc q=>by let h1:(0:ah)<j:=hc;show mod_int' .(b) (by rw[Int.fmod_eq_emod_of_nonneg i .(b)];show q)
def Se:Yl X (gL .Pow) (rI Mr λi j=>.int (i ^ j.toNat)):=opI λ_ _ _ _ _ _ _ hc q=>pow_int_small hc.1 hc.2.1 hc.2.2 q
def unI{f:aw->Sem aw}{g:ah->ah} 
  (rule:∀(i:ah)(t:Tok)(s:aH)(Q:aw->aH->Prop)(us:aw->aH->Prop),Q (.int (g i) s.toks) {s with toks:=s.toks+1}->aL .(t) X.A (f (.int i t)) Q us s):
  UnR X f (rU λi=>.int (g i)):=by
 intro Z' s L H x v Q I rx h;let⟨i,rfl,q⟩:=h;let⟨t,rfl⟩:=rx;show rule i t s _ _ #[.int (g i),H,I.tok _,#[_,W],q]
def Rj:UnR X (unaryOp .USub) (rU λi=>.int (-i)):=unI λ_ _ _ _ _ q=>neg_int q
end
noncomputable def yD:V->V->aJ
 |.non,.non=>ai|.non,.int _=>ai|.int _,.non=>ai|.non,.bl _=>ai|.bl _,.non=>ai|.non,.str _=>ai|.str _,.non=>ai
 |.int _,.int _=>ai|.bl _,.bl _=>ai|.str _,.str _=>ai
 |.int _,.str _=>ai|.str _,.int _=>ai|.bl _,.str _=>ai|.str _,.bl _=>ai
 |_,_=>ar
def rEq:R2:=λx y H Q=>yD x y=ai/\Q (.bl (decide (x=y))) H
def rNe:R2:=λx y H Q=>yD x y=ai/\Q (.bl (!decide (x=y))) H
def Ff{i j:ah}:decide (V.int i=V.int j)=(i==j):=by rw[m9];simp
def EV{i j:aJ}:decide (V.bl i=V.bl j)=(i==j):=by rw[m9];simp
def BU{i j:aj}:decide (V.str i=V.str j)=(i==j):=by rw[m9];simp
variable{r':R2}{op ŕ:CmpOp}
section
variable{a c:Expr}{tb tc:TE}
def cH{Q:VK}{k k':aJ}(I:XS X Z' L H s)(q:Q (.bl k) H)(e:k=k'):EP X Z' L Q (.bool k') s:=by subst e;show#[.bl k,H,I,W,q]
def Nx:Yl X (dB .Eq) rEq:=by
 intro Z' s L H x y v u Q I rx ry h;let⟨hs,q⟩:=h;cases x with
 |non=>
  cases rx;cases y with
  |non=>cases ry;show W2 (cH I q (by simp))
  |bl j=>cases ry;show W3 (cH I q (by simp))
  |int j=>let⟨t',rfl⟩:=ry;show W4 (cH I q (by simp))
  |str j=>let⟨t',rfl⟩:=ry;show W5 (cH I q (by simp))
  |_=>show bj (hs) qt
 |bl i=>
  cases rx;cases y with
  |non=>cases ry;show W6 (cH I q (by simp))
  |bl j=>cases ry;show eq_bool (cH I q EV)
  |str j=>let⟨t',rfl⟩:=ry;show W7 (cH I q (by simp))
  |_=>show bj (hs) qt
 |int i=>
  let⟨t,rfl⟩:=rx;cases y with
  |non=>cases ry;show W8 (cH I q (by simp))
  |int j=>let⟨t',rfl⟩:=ry;show eq_int (cH I q Ff)
  |str j=>let⟨t',rfl⟩:=ry;show W9 (cH I q (by simp))
  |_=>show bj (hs) qt
 |str i=>
  let⟨t,rfl⟩:=rx;cases y with
  |non=>cases ry;show W' (cH I q (by simp))
  |bl j=>cases ry;show Xa (cH I q (by simp))
  |int j=>let⟨t',rfl⟩:=ry;show Xb (cH I q (by simp))
  |str j=>let⟨t',rfl⟩:=ry;show eq_str (cH I q BU)
  |_=>show bj (hs) qt
 |_=>cases y<;>show bj (hs) qt
def Td:Yl X (dB .NotEq) rNe:=by
 intro Z' s L H x y v u Q I rx ry h;let⟨hs,q⟩:=h;cases x with
 |non=>
  cases rx;cases y with
  |non=>cases ry;show Xc (cH I q (by simp))
  |bl j=>cases ry;show Xd (cH I q (by simp))
  |int j=>let⟨t',rfl⟩:=ry;show Xe (cH I q (by simp))
  |str j=>let⟨t',rfl⟩:=ry;show Xf (cH I q (by simp))
  |_=>show bj (hs) qt
 |bl i=>
  cases rx;cases y with
  |non=>cases ry;show Xg (cH I q (by simp))
  |bl j=>cases ry;show ne_bool (cH I q (bM not EV))
  |str j=>let⟨t',rfl⟩:=ry;show Xh (cH I q (by simp))
  |_=>show bj (hs) qt
 |int i=>
  let⟨t,rfl⟩:=rx;cases y with
  |non=>cases ry;show Xi (cH I q (by simp))
  |int j=>let⟨t',rfl⟩:=ry;show ne_int (cH I q (bM not Ff))
  |str j=>let⟨t',rfl⟩:=ry;show Xj (cH I q (by simp))
  |_=>show bj (hs) qt
 |str i=>
  let⟨t,rfl⟩:=rx;cases y with
  |non=>cases ry;show Xk (cH I q (by simp))
  |bl j=>cases ry;show Xl (cH I q (by simp))
  |int j=>let⟨t',rfl⟩:=ry;show Xm (cH I q (by simp))
  |str j=>let⟨t',rfl⟩:=ry;show ne_str (cH I q (bM not BU))
  |_=>show bj (hs) qt
 |_=>cases y<;>show bj (hs) qt
def Ki:Yl X (dB .Lt) (ĸ λi j=>.bl (decide (i<j))):=uf λ_ _ _ _ _ _ _ q=>lt_int q
def Qp:Yl X (dB .LtE) (ĸ λi j=>.bl (decide (i<=j))):=uf λ_ _ _ _ _ _ _ q=>le_int q
def IT:Yl X (dB .Gt) (ĸ λi j=>.bl (decide (j<i))):=uf λ_ _ _ _ _ _ _ q=>gt_int q
def MM:Yl X (dB .GtE) (ĸ λi j=>.bl (decide (j<=i))):=uf λ_ _ _ _ _ _ _ q=>ge_int q
def Nf:Yl X (dB .Lt) (λx y H Q=>∃i j,x=.str i/\y=.str j/\Q (.bl (decide (i.cps.toList<j.cps.toList))) H):=by intro Z' s L H x y v u Q I rx ry h;let⟨i,j,rfl,rfl,q⟩:=h;let⟨t,rfl⟩:=rx;let⟨t',rfl⟩:=ry;show lt_str (cH I q W)
def O4:Yl X (dB .Is) (λx y H Q=>y=.non/\Q (.bl (decide (x=.non))) H):=by
 intro Z' s L H x y v u Q I rx ry h;let⟨rfl,q⟩:=h;cases ry;show is_none_gen (cH I q ?_);cases x<;>first
  |(cases rx;rfl)
  |(let⟨t,rfl⟩:=rx;rfl)
def Us:Yl X (dB .IsNot) (λx y H Q=>y=.non/\Q (.bl (!decide (x=.non))) H):=by
 intro Z' s L H x y v u Q I rx ry h;let⟨rfl,q⟩:=h;cases ry;show isnot_none_gen (cH I q ?_);cases x<;>first
  |(cases rx;rfl)
  |(let⟨t,rfl⟩:=rx;rfl)
def Yl.or{f:aw->aw->Sem aw}{r:R2}(h:Yl X f r)(h':Yl X f r'):Yl X f (λx y H Q=>r x y H Q\/r' x y H Q):=by
 intro Z' s L H x y v u Q I rx ry q;rcases q with q|q
 .exact h Z' s L H x y v u Q I rx ry q
 .exact h' Z' s L H x y v u Q I rx ry q
def uu(b:Expr)(h:op≠.In:=by decide)(h2:op≠.NotIn:=by decide):rR op b=ar:=by
 let e1:(op==CmpOp.In)=ar:=by cases op<;>first|rfl|show bj W h
 let e2:(op==CmpOp.NotIn)=ar:=by cases op<;>first|rfl|show bj W h2
 cases b<;>simp[rR,e1,e2]
def Ri{r:R2}(ho:Yl X (dB op) r)(ha:PE X a ta)(M:PE X b tb)(hm:rR op b=ar):PE X (.Compare a [op] [b] pos) (tOp r ta tb):=by intro Z' s L H Q I h;show wpAny_Compare1 (yI ha M I h λv u s2 x y H2 I2 rx ry q=>ho Z' s2 L H2 x y v u Q I2 rx ry q) hm
noncomputable def Dx(t:TE):TT:=λL H Q=>t L H λx H'=>∃k,x=.bl k/\Q k H'
def Kx{r:R2}(ho:Yl X (dB op) r)(ha:PE X a ta)(M:PE X b tb)(hm:rR op b=ar):PT X (.Compare a [op] [b] pos) (Dx (tOp r ta tb)):=by
 intro Z' s L H Q I h;show wpAny_isTrue_Compare1 (YI (ha Z' s L H _ I h) λv s1 #[x,H1,I1,r1,q1]=>YI (M Z' s1 L H1 _ I1 q1) λu s2 #[y,H2,I2,r2,q2]=>
  YI (ho Z' s2 L H2 x y v u _ I2 r1 r2 q2) λc s3 #[z,H3,I3,r3,k,e,q3]=>?_) hm
 subst e;cases r3;show jB #[H3,I3,q3]
def zq(r r':R2)(ta tb tc:TE):TE:=λL H Q=>ta L H λx H1=>tb L H1 λy H2=>r x y H2 λz H3=>∃k,z=.bl k /\
 (if k=ai then tc L H3 λw' H4=>r' y w' H4 Q else Q (.bl ar) H3)
def Mp{r:R2}(ho:Yl X (dB op) r)(Ñ:Yl X (dB ŕ) r')(ha:PE X a ta)(M:PE X b tb)(hc:PE X c tc)
  (hm:zz [op,ŕ] [b,c]=ar:=by with_unfolding_all rfl):PE X (.Compare a [op,ŕ] [b,c] pos) (zq r r' ta tb tc):=by
 intro Z' s L H Q I h;show Compare_chain (YI (ha Z' s L H _ I h) λv s1 #[x,H1,I1,r1,q1]=>chain_link (YI (M Z' s1 L H1 _ I1 q1) λu s2 #[y,H2,I2,r2,q2]=>
  YI (ho Z' s2 L H2 x y v u _ I2 r1 r2 q2) λd s3 #[z,H3,I3,r3,k,e,q3]=>?_)) hm
 subst e;cases r3;show jB ?_;cases k with
 |false=>show ite_ff #[.bl ar,H3,I3,W,q3]
 |true=>show ite_tt (chain_last (YI (hc Z' s3 L H3 _ I3 q3) λw' s4 #[z',H4,I4,r4,q4]=>Ñ Z' s4 L H4 y z' u w' Q I4 r2 r4 q4))
def R6{r:R2}(ho:Yl X (dB op) r)(Ñ:Yl X (dB ŕ) r')(ha:PE X a ta)(M:PE X b tb)(hc:PE X c tc)
  (hm:zz [op,ŕ] [b,c]=ar:=by with_unfolding_all rfl):PT X (.Compare a [op,ŕ] [b,c] pos) (Dx (zq r r' ta tb tc)):=by
 intro Z' s L H Q I h;show isTrue_chain (YI (ha Z' s L H _ I h) λv s1 #[x,H1,I1,r1,q1]=>test_link (YI (M Z' s1 L H1 _ I1 q1) λu s2 #[y,H2,I2,r2,q2]=>
  YI (ho Z' s2 L H2 x y v u _ I2 r1 r2 q2) λd s3 #[z,H3,I3,r3,k,e,q3]=>?_)) hm
 subst e;cases r3;show jB ?_;cases k with
 |false=>
  let⟨k',e',q'⟩:=q3;cases e';show ite_ff #[H3,I3,q']
 |true=>
  show ite_tt (test_last (YI (hc Z' s3 L H3 _ I3 q3) λw' s4 #[z',H4,I4,r4,q4]=>YI (Ñ Z' s4 L H4 y z' u w' _ I4 r2 r4 q4) λd' s5 #[z2,H5,I5,r5,k2,e2,q5]=>?_));subst e2;cases r5;show jB #[H5,I5,q5]
def ud:(aK:ag)<2 ^ 63:=by rw[eM];decide
def RI:Yl X (gL .Add) (λx y H Q=>∃i j,x=.str i/\y=.str j/\i.length+j.length<=aK/\Q (.str (i++j)) H):=by intro Z' s L H x y v u Q I rx ry h;let⟨i,j,rfl,rfl,hz,q⟩:=h;let⟨t,rfl⟩:=rx;let⟨t',rfl⟩:=ry;show add_str (λt' tk=>#[.str (i++j),H,I.tok _,#[_,W],q]) hz
def dY{x:V}{E:Z aw}(r:bi [x] E):∃u,E=[u]/\bF x u:=by
 cases r with
 |cons r1 r2=>cases r2;show#[_,W,r1]
def xL{x:V}{E:Z aw}(r:bi [x,y] E):∃u w',E=[u,w']/\bF x u/\bF y w':=by
 cases r with
 |cons r1 r2=>
  cases r2 with
  |cons r3 r4=>cases r4;show#[_,_,W,r1,r3]
def Mb(hc:X.calm=ai):dZ X (.builtin "max") (λxs H Q=>∃i j,xs=[.int i,.int j]/\Q (.int (if j > i then j else i)) H):=by
 intro Z' s L H xs E Q I r h;let⟨i,j,rfl,q⟩:=h;let⟨u,w',rfl,⟨t,rfl⟩,⟨t',rfl⟩⟩:=xL r;show max_two_ints (I.ok.hd hc) λh' tk k=>#[_,H,I.kept k,?_,q];by_cases hj:j > i
 .rw[qY hj,qY hj];show#[_,W]
 .rw[qZ hj,qZ hj];show#[_,W]
def PP(hc:X.calm=ai):dZ X (.builtin "min") (λxs H Q=>∃i j,xs=[.int i,.int j]/\Q (.int (if j<i then j else i)) H):=by
 intro Z' s L H xs E Q I r h;let⟨i,j,rfl,q⟩:=h;let⟨u,w',rfl,⟨t,rfl⟩,⟨t',rfl⟩⟩:=xL r;show min_two_ints (I.ok.hd hc) λh' tk k=>#[_,H,I.kept k,?_,q];by_cases hj:j<i
 .rw[qY hj,qY hj];show#[_,W]
 .rw[qZ hj,qZ hj];show#[_,W]
def Jn(K:aS)(x:V)(H:Hp)(n:ag):Prop:=
 match x with
 |.str y=>y.length<=aK/\n=y.length
 |.ref p=>(∃xs,Zv K H p xs/\n=xs.length)\/∃xs,į K H p xs/\n=xs.length
 |_=>False
def LA:dZ X (.builtin "len") (λxs H Q=>∃x n,xs=[x]/\Jn X.K x H n/\Q (.int n) H):=by
 intro Z' s L H xs E Q I r h;let⟨x,n,rfl,e,q⟩:=h;let⟨u,rfl,rx⟩:=dY r;let hl:=ud;let hs:aK=16777216:=eM;cases x with
 |str y=>
  let⟨t,rfl⟩:=rx;obtain⟨hy,e'⟩:y.length<=aK/\n=y.length:=e;subst e';show len_str .(b) #[.int _,H,I.tok _,#[_,W],q]
 |ref p=>
  cases rx;let e':(∃xs,Zv X.K H p xs/\n=xs.length)\/∃xs,į X.K H p xs/\n=xs.length:=e;rcases e' with⟨xs,hx,e'⟩|⟨xs,hx,e'⟩
  .subst e';let⟨XY,r',pl,hz⟩:=I.list hx;let X2:=r'.length;show Calls.call_len_list pl.isList (by simp only[qC];ext) #[.int xs.length,H,I.tok _,#[_,by simp only[qC];rw[X2]],q]
  .subst e';let⟨XY,r',pl,hz⟩:=I.tuple hx;let X2:=r'.length;show len_tuple pl (by simp only[qC];ext) #[.int xs.length,H,I.tok _,#[_,by simp only[qC];rw[X2]],q]
 |_=>show(e).elim
end
structure İ(h:Heap)(x dx XI:av)(mA:aj->au aw):Prop where
 obj:h.get? x=U (m5 XI dx)
 ns:h.Ns1 dx mA
 ne:dx≠x
variable{dx:av}{mA:aj->au aw}
def NS{h:Heap}(n:h.Ns1 dx mA):∃od,h.get? dx=U od/\∀name,zA name od=U (mA name):=by
 let⟨o,es,ep,ho,hd,hk,_,hm⟩:=n;show#[o,ho,λname=>?_];let e:=hm name;unfold nsFind findBy at e;rw[<-Array.find?_toList] at e;unfold zA;rw[hd];dsimp only;split
 .rename_i y q;rw[q] at e;show bM U e
 .rename_i q;rw[q] at e;let a:es.toList.any (·.refKey)=ar:=by rw[Gu];intro y hy;let⟨z,t,ç⟩:=hk y (Gv.mp hy);simp[DictEntry.refKey,ç]
  let a':¬es.toList.any (·.refKey)=ai:=by rw[a];show qt
  rw[qZ a'];show bM U e
variable{XI:av}
def İ.look{h:Heap}{x:av}(I:İ h x dx XI mA):∃od,PySem.W.InstAt h x (m5 XI dx) XI (U od)/\∀name,zA name od=U (mA name):=
 let #[od,ho,hl]:=NS I.ns
 #[od,#[I.obj,W,W,ho],hl]
variable{prog:dy}{name:aj}{pl:Sem aJ}{kw:Z (aj×aw)}
section
variable{x f:av}{v:aw}
def RF{expr:aJ}(X:K.In s.heap)(I:İ s.heap x dx XI mA)(hg:oR K XI name=ai)(hh:rS K XI=ai)
  (ha:cj K (.ref XI) name=U B)(hv:mA name=U v)(Zt:UZ v=ai)(h:Q v {s with toks:=s.toks+1}):
  aL (aN prog w) A (getAttr (.ref x) name expr) Q us s:=by
 let⟨od,ao,hl⟩:=I.look;show PySem.W.get_value X ao (Gw hg).1 (PySem.W.findObj_own hh ha W (by rw[hl,hv])) Zt h
def Qz{Q:aw×Z aw->aH->Prop}(X:K.In s.heap)(I:İ s.heap x dx XI mA)(hg:oR K XI name=ai)
  (hf:cj K (.ref XI) name=U (U (.ref f)))(ht:oT K (.ref f)=ai)(hv:mA name=B)(h:Q (.ref f,[.ref x]) s):
  aL (aN prog w) A (oU (.ref x) name pl) Q us s:=by
 let⟨od,ao,hl⟩:=I.look;show PySem.W.method_fn X ao (Gw hg).1 (Gw hg).2 hf (ko.mp ht) (by show(zA name od).map (·.isSome)=U ar;rw[hl,hv];rfl) h
def Tj{ns:Z aj}{Q:m8->aH->Prop}(X:K.In s.heap)(I:İ s.heap x dx XI mA)
  (hs:cj K (.ref XI) "__setattr__"=U (U (.builtin "object.__setattr__")))(hp:vF K XI=ai)(ht:Gx K XI name=U B)(hh:rS K XI=ai)
  (hw:Gm mA ns)(Zw:ns.length<=aK)
  (h:∀h',İ h' x dx XI (λy=>if y=name then U v else mA y)->g9 dx s.heap h'->Q () {s with heap:=h',toks:=s.toks+2}):
  aL (aN prog w) A (setAttr (.ref x) name v) Q us s:=by
 let⟨od,ao,hl⟩:=I.look;show PySem.W.set_plain X ao hs (PySem.W.osa_open X ao hp ht λb=>?_);let⟨cd,hc,Ö⟩:=PySem.W.any_some hh;let hx:s.heap.get? x=U #[.ref XI,U dx,.plain,#[]]:=I.obj;show qx (qB (qx (qx (wpAny_loadPart hx (qx (Xn (PySem.W.looks_clsIn X hc) ?_))))));rw[Ö];show qB (qx (qB (qx ?_)));show wpAny_nsSet1 I.ns λh' hn2 Ŀ=>?_;let⟨oD,esD,epD,hoD,hdD,hcD⟩:=hn2.count (Xo name v hw);show qx (wpAny_lookBehind hoD (by rw[hdD];show pastItsLine_dict (qO hcD (by rw[qi];ext))) ?_);show qB (h _ #[(Ŀ.2 _ (cL I.ne)).trans I.obj,hn2,I.ne] Ŀ)
def K1{R:lJ->aH->Prop}{vs:Z aw}(X:K.In s.heap)(hm:rT K XI=ai)
  (hi:cj K (.ref XI) "__init__"=U (U (.ref f)))(hf:PySem.W.typeIn K (.ref f)=U (.type "function"))
  (h:fz (aN prog w) (A.under (.builtin "type.__call__" #[.ref XI::vs,kw])) (.call (.ref f) #[.ref (s.heap.objs.size+1)::vs,kw]) (PySem.W.InitBack (s.heap.objs.size+1) R)
   {s with heap:=(s.heap.push nc).push (m5 XI s.heap.objs.size)}):
  fz (aN prog w) A (.call (.ref XI) #[vs,kw]) R s:=by
 let⟨hh,g,d,t,os⟩:=s;show PySem.W.make_core (PySem.W.makes_of X hm) (PySem.W.looks_findIn X hi) (λself=>PySem.W.bind_fn X self hf) (.inl W) h
end
noncomputable def fm(f:aj)(v:V):Z (aj×V)->Z (aj×V)
 |[]=>[(f,v)]
 |(g,x)::r=>if g=f then (g,v)::r else (g,x)::fm f v r
def F5(f g:aj)(v:V):∀fs:Z (aj×V),(fm f v fs).lookup g=if g=f then U v else fs.lookup g
 |[]=>by
  show cS g [(f,v)]=_;by_cases h:g=f
  .let M:(g==f)=ai:=ko.mpr h;simp only[cS,M,qY h]
  .let M:(g==f)=ar:=lF.mpr h;simp only[cS,M,qZ h]
 |(k,x)::r=>by
  let ih:=F5 f g v r;rw[show fm f v ((k,x)::r)=(if k=f then (k,v)::r else (k,x)::fm f v r) from W];by_cases hk:k=f
  .rw[qY hk];by_cases h:g=k
   .let M:(g==k)=ai:=ko.mpr h;simp only[cS,M,qY (h.trans hk)]
   .let M:(g==k)=ar:=lF.mpr h;simp only[cS,M,qZ (λe:g=f=>h (e.trans hk.symm))]
  .rw[qZ hk];by_cases h:g=k
   .let M:(g==k)=ai:=ko.mpr h;simp only[cS,M,qZ (λe:g=f=>hk (h.symm.trans e))]
   .let M:(g==k)=ar:=lF.mpr h;simp only[cS,M];show ih
def wI(f:aj)(v:V):∀fs:Z (aj×V),f∈(fm f v fs).map (·.1)/\∀g,g∈fs.map (·.1)->g∈(fm f v fs).map (·.1)
 |[]=>#[by simp[fm],λg h=>by simp at h]
 |(k,x)::r=>by
  let⟨i1,i2⟩:=wI f v r;rw[show fm f v ((k,x)::r)=(if k=f then (k,v)::r else (k,x)::fm f v r) from W];by_cases hk:k=f
  .rw[qY hk];subst hk;show#[by simp,λg h=>by simpa using h]
  .rw[qZ hk];show#[?_,λg h=>?_]
   .rw[qo];show qh _ i1
   .rw[qo] at h ⊢;rcases cg.mp h with e|e
    .exact cg.mpr (.inl e)
    .exact qh _ (i2 g e)
def D4(f:aj)(v:V):∀fs:Z (aj×V),(fm f v fs).length<=fs.length+1
 |[]=>by simp[fm]
 |(k,x)::r=>by
  let ih:=D4 f v r;rw[show fm f v ((k,x)::r)=(if k=f then (k,v)::r else (k,x)::fm f v r) from W];by_cases hk:k=f
  .rw[qY hk,qi,qi];ext
  .rw[qZ hk,qi,qi];ext
def fD.some_of{o:au aw}(r:fD (U v) o):∃u,o=U u/\bF v u:=by
 cases o with
 |none=>show(r).elim
 |some u=>show#[u,W,r]
def fD.none_of{o:au aw}(r:fD B o):o=B:=by
 cases o with
 |none=>rfl
 |some u=>show(r).elim
def JL(r:bF v u):UZ u=ai:=by
 cases v with
 |non=>cases(r);rfl
 |bl b=>cases(r);rfl
 |int i=>let⟨t,e⟩:=(r);cases e;rfl
 |str x=>let⟨t,e⟩:=(r);cases e;rfl
 |ref a=>cases(r);rfl
 |ty n=>cases(r);rfl
section
variable{h:Heap}{fs À:Z (aj×V)}
def tz(hok:Ze P w H h)(e:H a=U (.ins XI dx fs)):∃mA,İ h a dx XI mA/\(∀f,fD (fs.lookup f) (mA f))/\Gm mA (fs.map (·.1))/\fs.length<=1000/\H dx=U (.own a):=by let⟨d,z,ne,ob,mA,n,r,q⟩:=(hok a _ e);show#[mA,#[ob,n,ne],r,q,z,d]
end
structure Ň(K:aS)(XI:av):Prop where
 pg:oR K XI jE=ai
 hd:rS K XI=ai
 po:vF K XI=ai
 sa:cj K (.ref XI) "__setattr__"=U (U (.builtin "object.__setattr__"))
def Ň.get(c:Ň K XI)(f:aj):oR K XI f=ai:=c.pg
def kQ(K:aS)(XI:av)(f:aj):Prop:=cj K (.ref XI) f=U B
def kQ.taker{K:aS}{XI:av}{f:aj}(n:kQ K XI f):Gx K XI f=U B:=by unfold Gx;rw[show cj K (.ref XI) f=U B from n];rfl
structure Ŵ(K:aS)(XI:av)(m:aj)(f:av):Prop where
 at_:cj K (.ref XI) m=U (U (.ref f))
 fn:oT K (.ref f)=ai
 kp:gr K (.ref f)=ai
variable{m:aj}{env:cB}
section
variable{fs:Z (aj×V)}{f:aj}
def SM{b:aJ}(I:XS X Z' L H s)(e:H a=U (.ins XI dx fs))(c:Ň X.K XI)(n:kQ X.K XI f)(l:fs.lookup f=U v)
  (h:∀u s',XS X Z' L H s'->bF v u->Q u s'):aL .(t) A (getAttr (.ref a) f b) Q us s:=by
 let⟨mA,Γ,r,_,_,_⟩:=tz I.hok e;let⟨u,hu,ru⟩:=fD.some_of (by rw[<-l];show r f);show RF I.kIn Γ (c.get f) c.hd n hu (JL ru) (h u _ (I.tok _) ru)
def AX{g:av}{Q:aw×Z aw->aH->Prop}(I:XS X Z' L H s)(e:H a=U (.ins XI dx fs))(c:Ň X.K XI)(k:Ŵ X.K XI m g)(l:fs.lookup m=B)
  (h:Q (.ref g,[.ref a]) s):aL .(t) A (oU (.ref a) m pl) Q us s:=by
 let⟨mA,Γ,r,_,_,_⟩:=tz I.hok e;let hn:mA m=B:=fD.none_of (by rw[<-l];show r m);show Qz I.kIn Γ (c.get m) k.at_ k.fn hn h
def Kr{Q:m8->aH->Prop}(I:XS X Z' L H s)(e:H a=U (.ins XI dx fs))(c:Ň X.K XI)(n:kQ X.K XI f)(hl:fs.length<1000)(ry:bF y u)
  (h:∀s',XS X Z' L (X0 H a (.ins XI dx (fm f y fs))) s'->Q () s'):aL .(t) A (setAttr (.ref a) f u) Q us s:=by
 let⟨mA,Γ,r,wi,_,ho⟩:=tz I.hok e;let hz:(fs.map (·.1)).length<=aK:=by rw[qf,eM];ext
 show Tj I.kIn Γ c.sa c.po n.taker c.hd wi hz λh' O' sb=>h _ ?_;let hd:∃o,h'.get? dx=U o:=let #[o,_,_,e',_]:=O'.ns;#[o,e']
 show I.write (by rw[e];show kq) (.inr ho) (λb q M z=>(sb.2 b M).trans z) hd ?_;show#[by rw[aD Γ.ne];show ho,?_,Γ.ne,O'.obj,_,O'.ns,λg=>?_,λg hg=>?_]
 .let:=D4 f y fs;ext
 .show fD ((fm f y fs).lookup g) (if g=f then U u else mA g);rw[F5];by_cases q:g=f
  .rw[qY q,qY q];show ry
  .rw[qZ q,qZ q];show r g
 .by_cases q:g=f
  .rw[q];show(wI f y fs).1
  .refine(wI f y fs).2 g (wi g λz=>hg ?_);show(if g=f then U u else mA g)=B;rw[qZ q];show z
def XS.made(I:XS X Z' L H s):XS X Z' L (X0 (X0 H s.heap.objs.size (.own (s.heap.objs.size+1))) (s.heap.objs.size+1) (.ins XI s.heap.objs.size []))
  {s with heap:=(s.heap.push nc).push (m5 XI s.heap.objs.size)}:=by
 let e1:(s.heap.push nc).get? s.heap.objs.size=U nc:=qH s.heap W;let e2:((s.heap.push nc).push (m5 XI s.heap.objs.size)).get? (s.heap.objs.size+1)=U (m5 XI s.heap.objs.size):=by
  let:=qH (s.heap.push nc) (o:=m5 XI s.heap.objs.size) W
  rwa [jF] at this
 let e3:(s.heap.push nc).Ns s.heap.objs.size (λ_=>B):=#[nc,#[],_,e1,W,(λe he=>bj he (by simp)),λ_=>rfl];let I1:=I.laid (o:=.own (s.heap.objs.size+1)) (t':=s.toks) (λb u q=>qu _ q) (qw _) #[_,e1];show I1.laid (λb u q=>qu _ q) (zB (jF _ _)) ?_;let ne:s.heap.objs.size≠s.heap.objs.size+1:=qD (ng _);show#[by rw[aD ne,bf],gM _,ne,e2,λ_=>B,(Heap.Ns1.of_empty e3).at λo q=>qu _ q,λ_=>kq,λy hy=>bj W hy]
def NG(M:gN e f env (eval e env)=eval e env)
  (h:aL (aN prog w) A (eval e env) (λo Z7=>aL (aN prog w) A (getAttr o f ai) Q us Z7) us s):aL (aN prog w) A (eval (.Attribute e f pos) env) Q us s:=
 Attribute_any_ h (by rw[arm_eval_Attribute,M])
end
def II(K:aS)(ta:TE)(f:aj):TE:=λL H Q=>ta L H λx H1=>∃a XI dx fs v,x=.ref a/\H1 a=U (.ins XI dx fs)/\Ň K XI/\kQ K XI f/\fs.lookup f=U v/\Q v H1
def S5(K:aS)(ta tv:TE)(f:aj):TS:=λD L H=>tv L H λy H1=>ta L H1 λx H2=>∃a XI dx fs,x=.ref a/\H2 a=U (.ins XI dx fs)/\Ň K XI/\kQ K XI f/\fs.length<1000 /\
 D.nx L (X0 H2 a (.ins XI dx (fm f y fs)))
variable{o YL:Expr}{tpos:di}{tv:TE}
section
variable{f:aj}
def ua(he:PE X e ta)(M:gN e f X.env (eval e X.env)=eval e X.env):PE X (.Attribute e f pos) (II X.K ta f):=by intro Z' s L H Q I h;show NG M (YI (he Z' s L H _ I h) λu s1 #[x,H1,I1,rx,a,XI,dx,fs,v,ex,ea,c,n,l,q]=>?_);subst ex;obtain rfl:u=cI a:=rx;show SM I1 ea c n l λu' s2 I2 ru=>#[v,H1,I2,ru,q]
def pV(ha:PE X o ta)(hv:PE X YL tv)(hs:dA YL (U (.Attribute o f YQ)) pos.line X.env=bc ar):PS X (.Assign [.Attribute o f YQ] YL pos) (S5 X.K ta tv f):=by intro Z' s L H D I h;show plainObj_wpAny_Assign_Attribute (YI (hv Z' s L H _ I h) λu s1 #[y,H1,I1,ry,q]=>YI (ha Z' s1 L H1 _ I1 q) λov s2 #[x,H2,I2,rx,a,XI,dx,fs,ex,ea,c,n,l,q2]=>?_) hs;subst ex;obtain rfl:ov=cI a:=rx;show Kr I2 ea c n l ry λs3 I3=>#[L,_,I3,q2]
end
section
variable{c:aw}{b:aJ}
inductive Zs(K:aS)(H:Hp):V->aw->Prop where
 |non:Zs K H .non (.type "NoneType")
 |bl (x:aJ):Zs K H (.bl x) (.type "bool")
 |int (i:ah):Zs K H (.int i) (.type "int")
 |str (x:aj):Zs K H (.str x) (.type "str")
 |lst {a:av} {xs:Z V} (e:H a=U (.lst xs)):Zs K H (.ref a) (.type "list")
 |frz {a:av} {o:Obj} {xs:Z V} (e:H a=U (.frz o (.lst xs))):Zs K H (.ref a) (.type "list")
 |tup {a:av} {xs:Z V} (e:H a=U (.tup xs)):Zs K H (.ref a) (.type "tuple")
 |dK {a:av} {XJ:Z (XR×V)} (e:H a=U (.dK XJ)):Zs K H (.ref a) (.type "dict")
 |dT {a:av} {XJ:Z (Z XR×V)} (e:H a=U (.dT XJ)):Zs K H (.ref a) (.type "dict")
 |ins {a XI dx:av} {fs:Z (aj×V)} (e:H a=U (.ins XI dx fs)) (cl:Ň K XI) (ha:cj K (.ref XI) "__class__"=U (U (.builtin "object.__class__")))
   (hn:PySem.W.specialIn K (.builtin "object.__class__") "__get__"=U (U (.builtin "getset_descriptor.__get__"))) (Ĉ:PySem.W.takesIn K (.builtin "object.__class__")=U ai)
   (hm:PySem.W.mroIn K XI (.type "object")=U ai):Zs K H (.ref a) (.ref XI)
def P'{x:V}{t:aw}(I:XS X Z' L H s)(rx:bF x u)(ty:Zs X.K H x t)(e:U0 X.K t c=U b)(h:∀tk,Q (.bool b) {s with toks:=tk}):
  aL .(t) A (call (.builtin "isinstance") [u,c]) Q us s:=by
 cases ty with
 |non=>cases(rx);show kr PySem.W.kitx_none I.kIn kq e (λz=>nomatch z) h
 |bl y=>cases(rx);show kr PySem.W.kitx_bool I.kIn kq e (λz=>nomatch z) h
 |int i=>let⟨t,q⟩:=(rx);cases q;show kr PySem.W.kitx_int I.kIn kq e (λz=>nomatch z) h
 |str y=>let⟨t,q⟩:=(rx);cases q;show kr PySem.W.kitx_str I.kIn kq e (λz=>nomatch z) h
 | @lst a xs ea=>
  cases(rx);let⟨_,_,n,_,h1⟩:=(I.hok a _ ea);show kr U1 I.kIn #[_,h1,W] e (λz=>nomatch z) h
 | @frz a ob xs ea=>
  cases(rx);let⟨_,_,_,n,_,h1⟩:=(I.hok a _ ea);show kr U1 I.kIn #[_,h1,W] e (λz=>nomatch z) h
 | @tup a xs ea=>
  cases(rx);let⟨_,_,_,p⟩:=(I.hok a _ ea);let⟨o,h1,h2,_⟩:=p;show kr PySem.W.kitx_tuple I.kIn #[o,h1,h2] e (λz=>nomatch z) h
 | @dK a XJ ea=>
  cases(rx);let⟨_,_,vs,_,p⟩:=(I.hok a _ ea);let⟨o,es,ep,h1,h2,_⟩:=p;show kr U2 I.kIn #[o,h1,h2.1] e (λz=>nomatch z) h
 | @dT a XJ ea=>
  cases(rx);let⟨_,_,xs,_,o,es,ep,h1,h2,_⟩:=(I.hok a _ ea);show kr U2 I.kIn #[o,h1,h2.1] e (λz=>nomatch z) h
 | @ins a XI dx fs ea cl ha hn Ĉ hm=>
  cases(rx);let⟨mA,Γ,_⟩:=tz I.hok ea;let⟨od,ao,_⟩:=Γ.look;show kr (PySem.W.kitx_own (cl.get _) cl.hd ha hn Ĉ hm) I.kIn ao e (λz=>nomatch z) h
end
structure YK(k:ag)(A:cJ):Prop where
 hd:A.handled=B
 dp:A.depth+3*k+5<recursionLimit
 un:A.units+16*k+200<cq
def YK.mono{k:ag}(r:YK k A)(h:j<=k):YK j A:=#[r.hd,by let:=r.dp;ext,by let:=r.un;ext]
def YK.deeper{k:ag}(r:YK (k+1) A)(env:cB):YK k (A.deeper env):=
 #[r.hd,by let:=r.dp;show A.depth+1+3*k+5 < _;ext,by let:=r.un;show A.units+3+16*k+200 < _;ext]
def L1{E:Z aw}:(A.under (.builtin "type.__call__" #[.ref XI::E,kw])).depth=A.depth+1:=by
 first|rfl|simp[Gy,Code.weight,Code.isCreation,Code.isGuard,Code.isCaller,U3,Gz,guardIds]
def HX{E:Z aw}:(A.under (.builtin "type.__call__" #[.ref XI::E,kw])).units=A.units+1:=by
 first|rfl|simp[Gy,Code.cUnits,U3,Gz]
def YK.make{k:ag}(r:YK (k+1) A)(XI:av)(E:Z aw)(kw:Z (aj×aw)):YK k (A.under (.builtin "type.__call__" #[.ref XI::E,kw])):=
 #[r.hd,by let:=r.dp;rw[L1];ext,by let:=r.un;rw[HX];ext]
def YK.depth{k:ag}(r:YK k A):A.depth<recursionLimit:=by let:=r.dp;ext
noncomputable def EU:TA:=λ_ H Q=>Q [] H
noncomputable def Mh(ta:TE)(tr:TA):TA:=λL H Q=>ta L H λx H1=>tr L H1 λxs H2=>Q (x::xs) H2
section
variable{t:TA}
def gW:PA X [] EU:=λ_ _ _ _ H Q I h=>GA #[[],H,I,.nil,h]
def gP(ha:PE X e te)(hr:PA X es t)(hs:aM (e::es) X.env=(ar,eval e X.env)::aM es X.env:=by rfl):PA X (e::es) (Mh te t):=by intro pos Z' s L H Q I h;rw[hs];show zC (YI (ha Z' s L H _ I h) λu s1 #[x,H1,I1,r1,q1]=>?_);show YI (hr pos Z' s1 L H1 _ I1 q1) λE s2 #[xs,H2,I2,r2,q2]=>#[x::xs,H2,I2,.cons r1 r2,q2]
def Ob(t:TA):TE:=λL H Q=>t L H λxs H1=>xs.length<=aK/\∀p,H1 p=B->Q (.ref p) (X0 H1 p (.tup xs))
def Pg(t:TA):TE:=λL H Q=>t L H λxs H1=>xs.length<=aK/\∀p,H1 p=B->Q (.ref p) (X0 H1 p (.lst xs))
def Nu{x1}(h:PA X es t):PE X (.Tuple es x1 pos) (Ob t):=by intro Z' s L H Q I hq;show wpAny_Tuple_spliced (YI (h pos Z' s L H _ I hq) λE s1 #[xs,H1,I1,r,z,q]=>#[by rw[<-r.length];show z,?_]);let hf:H1 s1.heap.objs.size=B:=I1.hok.fresh (qw _);show#[.ref s1.heap.objs.size,X0 H1 s1.heap.objs.size (.tup xs),I1.laid (λb u e=>qu _ e) (qw _) ?_,W,q _ hf];show#[z,E,r,#[_,qH _ W,W,_,W]]
def NU(h:PA X es t):PE X (.List es pos) (Pg t):=by intro Z' s L H Q I hq;show wpAny_List_spliced (YI (h pos Z' s L H _ I hq) λE s1 #[xs,H1,I1,r,z,q]=>#[by rw[<-r.length];show z,?_]);let hf:H1 s1.heap.objs.size=B:=I1.hok.fresh (qw _);show#[.ref s1.heap.objs.size,X0 H1 s1.heap.objs.size (.lst xs),I1.laid (λb u e=>qu _ e) (qw _) ?_,W,q _ hf];show#[z,E,0,r,qH _ W]
end
abbrev Sp:=Z V->Hp->VK->XK->Prop
abbrev CXT:=Z cB->Hp->aH->XK->aw->aH->Prop
structure Ĵ(P:dy)(w:cA)(K:aS)(mg:aj->au aw)(base:Heap)(A:cJ)(outer:Z cB)(s:aH)(H:Hp):Prop where
 frames:A.frames=U outer
 mod:Mod K mg base
 bs:∀b o,base.get? b=U o->s.heap.get? b=U o/\H b=B
 bsz:base.objs.size<=s.heap.objs.size
 funs:s.heap.FunFrames base outer
 frf:∀b∈Š outer,H b=B
 hok:Ze P w H s.heap
 bare:lI s.gens
def CE(outer:Z cB)(P:dy)(w:cA)(H:Hp)(s:aH)(Q:VK)(u:aw)(s':aH):Prop:=
 ∃v H',s'.os=s.os/\lI s'.gens/\Un (Š outer) [] H H' s.heap s'.heap/\Ze P w H' s'.heap/\bF v u/\Q v H'
def CR(CX:CXT)(outer:Z cB)(P:dy)(w:cA)(H:Hp)(s:aH)(Q:VK)(us:XK)(r:lJ)(s':aH):Prop:=
 match r with
 |.ok (.ret u)=>CE outer P w H s Q u s'
 |.ok _=>False
 |.error e=>CX outer H s us e s'
structure YY(P:dy)(w:cA)(K:aS)(mg:aj->au aw)(base:Heap)(CX:CXT)(k:ag)(f:av)(fd:ku)(ps:Z aj)(sp:Sp):Prop where
 len:∀vs H Q us,sp vs H Q us->vs.length=ps.length
 run:∀(A:cJ)(outer:Z cB)(s:aH)(H:Hp)(args:Args)(E:Z aw)(vs:Z V)(Q:VK)(us:XK),YK k A->Ĵ P w K mg base A outer s H->oV s fd args (ps.zip E)->bi vs E->sp vs H Q us->
  fz (aN P w) A (.call (.ref f) args) (CR CX outer P w H s Q us) s
variable{mg:aj->au aw}{base:Heap}{CX:CXT}{fd:ku}{ps:Z aj}{sp:Sp}
def YY.imp{k:ag}{f:av}{sp':Sp}(F:YY P w K mg base CX k f fd ps sp)
  (h:∀vs H Q us,sp' vs H Q us->sp vs H Q us):YY P w K mg base CX k f fd ps sp':=
 #[λvs H Q us q=>F.len vs H Q us (h _ _ _ _ q),λA outer s H args E vs Q us hr he M hv hs=>F.run A outer s H args E vs Q us hr he M hv (h _ _ _ _ hs)]
variable{outer:Z cB}
def Ĵ.make(e:Ĵ P w K mg base A outer s H)(XI:av)(E:Z aw)(kw:Z (aj×aw)):
  Ĵ P w K mg base (A.under (.builtin "type.__call__" #[.ref XI::E,kw])) outer s H:=#[by first|show e.frames|(simpa[Gy,Code.envs,Gz,pushEnvs] using e.frames),e.mod,e.bs,e.bsz,e.funs,e.frf,e.hok,e.bare]
def XS.env0(I:XS X Z' L H s):Ĵ X.prog X.w X.K X.mg X.base X.A X.stack s H:=
 #[I.ok.frames,I.ok.mod,I.bs,qO I.ok.bsz I.sz,I.stack,I.stkFree,I.hok,I.bare]
def XS.after{Q:VK}(I:XS X Z' L H s)(h:CE X.stack X.prog X.w H s Q u s'):EP X Z' L Q u s':=by let⟨v,H',os,bare,un,hok,r,q⟩:=h;let⟨hh,g,d,t,os'⟩:=s';obtain rfl:os'=s.os:=os;show#[v,H',I.call un hok bare (λb z=>bj z (by simp)),r,q]
noncomputable def L0(sp:Sp)(YT:Z V)(us:XK)(t:TA):TE:=λL H Q=>t L H λvs H1=>sp (vs++YT) H1 Q us
noncomputable def E1(XI:av)(m:aj)(sp:Sp)(YT:Z V)(us:XK)(ta:TE)(t:TA):TE:=λL H Q=>ta L H λx H1=>∃a dx fs,x=.ref a/\H1 a=U (.ins XI dx fs)/\fs.lookup m=B /\
 t L H1 λvs H2=>sp (x::(vs++YT)) H2 Q us
def Ko(XI:av)(sp:Sp)(YT:Z V)(us:XK)(t:TA):TE:=λL H Q=>t L H λvs H1=>∀x dx,H1 x=B->H1 dx=B->dx≠x->
 sp (.ref x::(vs++YT)) (X0 (X0 H1 dx (.own x)) x (.ins XI dx [])) (λv H2=>v=.non/\Q (.ref x) H2) us
def fK(K:aS)(fd:ku)(ps:Z aj)(ds:Z aw):Prop:=
 ∀(s:aH)(E:Z aw),K.In s.heap->(E++ds).length=ps.length->oV s fd #[E,[]] (ps.zip (E++ds))
def fK.all(h:∀E:Z aw,E.length=ps.length->eX fd #[E,[]]=bc (ps.zip E)):fK K fd ps []:=λs E _ hl=>by rw[jG] at hl ⊢;show .of_eq (h E hl)
def l5(CX:CXT)(X:Cx)(us:XK):Prop:=∀(Z':Z (av×Obj))(L:St)(H:Hp)(s:aH)(e:aw)(s':aH),XS X Z' L H s->CX X.stack H s us e s'->X.xe e s'
variable{YT vs:Z V}{YN:di}
section
variable{k:ag}{f:av}{ds:Z aw}{us:XK}{t:TA}
def xu{Q:VK}{E:Z aw}(F:YY X.prog X.w X.K X.mg X.base CX k f fd ps sp)(hr:YK k X.A)(M:fK X.K fd ps ds)(hd:bi YT ds)(hx:l5 CX X us)
  (I:XS X Z' L H s)(r:bi vs E)(h:sp (vs++YT) H Q us):aL .(t) X.A (call (.ref f) E) (EP X Z' L Q) X.xe s:=by
 let r2:bi (vs++YT) (E++ds):=r.append hd;let hl:(E++ds).length=ps.length:=by rw[<-r2.length];show F.len _ _ _ _ h
 show zD (rV (F.run X.A X.stack s H #[E,[]] (E++ds) (vs++YT) Q us hr I.env0 (M s E I.kIn hl) r2 h) λr s' hq=>?_);cases r with
 |error e=>show hx Z' L H s e s' I hq
 |ok fl=>
  cases fl with
  |ret u=>show I.after hq
  |next=>show ix hq
  |brk=>show ix hq
  |cont=>show ix hq
def SB(F:YY X.prog X.w X.K X.mg X.base CX k f fd ps sp)(hr:YK k X.A)(hg:Gl X x)(hm:X.mg x=U (.ref f))(hk:gr X.K (.ref f)=ai)(M:fK X.K fd ps ds)(hd:bi YT ds)(hx:l5 CX X us)
  (ha:PA X (e::es) t)(Ô:(x==("__debug__":aj))=ar:=by decide)(he:aM (e::es) X.env=(ar,eval e X.env)::aM es X.env:=by rfl)(YR:(bW pos (aM es X.env)).any (·.1)=ar:=by rfl):
  PE X (.Call (.Name x p) (e::es) [] pos) (L0 sp YT us t):=by
 intro Z' s L H Q I h;show rW (yF I hg hm ?_ Ô);show GB I.ok.mod.kin hk (YI (ha pos Z' s L H _ I h) λE s1 #[vs,H1,I1,r,q]=>#[I1.kIn,?_]) he YR;show xu F hr M hd hx I1 r q
def BQ(he:PE X o ta)(c:Ň X.K XI)(hm:Ŵ X.K XI m f)(F:YY X.prog X.w X.K X.mg X.base CX k f fd ps sp)(hr:YK k X.A)(M:fK X.K fd ps ds)(hd:bi YT ds)(hx:l5 CX X us)(ha:PA X (e::es) t)
  (æ:aM (e::es) X.env=(ar,eval e X.env)::aM es X.env:=by rfl)(YR:(bW pos (aM es X.env)).any (·.1)=ar:=by rfl)
  (ht:eval (.Call (.Attribute o m YN) (e::es) [] pos) X.env=(do
   let ov ←eval o X.env
   oQ YN.atName
   let (f,first) ←ki [ov] (oU ov m pl)
   vG pos f first (bW pos (aM (e::es) X.env)) (jH pos (jI [] X.env))):=by rfl):
  PE X (.Call (.Attribute o m YN) (e::es) [] pos) (E1 XI m sp YT us ta t):=by
 intro Z' s L H Q I h;show U4 (YI (he Z' s L H _ I h) λu s1 #[x,H1,I1,rx,a,dx,fs,ex,ea,l,q]=>?_) ht;subst ex;obtain rfl:u=cI a:=rx;show AX I1 ea c hm l ?_;show GB I.ok.mod.kin hm.kp (YI (ha pos Z' s1 L H1 _ I1 q) λE s2 #[vs,H2,I2,r,q2]=>#[I2.kIn,?_]) æ YR;show xu (vs:=.ref a::vs) F hr M hd hx I2 (.cons W r) q2
def ME(he:PE X o ta)(c:Ň X.K XI)(hm:Ŵ X.K XI m f)(F:YY X.prog X.w X.K X.mg X.base CX k f fd ps sp)(hr:YK k X.A)(M:fK X.K fd ps ds)(hd:bi YT ds)(hx:l5 CX X us)
  (ht:eval (.Call (.Attribute o m YN) [] [] pos) X.env=(do
   let ov ←eval o X.env
   oQ YN.atName
   let (f,first) ←ki [ov] (oU ov m pl)
   vG pos f first (bW pos (aM [] X.env)) (jH pos (jI [] X.env))):=by rfl):
  PE X (.Call (.Attribute o m YN) [] [] pos) (E1 XI m sp YT us ta EU):=by
 intro Z' s L H Q I h;show U4 (YI (he Z' s L H _ I h) λu s1 #[x,H1,I1,rx,a,dx,fs,ex,ea,l,q]=>?_) ht;subst ex;obtain rfl:u=cI a:=rx;show AX I1 ea c hm l ?_;show PySem.W.callWith_K0 I1.kIn hm.kp (xu (vs:=[.ref a]) F hr M hd hx I1 (.cons W .nil) q)
structure Mk(K:aS)(XI f:av):Prop where
 makes:rT K XI=ai
 init:cj K (.ref XI) "__init__"=U (U (.ref f))
 fn:oT K (.ref f)=ai
 kp:gr K (.ref XI)=ai
def S6{Q:VK}{E:Z aw}(hb:Mk X.K XI f)(F:YY X.prog X.w X.K X.mg X.base CX k f fd ps sp)(hr:YK (k+1) X.A)(M:fK X.K fd ps ds)(hd:bi YT ds)
  (hx:l5 CX X us)(I:XS X Z' L H s)(r:bi vs E)
  (h:∀x dx,H x=B->H dx=B->dx≠x->sp (.ref x::(vs++YT)) (X0 (X0 H dx (.own x)) x (.ins XI dx [])) (λv H2=>v=.non/\Q (.ref x) H2) us):
  aL .(t) X.A (call (.ref XI) E) (EP X Z' L Q) X.xe s:=by
 let hq:=h (s.heap.objs.size+1) s.heap.objs.size (I.hok.fresh (nh _)) (I.hok.fresh (qw _)) (qD (ng _));let I2:=XS.made (XI:=XI) I;let r2:bi (V.ref (s.heap.objs.size+1)::(vs++YT)) (cI (s.heap.objs.size+1)::(E++ds)):=.cons W (r.append hd);let hl:(cI (s.heap.objs.size+1)::E++ds).length=ps.length:=by let e:=r2.length;rw[F.len _ _ _ _ hq] at e;show e.symm
 show zD (K1 I.kIn hb.makes hb.init (ko.mp hb.fn) (rV (F.run _ X.stack _ _ #[cI (s.heap.objs.size+1)::E,[]] (cI (s.heap.objs.size+1)::(E++ds)) _ _ us (hr.make XI E [])
  (I2.env0.make XI E []) (M _ (cI (s.heap.objs.size+1)::E) I2.kIn hl) r2 hq) λr s' hq'=>?_))
 cases r with
 |error e=>show hx Z' L _ _ e s' I2 hq'
 |ok fl=>
  cases fl with
  |ret u=>
   let⟨v,H',I3,rv,ev,q3⟩:=I2.after hq';subst ev;show#[rv,#[V.ref (s.heap.objs.size+1),H',I3,W,q3]]
  |next=>show ix hq'
  |brk=>show ix hq'
  |cont=>show ix hq'
def xn(hb:Mk X.K XI f)(F:YY X.prog X.w X.K X.mg X.base CX k f fd ps sp)(hr:YK (k+1) X.A)(hg:Gl X x)(hm:X.mg x=U (.ref XI))(M:fK X.K fd ps ds)(hd:bi YT ds)(hx:l5 CX X us)
  (ha:PA X (e::es) t)(Ô:(x==("__debug__":aj))=ar:=by decide)(he:aM (e::es) X.env=(ar,eval e X.env)::aM es X.env:=by rfl)(YR:(bW pos (aM es X.env)).any (·.1)=ar:=by rfl):
  PE X (.Call (.Name x p) (e::es) [] pos) (Ko XI sp YT us t):=by
 intro Z' s L H Q I h;show rW (yF I hg hm ?_ Ô);show GB I.ok.mod.kin hb.kp (YI (ha pos Z' s L H _ I h) λE s1 #[vs,H1,I1,r,q]=>#[I1.kIn,?_]) he YR;show S6 hb F hr M hd hx I1 r q
end
section
variable{k:ag}{f:av}{ks:Z aj}{us:XK}{kpos:di}{kws:Z iy}{t tk:TA}{nm:au aj}
structure KBinds(K:aS)(fd:ku)(ps ks:Z aj)(g:Z aw->Z aw->Z aw)(gV:Z V->Z V->Z V):Prop where
 to:∀(s:aH)(E ws:Z aw),K.In s.heap->(g E ws).length=ps.length->oV s fd #[E,ks.zip ws] (ps.zip (g E ws))
 rel:∀{vs:Z V}{E:Z aw}{zs:Z V}{ws:Z aw},bi vs E->bi zs ws->bi (gV vs zs) (g E ws)
variable{g:Z aw->Z aw->Z aw}{gV:Z V->Z V->Z V}
end
structure YC(N P:Z aj)(sc:Scope):Prop where
 kind:sc.kind=.function
 co:sc.isCoroutine=ar
 gen:sc.isGenerator=ar
 nd:N.Nodup
 pre:N.take P.length=P
 par:∀x∈P,sc.names.lookup x=U .local\/sc.names.lookup x=U .cell
 nofree:∀y∈sc.names,y.2≠.free
def FH{kindOf:aj->au hV}{x:aj}:∀{binds:Z (aj×aw)}{m:aj->au aw},(∀v,(x,v)∉binds)->oW kindOf binds m x=m x
 |[],_,_=>rfl
 |(n,v)::r,m,h=>by
  unfold oW;rw[FH λw hw=>h w (qh _ hw)];split
  .let:x≠n:=by rintro rfl;show h v qg
   simp[this]
  .rfl
def BX{kindOf:aj->au hV}{x:aj}:∀{binds:Z (aj×aw)}{m:aj->au aw},(∀v,(x,v)∉binds)->oX kindOf binds m x=m x
 |[],_,_=>rfl
 |(n,v)::r,m,h=>by
  unfold oX;rw[BX λw hw=>h w (qh _ hw)];split
  .rfl
  .let:x≠n:=by rintro rfl;show h v qg
   simp[this]
def Bs{kindOf:aj->au hV}{x:aj}{v:aw}:∀{P:Z aj}{vs:Z aw}{i:ag}{m:aj->au aw},P.Nodup->P[i]?=U x->vs[i]?=U v->kindOf x=U .local->
  oW kindOf (P.zip vs) m x=U v
 |[],_,_,_,_,h,_,_=>by simp at h
 |_::_,[],_,_,_,_,h,_=>by simp at h
 |p::P,w::vs,0,m,nd,h1,h2,hk=>by
  simp at h1 h2;subst h1;subst h2;show oW kindOf ((p,w)::P.zip vs) m p=_;unfold oW;rw[FH λv hv=>(dD.mp nd).1 (GC hv).1,qY hk];simp
 |p::P,w::vs,i+1,m,nd,h1,h2,hk=>by unfold oW;show Bs (dD.mp nd).2 (by simpa using h1) (by simpa using h2) hk
def Bt{kindOf:aj->au hV}{x:aj}{v:aw}:∀{P:Z aj}{vs:Z aw}{i:ag}{m:aj->au aw},P.Nodup->P[i]?=U x->vs[i]?=U v->kindOf x≠U .local->
  oX kindOf (P.zip vs) m x=U v
 |[],_,_,_,_,h,_,_=>by simp at h
 |_::_,[],_,_,_,_,h,_=>by simp at h
 |p::P,w::vs,0,m,nd,h1,h2,hk=>by
  simp at h1 h2;subst h1;subst h2;show oX kindOf ((p,w)::P.zip vs) m p=_;unfold oX;rw[BX λv hv=>(dD.mp nd).1 (GC hv).1,qZ hk];simp
 |p::P,w::vs,i+1,m,nd,h1,h2,hk=>by unfold oX;show Bt (dD.mp nd).2 (by simpa using h1) (by simpa using h2) hk
noncomputable def dE(N:Z aj)(vs:Z V):St:=vs.map U++bQ (N.length-vs.length) B
noncomputable def dH(CX:CXT)(P:dy)(w:cA)(K:aS)(mg:aj->au aw)(base:Heap)(N:Z aj)(qual:aj)(scope:Scope)(f:av)(cd:aw)(A:cJ)(outer:Z cB)(s:aH)(H:Hp)(us:XK):Cx where
 prog:=P
 w:=w
 K:=K
 mg:=mg
 base:=base
 A:=A.deeper (dj qual scope s.heap.objs.size f cd)
 N:=N
 Z6:=s
 Z9:=H
 env:=dj qual scope s.heap.objs.size f cd
 outer:=outer
 stack:=dj qual scope s.heap.objs.size f cd::outer
 ex:=[]
 calm:=ai
 fn:=λ_=>ai
 pn:=[]
 xe:=λe s'=>aL (aN P w) (A.deeper (dj qual scope s.heap.objs.size f cd)) (leaving (dj qual scope s.heap.objs.size f cd) e) (λ_ ι=>CX outer H s us e ι) (λe' ι=>CX outer H s us e' ι) s'
variable{sc:Scope}
def BF(h:sc.names.lookup x=U .cell):∃c,(GD n sc.names []).lookup x=U c:=by let q:=U5 sc.names n [] (.inl h);show rY.mp q
variable{qual:aj}{scope:Scope}{cd:aw}
def Mj{f:av}{s1:aH}{us:XK}{E:Z aw} 
  (S:YC N ps scope)(hd:A.handled=B)(e0:Ĵ P w K mg base A outer s H)(hl:vs.length=ps.length)(r:bi vs E)
  (x:InCallC s s.heap.objs.size (oW (dj qual scope s.heap.objs.size f cd).kindOf (ps.zip E) λ_=>B) (GD (s.heap.objs.size+1) scope.names []) (oX (dj qual scope s.heap.objs.size f cd).kindOf (ps.zip E) λ_=>B) s1):
  XS (dH CX P w K mg base N qual scope f cd A outer s H us) [] (dE N vs) H s1:=by
 let YR:ps.length<=N.length:=by let:=bM cC S.pre;rw[qF] at this;ext
 let⟨h1,tk,rfl,hk⟩:=x.done;let noA:∀b:av,b∉(dH CX P w K mg base N qual scope f cd A outer s H us).ex:=λb z=>bj (show b∈([]:Z av) from z) (by simp);show#[#[e0.mod,S.kind,W,W,qw _,λy z c h1 h2=>?_,λy hy=>?_,λy c _ h=>?_,λ_=>hd,Around.frames_deeper e0.frames,.inr #[W,W],λb z=>bj z (noA b),e0.bs,e0.bsz,λb _ _=>noA b,λb z=>bj z (noA b),e0.funs,e0.frf],
  rfl,e0.bare,Un.kept hk,#[_,x.toInCall.ns,λi y v h1 h2 h3=>?_],λy c h=>#[_,x.cell y c h],e0.hok.fresh (qw _),λy c h=>?_,λp hp=>bj (show p∈([]:Z (av×Obj)) from hp) (by simp),e0.hok.kept hk,?_]
 .exact name_of_addr x.apart (ni h1) (ni h2)
 .let hy:scope.names.lookup y=U .cell\/scope.names.lookup y=U .free:=hy;rcases hy with hy|hy
  .exact BF hy
  .exact bj W (S.nofree _ (ni hy))
 .exact rN (x.above y c (ni h))
 .let hi:i<vs.length:=by
   unfold dE at h2;by_cases hi:i<vs.length
   .exact hi
   .rw[qM (by simpa using hi)] at h2;rw[vH] at h2;split at h2<;>cases h2
  let ha:vs[i]?=U v:=by
   unfold dE at h2;rw[qA (by simpa using hi),ql] at h2;cases e:vs[i]? with
   |none=>rw[e] at h2;cases h2
   |some a=>rw[e] at h2;cases h2;rfl
  let⟨u,hu,rv⟩:=r.get ha;let hp:ps[i]?=U y:=by rw[<-S.pre,zE .(b)];show h1
  let ndP:ps.Nodup:=by rw[<-S.pre];show S.nd.sublist (lK _ _)
  show#[u,rv,?_];rcases S.par y (qR hp) with k|k
  .exact .inl #[k,Bs ndP hp hu k]
  .obtain⟨c,e⟩:=BF k;show .inr #[.inl k,c,e,?_];let q:=x.cell y c e;rw[Bt ndP hp hu (by show scope.names.lookup y≠_;rw[k];decide)] at q;show q
 .exact e0.hok.fresh (rN (x.above y c (ni h)))
 .unfold dE;show _=N.length;rw[qj,qf,List.length_replicate];ext
variable{YV pm X1 ct oc:aw}{an od:au av}{Ē:bI (au aw)}
def Br{k:ag}{f:av}{params:Arguments}{body:Z Stmt}{dV kV:aw} 
  (lk:K.lookup f=U #[oc,od,.func (cX name qual params body scope dV kV YV pm an X1 ct),Ē])(Yp:nj K X1 qual=ai)(S:YC N ps scope)
  (len:∀vs H Q us,sp vs H Q us->vs.length=ps.length)
  (X8:∀(A:cJ)(outer:Z cB)(s:aH)(H:Hp)(vs:Z V)(Q:VK)(us:XK),YK k (A.deeper (dj qual scope s.heap.objs.size f X1))->sp vs H Q us->
   ∃t,Ě (dH CX P w K mg base N qual scope f X1 A outer s H us) body t/\t {nx:=λ_ H'=>Q .non H',rt:=Q} (dE N vs) H):
  YY P w K mg base CX (k+1) f (cX name qual params body scope dV kV YV pm an X1 ct) ps sp:=by
 show#[len,λA outer s H args E vs Q us hr e0 M r ž=>?_];let hl:=len _ _ _ _ ž;let KX:K.In s.heap:=e0.mod.kin.keeps λb o e=>(e0.bs b o e).1;let lim:s.heap.NoLimit:=e0.mod.nolimit.keeps λb o e=>(e0.bs b o e).1;let hkind:∀y∈ps.zip E,scope.names.lookup y.1=U .local\/(scope.names.lookup y.1=U .cell/\((GD (s.heap.objs.size+1) scope.names []).lookup y.1).isSome=ai):=λ#[n,v] hy=>by
  rcases S.par n (GC hy).1 with q|q
  .exact .inl q
  .exact .inr #[q,U5 _ _ _ (.inl q)]
 show codeAny_call_function hr.depth (KX _ _ lk) W S.co S.gen W (PySem.W.codeRec_of KX Yp) (M _ _ _ _ ?_);show wpAny_newFunctionEnv_cells S.kind hkind λenv he s1 x=>?_;subst he;show#[lim.keeps x.toInCall.keep,codeAny_func ?_];let⟨t,ht,hq⟩:=X8 A outer s H vs Q us (hr.deeper _) ž;let I:XS (dH CX P w K mg base N qual scope f X1 A outer s H us) [] (dE N vs) H s1:=Mj S hr.hd e0 hl r x;show iw (ht [] s1 (dE N vs) H _ I hq) (λfl s' hs=>?_) λe s' hs=>hs;let Yy:∀{Z5:St}{H':Hp}{v:V}{u:aw},XS (dH CX P w K mg base N qual scope f X1 A outer s H us) [] Z5 H' s'->bF v u->Q v H'->CE outer P w H s Q u s':=
  λ{Z5 H' v u}ao rv q=>#[v,H',ao.os,ao.bare,ao.base,ao.hok,rv,q]
 cases fl with
 |ret u=>
  let⟨v,Z5,H',ao,rv,q⟩:=hs;show Yy ao rv q
 |next=>
  let⟨Z5,H',ao,q⟩:=hs;show Yy (v:=V.non) ao W q
 |brk=>
  let⟨_,_,_,q⟩:=hs;show ix q
 |cont=>
  let⟨_,_,_,q⟩:=hs;show ix q
section
variable{t:TA}{id T:cD}{r:Z V->Hp->VK->Prop}
noncomputable def tCB(r:Z V->Hp->VK->Prop)(t:TA):TE:=λL H Q=>t L H λvs H1=>r vs H1 Q
def vn(hc:dZ X (.builtin id) r)(hg:Gl X x)(hm:X.mg x=B)(hv:dz x=U (.builtin id))(ha:PA X (e::es) t)(hn:x≠"__name__":=by decide)(Ô:(x==("__debug__":aj))=ar:=by decide)
  (he:aM (e::es) X.env=(ar,eval e X.env)::aM es X.env:=by rfl)(YR:(bW pos (aM es X.env)).any (·.1)=ar:=by rfl):PE X (.Call (.Name x p) (e::es) [] pos) (tCB r t):=by
 intro Z' s L H Q I h;show rW (jM I hg hm hv ?_ hn Ô);show Xp (YI (ha pos Z' s L H _ I h) λE s1 #[vs,H1,I1,r1,q1]=>hc Z' s1 L H1 vs E Q I1 r1 q1) he YR
def tw(hc:dZ X (.type T) r)(hg:Gl X x)(hm:X.mg x=B)(hv:dz x=U (.type T))(ha:PA X (e::es) t)(hn:x≠"__name__":=by decide)(Ô:(x==("__debug__":aj))=ar:=by decide)
  (he:aM (e::es) X.env=(ar,eval e X.env)::aM es X.env:=by rfl)(YR:(bW pos (aM es X.env)).any (·.1)=ar:=by rfl):PE X (.Call (.Name x p) (e::es) [] pos) (tCB r t):=by
 intro Z' s L H Q I h;show rW (jM I hg hm hv ?_ hn Ô);show vD (YI (ha pos Z' s L H _ I h) λE s1 #[vs,H1,I1,r1,q1]=>hc Z' s1 L H1 vs E Q I1 r1 q1) he YR
end
variable{sl:av}{vl vu:aw}{hi:au ah}
namespace HT
def cat_tup{t b:av}{vs ws:Z aw}(ht:vA s.heap t vs.toArray)(M:vA s.heap b ws.toArray)(hv:vs≠[])
  (h1:ws=[]->Q (.ref t) s)(h2:ws≠[]->Q (.ref s.heap.objs.size) {s with heap:=s.heap.push {cls:=.type "tuple",data:=.seq (vs++ws).toArray} })
  (Zw:vs.length+ws.length<=aK):aL (aN prog w) A (gL .Add (.ref t) (.ref b)) Q us s:=by
 let⟨⟨cls,dd,data,sl⟩,ho,hc,n,hd⟩:=id ht;let⟨⟨cls2,dd2,data2,sl2⟩,ho2,hc2,n2,hd2⟩:=id M;simp only at hc hd hc2 hd2;subst hc hd hc2 hd2;let e:vs.toArray++ws.toArray=(vs++ws).toArray:=by simp
 by_cases hw:ws=[]
 .exact concat_meets #[_,ho,W] #[_,ho2,W] U6 seq_tuple_add U7 U8 (U9 _ _)
   (tuple_addW1 t b vs.toArray ws.toArray n n2 dd dd2 sl sl2 (by simpa using hv) (by simp[hw])) #[ho,ho2,h1 hw]
 .refine concat_meets #[_,ho,W] #[_,ho2,W] U6 seq_tuple_add U7 U8 (U9 _ _)
   (tuple_addW2 t b vs.toArray ws.toArray n n2 dd dd2 sl sl2 (by simpa using hv) (by simpa using hw) (by rw[qC,qC];show Zw)) #[ho,ho2,?_]
  rw[e];show h2 hw
noncomputable def sIx(n d:ag):au ah->ag
 |none=>d
 |some v=>if v<0 then (v+(n:ah)).toNat else min v.toNat n
def FB(v:ah)(n d:ag):(if v<0 then max (v+(n:ah)) 0 else min v (n:ah))=((sIx n d (U v):ag):ah):=by
 show(if v<0 then max (v+(n:ah)) 0 else min v (n:ah))=(((if v<0 then (v+(n:ah)).toNat else min v.toNat n):ag):ah);by_cases hv:v<0
 .simp only[qY hv];ext
 .simp only[qZ hv];ext
def NY(lo hi:au ah)(n:ag):GE lo hi 1 (n:ah)=(((sIx n 0 lo:ag):ah),((sIx n n hi:ag):ah)):=by
 let h1:¬((1:ah)<0):=by ext
 unfold GE;simp only[h1,cE];show Prod.ext ?_ ?_
 .cases lo with
  |none=>rfl
  |some v=>show FB v n 0
 .cases hi with
  |none=>rfl
  |some v=>show FB v n n
def LJ(i j:ag):zF (i:ah) (j:ah) 1=j-i:=by
 unfold zF;let h1:(1:ah) > 0:=by ext
 simp only[h1,cx,Int.ediv_one];split<;>ext
def Db{v:aw}{o:au ah}{Q:au ah->aH->Prop}(p:nq v o)(h:Q o s):aL (aN prog w) A (Xq v) Q us s:=by
 cases p with
 |none=>show U' h
 |int i t=>show slicePart_int h
def MY{lo:au ah}{Q:ah×ah×ag->aH->Prop}(hs:s.heap.IsSliceOf sl vl vu .none)(pl:nq vl lo)(pu:nq vu hi)
  (h:Q (((sIx n 0 lo:ag):ah),1,sIx n n hi-sIx n 0 lo) s):aL (aN prog w) A (Xr (.ref sl) (bc (n:ah))) Q us s:=by
 let⟨os,hos,hcs,Ċ⟩:=id hs;show qx (qx (GF hos Ċ W (qx (GF hos Ċ W (qx (GF hos Ċ W (qB ?_)))))));show qx (U' ?_);rw[qZ .(c)];show qx (Db pl (qx (Db pu (qx (qB ?_)))));show aL _ _ (match GE lo hi 1 (n:ah) with|(lo,hi)=>bc (lo,(1:ah),zF lo hi 1)) _ _ s;rw[NY lo hi n];show aL _ _ (bc (((sIx n 0 lo:ag):ah),(1:ah),zF ((sIx n 0 lo:ag):ah) ((sIx n n hi:ag):ah) 1)) _ _ s;rw[LJ];show qB h
def Qt(xs:bI aw)(i k:ag):((cw k).filterMap λ(m:ag)=>xs[((i:ah)+(m:ah)*1).toNat]?).toArray=((xs.toList.drop i).take k).toArray:=by
 let e:(λ(m:ag)=>xs[((i:ah)+(m:ah)*1).toNat]?)=λm=>xs[i+m]?:=by
  funext m
  let:((i:ah)+(m:ah)*1).toNat=i+m:=by ext
  rw[this]
 rw[e];let:=zG xs i k;rw[List.filterMap_map] at this;let e2:((λx=>xs[x]?) ∘ λx=>i+x)=λm=>xs[i+m]?:=rfl;rw[e2] at this;rw[this]
def getItem_tuple_cut{t:av}{items:bI aw}{lo:au ah}(ht:vA s.heap t items)(hs:s.heap.IsSliceOf sl vl vu .none)(pl:nq vl lo)(pu:nq vu hi)
  (hw:¬(sIx items.size 0 lo=0/\sIx items.size items.size hi=items.size))
  (h:Q (.ref s.heap.objs.size) {s with heap:=s.heap.push {cls:=.type "tuple",data:=.seq ((items.toList.drop (sIx items.size 0 lo)).take (sIx items.size items.size hi-sIx items.size 0 lo)).toArray} })
  (Zw:items.size<=aK):aL (aN prog w) A (nr (.ref t) (.ref sl)) Q us s:=by
 let ľ:sizeOk (.seq ((items.toList.drop (sIx items.size 0 lo)).take (sIx items.size items.size hi-sIx items.size 0 lo)).toArray):=by show((items.toList.drop (sIx items.size 0 lo)).take (sIx items.size items.size hi-sIx items.size 0 lo)).toArray.size<=aK;rw[qC,qF,iz,fy];ext
 let⟨os,hos,hcs,Ċ⟩:=id hs;let hTs:s.TypeIs (.ref sl) "slice":=#[os,hos,hcs];unfold nr
 try with_reducible show qV ?_
 first|show qx (qB ?_)|skip
 show qx (wpAny_sequenceKey ht.typeIs .(c) ?_);show qx (zH ht.typeIs GG
  (lL GG ht.typeIs entry_tuple_getitem ?_ (args_tuple_getitem _ _)))
 show aL _ _ (Xs (.ref t) >>= _) _ _ s;show qx (tupleItemsOf_ ht ?_);show qx (rZ hTs ?_);rw[qY .(c)];show qx (MY hs pl pu ?_);let Zi:¬((((sIx items.size 0 lo:ag):ah)==0 && (1:ah)==1 && (sIx items.size items.size hi-sIx items.size 0 lo)==items.size)=ai):=by intro q;rw[cW,cW] at q;let q1:((sIx items.size 0 lo:ag):ah)=0:=eq_of_beq q.1.1;let q2:sIx items.size items.size hi-sIx items.size 0 lo=items.size:=eq_of_beq q.2;show hw #[by ext,by ext]
 show aL _ _ (if (((sIx items.size 0 lo:ag):ah)==0 && (1:ah)==1 && (sIx items.size items.size hi-sIx items.size 0 lo)==items.size)=ai then _ else _) _ _ s;rw[qZ Zi,Qt]
 first
  |show qx (iA (qB #[_,W,qB h]) ľ)
  |show qx (iA (qx (qB (qB #[_,W,qB h]))) ľ)
  |show qx (qx (iA (qB (qB #[_,W,qB h])) ľ))
  |show qx (qx (iA (qB #[_,W,qB h]) ľ))
end HT
abbrev TO:=St->Hp->(au ah->Hp->Prop)->Prop
def PO(X:Cx)(e:au Expr)(t:TO):Prop:=
 ∀(Z':Z (av×Obj))(s:aH)(L:St)(H:Hp)(Q:au ah->Hp->Prop),XS X Z' L H s->t L H Q->
  aL .(t) X.A (evalPart e X.env) (λu s'=>∃o H',XS X Z' L H' s'/\nq u o/\Q o H') X.xe s
noncomputable def P2:TO:=λ_ H Q=>Q B H
noncomputable def Na(t:TE):TO:=λL H Q=>t L H λx H1=>∃i,x=.int i/\Q (U i) H1
variable{ns:Z ah}
def QU:∀{E:Z aw},bi (ns.map V.int) E->kx E ns:=by
 induction ns with
 |nil=>intro E r;rw[qQ] at r;cases r;show .nil
 |cons n ns ih=>
  intro E r;rw[qo] at r;cases r with
  |cons r1 r2=>
   let⟨t,e⟩:=r1;subst e;show .cons n t (ih r2)
variable{p2:di}
section
variable{lo hi:au Expr}{tl th:TO}
def Kq:PO X B P2:=by intro Z' s L H Q I h;rw[evalPart_none];show qB #[B,H,I,.none,h]
def IB(h:PE X e te):PO X (U e) (Na te):=by intro Z' s L H Q I hw;rw[evalPart_some];show YI (h Z' s L H _ I hw) λu s1 #[x,H1,I1,r1,q1]=>?_;let⟨i,rfl,q⟩:=q1;let⟨t,rfl⟩:=r1;show#[U i,H1,I1,.int i t,q]
def SlR(X:Cx)(r:V->au ah->au ah->Hp->VK->Prop):Prop:=
 ∀(Z':Z (av×Obj))(s:aH)(L:St)(H:Hp)(x:V)(v vl vu:aw)(lo hi:au ah)(sl:av)(Q:VK),XS X Z' L H s->bF x v->s.heap.IsSliceOf sl vl vu .none->nq vl lo->nq vu hi->r x lo hi H Q->
  ∃T id,vI (.type T) "__getitem__"=bc (U (.builtin id))/\s.TypeIs v T/\aL .(t) X.A (nr v (.ref sl)) (EP X Z' L Q) X.xe s
def SlR.or{r r':V->au ah->au ah->Hp->VK->Prop}(h:SlR X r)(h':SlR X r'):SlR X (λx lo hi H Q=>r x lo hi H Q\/r' x lo hi H Q):=by
 intro Z' s L H x v vl vu lo hi sl Q I rx hs pl pu q;rcases q with q|q
 .exact h Z' s L H x v vl vu lo hi sl Q I rx hs pl pu q
 .exact h' Z' s L H x v vl vu lo hi sl Q I rx hs pl pu q
noncomputable def tSl(r:V->au ah->au ah->Hp->VK->Prop)(te:TE)(tl th:TO):TE:=λL H Q=>te L H λx H1=>tl L H1 λl H2=>th L H2 λu H3=>r x l u H3 Q
def IE{r:V->au ah->au ah->Hp->VK->Prop}(hr:SlR X r)(he:PE X e te)(hl:PO X lo tl)(hu:PO X hi th):PE X (.Subscript e (.Slice lo hi B p2) pos) (tSl r te tl th):=by intro Z' s L H Q I h;show zI (YI (he Z' s L H _ I h) λv s1 #[x,H1,I1,r1,q1]=>?_);show wpAny_Slice (YI (hl Z' s1 L H1 _ I1 q1) λvl s2 #[l,H2,I2,pl,q2]=>YI (hu Z' s2 L H2 _ I2 q2) λvu s3 #[u,H3,I3,pu,q3]=>?_);rw[evalPart_none];show qB ?_;let I4:XS X Z' L H3 {s3 with heap:=s3.heap.push {cls:=.type "slice",data:=.fields [vl,vu,.none].toArray} }:=I3.kept λb ob q=>qu _ q;let⟨T,id,hT,ht,hg⟩:=hr Z' {s3 with heap:=s3.heap.push {cls:=.type "slice",data:=.fields [vl,vu,.none].toArray} } L H3 x v vl vu l u s3.heap.objs.size Q I4 r1 (Va ..) pl pu q3;show GH ht hT hg (by with_unfolding_all rfl)
def nM(xs:Z V)(lo hi:au ah):Z V:=(xs.drop (HT.sIx xs.length 0 lo)).take (HT.sIx xs.length xs.length hi-HT.sIx xs.length 0 lo)
def AV(xs:Z V)(lo hi:au ah):(nM xs lo hi).length<=xs.length:=by unfold nM;rw[qF,iz];ext
def SL(K:aS):V->au ah->au ah->Hp->VK->Prop:=λx lo hi H Q=>∃a xs,x=.ref a/\į K H a xs /\
 ¬(HT.sIx xs.length 0 lo=0/\HT.sIx xs.length xs.length hi=xs.length)/\∀p,H p=B->Q (.ref p) (X0 H p (.tup (nM xs lo hi)))
def JH:SlR X (SL X.K):=by
 intro Z' s L H x v vl vu lo hi sl Q I rx hs pl pu h;let⟨a,xs,rfl,hx,hw,q⟩:=h;cases rx;let⟨XY,r,ht,hz⟩:=I.tuple hx;let X2:XY.toArray.size=xs.length:=by rw[qC];show r.length.symm
 show#["tuple",_,GG.lookup,ht.typeIs,?_];show HT.getItem_tuple_cut ht hs pl pu (by rw[X2];show hw) ?_ (by rw[X2];show hz);rw[X2];show#[.ref s.heap.objs.size,_,I.laid (λb ob q=>qu _ q) (qw _) ?_,W,q _ (I.hok.fresh (qw _))];show#[qO (AV xs lo hi) hz,_,(r.drop (HT.sIx xs.length 0 lo)).take (HT.sIx xs.length xs.length hi-HT.sIx xs.length 0 lo),GI _ _]
def DV(K:aS):R2:=λx y H Q=>∃a b xs ys,x=.ref a/\y=.ref b/\į K H a xs/\į K H b ys/\xs≠[]/\xs.length+ys.length<=aK /\
 (ys=[]->Q (.ref a) H)/\(ys≠[]->∀p,H p=B->Q (.ref p) (X0 H p (.tup (xs++ys))))
def bi.nil_iff{xs:Z V}{E:Z aw}(r:bi xs E):E=[]↔xs=[]:=by
 cases r with
 |nil=>simp
 |cons _ _=>simp
def Qb:Yl X (gL .Add) (DV X.K):=by intro Z' s L H x y v u Q I rx ry h;let⟨a,b,xs,ys,rfl,rfl,ha,M,hx,hz,q1,q2⟩:=h;cases rx;cases ry;let⟨XY,r1,p1,_⟩:=I.tuple ha;let⟨ħ,r2,p2,_⟩:=I.tuple M;show HT.cat_tup p1 p2 (λz=>hx (r1.nil_iff.mp z)) (λz=>#[.ref a,H,I,W,q1 (r2.nil_iff.mp z)]) (λz=>?_) (by rw[<-r1.length,<-r2.length];show hz);show#[.ref s.heap.objs.size,_,I.laid (λb ob q=>qu _ q) (qw _) ?_,W,q2 (λw=>z (r2.nil_iff.mpr w)) _ (I.hok.fresh (qw _))];show#[by rw[qj];show hz,_,r1.append r2,GI _ _]
end
noncomputable def ż(n:ag)(i:ah):au ag:=if 0<=i then (if i<n then U i.toNat else B) else if -(n:ah)<=i then U (i+n).toNat else B
def atI(xs:Z α)(i:ah):au α:=(ż xs.length i).bind λj=>xs[j]?
def Iu{i:ah}(h:ż n i=U j):seqIndex? i n=U j/\j<n /\ -(n:ah)<=i/\i<n:=by
 unfold ż at h;by_cases h0:0<=i
 .rw[qY h0] at h;by_cases h1:i<n
  .rw[qY h1] at h;let e:i.toNat=j:=qI h;show#[by rw[seqIndex_of h0 h1,e],by ext,by ext,h1]
  .rw[qZ h1] at h;cases h
 .rw[qZ h0] at h;by_cases h1 : -(n:ah)<=i
  .rw[qY h1] at h;let e:(i+n).toNat=j:=qI h;show#[by rw[seqIndex_neg .(b) h1,e],by ext,h1,by ext]
  .rw[qZ h1] at h;cases h
def wy{xs:Z α}{i:ah}{v:α}(h:atI xs i=U v):∃j,seqIndex? i xs.length=U j/\xs[j]?=U v/\j<xs.length /\ -(xs.length:ah)<=i/\i<xs.length:=by
 unfold atI at h;cases e:ż xs.length i with
 |none=>rw[e] at h;cases h
 |some j=>
  rw[e] at h;let⟨h1,h2,h3,h4⟩:=Iu e;show#[j,h1,h,h2,h3,h4]
def jt{xs:Z α}{v:α}(h:xs[j]?=U v):atI xs (j:ah)=U v:=by
 let hj:j<xs.length:=(dM.mp h).1;let e:ż xs.length (j:ah)=U j:=by unfold ż;rw[qY .(b),qY .(b)];simp
 unfold atI;rw[e];show h
def Be(b:Expr):Prop:=∀o i,zJ b ar o i=operate [o,i] (nr o i)
def ζ(X:Cx)(r:R2):Prop:=
 ∀(YL slice:Expr)(Z':Z (av×Obj))(s:aH)(L:St)(H:Hp)(x y:V)(v u:aw)(Q:VK),XS X Z' L H s->bF x v->bF y u->r x y H Q->
  zJ slice ar v u=operate [v,u] (nr v u)->aL .(t) X.A (subscriptTail YL slice v u) (EP X Z' L Q) X.xe s
def MtR(X:Cx)(id:cD)(r:V->Z V->Hp->VK->Prop):Prop:=
 ∀(Z':Z (av×Obj))(s:aH)(L:St)(H:Hp)(x:V)(xs:Z V)(v:aw)(E:Z aw)(Q:VK),XS X Z' L H s->bF x v->bi xs E->r x xs H Q->
  aL .(t) X.A (call (.builtin id) (v::E)) (EP X Z' L Q) X.xe s
variable{to:TE}{YG:di}
section
variable{a:Expr}{tb:TE}
def ζ.or{r:R2}(h:ζ X r)(h':ζ X r'):ζ X (λx y H Q=>r x y H Q\/r' x y H Q):=by
 intro YL slice Z' s L H x y v u Q I rx ry q hs;rcases q with q|q
 .exact h YL slice Z' s L H x y v u Q I rx ry q hs
 .exact h' YL slice Z' s L H x y v u Q I rx ry q hs
def Ja{r:R2}(hr:ζ X r)(ha:PE X a ta)(M:PE X b tb)(hs:Be b):PE X (.Subscript a b pos) (tOp r ta tb):=by intro Z' s L H Q I h;show zI (yI ha M I h λv u s2 x y H2 I2 rx ry q=>hr a b Z' s2 L H2 x y v u Q I2 rx ry q (hs _ _))
def BR(K:aS):R2:=λx y H Q=>∃p xs i v,x=.ref p/\y=.int i/\Zv K H p xs/\atI xs i=U v/\Q v H
def Ga(K:aS):R2:=λx y H Q=>∃p xs i v,x=.ref p/\y=.int i/\į K H p xs/\atI xs i=U v/\Q v H
def F7:R2:=λx y H Q=>∃z i c,x=.str z/\y=.int i/\z.length<=aK/\atI z.cps.toList i=U c/\Q (.str ⟨#[c]⟩) H
def K2:ζ X (BR X.K):=by
 intro YL slice Z' s L H x y v u Q I rx ry h hs;let⟨p,xs,i,z,rfl,rfl,hq,he,q⟩:=h;cases rx;let⟨t,rfl⟩:=ry;let⟨XY,r,pl,hz⟩:=I.list hq;let⟨j,h1,h2,h3,h4,h5⟩:=wy he;let⟨w,ew,Zk⟩:=r.get h2;let hl:=r.length;let hn:=ud;let Yy:EP X Z' L Q w s:=#[z,H,I,Zk,q];by_cases h0:0<=i
 .let hj:i.toNat=j:=by rw[seqIndex_of h0 h5] at h1;show qI h1
  show item_listR pl.isList h0 .(b) (by rw[hj];simpa using ew) Yy hs
 .let hj:(i+(XY.toArray.size:ah)).toNat=j:=by rw[seqIndex_neg .(b) h4] at h1;rw[qC,<-hl];show qI h1
  show Vb pl.isList.typeIs GJ.lookup
   (wpAny_getItem_list_neg pl.isList .(b) (by rw[qC]<;>ext) .(b) (by rw[hj];simpa using ew) #[W,Yy]) hs
def MO:ζ X (Ga X.K):=by
 intro YL slice Z' s L H x y v u Q I rx ry h hs;let⟨p,xs,i,z,rfl,rfl,hq,he,q⟩:=h;cases rx;let⟨t,rfl⟩:=ry;let⟨XY,r,pl,hz⟩:=I.tuple hq;let⟨j,h1,h2,h3,h4,h5⟩:=wy he;let⟨w,ew,Zk⟩:=r.get h2;let hl:=r.length;let hn:=ud;let Yy:EP X Z' L Q w s:=#[z,H,I,Zk,q];show Vb pl.typeIs slot_tuple_getitem.lookup
  (getItem_tuple pl .(b) .(b) (by rw[qC,<-hl];show h1) (by simpa using ew) #[W,Yy]) hs
def Rh:ζ X F7:=by
 intro YL slice Z' s L H x y v u Q I rx ry h hs;let⟨z,i,c,rfl,rfl,hz,he,q⟩:=h;let⟨t,rfl⟩:=rx;let⟨t',rfl⟩:=ry;let⟨j,h1,h2,h3,h4,h5⟩:=wy he;let hl:z.cps.toList.length=z.length:=by simp[sd]
 rw[hl] at h1 h4 h5;let hn:=ud;show GH (vK s z t) slot_str_getitem.lookup (getItem_str (by let e1:decide (i < -(2 ^ 63:ah))=ar:=qP .(b);let e2:decide (i ≥ 2 ^ 63)=ar:=qP .(b);rw[e1,e2,Bool.or_false]) (by rw[h1];simpa using h2) #[.str ⟨#[c]⟩,H,I.tok _,#[_,W],q]) hs
def rIx(K:aS):R2:=λx y H Q=>BR K x y H Q\/Ga K x y H Q\/F7 x y H Q
def J9:ζ X (rIx X.K):=K2.or (MO.or Rh)
def MT(lo hi:au ah)(n:ag):(oY lo hi B n).1=((HT.sIx n 0 lo:ag):ah)/\(oY lo hi B n).2.1=((HT.sIx n n hi:ag):ah)/\(oY lo hi B n).2.2=1:=by
 show#[?_,?_,W]
 .cases lo with
  |none=>simp[oY,HT.sIx]
  |some i=>
   simp only[oY,HT.sIx,Vc,show(1:ah) > 0 by decide,cx];by_cases h:i<0
   .simp only[h,cx]<;>ext
   .simp only[h,cE]<;>ext
 .cases hi with
  |none=>simp[oY,HT.sIx]
  |some i=>
   simp only[oY,HT.sIx,Vc,show(1:ah) > 0 by decide,cx];by_cases h:i<0
   .simp only[h,cx]<;>ext
   .simp only[h,cE]<;>ext
def Lh(XY:Z aw)(lo hi:au ah):slicePick XY.toArray lo hi B=((XY.drop (HT.sIx XY.length 0 lo)).take (HT.sIx XY.length XY.length hi-HT.sIx XY.length 0 lo)).toArray:=by let⟨h1,h2,h3⟩:=MT lo hi XY.toArray.size;unfold slicePick;rw[h1,h2,h3];simp only[Ve,zG,qC]<;>rfl
def Jq(K:aS):V->au ah->au ah->Hp->VK->Prop:=λx lo hi H Q=>∃a xs,x=.ref a/\Zv K H a xs/\∀p,H p=B->Q (.ref p) (X0 H p (.lst (nM xs lo hi)))
def QJ:SlR X (Jq X.K):=by intro Z' s L H x v vl vu lo hi sl Q I rx hs pl pu h;let⟨a,xs,rfl,hx,q⟩:=h;cases rx;let⟨XY,r,ht,hz⟩:=I.list hx;let X2:=r.length;show#["list",_,GJ.lookup,ht.isList.typeIs,?_];show Vf ht.isList hs pl pu .none (by simp) ?_ (by rw[qC]<;>ext);rw[Lh,<-X2];show#[.ref s.heap.objs.size,_,I.laid (λb ob q=>qu _ q) (qw _) ?_,W,q _ (I.hok.fresh (qw _))];show#[qO (AV xs lo hi) hz,_,0,(r.drop (HT.sIx xs.length 0 lo)).take (HT.sIx xs.length xs.length hi-HT.sIx xs.length 0 lo),qH _ W]
def So:dZ X (.type "tuple") (λxs H Q=>∃p ys,xs=[.ref p]/\((Zv X.K H p ys/\∀l,H l=B->Q (.ref l) (X0 H l (.tup ys)))\/(į X.K H p ys/\Q (.ref p) H))):=by
 intro Z' s L H xs E Q I r h;let⟨p,ys,rfl,h⟩:=h;let⟨u,rfl,rx⟩:=dY r;cases rx;rcases h with⟨hq,q⟩|⟨hq,q⟩
 .obtain⟨XY,r',pl,hz⟩:=I.list hq;let X2:=r'.length;show call_tuple_list pl.isList (λh' kp=>?_) (by simp only[qC]<;>ext);let I1:XS X Z' L H {s with heap:=h'}:=I.kept kp;let I2:XS X Z' L (X0 H h'.objs.size (.tup ys)) {s with heap:=h'.push {cls:=.type "tuple",data:=.seq XY.toArray} } :=
   I1.laid (λb o e=>qu _ e) (qw _) (#[hz,XY,r',GI _ _])
  show#[.ref h'.objs.size,_,I2,W,q _ (I1.hok.fresh (qw _))]
 .obtain⟨XY,r',pl,hz⟩:=I.tuple hq;show call_tuple_same pl #[.ref p,H,I,W,q]
def tyV(K:aS)(T:cD)(x:V)(H:Hp):Prop:=match x with
 |.str _=>T="str"
 |.int _=>T="int"
 |.ref p=>(T="list"/\∃xs,Zv K H p xs)\/(T="tuple"/\∃o,K.lookup p=U o/\o.cls=.type "tuple"/\o.dict=B) \/
   (T="dict"/\((∃XJ,H p=U (.dK XJ))\/∃XJ,H p=U (.dT XJ)))\/(T="set"/\∃S n,H p=U (.set S n))
 |_=>False
def Jl{T:cD}{x:V}{v:aw}(I:XS X Z' L H s)(r:bF x v)(ty:tyV X.K T x H):
  s.TypeIs v T/\∀a,v=.ref a->∃ob,s.heap.get? a=U ob/\ob.dict=B:=by
 cases x with
 |str z=>
  let⟨t,rfl⟩:=r;cases(ty);show#[vK s z t,λ_ e=>nomatch e]
 |int i=>
  let⟨t,rfl⟩:=r;cases(ty);show#[GK s i t,λ_ e=>nomatch e]
 |ref p=>
  cases r;rcases ty with⟨rfl,xs,hq⟩|⟨rfl,o,hk,hc,hd⟩|⟨rfl,hk⟩|⟨rfl,S,n,hk⟩
  .obtain⟨XY,_,pl,_⟩:=I.list hq;show#[pl.isList.typeIs,λa e=>?_];cases e;let⟨o,n,e,c,hd,_⟩:=pl;show#[o,e,hd]
  .refine#[#[o,I.kIn p o hk,hc],λa e=>?_];cases e;show#[o,I.kIn _ o hk,hd]
  .let z:∃o,s.heap.get? p=U o/\o.ExactDict:=by
    rcases hk with⟨XJ,hk⟩|⟨XJ,hk⟩
    .obtain⟨_,_,_,_,o,_,_,e,ex,_⟩:=I.hok p _ hk;show#[o,e,ex]
    .obtain⟨_,_,_,_,o,_,_,e,ex,_⟩:=I.hok p _ hk;show#[o,e,ex]
   let⟨o,e,ex⟩:=z;show#[#[o,e,ex.1],λa e2=>?_];cases e2;show#[o,e,ex.2.1]
  .obtain⟨o,_,_,_,e,ex,_⟩:=I.hok p _ hk;show#[#[o,e,ex.1],λa e2=>?_];cases e2;show#[o,e,ex.2.1]
 |_=>show ix ty
def tBM(K:aS)(T:cD)(r:V->Z V->Hp->VK->Prop)(to:TE)(t:TA):TE:=λL H Q=>to L H λx H1=>tyV K T x H1/\t L H1 λxs H2=>r x xs H2 Q
variable{t:TA}{T id:cD}{r:V->Z V->Hp->VK->Prop}
def wA(pa:PlainAttrs T)(slot:Slot T name id)(hty:typeOf (.builtin id)=bc (.type "method_descriptor"))(hm:MtR X id r)(ho:PE X o to)(ha:PA X (e::es) t)
  (Ys:gN o name X.env (eval o X.env)=eval o X.env:=by rfl)
  (ī:((bW YG (aM (e::es) X.env)).all (λx=>!x.1) && (jH YG (jI [] X.env)).all (λx=>x.1.isSome)
   && decide ((e::es).length+([]:Z iy).length+(if ([]:Z iy).isEmpty then 0 else 1)<30))=ai:=by rfl)
  (Yr:(YN.endLine==YG.line)=ai:=by rfl)(hs:aM (e::es) X.env=(ar,eval e X.env)::aM es X.env:=by rfl)(Za:(bW YG (aM es X.env)).any (·.1)=ar:=by rfl):
  PE X (.Call (.Attribute o name YN) (e::es) [] YG) (tBM X.K T r to t):=by
 intro Z' s L H Q I h;show wpAny_Call_method_late Ys ī Yr W (YI (ho Z' s L H _ I h) λv s1 #[x,H1,I1,r1,ty,q1]=>?_);let⟨h1,h2⟩:=Jl I1 r1 ty;show#[T,id,pa,slot,hty,h1,h2,?_];let hA:=ha YG Z' s1 L H1 _ I1 q1;rw[hs] at hA ⊢;show zK (by show(ar || (bW YG (aM es X.env)).any (·.1))=ar;rw[Za]<;>rfl) (GL ?_);show YI hA λE s2 #[vs,H2,I2,r2,q2]=>hm Z' s2 L H2 x vs v E Q I2 r1 r2 q2
end
def MtM(X:Cx)(id:cD)(r:V->Z V->Hp->VK->Prop):Prop:=
 ∀(Z':Z (av×Obj))(s:aH)(L:St)(H:Hp)(x:V)(xs:Z V)(v:aw)(E:Z aw)(Q:VK),XS X Z' L H s->bF x v->bi xs E->r x xs H Q->
  aL .(t) X.A (call (.builtin id) (v::E)) (EP X Z' L Q) X.xe s
def bi.one:∀{x:V}{E:Z aw},bi [x] E->∃u,E=[u]/\bF x u
 |_,_,.cons r .nil=>#[_,W,r]
def bi.reverse{xs:Z V}{E:Z aw}(h:bi xs E):bi xs.reverse E.reverse:=by
 induction h with
 |nil=>show .nil
 |cons r t ih=>rw[zL,zL];show bi.append ih (.cons r .nil)
def bi.rep{xs:Z V}{E:Z aw}(h:bi xs E):∀k:ag,bi (bQ k xs).flatten (bQ k E).flatten
 |0=>.nil
 |k+1=>by rw[lM,lM,oZ,oZ];show bi.append h (bi.rep h k)
def Dk(XY:Z aw):∀(k:ag)(XT:Z aw),
  GM (λx1 x2=>x1++x2) XT.toArray (bQ k XY.toArray)=(XT++(bQ k XY).flatten).toArray
 |0,XT=>by simp
 |k+1,XT=>by
  let e:XT.toArray++XY.toArray=(XT++XY).toArray:=by simp
  let e2:(XT++XY)++(bQ k XY).flatten=XT++(bQ (k+1) XY).flatten:=by rw[lM,oZ,o0]
  rw[<-e2,<-Dk XY k (XT++XY),<-e,lM,fO]
variable{XY:Z aw}
section
variable{l b:av}{xs zs:Z V}
def XS.lset{Ĩ:Z aw}{f:bI aw->bI aw}(I:XS X Z' L H s)(hH:H l=U (.lst xs))
  (e:s.heap.get? l=U {cls:=.type "list",data:=.seq XY.toArray n})(hf:f XY.toArray=Ĩ.toArray)(hv:bi ys Ĩ)(hz:ys.length<=aK):
  XS X Z' L (X0 H l (.lst ys)) {s with heap:=s.heap.update l (Vg f),toks:=t'}:=by
 let q:=PySem.IsL.update e f;rw[hf] at q;show I.write (by rw[hH];show trivial) (.inl W) (λb' u M hu=>(qy s.heap (Vg f) (cL M)).trans hu) #[_,q] ?_;show#[hz,Ĩ,_,hv,q]
def XS.lnew(I:XS X Z' L H s)(hv:bi ys XY)(hz:ys.length<=aK):
  XS X Z' L (X0 H s.heap.objs.size (.lst ys)) {s with heap:=s.heap.push {cls:=.type "list",data:=.seq XY.toArray},toks:=t'} :=
 I.laid (λ_ _ q=>qu _ q) (qw _) #[hz,XY,0,hv,qH _ W]
def XS.fresh(I:XS X Z' L H s):H s.heap.objs.size=B:=I.hok.fresh (qw _)
def XS.lstM(I:XS X Z' L H s)(hH:H l=U (.lst xs)):xs.length<=aK/\∃(XY:Z aw)(n:ag),bi xs XY/\xs.length=XY.length/\s.heap.get? l=U {cls:=.type "list",data:=.seq XY.toArray n}:=by let⟨z,XY,n,r,e⟩:=I.hok l _ hH;show#[z,XY,n,r,r.length,e]
def BL(h:n<=aK):GN n=ar:=by show qP .(b)
end
def IA:V->Z V->Hp->VK->Prop:=λx vs H Q=>∃l xs y,x=.ref l/\vs=[y]/\H l=U (.lst xs)/\xs.length<aK/\Q .non (X0 H l (.lst (xs++[y])))
def D':MtM X "list.append" IA:=by intro Z' s L H x vs v E Q I rx rv h;let⟨l,xs,y,rfl,rfl,hH,hz,q⟩:=h;cases rx;let⟨u,rfl,ru⟩:=rv.one;let⟨z,XY,n,r,hl,e⟩:=I.lstM hH;show zM Vh #[_,e,W] F.entry_list_append (F.args_list_append_2 _ _) (PySem.list_append l XY.toArray n u (by rw[qC];ext)) #[e,?_];show#[.non,_,I.lset hH e (by simp) (r.append (.cons ru .nil)) ?_,W,q];rw[qj,nt];ext
def L':V->Z V->Hp->VK->Prop:=λx vs H Q=>∃l b xs zs,x=.ref l/\vs=[.ref b]/\H l=U (.lst xs)/\H b=U (.lst zs)/\xs.length+zs.length<=aK/\Q .non (X0 H l (.lst (xs++zs)))
def Ig:MtM X "list.extend" L':=by
 intro Z' s L H x vs v E Q I rx rv h;let⟨l,b,xs,zs,rfl,rfl,hH,hB,hz,q⟩:=h;cases rx;let⟨u,rfl,ru⟩:=rv.one;cases ru;let⟨z,XY,n,r,hl,e⟩:=I.lstM hH;let⟨z2,ħ,n2,r2,Μ,e2⟩:=I.lstM hB;let Zw:XY.toArray.size+ħ.toArray.size<=aK:=by rw[qC,qC];ext
 let ŭ:¬(!XY.toArray.isEmpty && GN (XY.toArray.size+ħ.toArray.size))=ai:=by rw[BL Zw,GO];show qt
 show zM Vi #[_,e,W] F.entry_list_extend (F.args_list_extend_2 _ _)
  (AutoSeq1.list_extend_list_list_0 l XY.toArray n b ħ.toArray n2 ŭ (by rw[qC];ext)) #[e,e2,?_]
 show#[.non,_,I.lset hH e (by simp) (r.append r2) ?_,W,q];rw[qj];ext
def yR:R2:=λx y H Q=>∃l b xs zs,x=.ref l/\y=.ref b/\H l=U (.lst xs)/\H b=U (.lst zs)/\xs.length+zs.length<=aK/\∀p,H p=B->Q (.ref p) (X0 H p (.lst (xs++zs)))
def Oh:Yl X (gL .Add) yR:=by
 intro Z' s L H x y v u Q I rx ry h;let⟨l,b,xs,zs,rfl,rfl,hH,hB,hz,q⟩:=h;cases rx;cases ry;let⟨z,XY,n,r,hl,e⟩:=I.lstM hH;let⟨z2,ħ,n2,r2,Μ,e2⟩:=I.lstM hB;show PySem.P.add_list e e2 ?_ (by rw[qC,qC];ext);let ea:XY.toArray++ħ.toArray=(XY++ħ).toArray:=by simp
 rw[ea];show#[.ref _,_,I.lnew (r.append r2) (by rw[qj];ext),W,q _ I.fresh]
def A6:R2:=λx y H Q=>∃l k xs,x=.ref l/\y=.int k/\H l=U (.lst xs) /\ -(2 ^ 63)<=k/\k<2 ^ 63/\xs.length*k.toNat<=aK /\
 ∀p,H p=B->Q (.ref p) (X0 H p (.lst (bQ k.toNat xs).flatten))
def Co(xs:Z α)(k:ag):(bQ k xs).flatten.length=k*xs.length:=by
 induction k with
 |zero=>simp
 |succ k ih=>rw[lM,oZ,qj,ih,o3,Nat.add_comm]
def Rr:Yl X (gL .Mult) A6:=by
 intro Z' s L H x y v u Q I rx ry h;let⟨l,k,xs,rfl,rfl,hH,h1,h2,hz,q⟩:=h;cases rx;let⟨t,rfl⟩:=ry;let⟨z,XY,n,r,hl,e⟩:=I.lstM hH;let X2:XY.toArray.size*k.toNat<=aK:=by rw[qC,<-hl];show hz
 let hcap:¬XY.toArray.size*k.toNat > (2 ^ 63-1) / 8:=by
  let:(aK:ag)<=(2 ^ 63-1) / 8:=by decide
  ext
 let hfit:¬(!Xt k)=ai:=by rw[fitsIndex_both h1 h2];show qt
 let ŭ:¬GN (XY.toArray.size*k.toNat)=ai:=by rw[BL X2];show qt
 let ā:GM (λx1 x2=>x1++x2) #[] (bQ (if XY.toArray.isEmpty=ai then 0 else k.toNat) XY.toArray)=(bQ k.toNat XY).flatten.toArray:=by
  let f0:∀m:ag,GM (λx1 x2=>x1++x2) #[] (bQ m XY.toArray)=(bQ m XY).flatten.toArray:=λm=>by let:=Dk XY m [];rw[qT] at this;show this
  rw[f0];cases XY with
  |nil=>simp
  |cons a r'=>rw[qZ (by simp)]
 show wpAny_binaryOp_repeat_ref .(c) #[_,e,W] (λs'=>GK s' k t) noFill_list_mul F.fills_int_mul Vj repeat_list F.slot_int_index.lookup
  (zM Vj (GK s k t) F.entry_int_rmul (F.args_int_rmul_2 _ _) (int___rmul___int_list k t l XY.toArray n)
   #[e,W,#[_,e,W],zM F.slot_list_mul #[_,e,W] F.entry_list_mul (F.args_list_mul_2 _ _) (AutoListH.list___mul___list_int_3 l XY.toArray n k t hfit hcap ŭ) #[e,?_]])
 rw[ā];show#[.ref _,_,I.lnew (r.rep k.toNat) (by rw[Co,Vk];show hz),W,q _ I.fresh]
section
variable[dJ κ]
noncomputable def gI(XJ:Z (κ×V))(k:κ):au V:=(XJ.find? λkv=>decide (kv.1=k)).map (·.2)
noncomputable def putK(XJ:Z (κ×V))(k:κ)(v:V):Z (κ×V):=
 if (XJ.any λkv=>decide (kv.1=k))=ai then XJ.map (λkv=>if kv.1=k then (kv.1,v) else kv) else XJ++[(k,v)]
def u8{p:κ×V}{r:Z (κ×V)}{k:κ}(e:p.1=k):gI (p::r) k=U p.2:=by simp[gI,eY,e]
def uc{p:κ×V}{r:Z (κ×V)}{k:κ}(e:¬p.1=k):gI (p::r) k=gI r k:=by simp[gI,eY,e]
def NR(k:κ):∀XJ:Z (κ×V),(XJ.any λkv=>decide (kv.1=k))=(gI XJ k).isSome:=by
 intro X7
 induction X7 with
 |nil=>
  show W
 |cons p r ih=>
  rw[ky];by_cases e:p.1=k
  .simp only[u8 e,qU e,Bool.true_or,Option.isSome_some]
  .rw[uc e,qP e,zN];show ih
def FU(XJ:Z (κ×V))(k:κ)(v:V):(putK XJ k v).length<=XJ.length+1:=by
 unfold putK;split
 .rw[qf];ext
 .rw[qj,qi,qm];ext
def fD.isSome_eq{o:au V}{u:au aw}(r:fD o u):o.isSome=u.isSome:=by
 cases o with
 |none=>cases u with
  |none=>rfl
  |some _=>show(r).elim
 |some _=>cases u with
  |none=>show(r).elim
  |some _=>rfl
def fD.getD{o:au V}{u:au aw}{d:V}{d':aw}(r:fD o u)(rd:bF d d'):bF (o.getD d) (u.getD d'):=by
 cases o with
 |none=>cases u with
  |none=>show rd
  |some _=>show(r).elim
 |some _=>cases u with
  |none=>show(r).elim
  |some _=>show r
def KV.val{XJ:Z (κ×V)}{vs:Z (κ×aw)}(r:KV XJ vs)(k:κ):fD (gI XJ k) (se vs k):=by
 induction r with
 |nil=>show kq
 | @cons p q ps qs h t ih=>
  let⟨h1,h2⟩:=h;by_cases e:p.1=k
  .let e':q.1=k:=h1.symm.trans e;let b:se (q::qs) k=U q.2:=by simp[se,eY,e']
   rw[u8 e,b];show h2
  .let e':¬q.1=k:=λz=>e (h1.trans z);let b:se (q::qs) k=se qs k:=by simp[se,eY,e']
   rw[uc e,b];show ih
def KV.any{XJ:Z (κ×V)}{vs:Z (κ×aw)}(r:KV XJ vs)(k:κ):(XJ.any λkv=>decide (kv.1=k))=vs.any λkv=>decide (kv.1=k):=by
 induction r with
 |nil=>rfl
 |cons h t ih=>rw[ky,ky,ih,h.1]
def KV.repl{XJ:Z (κ×V)}{vs:Z (κ×aw)}(r:KV XJ vs)(k:κ)(ry:bF y u):
  KV (XJ.map λkv=>if kv.1=k then (kv.1,y) else kv) (vs.map λkv=>if kv.1=k then (kv.1,u) else kv):=by
 induction r with
 |nil=>show .nil
 | @cons p q ps qs h t ih=>
  rw[qo,qo];show .cons ?_ ih;let⟨h1,h2⟩:=h;by_cases e:p.1=k
  .rw[qY e,qY (h1.symm.trans e)];show#[h1,ry]
  .rw[qZ e,qZ (λz=>e (h1.trans z))];show#[h1,h2]
def KV.put{XJ:Z (κ×V)}{vs:Z (κ×aw)}(r:KV XJ vs)(k:κ)(ry:bF y u):KV (putK XJ k y) (stored vs k u):=by
 unfold putK stored;rw[r.any k];by_cases e:(vs.any λkv=>decide (kv.1=k))=ai
 .rw[qY e,qY e];show r.repl k ry
 .rw[qZ e,qZ e];show Paired.snoc r #[W,ry]
def KV.keys{XJ:Z (κ×V)}{vs:Z (κ×aw)}(r:KV XJ vs):XJ.map (·.1)=vs.map (·.1):=by
 induction r with
 |nil=>rfl
 |cons h t ih=>rw[qo,qo,ih,h.1]
def KV.length{XJ:Z (κ×V)}{vs:Z (κ×aw)}(r:KV XJ vs):XJ.length=vs.length:=Paired.length r
end
def jT{k:XR}(r:bF (kV k) u):(cG P w).is k u=ai:=by
 cases k with
 |inl i=>let⟨t,e⟩:=(r);subst e;show Po P w i t
 |inr x=>let⟨t,e⟩:=(r);subst e;show P3 P w x t
def RU:∀{ks:Z XR}{E:Z aw},bi (ks.map kV) E->ItemsAre (cG P w) ks E:=by
 intro X7
 induction X7 with
 |nil=>
  intro _ r;rw[qQ] at r;cases r;show .nil
 |cons k ks ih=>
  intro _ r;rw[qo] at r;cases r with
  |cons h t=>show .cons (jT h) (ih t)
abbrev KT(H:Hp):Z (Z XR×V)->Z (Z XR×av×aw)->Prop:=Paired λp q=>p.1=q.1/\H q.2.1=U (.tup (p.1.map kV))/\bF p.2 q.2.2
def KT.val{XJ:Z (Z XR×V)}{xs:Z (Z XR×av×aw)}(r:KT H XJ xs)(k:Z XR):fD (gI XJ k) ((nu xs k).map (·.2)):=by
 induction r with
 |nil=>show kq
 | @cons p q ps qs h t ih=>
  let⟨h1,_,h2⟩:=h;by_cases e:p.1=k
  .let e':q.1=k:=h1.symm.trans e;let b:nu (q::qs) k=U q.2:=by simp[nu,eY,e']
   rw[u8 e,b];show h2
  .let e':¬q.1=k:=λz=>e (h1.trans z);let b:nu (q::qs) k=nu qs k:=by simp[nu,eY,e']
   rw[uc e,b];show ih
def KT.repl{XJ:Z (Z XR×V)}{xs:Z (Z XR×av×aw)}(r:KT H XJ xs)(k:Z XR)(ry:bF y u):
  KT H (XJ.map λkv=>if kv.1=k then (kv.1,y) else kv) (xs.map (putAt k u)):=by
 induction r with
 |nil=>show .nil
 | @cons p q ps qs h t ih=>
  rw[qo,qo];show .cons ?_ ih;let⟨h1,h2,h3⟩:=h;unfold putAt;by_cases e:p.1=k
  .rw[qY e,qY (h1.symm.trans e)];show#[h1,h2,ry]
  .rw[qZ e,qZ (λz=>e (h1.trans z))];show#[h1,h2,h3]
def KT.put{XJ:Z (Z XR×V)}{xs:Z (Z XR×av×aw)}(r:KT H XJ xs)(k:Z XR){b:av}(M:H b=U (.tup (k.map kV)))(ry:bF y u):
  KT H (putK XJ k y) (storedH xs k b u):=by
 let e:(XJ.any λkv=>decide (kv.1=k))=(nu xs k).isSome:=by rw[NR,(r.val k).isSome_eq,zO]
 unfold putK storedH;rw[e];by_cases q:(nu xs k).isSome=ai
 .rw[qY q,qY q];show r.repl k ry
 .rw[qZ q,qZ q];show Paired.snoc r #[W,M,ry]
def KT.keeps{XJ:Z (Z XR×V)}{xs:Z (Z XR×av×aw)}(r:KT H XJ xs)(ht:∀b ys,H b=U (.tup ys)->H' b=U (.tup ys)):KT H' XJ xs:=
 Paired.mapP r λ_ _ z=>#[z.1,ht _ _ z.2.1,z.2.2]
section
variable{h:Heap}
def B1{u:HO}(ok:Ze P w H h)(e:Rd H a u):cO P w H h a u:=e.ok ok
def gC{XJ:Z (XR×V)}(ok:Ze P w H h)(e:Rd H a (.dK XJ)):XJ.length<=aK/\(a==i7)=ar/\∃vs,KV XJ vs/\h.DictOf (cG P w) a vs:=
 show cO P w H h a (.dK XJ) from B1 ok e
def BB{XJ:Z (XR×V)}(ok:Ze P w H h)(e:H a=U (.dK XJ)):XJ.length<=aK/\(a==i7)=ar/\∃vs,KV XJ vs/\h.DictOf (cG P w) a vs:=gC ok (.inl e)
def kc{ks:Z XR}(ok:Ze P w H h)(e:H a=U (.tup (ks.map kV))):(lH (cG P w)).is h ks a:=by let⟨_,XY,r,o,h1,h2,n,h3⟩:=(ok a _ e);show#[o,XY.toArray,n,h1,h2,h3,by simpa using RU r]
def jv{XJ:Z (Z XR×V)}(ok:Ze P w H h)(e:Rd H a (.dT XJ)):XJ.length<=aK/\(a==i7)=ar /\
  ∃xs,KT H XJ xs/\h.DictOfH (lH (cG P w)) a xs:=by
 let⟨z,y,xs,r,o,es,ep,h1,h2,h3,h4,h5⟩:=(B1 ok e);show#[z,y,xs,r,o,es,ep,h1,h2,h3,h4,λx hx=>?_,h5];let all:∀{l:Z (Z XR×V)}{m:Z (Z XR×av×aw)},KT H l m->∀x∈m,(lH (cG P w)).is h x.1 x.2.1:=by
  intro l m q
  induction q with
  |nil=>intro x hx;show nomatch hx
  | @cons p q ps qs hq t ih=>
   intro x hx;rcases cg.mp hx with e|hx
   .subst e;show kc ok (by rw[<-hq.1];show hq.2.1)
   .exact ih x hx
 show all r x hx
def PH{XJ:Z (Z XR×V)}(ok:Ze P w H h)(e:H a=U (.dT XJ)):XJ.length<=aK/\(a==i7)=ar /\
  ∃xs,KT H XJ xs/\h.DictOfH (lH (cG P w)) a xs:=jv ok (.inl e)
end
def fS(H:Hp)(a:av)(y:V)(r:au V):Prop:=
 (∃XJ k,Rd H a (.dK XJ)/\y=kV k/\r=gI XJ k)\/∃XJ k b,Rd H a (.dT XJ)/\y=.ref b/\H b=U (.tup (k.map kV))/\r=gI XJ k
def iR(H:Hp)(a:av)(y v:V)(H':Hp):Prop:=
 (∃XJ k,H a=U (.dK XJ)/\y=kV k/\XJ.length<aK/\H'=X0 H a (.dK (putK XJ k v))) \/
 ∃XJ k b,H a=U (.dT XJ)/\y=.ref b/\H b=U (.tup (k.map kV))/\XJ.length<aK/\H'=X0 H a (.dT (putK XJ k v))
def fS.k{XJ:Z (XR×V)}{k:XR}(e:H a=U (.dK XJ)):fS H a (kV k) (gI XJ k):=.inl #[XJ,k,.inl e,W,W]
def fS.t{b:av}{XJ:Z (Z XR×V)}{k:Z XR}(e:H a=U (.dT XJ))(eb:H b=U (.tup (k.map kV))):fS H a (.ref b) (gI XJ k):=.inr #[XJ,k,b,.inl e,W,eb,W]
def iR.k{XJ:Z (XR×V)}{k:XR}(e:H a=U (.dK XJ))(hl:XJ.length<aK):iR H a (kV k) v (X0 H a (.dK (putK XJ k v))):=.inl #[XJ,k,e,W,hl,W]
def iR.t{b:av}{XJ:Z (Z XR×V)}{k:Z XR}(e:H a=U (.dT XJ))(eb:H b=U (.tup (k.map kV)))(hl:XJ.length<aK):
  iR H a (.ref b) v (X0 H a (.dT (putK XJ k v))):=.inr #[XJ,k,b,e,W,eb,hl,W]
section
variable{r:aw}{o:au V}
def XS.big(I:XS X Z' L H s):i7<s.heap.objs.size:=by let h:fu<s.heap.objs.size:=(I.mod.glob.keeps I.bk).lt;show sg .(c) h
def Jo(hu:A.units+1<cq)(I:XS X Z' L H s)(g:fS H a y (U v))(ry:bF y u)(h:∀w' s',XS X Z' L H s'->bF v w'->Q w' s'):
  aL .(t) A (nr (.ref a) u) Q us s:=by
 rcases g with⟨XJ,k,e,ey,l⟩|⟨XJ,k,b,e,ey,eb,l⟩
 .subst ey;let⟨z,hd,vs,rel,dd⟩:=gC I.hok e;let⟨w',hw,Zk⟩:=fD.some_of (by rw[l];show rel.val k);show wpAny_getItem_of (jT ry) dd.mapOf hw (h w' _ (I.tok _) Zk)
 .subst ey;cases(ry);let⟨z,hd,xs,rel,dd⟩:=jv I.hok e;let⟨w',hw,Zk⟩:=fD.some_of (by rw[l];show rel.val k);let⟨p,hp,Ā⟩:=YE hw;show wpAny_getItem_heap (si hu) (kc I.hok eb) dd hp ?_;rw[Ā];show h w' _ (I.tok _) Zk
def NC(hu:A.units+1<cq)(I:XS X Z' L H s)(g:fS H a y o)(ry:bF y u)(h:∀s',XS X Z' L H s'->Q (.bool o.isSome) s'):
  aL .(t) A (dB .In u (.ref a)) Q us s:=by
 rcases g with⟨XJ,k,e,ey,l⟩|⟨XJ,k,b,e,ey,eb,l⟩
 .subst ey;let⟨z,hd,vs,rel,dd⟩:=gC I.hok e;show wpAny_in_of (jT ry) hd dd.mapOf ?_;rw[<-(rel.val k).isSome_eq,<-l];show h _ (I.tok _)
 .subst ey;cases(ry);let⟨z,hd,xs,rel,dd⟩:=jv I.hok e;show wpAny_in_heap (si hu) (kc I.hok eb) hd dd ?_;let q:=(rel.val k).isSome_eq;rw[zO] at q;rw[<-q,<-l];show h _ (I.tok _)
def MR(hu:A.units+1<cq)(I:XS X Z' L H s)(g:fS H a y o)(ry:bF y u)(h:∀s',XS X Z' L H s'->Q (.bool (!o.isSome)) s'):
  aL .(t) A (dB .NotIn u (.ref a)) Q us s:=by
 rcases g with⟨XJ,k,e,ey,l⟩|⟨XJ,k,b,e,ey,eb,l⟩
 .subst ey;let⟨z,hd,vs,rel,dd⟩:=gC I.hok e;show wpAny_notIn_of (jT ry) hd dd.mapOf ?_;rw[<-(rel.val k).isSome_eq,<-l];show h _ (I.tok _)
 .subst ey;cases(ry);let⟨z,hd,xs,rel,dd⟩:=jv I.hok e;show wpAny_notIn_heap (si hu) (kc I.hok eb) hd dd ?_;let q:=(rel.val k).isSome_eq;rw[zO] at q;rw[<-q,<-l];show h _ (I.tok _)
def Ej{ob:HO}(I:XS X Z' L H s)(mu:Mut (H a))(hs:g9 a s.heap h')(he:∃q,h'.get? a=U q)(new:cO X.prog X.w (X0 H a ob) h' a ob):
  XS X Z' L (X0 H a ob) {s with heap:=h',toks:=t'} :=
 I.write mu (.inl W) (λb q M z=>(hs.2 b M).trans z) he new
def PD{XJ:Z (XR×V)}{vs:Z (XR×aw)}(z:XJ.length<=aK)(hd:(a==i7)=ar)(rel:KV XJ vs)(dd:h'.DictOf (cG P w) a vs):
  cO P w H' h' a (.dK XJ):=#[z,hd,vs,rel,dd]
def OZ{Q:m8->aH->Prop}(hu:A.units+1<cq)(I:XS X Z' L H s)(g:iR H a y v H')(ry:bF y u)(rv:bF v r)(h:∀s',XS X Z' L H' s'->Q () s'):
  aL .(t) A (setItem (.ref a) u r) Q us s:=by
 rcases g with⟨XJ,k,e,ey,l,eH⟩|⟨XJ,k,b,e,ey,eb,l,eH⟩
 .subst ey eH;let⟨z,hd,vs,rel,dd⟩:=BB I.hok e;let hz:vs.length<=aK:=by rw[<-rel.length];show z
  let hl:(putK XJ k v).length<=aK:=by let:=FU XJ k v;ext
  show wpAny_setItem_pairs (jT ry) dd λh' dd' hs=>h _ ?_;let he:∃q,h'.get? a=U q:=let #[q,_,_,hq,_]:=dd';#[q,hq]
  show Ej I (by rw[e];show kq) hs he (PD hl hd (rel.put k rv) dd')
 .subst ey eH;cases(ry);let⟨z,hd,xs,rel,dd⟩:=PH I.hok e;let hz:xs.length<=aK:=by rw[<-Paired.length rel];show z
  let hl:(putK XJ k v).length<=aK:=by let:=FU XJ k v;ext
  show wpAny_setItem_heap (si hu) (kc I.hok eb) dd λh' dd' hs=>h _ ?_;let⟨q,es,ep,hq,h2,h3,h4,_,h5⟩:=dd';show Ej I (by rw[e];show kq) hs #[q,hq] #[hl,hd,_,(rel.put k eb rv).keeps λc ys ec=>?_,q,es,ep,hq,h2,h3,h4,h5];rw[aD (xD ec e (λz=>nomatch z))];show ec
end
def wY(i:Expr):Prop:=∀ov iv,zJ i ar ov iv=operate [ov,iv] (nr ov iv)
def R1{slice:Expr}{T id:cD} 
  (hl:vI (.type T) "__getitem__"=bc (U (.builtin id)))(hs:wY slice)
  (h:aL (aN prog w) A (eval YL env) (λo Z7=>aL (aN prog w) A (eval slice env) (λi Z4=>Z4.TypeIs o T/\aL (aN prog w) A (nr o i) Q us Z4) us Z7) us s):
  aL (aN prog w) A (eval (.Subscript YL slice pos) env) Q us s:=by
 show zI (iw h (λo Z7 ZV=>iw ZV (λi Z4 ZX=>?_) λ_ _ x=>x) λ_ _ x=>x);let⟨hT,ZX⟩:=ZX;show qx ?_;rw[getitemInPython_of_ne hT.not_modules];show qx (GP hT hl ?_);let Yy:aL (aN prog w) A (zJ slice ar o i) (λr Z1=>aL (aN prog w) A (letTemporaryGo YL o r >>= λ_=>bc r) Q us Z1) us Z4:=by rw[hs o i];show wpAny_operating (iw ZX (λr Z1 ZU=>qx (wpAny_letTemporaryGo (qB ZU))) λ_ _ x=>x)
 first
  |show qB (qx Yy)
  |show qx (qB (qx Yy))
  |show qx Yy
def RB{o:au V}(I:XS X Z' L H s)(g:fS H a y o):s.TypeIs (.ref a) "dict":=by
 rcases g with⟨XJ,k,e,_,_⟩|⟨XJ,k,b,e,_,_,_⟩
 .obtain⟨_,_,vs,_,dd⟩:=gC I.hok e;show dd.typeIs
 .obtain⟨_,_,xs,_,dd⟩:=jv I.hok e;show dd.typeIs
def HW(td ty:TE):TE:=λL H Q=>td L H λx H1=>ty L H1 λy H2=>∃a v,x=.ref a/\fS H2 a y (U v)/\Q v H2
def SA(td ty tv:TE):TS:=λD L H=>tv L H λv H1=>td L H1 λx H2=>ty L H2 λy H3=>∃a H4,x=.ref a/\iR H3 a y v H4/\D.nx L H4
variable{td ty:TE}
section
variable{i:Expr}
def Uf(hu:X.A.units+1<cq)(ho:PE X o td)(hi:PE X i ty)(hs:wY i):PE X (.Subscript o i pos) (HW td ty):=by intro Z' s L H Q I h;show R1 PySem.F.slot_dict_getitem.lookup hs (YI (ho Z' s L H _ I h) λu s1 #[x,H1,I1,rx,q1]=>YI (hi Z' s1 L H1 _ I1 q1) λiv s2 #[y,H2,I2,ry,a,v,ex,g,q2]=>?_);subst ex;obtain rfl:u=cI a:=rx;show#[RB I2 g,Jo hu I2 g ry λw' s3 I3 Zk=>#[v,H2,I3,Zk,q2]]
def zo(hu:X.A.units+1<cq)(ho:PE X o td)(hi:PE X i ty)(hv:PE X YL tv)(hs:dA YL (U (.Subscript o i YQ)) pos.line X.env=bc ar):
  PS X (.Assign [.Subscript o i YQ] YL pos) (SA td ty tv):=by
 intro Z' s L H D I h;show wpAny_Assign_Subscript (YI (hv Z' s L H _ I h) λr s1 #[v,H1,I1,rv,q1]=>YI (ho Z' s1 L H1 _ I1 q1) λu s2 #[x,H2,I2,rx,q2]=>YI (hi Z' s2 L H2 _ I2 q2) λiv s3 #[y,H3,I3,ry,a,H4,ex,g,q3]=>?_) hs;subst ex;obtain rfl:u=cI a:=rx;show OZ hu I3 g ry rv λs4 I4=>#[L,H4,I4,q3]
end
def Nh(h:Heap)(M:i7<h.objs.size):cO P w H (h.push {cls:=.type "dict",data:=.dict #[]}) h.objs.size (.dK []):=
 #[gM _,lF.mpr (cL (qD M)),[],.nil,Vl h]
def L3(h:Heap)(M:i7<h.objs.size):cO P w H (h.push {cls:=.type "dict",data:=.dict #[]}) h.objs.size (.dT []):=
 #[gM _,lF.mpr (cL (qD M)),[],.nil,_,#[],0,qH _ W,#[W,W,W],W,W,lN]
def LU:TE:=λ_ H Q=>∀p,H p=B->Q (.ref p) (X0 H p (.dK []))
def O6:TE:=λ_ H Q=>∀p,H p=B->Q (.ref p) (X0 H p (.dT []))
def vd:PE X (.Dict [] [] pos) LU:=λZ' s L H Q I h=>
 Vm #[.ref s.heap.objs.size,_,I.laid (λ_ _ q=>qu _ q) (qw _) (Nh s.heap I.big),W,h _ (I.hok.fresh (qw _))]
def CT:PE X (.Dict [] [] pos) O6:=λZ' s L H Q I h=>
 Vm #[.ref s.heap.objs.size,_,I.laid (λ_ _ q=>qu _ q) (qw _) (L3 s.heap I.big),W,h _ (I.hok.fresh (qw _))]
structure M1(X:Cx)(o:Expr)(m:aj)(YN:di)(e:Expr)(YG:di):Prop where
 base:gN o m X.env (eval o X.env)=eval o X.env
 few:((bW YG (aM [e] X.env)).all (λx=>!x.1) && (jH YG (jI [] X.env)).all (λx=>x.1.isSome)
  && decide (([e]:Z Expr).length+([]:Z iy).length+(if ([]:Z iy).isEmpty then 0 else 1)<30))=ai
 line:(YN.endLine==YG.line)=ai
 trees:bW YG (aM [e] X.env)=[(ar,eval e X.env)]
structure M2(X:Cx)(o:Expr)(m:aj)(YN:di)(e f:Expr)(YG:di):Prop where
 base:gN o m X.env (eval o X.env)=eval o X.env
 few:((bW YG (aM [e,f] X.env)).all (λx=>!x.1) && (jH YG (jI [] X.env)).all (λx=>x.1.isSome)
  && decide (([e,f]:Z Expr).length+([]:Z iy).length+(if ([]:Z iy).isEmpty then 0 else 1)<30))=ai
 line:(YN.endLine==YG.line)=ai
 trees:bW YG (aM [e,f] X.env)=[(ar,eval e X.env),(ar,eval f X.env)]
def IsD(H:Hp)(a:av):Prop:=(∃XJ,Rd H a (.dK XJ))\/∃XJ,Rd H a (.dT XJ)
def xA(I:XS X Z' L H s)(d:IsD H a):
  s.TypeIs (.ref a) "dict"/\(∀b,cI a=.ref b->∃ob,s.heap.get? b=U ob/\ob.dict=B)/\(a==i7)=ar:=by
 rcases d with⟨XJ,e⟩|⟨XJ,e⟩
 .obtain⟨_,hd,vs,_,dd⟩:=gC I.hok e;show#[dd.typeIs,λb q=>?_,hd];cases q;let⟨ob,_,_,h1,h2,_⟩:=dd;show#[ob,h1,h2.2.1]
 .obtain⟨_,hd,xs,_,dd⟩:=jv I.hok e;show#[dd.typeIs,λb q=>?_,hd];cases q;let⟨ob,_,_,h1,h2,_⟩:=dd;show#[ob,h1,h2.2.1]
section
variable{d:V}{r:aw}{o:au V}
def QK(hu:A.units+1<cq)(I:XS X Z' L H s)(g:fS H a y o)(ry:bF y u)(h:∀w' s',XS X Z' L H s'->bF (o.getD .non) w'->Q w' s'):
  aL .(t) A (call (.builtin "dict.get") [.ref a,u]) Q us s:=by
 rcases g with⟨XJ,k,e,ey,l⟩|⟨XJ,k,b,e,ey,eb,l⟩
 .subst ey;let⟨z,hd,vs,rel,dd⟩:=gC I.hok e;show vM sj dd.typeIs zP (Vn _ _) (meets_dict_get (cG X.prog X.w) a (jT ry) hd) #[_,dd.mapOf,h _ _ (I.tok _) ?_];rw[l];show(rel.val k).getD W
 .subst ey;cases(ry);let⟨z,hd,xs,rel,dd⟩:=jv I.hok e;show vM sj dd.typeIs zP (Vn _ _) (meetsH_dict_get (lH (cG X.prog X.w)) a b hd) #[si hu,k,xs,kc I.hok eb,dd,h _ _ (I.tok _) ?_];rw[l];show(rel.val k).getD W
def Rq(hu:A.units+1<cq)(I:XS X Z' L H s)(g:fS H a y o)(ry:bF y u)(rd:bF d r)(h:∀w' s',XS X Z' L H s'->bF (o.getD d) w'->Q w' s'):
  aL .(t) A (call (.builtin "dict.get") [.ref a,u,r]) Q us s:=by
 rcases g with⟨XJ,k,e,ey,l⟩|⟨XJ,k,b,e,ey,eb,l⟩
 .subst ey;let⟨z,hd,vs,rel,dd⟩:=gC I.hok e;show vM sj dd.typeIs zP (Vo _ _ _) (meets_dict_get_default (cG X.prog X.w) a (jT ry) hd r) #[_,dd.mapOf,h _ _ (I.tok _) ?_];rw[l];show(rel.val k).getD rd
 .subst ey;cases(ry);let⟨z,hd,xs,rel,dd⟩:=jv I.hok e;show vM sj dd.typeIs zP (Vo _ _ _) (meetsH_dict_get_default (lH (cG X.prog X.w)) a b hd r) #[si hu,k,xs,kc I.hok eb,dd,h _ _ (I.tok _) ?_];rw[l];show(rel.val k).getD rd
end
def Im(td ty:TE):TE:=λL H Q=>td L H λx H1=>∃a,x=.ref a/\IsD H1 a/\ty L H1 λy H2=>∃o,fS H2 a y o/\Q (o.getD .non) H2
def LQ(td ty tx:TE):TE:=λL H Q=>td L H λx H1=>∃a,x=.ref a/\IsD H1 a/\ty L H1 λy H2=>tx L H2 λz H3=>∃o,fS H3 a y o/\Q (o.getD z) H3
section
variable{f:Expr}{tx:TE}
def SC(hu:X.A.units+1<cq)(ho:PE X o td)(he:PE X e ty)(m:M1 X o "get" YN e YG):PE X (.Call (.Attribute o "get" YN) [e] [] YG) (Im td ty):=by intro Z' s L H Q I h;show Vp m.base m.few m.line GQ sj Vq (YI (ho Z' s L H _ I h) λu s1 #[x,H1,I1,rx,a,ex,d,q1]=>?_);subst ex;obtain rfl:u=cI a:=rx;let⟨t1,t2,_⟩:=xA I1 d;show#[t1,t2,?_];rw[m.trees];show zK W (GL (zC (YI (he Z' s1 L H1 _ I1 q1) λiv s2 #[y,H2,I2,ry,ov,g,q2]=>GA ?_)));show QK hu I2 g ry λw' s3 I3 Zk=>#[_,H2,I3,Zk,q2]
def HU(hu:X.A.units+1<cq)(ho:PE X o td)(he:PE X e ty)(hf:PE X f tx)(m:M2 X o "get" YN e f YG):PE X (.Call (.Attribute o "get" YN) [e,f] [] YG) (LQ td ty tx):=by
 intro Z' s L H Q I h;show Vp m.base m.few m.line GQ sj Vq (YI (ho Z' s L H _ I h) λu s1 #[x,H1,I1,rx,a,ex,d,q1]=>?_);subst ex;obtain rfl:u=cI a:=rx;let⟨t1,t2,_⟩:=xA I1 d;show#[t1,t2,?_];rw[m.trees];show zK W (GL (zC (YI (he Z' s1 L H1 _ I1 q1) λiv s2 #[y,H2,I2,ry,q2]=>
  zC (YI (hf Z' s2 L H2 _ I2 q2) λfv s3 #[z,H3,I3,rz,ov,g,q3]=>GA ?_))))
 show Rq hu I3 g ry rz λw' s4 I4 Zk=>#[_,H3,I4,Zk,q3]
end
variable{q:dy}{ļ:Z aj}{XP:(aj->au aw)->Heap->Prop}{YP:cA->Heap->Prop}
namespace Att
open PySem PySem.W PySem.Calls PyProof.Rows
def Kl{P:zQ}{h:Heap}:∀(ns:Z ah)(vs:Z aw),WellAll P h vs (ns.map Vr)->kx vs ns:=by
 intro ns
 induction ns with
 |nil=>
  intro vs w;rw[qQ] at w;cases w;show .nil
 |cons n ns ih=>
  intro vs w;rw[qo] at w;cases w with
  |cons a b=>
   cases a;show .cons _ _ (ih _ b)
def Pn{l:OpenLaw}(hn:l.most=U n){P:zQ}{h:Heap}{args:Z WData}{vals:Z aw} 
  (Ι:l.row.toRowW.claim.pre args=ai)(hwl:WellAll P h vals args):
  ∃a vs ns,vals=[cI a]/\args=[WData.list (ns.map Vr)]/\h.get? a=U {cls:=.type "list",data:=.seq vs.toArray}/\kx vs ns/\ns.length<=n:=by
 let hsh:WShape.hasAll [] args [.list .int]=ai:=(pre_splitW Ι).1;let hc:l.pre.holds [] {args:=args}=ai:=(pre_splitW Ι).2;let⟨d,r,rfl,h1,h2⟩:=hasAllW_cons hsh;obtain rfl:=hasAllW_nil h2;let⟨xs,rfl,h3⟩:=hasW_list h1;let⟨ns,rfl⟩:=items_int h3;let X2:ns.length<=n:=by
  let h4:(WTm.not (.lt (.lit (.int (n:ah))) (.len (.arg 0)))).holds [] {args:=[.list (ns.map .int)]}=ai:=by let h4:=(holds_andW hc).1;rw[hn] at h4;show h4
  let h5:=condW_of h4 (w_not (w_lt w_lit (w_len_list (w_arg W))));rw[qf] at h5;show Nat.le_of_not_lt λq=>?_
  first
   |(rw[qU q'] at h5;show bj h5)
   |(simp at h5;ext)
 cases hwl with
 |cons w1 w2=>
  cases w2;cases w1 with
  |list ho Ė=>show#[_,_,ns,W,W,ho,Kl ns _ Ė,X2]
def LM(l:OpenLaw)(args:Z WData):l.row.toRowW.claim.post args (.bool ai) args=ai:=
 postW_of
  (by first|rfl|decide|simp[WShape.has,WShape.arms,WShape.armsAll])
  (w_eq_bool (w_res W) w_lit) W
def attach_call{l:OpenLaw}{d:DefRec} 
  (hn:l.most=U n)(hdf:d.params.defaults=[])
  (call:∀(w:cA)(Z6 Z7:aH)(mg mb:aj->au aw)(fa:av)(o:Obj)(pm cd YV:aw)(a:av)(vs:Z aw)(ns:Z ah),
   Ground q ļ [] XP w Z6 mg mb Z7.heap->YP w Z7.heap->
   Z7.heap.get? fa=U o->o.data=.func (docDef d.name d.params d.body d.scope pm cd YV)->Z7.heap.CodeRec cd d.name->mg d.name=U (.ref fa)->
   Z7.heap.get? a=U {cls:=.type "list",data:=.seq vs.toArray}->kx vs ns->ns.length<=n->Z7.gens=#[]->
   fz (aN l.prog w) o4 (.call (.ref fa) #[[.ref a],[]]) (λr s'=>r=.ok (.ret (.bool ai))/\OldK Z7.heap s'.heap/\s'.os=Z7.os/\lI s'.gens) Z7):
  WalkO q ļ XP YP l.row.toRowW d [] (λf vs=>GR f vs):=by
 intro w Z6 Z7 mg mb G ρ fa o pm cd YV dV kV ho hd Yp hD hmg hg args vals as Ι hlay hrd hwl hlo;obtain rfl:dV=.none:=Dflts.none hD hdf;obtain rfl:kV=.none:=Dflts.noKw hD;let⟨a,vs,ns,rfl,rfl,hobj,ů,X2⟩:=Pn hn Ι hwl;show enter_call (rV (call w Z6 Z7 mg mb fa o pm cd YV a vs ns G ρ ho (fd_plain hd) Yp hmg hobj ů X2 hg) λr s' hq=>?_);let⟨rfl,h2,h3,h4⟩:=hq;show#[.inl #[.bool ai,.bool ai,[],W,λ_=>rfl,.bool ai,LM l _,λ_=>#[Vs,λ_ hm=>(nomatch hm)]],h2,h3,h4]
section
variable{K:aS}
noncomputable def WY(h:Heap)(σ d:av):Z (av×Obj):=(cw h.objs.size).filterMap λa=>if a=σ\/a=d then B else (h.get? a).map λo=>(a,o)
end
end Att
def AD:∀{vs:Z aw}{ns:Z ah},kx vs ns->bi (ns.map V.int) vs
 |_,_,.nil=>.nil
 |_,_,.cons n t h=>.cons #[t,W] (AD h)
def wq(H:Hp):Prop:=∀b,H b=B\/∃o xs,H b=U (.frz o (.lst xs))
def Rc{mb:aj->au aw}{k:ag}{fa:av}{Z7:aH}{vs:Z aw} 
  (KX:K.In Z7.heap)(hns:Z7.heap.Ns fu mg)(M:Z7.heap.Ns Gn mb)(hbb:∀x:aj,x≠"__name__"->mb x=dz x)(hlim:Z7.heap.NoLimit)(hg:Z7.gens=#[])
  (ha:Z7.heap.get? a=U {cls:=.type "list",data:=.seq vs.toArray})(hi:kx vs ns)(hl:ns.length<=aK)(hr:YK k o4)
  (F:∀base:Heap,K.In base->base.Ns fu mg->YY P w K mg base CX k fa fd [x] sp)(hbind:∀(s:aH)(u:aw),oV s fd #[[u],[]] [(x,u)])
  (ž:∀H:Hp,wq H->Zv K H a (ns.map V.int)->sp [.ref a] H (λv _=>v=.bl ai) λ_ _ _=>False)
  (hCX:∀H e s',CX [] H Z7 (λ_ _ _=>False) e s'->False):
  fz (aN P w) o4 (.call (.ref fa) #[[.ref a],[]]) (λr s'=>r=.ok (.ret (.bool ai))/\OldK Z7.heap s'.heap/\s'.os=Z7.os/\lI s'.gens) Z7:=by
 let rv:=AD hi;let lenV:=hi.length;let core:∀H:Hp,wq H->Zv K H a (ns.map V.int)->Ze P w H Z7.heap->(∀b,H b≠B->b=a)->(H a≠B->K.lookup a=B)->
   fz (aN P w) o4 (.call (.ref fa) #[[.ref a],[]]) (λr s'=>r=.ok (.ret (.bool ai))/\OldK Z7.heap s'.heap/\s'.os=Z7.os/\lI s'.gens) Z7:=by
  intro H hO hS hok hA hK;let ł:∀{b:av}{o:Obj},Z7.heap.get? b=U o->H b=B->(jN Z7.heap H).get? b=U o:=λe n=>Tv e n;let noA:∀{b:av}{o:Obj}{es:bI vN}{ep:ag},Z7.heap.get? b=U o->o.data=.dict es ep->H b=B:=λ{b o es ep}e d=>by
   cases q:H b with
   |none=>rfl
   |some u=>
    let e':b=a:=hA b (by rw[q];simp);subst e';rw[ha] at e;cases e;let d':Data.seq vs.toArray _=Data.dict es ep:=d;cases d'
  let nsK:∀{b:av}{m:aj->au aw},Z7.heap.Ns b m->(jN Z7.heap H).Ns b m:=λ{b m} #[o,es,ep,e,d,r]=>#[o,es,ep,ł e (noA e d),d,r];let hKb:K.In (jN Z7.heap H):=λb o e=>ł (KX b o e) (by
   cases q:H b with
   |none=>rfl
   |some u=>
    let e':b=a:=hA b (by rw[q];simp);subst e';rw[hK (by rw[q];simp)] at e;cases e)
  let hM:Mod K mg (jN Z7.heap H):=#[hKb,nsK hns,#[mb,nsK M,hbb],let #[mc,h1,h2]:=hlim;#[mc,nsK h1,h2]];let e0:Ĵ P w K mg (jN Z7.heap H) o4 [] Z7 H:=#[W,hM,λb o e=>MC e,zB (Tu _ _),trivial,λb M=>bj (show b∈([]:Z av) from M) (by simp),hok,.of_eq hg];show rV ((F _ hKb (nsK hns)).run o4 [] Z7 H #[[.ref a],[]] [.ref a] [.ref a] _ _ hr e0 (hbind Z7 (.ref a)) (.cons W .nil) (ž H hO hS)) λr s' h=>?_;cases r with
  |error e=>show(hCX H e s' h).elim
  |ok fl=>
   cases fl with
   |next=>show ix h
   |brk=>show ix h
   |cont=>show ix h
   |ret u=>
    let⟨v,H',os,bare,un,hok',r',q⟩:=h;let q':v=.bl ai:=q;subst q';obtain rfl:u=lG ai:=r';show#[W,OldK.of_keep λb o e=>?_,os,bare];cases q:H b with
    |none=>show un.keep b o e q (by intro z;show bj (show b∈([]:Z av) from z) (by simp)) (by simp)
    |some u=>
     rcases hO b with z|⟨ob,xs,z⟩
     .rw[q] at z;cases z
     .let z2:=un.frzs b ob _ z;let⟨e1,_⟩:=hok b _ z;let⟨e2,_⟩:=hok' b _ z2;rw[e] at e1;cases e1;show e2
 cases hk:K.lookup a with
 |some o=>
  let e:=KX a o hk;rw[ha] at e;cases e;show core (λ_=>B) (λ_=>.inl W) (.inr #[_,vs.toArray,_,hk,W,W,W,by rw[qC,lenV];show hl,by simpa using rv]) (λb u z=>by let z':(B:au HO)=U u:=z;cases z') (λb z=>bj W z) λz=>bj W z
 |none=>
  show core (λb=>if b=a then U (.frz {cls:=.type "list",data:=.seq vs.toArray} (.lst (ns.map V.int))) else B) (λb=>?_) (.inl (.inr #[{cls:=.type "list",data:=.seq vs.toArray},qY W])) (λb u z=>?_) (λb z=>?_) λ_=>hk
  .by_cases M:b=a
   .exact .inr #[_,_,qY M]
   .exact .inl (qZ M)
  .by_cases M:b=a
   .let z':=(qY M).symm.trans z;cases z';subst M;show#[ha,by rw[qf];show hl,vs,_,rv,ha]
   .let z':=(qZ M).symm.trans z;cases z'
  .by_cases M:b=a
   .exact M
   .exact bj (qZ M) z
noncomputable abbrev KOf{h:Heap}(_:K.In h):aS:=K
def walk_of{l:GS}{k:ag}{d:DefRec}{K:zQ->aS}{CX:cA->CXT}{sp:cA->Sp} 
  (hn:l.most=U n)(hn2:n<=aK)(hdf:d.params.defaults=[])(hr:YK k o4)
  (hY:∀(w:cA)(h:Heap),YP w h->(K w.params).In h)
  (F:∀(w:cA)(mg:aj->au aw)(fa:av)(h:Heap),(K w.params).In h->h.Ns fu mg->mg d.name=U (.ref fa)->
   ∃fd:ku,(∀(s:aH)(u:aw),oV s fd #[[u],[]] [(x,u)]) /\
    ∀base:Heap,(K w.params).In base->base.Ns fu mg->YY l.prog w (K w.params) mg base (CX w) k fa fd [x] (sp w))
  (ž:∀(w:cA)(H:Hp)(a:av)(ns:Z ah),ns.length<=n->wq H->Zv (K w.params) H a (ns.map V.int)->sp w [.ref a] H (λv _=>v=.bl ai) λ_ _ _=>False)
  (hCX:∀(w:cA)(H:Hp)(s:aH)(e:aw)(s':aH),CX w [] H s (λ_ _ _=>False) e s'->False):
  Vt q ļ XP YP l.row.toRowW d [] (λf vs=>GR f vs):=by
 show Att.attach_call hn hdf λw Z6 Z7 mg mb fa o pm cd YV a vs ns G ρ ho hd Yp hmg hobj ů X2 hg=>?_;let KX:=hY w _ ρ;let⟨fd,M,hF⟩:=F w mg fa _ KX G.T.g hmg;show Rc KX G.T.g G.T.b G.T.builtins G.T.nolimit hg hobj ů (qO X2 hn2) hr hF M (λH hO hS=>ž w H a ns X2 hO hS) λH e s'=>hCX w H Z7 e s'
noncomputable def bE(s:Stmt)(j:ag):Stmt:=match s with
 |.ClassDef _ _ _ body _ _ _ _ _ _ _=>body.getD j (.Pass #[0,0,0,0])
 |_=>.Pass #[0,0,0,0]
noncomputable def cY(s:Stmt):Arguments:=match s with
 |.FunctionDef _ a _ _ _ _ _ _ _ _=>a
 |_=>{posonlyargs:=[],args:=[],vararg:=B,kwonlyargs:=[],kw_defaults:=[],kwarg:=B,defaults:=[]}
noncomputable def ca(s:Stmt):Z Stmt:=match s with
 |.FunctionDef _ _ b _ _ _ _ _ _ _=>b
 |_=>[]
noncomputable def aC(s:Stmt):Scope:=match s with
 |.FunctionDef _ _ _ _ _ _ sc _ _ _=>sc
 |_=>{kind:=.function,names:=[],isGenerator:=ar,isCoroutine:=ar}
noncomputable abbrev ã:CXT:=λ_ _ _ _ _ _=>False
noncomputable abbrev E0:XK:=λ_ _ _=>False
def mj:l5 ã X E0:=λ_ _ _ _ _ _ _ h=>h.elim
structure Ĳ(K:aS)(x qual:aj)(st:Stmt)(f:av)(fd:ku):Prop where
 ex:∃(oc:aw)(od:au av)(kV YV pm:aw)(an:au av)(X1 ct:aw)(Ē:bI (au aw)),
  fd=cX x qual (cY st) (ca st) (aC st) .none kV YV pm an X1 ct/\K.lookup f=U #[oc,od,.func fd,Ē]/\nj K X1 qual=ai
 kp:gr K (.ref f)=ai
def Ĳ.ok{f:av}{k:ag}(F:Ĳ K x qual st f fd)(S:YC N ps (aC st))(len:∀vs H Q us,sp vs H Q us->vs.length=ps.length)
  (X8:∀(X1:aw)(A:cJ)(outer:Z cB)(s:aH)(H:Hp)(vs:Z V)(Q:VK)(us:XK),YK k .(l)->sp vs H Q us->
   ∃t,Ě .(j).nox (ca st) t/\t {nx:=λ_ H'=>Q .non H',rt:=Q} (dE N vs) H):YY P w K mg base ã (k+1) f fd ps sp:=by
 let⟨oc,od,kV,YV,pm,an,X1,ct,Ē,rfl,lk,Yp⟩:=F.ex;show Br lk Yp S len λA outer s H vs Q us hr ž=>?_;let⟨t,h,q⟩:=X8 X1 A outer s H vs Q us hr ž;show#[t,h.nox,q]
def Ĳ.binds{f:av}(F:Ĳ K x qual st f fd)
  (h:∀(kV YV pm:aw)(an:au av)(X1 ct:aw)(E:Z aw),E.length=ps.length->eX (cX x qual (cY st) (ca st) (aC st) .none kV YV pm an X1 ct) #[E,[]]=bc (ps.zip E)):fK K fd ps []:=by
 let⟨oc,od,kV,YV,pm,an,X1,ct,Ē,rfl,lk,Yp⟩:=F.ex;show .all (h kV YV pm an X1 ct)
def wW{f:av}{kV:aw}(l:K.lookup f=U #[oc,od,.func (cX x qual (cY st) (ca st) (aC st) .none kV YV pm an X1 ct),Ē])
  (c:nj K X1 qual=ai)(k:gr K (.ref f)=ai):Ĳ K x qual st f (cX x qual (cY st) (ca st) (aC st) .none kV YV pm an X1 ct):=#[#[oc,od,kV,YV,pm,an,X1,ct,Ē,W,l,c],k]
def pv(i:ag)(hN:X.N[i]?=U x:=by rfl)(hv:Ġ X.env.scope x:=by ac_nf)(hd:(x==("__debug__":aj))=ar:=by decide)
  (Yp:(x==("__classdict__":aj))=ar:=by decide):PE X (.Name x pos) (Fy i):=gH hN hv hd Yp
def kZ{A af:Prop}(h:af):if ar=ai then A else af:=by rw[qZ qt];show h
def lw{A af:Prop}(h:A):if ai=ai then A else af:=by rw[qY W];show h
def aY(H H':Hp):Prop:=∀b o,H b=U o->H' b=U o
def aY.refl(H:Hp):aY H H:=λ_ _ h=>h
def aY.trans(a:aY H H1)(b:aY H1 H2):aY H H2:=λc o h=>b c o (a c o h)
def aY.free(e:aY H H'){l:av}(h:H' l=B):H l=B:=by
 cases q:H l with
 |none=>rfl
 |some o=>
  rw[e l o q] at h;cases h
def aY.seq{xs:Z V}(e:aY H H')(h:Zv K H a xs):Zv K H' a xs:=by
 rcases h with(h|⟨o,h⟩)|h
 .exact .inl (.inl (e _ _ h))
 .exact .inl (.inr #[o,e _ _ h])
 .exact .inr h
variable{Č:Expr}{ć:Z Expr}
def T1{R:lJ->aH->Prop}{Ã:Expr}{it XT:aw}(I:ag->aH->Prop)
  (Ť:∀n s,I n s->aL (aN prog w) A (hU it) (λr Z7=>match r with
   |none=>R (.ok .next) Z7
   |some v=>aL (aN prog w) A (zy Ã it v) (λ_ ZS=>aL (aN prog w) A (rP Ã env v) (λ_ Z4 =>
     aL (aN prog w) A (forIn ć ai λc r=>if r=ai then do let ok ←isTrue c env (eval c env);bc (sk ok) else bc (sk r)) (λok Z1 =>
      if ok=ai then aL (aN prog w) A (eval Č env) (λx ZT =>
       aL (aN prog w) A (call (.builtin "list.append") [XT,x]) (λ_ ZQ=>∃m,m<n/\I m ZQ) (λ_ _=>False) ZT) (λ_ _=>False) Z1
      else ∃m,m<n/\I m Z1) (λ_ _=>False) Z4) (λ_ _=>False) ZS) (λ_ _=>False) Z7) (λ_ _=>False) s)
  (n:ag)(h:I n s):
  fz (aN prog w) A (.compLoop (.ListComp Č [#[Ã,iter,ć,0]] scope pos) 0 it XT env) R s:=by
 show codeAny_loop W I (λn s hI=>?_) n h;show wpAny_noted ?_;rw[compTurn_list];show qx (wpAny_standAt (qx (iw (Ť n s hI) (λr Z7 ZV=>?_) λ_ _ h'=>h'.elim)));cases r with
 |none=>show qB ZV
 |some v=>
  show qx (iw ZV (λ_ ZS ZP=>?_) λ_ _ h'=>h'.elim);show qx (iw ZP (λ_ Z4 ZX=>qx (iw ZX (λok Z1 ZU=>?_) λ_ _ h'=>h'.elim)) λ_ _ h'=>h'.elim);cases ok with
  |false=>show qB #[W,ZU]
  |true=>
   show qx (qx (iw ZU (λx ZT h₄=>qx (iw h₄ (λ_ ZQ h₅=>qB (qB #[W,h₅])) λ_ _ h'=>h'.elim)) λ_ _ h'=>h'.elim))
noncomputable def iE(X:Cx)(N':Z aj)(scope:Scope)(cl:Z (aj×av))(XI:av)(Z6:aH)(Z9:Hp)(fp:Z av):Cx:=
 {X with N:=N',Z6:=Z6,Z9:=Z9,env:=GU scope cl XI X.env,outer:=X.stack,stack:=X.stack,ex:=fp,fn:=λ_=>ar,pn:=[],xe:=λ_ _=>False}
noncomputable def gc(env:cB):Z (aj×hV)->Z (aj×av)->Z (aj×av)
 |[],XT=>XT
 |(n,k)::r,XT=>gc env r (if k==.free then (match env.cells.lookup n with|some c=>(n,c)::XT|none=>XT) else XT)
def MP(h:∀y∈scope.names,y.2=.free->∃c,env.cells.lookup y.1=U c):closureFor scope env=bc (gc env scope.names []):=by
 let all:∀(l:Z (aj×hV))(XT:Z (aj×av)),(∀y∈l,y.2=.free->∃c,env.cells.lookup y.1=U c)->
   (forIn l XT λx r=>match x with
    |(name,kind)=>if kind==.free then do let c ←cellOf env name;bc (sk ((name,c)::r)) else bc (sk r):Sem (Z (aj×av)))=bc (gc env l XT):=by
  intro l
  induction l with
  |nil=>intro XT _;rfl
  |cons y r ih=>
   intro XT hl;let⟨n,k⟩:=y;rw[List.forIn_cons];let hr:∀y∈r,y.2=.free->∃c,env.cells.lookup y.1=U c:=λy hy=>hl y (qh _ hy);unfold gc;cases hk:(k==nv) with
   |false=>
    simp only[hk,qr,cE,pure_bind];show ih XT hr
   |true=>
    let⟨c,hc⟩:=hl (n,k) qg (by simpa using hk);let Ş:env.cells.lookup n=U c:=hc;simp only[hk,cx,cellOf,Ş,pure_bind];show ih _ hr
 let e:=all scope.names [] h;show Eq.trans (bind_pure _) e
def B3:∀(l:Z (aj×hV))(XT:Z (aj×av)),(∀x c,XT.lookup x=U c->env.cells.lookup x=U c)->∀x c,(gc env l XT).lookup x=U c->env.cells.lookup x=U c:=by
 intro X7
 induction X7 with
 |nil=>
  intro _ h;show h
 |cons x0 r ih=>
  let⟨n,k⟩:=x0;intro XT h;show ih _ ?_;split
  .split
   .rename_i c hc;intro x d hx;rw[o5] at hx;cases e:x==n with
    |true=>
     rw[e] at hx;let e':x=n:=by simpa using e
     let e2:c=d:=qI hx;rw[e',<-e2];show hc
    |false=>rw[e] at hx;show h x d hx
   .exact h
  .exact h
def Q4:∀(l:Z (aj×hV))(XT:Z (aj×av))(x:aj),(XT.lookup x).isSome=ai->((gc env l XT).lookup x).isSome=ai:=by
 intro X7
 induction X7 with
 |nil=>
  intro _ _ h;show h
 |cons x0 r ih=>
  let⟨n,k⟩:=x0;intro XT x h;show ih _ x ?_;split
  .split
   .rw[o5];split
    .rfl
    .exact h
   .exact h
  .exact h
def E7:∀(l:Z (aj×hV))(XT:Z (aj×av))(x:aj)(c:av),(x,nv)∈l->env.cells.lookup x=U c->((gc env l XT).lookup x).isSome=ai:=by
 intro X7
 induction X7 with
 |nil=>
  intro _ _ _ h _;show nomatch h
 |cons x0 r ih=>
  let⟨n,k⟩:=x0;intro XT x c h hc;rcases cg.mp h with e|h
  .injection e with e1 e2;subst e1;subst e2;show Q4 r _ _ ?_;rw[qY (by rfl),hc];simp
  .exact ih _ x c h hc
def tD{env:cB}:∀(names:Z (aj×hV))(x:aj)(k':hV),
  (names.map λ(n,k)=>if (k==nv && env.scope.kind==.function && env.kindOf n==U .cell) then (n,zR) else (n,k)).lookup x=U k'->
  names.lookup x=U k'\/(k'=.cell/\names.lookup x=U .free)
 |[],_,_,h=>by simp at h
 |(n,k)::r,x,k',h=>by
  let ih:=@tD env r x k';let h':cS x ((if (k==nv && env.scope.kind==.function && env.kindOf n==U .cell)=ai then (n,zR) else (n,k))::(r.map λ(n,k)=>if (k==nv && env.scope.kind==.function && env.kindOf n==U .cell) then (n,zR) else (n,k)))=U k':=h;cases hx:x==n with
  |true=>
   by_cases hc:(k==nv && env.scope.kind==.function && env.kindOf n==U .cell)=ai
   .rw[qY hc] at h';simp only[o5,hx] at h' ⊢;let hk:k=.free:=by simp only[cW,ko] at hc;show hc.1.1
    right
    show#[(qI h').symm,by rw[hk]]
   .rw[qZ hc] at h';simp only[o5,hx] at h' ⊢;show .inl h'
  |false=>
   let h2:cS x (r.map λ(n,k)=>if (k==nv && env.scope.kind==.function && env.kindOf n==U .cell) then (n,zR) else (n,k))=U k':=by
    by_cases hc:(k==nv && env.scope.kind==.function && env.kindOf n==U .cell)=ai
    .rw[qY hc] at h';simpa only[o5,hx] using h'
    .rw[qZ hc] at h';simpa only[o5,hx] using h'
   simp only[o5,hx];show ih h2
structure YH(X:Cx)(scope:Scope):Prop where
 kind:scope.kind=.function
 nocell:∀y∈scope.names,y.2≠.cell
 names:∀y∈scope.names,y.2=.local->scope.names.lookup y.1=U .local
 free:∀y∈scope.names,y.2=.free->X.env.kindOf y.1=U .cell\/X.env.kindOf y.1=U .free
noncomputable def ie(fv:Z (au ag))(L:St):St:=fv.map λo=>o.bind λj=>(L[j]?).join
variable{N':Z aj}{fv:Z (au ag)}
def Ay(I:XS X Z' L H s)(S:YH X scope):closureFor scope X.env=bc (gc X.env scope.names []):=
 MP λy hy hf=>I.ok.has y.1 (S.free y hy hf)
def Ih(I:XS X Z' L H s)(S:YH X scope)(hf:∀b∈fp,gU X Z' H b)(YX:∀b∈fp,b<s.heap.objs.size)(hC:s.heap.objs.size<=XI):
  (iE X N' scope (gc X.env scope.names []) XI s H fp).Ok:=by
 let sub:=B3 (env:=X.env) scope.names [] (λx c h=>by simp at h);show#[I.ok.mod,S.kind,I.ok.glob,I.ok.blt,hC,λx y c h1 h2=>I.ok.inj x y c (sub x c h1) (sub y c h2),λx hx=>?_,λx c h _=>by simp[iE] at h,I.ok.hd,I.ok.frames,.inl W,λb M=>#[?_,λx c e=>?_],I.bs,qO I.ok.bsz I.sz,
  λb o e M=>?_,λb M=>?_,I.stack,I.stkFree]
 .let hx':((zS scope X.env).names.lookup x=U .cell\/(zS scope X.env).names.lookup x=U .free):=hx;let Ŝ:scope.names.lookup x=U .free:=by
   rcases hx' with h|h
   .rcases tD _ _ _ h with h|⟨_,h⟩
    .exact bj W (S.nocell _ (ni h))
    .exact h
   .rcases tD _ _ _ h with h|⟨h,_⟩
    .exact h
    .cases h
  let hm:=ni Ŝ;let⟨c,hc⟩:=I.ok.has x (S.free _ hm rfl);show rY.mp (E7 _ _ x c hm hc)
 .exact qD (qG (YX b M) hC)
 .exact(hf b M).2.2.2.2.1 x c (sub x c e)
 .rcases(hf b M).2.2.2.1 with z|z
  .exact I.ok.noex b o e z
  .exact bj (qG (qv e) I.ok.bsz) (GV.mpr z)
 .intro z;rcases cg.mp (I.stkSub b z) with e|e
  .exact(hf b M).2.1 e
  .exact(hf b M).2.2.1 e
def Ui(I:XS X Z' L H s)(S:YH X scope)(hf:∀b∈fp,gU X Z' H b)(YX:∀b∈fp,b<s.heap.objs.size)(hC:XI=s.heap.objs.size)(X2:fv.length=N'.length)
  (hfv:∀(i j:ag)x,N'[i]?=U x->fv[i]?=U (U j)->X.N[j]?=U x/\(X.env.kindOf x=U .cell\/X.env.kindOf x=U .free)/\scope.names.lookup x=U .free){m:aj->au aw}(hn:h'.Ns XI m)(hk:∀b o,s.heap.get? b=U o->h'.get? b=U o):
  XS (iE X N' scope (gc X.env scope.names []) XI s H fp) [] (ie fv L) H {s with heap:=h',toks:=t'}:=by
 let ok:=Ih (N':=N') I S hf YX (zB hC.symm);let sub:=B3 (env:=X.env) scope.names [] (λx c h=>by simp at h);show#[ok,W,I.bare,Un.kept hk,#[m,hn,λi x v e1 e2 e3=>?_],λx c e=>?_,?_,λx c e=>I.freeC x c (sub x c e),λp hp=>?_,I.hok.kept hk,?_]
 .let ę:N'[i]?=U x:=e1;let ï:(ie fv L)[i]?=U (U v):=e2;unfold ie at ï;rw[ql] at ï;cases q:fv[i]? with
  |none=>rw[q] at ï;cases ï
  |some o=>
   rw[q] at ï;cases o with
   |none=>cases ï
   |some j=>
    let ŏ:(L[j]?).join=U v:=by simpa using ï
    let⟨hN,ś,ĕ⟩:=hfv i j x ę q;let hσ:L[j]?=U (U v):=by
     cases z:L[j]? with
     |none=>rw[z] at ŏ;cases ŏ
     |some w=>rw[z] at ŏ;cases w with
      |none=>cases ŏ
      |some w'=>simp at ŏ;rw[ŏ]
    let⟨m0,hn0,hl⟩:=I.loc;let⟨u,r,l⟩:=hl j x v hN hσ (.inr ś);show#[u,r,.inr #[?_,?_]]
    .rcases e3 with z|z|z
     .let z':(zS scope X.env).names.lookup x=U .local:=z;rcases tD _ _ _ z' with y|⟨y,_⟩
      .rw[ĕ] at y;cases y
      .cases y
     .exact .inl z
     .exact .inr z
    .rcases l with⟨k,_⟩|⟨_,c,hc,Ł⟩
     .rcases ś with y|y
      .rw[k] at y;cases y
      .rw[k] at y;cases y
     .obtain⟨c',Ş⟩:=rY.mp (E7 scope.names [] x c (ni ĕ) hc);let e:=sub x c' Ş;rw[hc] at e;cases e;let⟨oc,ho,hd⟩:=Ł;show#[c,Ş,oc,hk _ _ ho,hd]
 .obtain⟨v,oc,ho,hd⟩:=I.cell x c (sub x c e);show#[v,oc,hk _ _ ho,hd]
 .exact I.hok.fresh (zB hC.symm)
 .exact bj (show p∈([]:Z (av×Obj)) from hp) (by simp)
 .show(ie fv L).length=N'.length;unfold ie;rw[qf,X2]
def Ml(I:XS X Z' L H s){cl:Z (aj×av)}(hf:∀b∈fp,gU X Z' H b)(hC:s.heap.objs.size<=XI){Z5:St}{pl:Z (av×Obj)} 
  (ao:XS (iE X N' scope cl XI s H fp) pl Z5 H' s')(hs:g9 XI s'.heap h'):XS X Z' L H' {s' with heap:=h'}:=by
 let hCn:H' XI=B:=ao.free;show I.call' ao.os ?_ ?_ ao.bare λb M=>#[(hf b M).2.2.2.1,(hf b M).2.1,(hf b M).2.2.2.2.1,(hf b M).2.2.2.2.2]
 .let aa:Un (Š X.stack) fp H H' s.heap s'.heap:=ao.base;let ν:∀b o,s.heap.get? b=U o->b≠XI:=λb o e=>qD (qG (qv e) hC);show#[λb o e n h1 h2=>?_,λb o e n h1 h2=>?_,aa.free,λb o e h2=>?_,aa.tups,aa.frzs,aa.tbls]
  .exact(hs.2 b (ν b o e)).trans (aa.keep b o e n h1 h2)
  .obtain⟨sl,q⟩:=aa.slot b o e n h1 h2;show#[sl,(hs.2 b (ν b o e)).trans q]
  .obtain⟨o',q⟩:=aa.there b o e h2;show#[o',(hs.2 b (ν b o e)).trans q]
 .intro b u e;show(ao.hok b u e).stay (λc v hc q=>(hs.2 c ?_).trans q) (λ_ q=>q) λ_ _ q=>q;rintro rfl;rcases hc with z|z
  .rw[<-z,hCn] at e;cases e
  .rw[hCn] at z;cases z
def PTs(X:Cx)(es:Z Expr)(t:TT):Prop:=
 ∀(Z':Z (av×Obj))(s:aH)(L:St)(H:Hp)(Q:aJ->Hp->Prop),XS X Z' L H s->t L H Q->
  aL .(t) X.A (forIn es ai λc r=>if r=ai then do let ok ←isTrue c X.env (eval c X.env);bc (sk ok) else bc (sk r)) (TP X Z' L Q) X.xe s
noncomputable def Tt:TT:=λ_ H Q=>Q ai H
def JW:PTs X [] Tt:=λ_ _ _ H _ I h=>wpAny_tests_nil #[H,I,h]
def TZ{c:Expr}{t:TT}(hc:PT X c t):PTs X [c] t:=λZ' s L H Q I h=>wpAny_tests_one (hc Z' s L H Q I h)
def LcW(ao:It)(g:TG)(tc:TT)(te:TE)(XT:av)(Q:V->Hp->Prop)(σ0:St)(H1:Hp):Prop:=
 ∃Ya:ag->ag->Z V->St->Hp->Prop,(∃m,Ya 0 m [] σ0 (X0 H1 XT (.lst [])))/\∀i m ys Z5 H',Ya i m ys Z5 H'->H' XT=U (.lst ys) /\
  ((ao.stop i H'/\Q (.ref XT) H')\/(ao.go i H'/\∀x H2,ao.yld i H' x H2->g x Z5 H2 λZY H3=>tc ZY H3 λb H4=>
   if b=ai then te ZY H4 λv H5=>H5 XT=U (.lst ys)/\ys.length<aK/\∃m',m'<m/\Ya (i+1) m' (ys++[v]) ZY (X0 H5 XT (.lst (ys++[v])))
   else ∃m',m'<m/\Ya (i+1) m' ys ZY H4))
def tLC(wi:TI)(g:TG)(tc:TT)(te:TE)(fv:Z (au ag)):TE:=λL H Q=>wi L H λao H1=>∀XT,H1 XT=B->LcW ao g tc te XT Q (ie fv L) H1
def PB(X:Cx)(N':Z aj)(scope:Scope)(tg:Expr)(ć:Z Expr)(Č:Expr)(g:TG)(tc:TT)(te:TE):Prop:=
 ∀(cl:Z (aj×av))(XI:av)(Z6:aH)(Z9:Hp)(fp:Z av),PG (iE X N' scope cl XI Z6 Z9 fp) tg g/\PTs (iE X N' scope cl XI Z6 Z9 fp) ć tc/\PE (iE X N' scope cl XI Z6 Z9 fp) Č te
structure Ý(X:Cx)(N':Z aj)(scope:Scope)(fv:Z (au ag)):Prop where
 len:fv.length=N'.length
 at':∀(i j:ag)x,N'[i]?=U x->fv[i]?=U (U j)->X.N[j]?=U x/\(X.env.kindOf x=U .cell\/X.env.kindOf x=U .free)/\scope.names.lookup x=U .free
variable{py Ď:di}
section
variable{g:TG}
def Dh{s2:aH}{it:av}{tn:ag->Heap->Prop}{ao:It}{Q:VK}{RR:aw->av->lJ->aH->Prop}(hc:X.calm=ai)(S:YH X scope)(F:Ý X N' scope fv)(M:PB X N' scope tg ć Č g tc te)
  (I2:XS X Z' L H1 s2)(T:Ù X.prog X.w X.K tg ao fp it tn)(Ź:tn 0 s2.heap)(f2:∀b∈fp,gU X Z' H1 b)(q:∀XT,H1 XT=B->LcW ao g tc te XT Q (ie fv L) H1)
  (hRR:∀(a XI:av)(H':Hp)(s':aH)(m:aj->au aw),s'.heap.Ns XI m->(∀h',g9 XI s'.heap h'->XS X Z' L H' {s' with heap:=h'})->gU X Z' H' XI->Q (.ref a) H'->RR (.ref a) XI (.ok .next) s'):
  aL .(t) X.A (newList []) (λXT Z1=>aL .(t) X.A (newFunctionEnv scope X.env.globals (gc X.env scope.names []) [] X.env.qual B .none (U X.env)) (λcenv ZT =>
   fz .(t) X.A (.compStart .(q) 0 (.ref it) XT {cenv with scope:=zS scope X.env}) (RR XT cenv.locals) ZT) X.xe Z1) X.xe s2:=by
 show iA ?_;let Yw:H1 s2.heap.objs.size=B:=I2.fresh;let I3:XS X Z' L (X0 H1 s2.heap.objs.size (.lst [])) {s2 with heap:=s2.heap.push {cls:=.type "list",data:=.seq ([]:Z aw).toArray} }:=I2.lnew .nil (gM _);generalize hs3:({s2 with heap:=s2.heap.push {cls:=.type "list",data:=.seq ([]:Z aw).toArray} }:aH)=s3 at I3 ⊢;let up:∀b o,s2.heap.get? b=U o->s3.heap.get? b=U o:=λb o e=>by rw[<-hs3];show qu _ e
 let lt2:∀b∈fp,b<s2.heap.objs.size:=λb M=>by let⟨o,e,_⟩:=T.obj 0 _ Ź b M;show qv e
 let sz3:s2.heap.objs.size<s3.heap.objs.size:=by rw[<-hs3];show _<(s2.heap.push _).objs.size;rw[jF];show ng _
 let lt3:∀b∈fp,b<s3.heap.objs.size:=λb M=>sg (lt2 b M) sz3;let f3:∀b∈fp,gU X Z' (X0 H1 s2.heap.objs.size (.lst [])) b:=λb M=>#[by rw[aD (qD (lt2 b M))];show(f2 b M).1,(f2 b M).2];let st3:tn 0 s3.heap:=T.keep _ _ _ Ź λb _ o e=>up b o e;show wpAny_newFunctionEnv S.nocell (by intro y hy;simp at hy) (λh4 hn4 sb4=>?_) S.kind;let k4:∀b o,s3.heap.get? b=U o->h4.get? b=U o:=λb o e=>(sb4.2 b (qD (qv e))).trans (qu _ e);let st4:tn 0 h4:=T.keep _ _ _ st3 λb _ o e=>k4 b o e;let I4:=Ui I3 S f3 lt3 W F.len F.at' hn4 k4 (t':=s3.toks+([]:Z (aj×aw)).length);generalize hX:iE X N' scope (gc X.env scope.names []) s3.heap.objs.size s3 (X0 H1 s2.heap.objs.size (.lst [])) fp=X' at I4;let⟨bg,bt,be⟩:=M (gc X.env scope.names []) s3.heap.objs.size s3 (X0 H1 s2.heap.objs.size (.lst [])) fp;rw[hX] at bg bt be;let ì:X'.prog=X.prog:=by rw[<-hX];rfl
 let hw:X'.w=X.w:=by rw[<-hX];rfl
 let hK:X'.K=X.K:=by rw[<-hX];rfl
 let hA:X'.A=X.A:=by rw[<-hX];rfl
 let hcalm:X'.calm=ai:=by rw[<-hX];show hc
 let hxe:X'.xe=λ_ _=>False:=by rw[<-hX];rfl
 let henv:X'.env=GU scope (gc X.env scope.names []) s3.heap.objs.size X.env:=by rw[<-hX];rfl
 let Ģ:∀{H':Hp},(∀b∈fp,H' b=B)->∀b∈fp,gU X' [] H' b:=λ{H'}hn b M=>by let f:=f3 b M;let ok:=I4.ok;show#[hn b M,(ok.exf b (by rw[<-hX];show M)).1,ok.exfs b (by rw[<-hX];show M),.inl (by rw[<-hX];show M),λx c e=>(ok.exf b (by rw[<-hX];show M)).2 x c e,λp hp=>?_];rw[<-hX] at hp;show bj (show p∈([]:Z (av×Obj)) from hp) (by simp)
 let⟨Ya,⟨m0,w0⟩,Ť⟩:=q s2.heap.objs.size Yw;let loop:∀s5:aH,s5={s3 with heap:=h4,toks:=s3.toks+([]:Z (aj×aw)).length} ->
   fz .(t) X.A (.compLoop .(q) 0 (.ref it) (.ref s2.heap.objs.size) (GU scope (gc X.env scope.names []) s3.heap.objs.size X.env))
    (RR (.ref s2.heap.objs.size) s3.heap.objs.size) s5:=by
  intro s5 hs5;show T1 (λn s'=>∃i ys Z5 H',XS X' [] Z5 H' s'/\tn i s'.heap/\(∀b∈fp,H' b=B)/\Ya i n ys Z5 H') ?_ m0 #[0,[],ie fv L,_,hs5▸I4,hs5▸st4,λb M=>(f3 b M).1,w0];rintro n s6 ⟨i,ys,ZR,H6,I6,st6,fr6,w6⟩;let⟨ha6,turn6⟩:=Ť i n ys ZR H6 w6;rw[<-henv];rcases turn6 with⟨stop,qn⟩|⟨go,step⟩
  .let d:=T.done X' ì hw hK hcalm i [] s6 ZR H6 (λ_ _=>False) I6 (Ģ fr6) st6 stop;rw[hA] at d;show YI d λr s7 #[hr,I7]=>?_;subst hr;let⟨m7,hn7,_⟩:=I7.loc;let hl:X'.env.locals=s3.heap.objs.size:=by rw[henv];rfl
   show hRR _ _ H6 s7 m7 (hl▸hn7) (λh' hs'=>?_) ?_ qn
   .rw[<-hX] at I7;show Ml I3 f3 (qw _) I7 hs'
   .exact I3.fpOk (qw _) (by let:=I7.free;rw[hl] at this;show this)
  .let d:=T.item X' ì hw hK hcalm i [] s6 ZR H6 (λ_ _=>False) I6 (Ģ fr6) st6 go;rw[hA] at d;show YI d λr s7 #[u,hr,h7]=>?_;subst hr;show YI h7 λ_ s8 #[x,H8,I8,r8,y8,st8,fr8]=>?_;let I8':=I8.pinned (Ģ fr8) (T.obj _ _ st8);let dg:=bg _ s8 ZR H8 x u _ I8' r8 (step x H8 y8);rw[ì,hw,hA,hxe] at dg;show YI dg λ_ s9 #[σ9,H9,I9,q9]=>?_;let dt:=bt _ s9 σ9 H9 _ I9 q9;rw[ì,hw,hA,hxe] at dt;show YI dt λb s10 #[H10,I10,q10]=>?_;let again:∀{Z0:St}{H7:Hp}{s7:aH}{ys':Z V},XS X' ([]++pB fp s8.heap) Z0 H7 s7->(∃m',m'<n/\Ya (i+1) m' ys' Z0 H7)->∃m,m<n/\∃i ys Z5 H',XS X' [] Z5 H' s7/\tn i s7.heap/\(∀b∈fp,H' b=B)/\Ya i m ys Z5 H':=λ{Z0 H7 s7 ys'}I7 n7=>by let⟨m',hm,w7⟩:=n7;show#[m',hm,i+1,ys',Z0,H7,I7.unpinned,T.keep _ _ _ st8 λb M o e=>(I7.pin (b,o) (qS _ (qS _ (uo M e)))).1,λb M=>?_,w7];let⟨o,e,_⟩:=T.obj _ _ st8 b M;show(I7.pin (b,o) (qS _ (qS _ (uo M e)))).2.1
   cases b with
   |false=>
    rw[qZ qt] at q10 ⊢;show again I10 q10
   |true=>
    rw[qY W] at q10 ⊢;let de:=be _ s10 σ9 H10 _ I10 q10;rw[ì,hw,hA,hxe] at de;show YI de λv s11 #[y,H11,I11,r11,ha11,hz11,n11]=>?_;let da:=D' _ s11 σ9 H11 (.ref s2.heap.objs.size) [y] (.ref s2.heap.objs.size) [v] (λ_ H'=>H'=X0 H11 s2.heap.objs.size (.lst (ys++[y]))) I11 W (.cons r11 .nil) #[_,ys,y,W,W,ha11,hz11,W];rw[ì,hw,hA,hxe] at da;show YI da λ_ s12 #[_,H12,I12,_,e12]=>?_;subst e12;show again I12 n11
 show codeAny_compStart_list (loop _ W) (T.self _ 0 _ _ _ st4 (loop _ W))
def Ei(hc:X.calm=ai)(S:YH X scope)(F:Ý X N' scope fv)(hi:PI X tg iter wi)(M:PB X N' scope tg ć Č g tc te)(hs:∀x,km iter X.env x=bc x:=by intro _;rfl):
  PE X .(q) (tLC wi g tc te fv):=by
 intro Z' s L H Q I h;rw[eval_ListComp];show Vu W hs (Ay I S) S.kind S.names (YI (hi Z' s L H _ I h) λx s1 h1=>YI h1 λitv s2 h2=>?_);let⟨it,fp,tn,ao,H1,e,I2,T,Ź,f2,q⟩:=h2;subst e;show Dh hc S F M I2 T Ź f2 q ?_;intro a XI H' s' m hn hI hCL hq;show#[m,hn,λh' hs'=>#[.ref a,H',hI h' hs',W,hq]]
def Eb{y:aj}(hN:X.N.Nodup)(hy:X.N[i]?=U y)(τ:X.env.scope.names.lookup y=U .local)(hc:X.calm=ai)(S:YH X scope)(F:Ý X N' scope fv)(hi:PI X tg iter wi)(M:PB X N' scope tg ć Č g tc te)
  (ũ:dA .(q) (U (.Name y py)) Ď.line X.env=bc ai)
  (hs:∀x,km iter X.env x=bc x:=by intro _;rfl):
  PS X (.Assign [.Name y py] .(q) Ď) (rg (tLC wi g tc te fv) (rC i)):=by
 intro Z' s L H D I h;rw[exec_Assign_Name_used _ _ _ _ ũ];show qx (wpAny_standAt (qx ?_));show qx (iw (Vu W hs (Ay I S) S.kind S.names
  (YI (hi Z' s L H _ I h) λx s1 h1=>YI h1 λitv s2 h2=>?_)) (λ_ s' hq=>qB (qB hq)) λ_ _ e=>e)
 let⟨it,fp,tn,ao,H1,e,I2,T,Ź,f2,q⟩:=h2;subst e;show Dh hc S F M I2 T Ź f2 q ?_;intro a XI H' s' m hn hI hCL hq;let I':XS X Z' L H' s':=hI s'.heap (GW _ _);show UY ?_;show ER (v:=.ref a) I' hN hy (.inl τ) W (λι I'' ŝ=>?_) (.inr τ);let⟨ad,Ī,had⟩:=ŝ;let⟨f0,f1,f2',f3,f4,f5⟩:=hCL;let Zb:XI≠ad:=by
  rcases had with z|z
  .rw[z];show f1
  .exact λe=>f4 y ad z e.symm
 show#[m,hn.sameBut Ī Zb,λh' hs'=>?_];show#[_,H',I''.turned (λb o M e=>(hs'.2 b M).trans e) f0 f1 f3 f4 f5,hq]
end
noncomputable def Its(x:aj):It:=#[λi _=>i<x.cps.size,λi H v H'=>H'=H/\∃c,x.cps[i]?=U c/\v=.str ⟨#[c]⟩,λi _=>i=x.cps.size]
def HY{hb:vB}{n:aj}{it:aw}{Q:m8->aH->Prop}(hQ:Q () s):aL hb A (zy (.Name n p) it u) Q us s:=qB hQ
def Dd{n:aj}{ty:cD}(it:av)(x:aj)(t:Tok)
  (Ya:∀A:cJ,A.handled=B->kz P w A it [it] [it] x.cps.size (SignAt x) (λi h=>h.IsStrIter it ty x t i))
  (sf:∀(A:cJ)(i:ag)(s:aH)(Q:aw->aH->Prop)(us:aw->aH->Prop),s.heap.IsStrIter it ty x t i->Q (.ref it) s->aL (aN P w) A (kj (.ref it)) Q us s):Ù P w K (.Name n p) (Its x) [it] it (λi h=>h.IsStrIter it ty x t i) where
 mem:=by simp
 obj:=λi h st b M=>by
  let e:b=it:=by simpa using M
  subst e;let⟨o,e,c,d⟩:=st;show#[o,e,λv z=>by rw[d] at z;cases z]
 keep:=λi h h' st k=>by let⟨o,e,r⟩:=st;show#[o,k it (by simp) o e,r]
 item:=by intro X hP hw hK hc i Z' s L H us I hf st hg;subst hP hw hK;let⟨f0,f1,f2,f3,f4,f5⟩:=hf it (by simp);show(Ya X.A (I.ok.hd hc)).item i s _ _ hg st λv h' tk hv Y7 kk=>?_;let⟨c,u,hcc,rfl⟩:=hv;let I1:XS X Z' L H {s with heap:=h',toks:=tk}:=I.turned (λb o M e=>kk b o (by simpa using M) e) f0 f1 f3 f4 f5;show#[_,W,HY #[.str ⟨#[c]⟩,H,I1,#[_,W],#[W,c,hcc,W],Y7,λb M=>(hf b M).1]]
 done:=by intro X hP hw hK hc i Z' s L H us I hf st hg;subst hP hw hK;let⟨f0,f1,f2,f3,f4,f5⟩:=hf it (by simp);let hi:i=x.cps.size:=hg;subst hi;show(Ya X.A (I.ok.hd hc)).done s _ _ st λh' tk kk=>#[W,I.turned (λb o M e=>kk b o (by simpa using M) e) f0 f1 f3 f4 f5]
 self:=sf
def QG(te:TE):TI:=λL H R=>te L H λv H1=>∃x,v=.str x/\R (Its x) H1
def K6{n:aj}(he:PE X e te):PI X (.Name n p) e (QG te):=by
 intro Z' s L H R I h;show YI (he Z' s L H _ I h) λv s1 #[y,H1,I1,r1,q1]=>?_;let⟨x,e,q⟩:=q1;subst e;let⟨t,rfl⟩:=r1;let Yy:∀(ty:cD)(o:Obj),(s1.heap.push o).IsStrIter s1.heap.objs.size ty x t 0->Ù X.prog X.w X.K (.Name n p) (Its x) [s1.heap.objs.size] s1.heap.objs.size (λi h=>h.IsStrIter s1.heap.objs.size ty x t i)->
   PIE X Z' L (.Name n p) R (.ref s1.heap.objs.size) {s1 with heap:=s1.heap.push o}:=λty o st T=>by
  show#[s1.heap.objs.size,[s1.heap.objs.size],_,_,H1,W,I1.kept λb o e=>qu _ e,T,st,λb M=>?_,q];let e:b=s1.heap.objs.size:=by simpa using M
  subst e;show I1.fpOk (qw _) (I1.hok.fresh (qw _))
 cases ha:x.cps.all (· < 128)
 .exact wpAny_pyIter_wide ha (Yy _ _ #[_,qH _ W,W,W] (Dd _ x t (λA' hA=>Walks.strWide hA _ x t) λ_ _ _ _ _ st h=>wpAny_pyIter_striter_wide st h))
 .exact wpAny_pyIter_ascii ha (Yy _ _ #[_,qH _ W,W,W] (Dd _ x t (λA' hA=>Walks.strAscii hA _ x t) λ_ _ _ _ _ st h=>wpAny_pyIter_striter_ascii st h))
def Ite(K:aS)(a:av):It:=
 #[λi H=>∃xs x,Zv K H a xs/\xs[i]?=U x,λi H v H'=>∃T x,v=.ref T/\H T=B/\H'=X0 H T (.tup [.int i,x])/\∀xs,Zv K H a xs->xs[i]?=U x,λi H=>∃xs,Zv K H a xs/\xs.length<=i]
variable{elts:Z Expr}
def Pk{k1:ag}(e it a:av)(ă:e≠it):
  Ù P w K (.Tuple elts k1 pos) (Ite K a) [e,it] e (λi h=>(∃Ĺ,IsEnum h e it i Ĺ)/\h.IsListIter it a i) where
 mem:=by simp
 obj:=λi h st b M=>by
  let⟨⟨Ĺ,he⟩,o,ho,c,d⟩:=st;rcases cg.mp M with z|z
  .subst z;show#[_,he,λv z=>by cases z]
  .let z':b=it:=by simpa using z
   subst z';show#[o,ho,λv z=>by rw[d] at z;cases z]
 keep:=λi h h' st k=>by let⟨⟨Ĺ,he⟩,hi⟩:=st;show#[#[Ĺ,k e (by simp) _ he],hi.at λo x=>k it (by simp) o x]
 item:=by
  intro X hP hw hK hc i Z' s L H us I hf st hg;subst hP hw hK;let⟨xs,x,hq,hx⟩:=hg;let⟨XY,rv,p,hz⟩:=I.list hq;let⟨u,hu,ru⟩:=rv.get hx;let⟨⟨Ĺ,he⟩,Zj⟩:=st;let⟨e0,e1,e2,e3,e4,e5⟩:=hf e (by simp);let⟨f0,f1,f2,f3,f4,f5⟩:=hf it (by simp);let helt:e<s.heap.objs.size:=qv he;let hilt:it<s.heap.objs.size:=by let⟨_,x,_⟩:=Zj;show qv x
  show wpAny_pyNext_enum_item he Zj p.isList (by simpa using hu) ă λh' ho Ξ hT Zw hk=>?_;show#[_,W,wpAny_letOwnedTupleGo_enum ho λh2 he2 Ŀ=>?_];let hs2':g9 e h' h2:=Ŀ;let kk:∀b o,b≠e->b≠it->s.heap.get? b=U o->h2.get? b=U o:=λb o h1 h3 q=>(hs2'.2 b h1).trans (hk b o h1 h3 q);let hT2:h2.get? s.heap.objs.size=U {cls:=.type "tuple",data:=.seq [.int i s.toks,u].toArray}:=(hs2'.2 _ (zx helt)).trans hT;let nH:H s.heap.objs.size=B:=I.fresh;let I1:XS X Z' L (X0 H s.heap.objs.size (.tup [.int i,x])) {s with heap:=h2,toks:=s.toks+1}:=by
   let ne:∀b o,H b=U o->b≠e/\b≠it:=λb o q=>#[λz=>(by rw[z,e0] at q;cases q),λz=>(by rw[z,f0] at q;cases q)];show I.step (ch:=[e,it]) (λb M=>?_) (λb o _ _ hc q _=>kk b o (λz=>hc (by simp[z])) (λz=>hc (by simp[z])) q) (λb o _ _ hc q _=>#[o.slots,kk b o (λz=>hc (by simp[z])) (λz=>hc (by simp[z])) q]) (λb o _ q n=>?_)
    (λb o hc q=>#[o,kk b o (λz=>hc (by simp[z])) (λz=>hc (by simp[z])) q]) (λb ys q=>?_) (λb o y q=>?_) (λb ps q=>#[#[],?_]) (λm hm=>?_) (λb v q=>?_) I.bare
   .rcases cg.mp M with z|z
    .subst z;show#[e3,e1,e4,e5]
    .let z':b=it:=by simpa using z
     subst z';show#[f3,f1,f4,f5]
   .rw[aD (qD (qv q))];show n
   .rw[aD (bH q nH)];show q
   .rw[aD (bH q nH)];show q
   .rw[aD (bH q nH),q];simp
   .obtain⟨o,es,ep,q,r⟩:=hm;show#[o,es,ep,kk _ o (cL e1) (cL f1) q,r]
   .by_cases M:b=s.heap.objs.size
    .subst M;rw[bf] at q;cases q;show#[by show 2<=aK;decide,[.int i s.toks,u],.cons #[_,W] (.cons ru .nil),#[_,hT2,W,_,W]]
    .rw[aD M] at q;show(I.hok b v q).stay (λc v hc r=>?_) (λc r=>by rw[aD (bH r nH)];show r) λc ys r=>by rw[aD (bH r nH)];show r
     rcases hc with z|z
     .rw[z] at r ⊢;show kk b v (ne b _ q).1 (ne b _ q).2 r
     .exact kk c v (ne c _ z).1 (ne c _ z).2 r
  show#[.ref s.heap.objs.size,_,I1,W,#[_,x,W,nH,W,λys hy=>by rw[I.list_inj hy hq];show hx],#[#[_,by simpa using he2],Ξ.at λo y=>(hs2'.2 it ă.symm).trans y],λb M=>?_];rcases cg.mp M with z|z
  .subst z;rw[aD (qD helt)];show e0
  .let z':b=it:=by simpa using z
   subst z';rw[aD (qD hilt)];show f0
 done:=by intro X hP hw hK hc i Z' s L H us I hf st hg;subst hP hw hK;let⟨xs,hq,hx⟩:=hg;let⟨XY,rv,p,hz⟩:=I.list hq;let⟨⟨Ĺ,he⟩,Zj⟩:=st;let⟨f0,f1,f2,f3,f4,f5⟩:=hf it (by simp);let hl:=rv.length;show wpAny_pyNext_enum_end (I.ok.hd hc) he Zj p.isList (by simp;ext) λh' eb=>#[W,I.turned (λb o M e=>eb b o M e) f0 f1 f3 f4 f5]
 self:=λA i s Q us st h=>by let⟨⟨Ĺ,he⟩,_⟩:=st;show Vv he h
def IM(K:aS)(ta:TA):TI:=λL H R=>ta L H λvs H1=>∃a,vs=[.ref a]/\(∃xs,Zv K H1 a xs)/\R (Ite K a) H1
def Sf{a:Expr}{ta:TA}{k1:ag}(hg:Gl X "enumerate")(hm:X.mg "enumerate"=B)(ha:PA X [a] ta)(hs:aM [a] X.env=[(ar,eval a X.env)]:=by rfl):
  PI X (.Tuple elts k1 tpos) (.Call (.Name "enumerate" p) [a] [] pos) (IM X.K ta):=by
 intro Z' s L H R I h;show Call_ (jM I hg hm Xu (vD (YI (ha pos Z' s L H _ I h) λE s1 #[vs,H1,I1,r1,q1]=>?_) hs W));let⟨l,e,⟨xs,hq⟩,q⟩:=q1;subst e;let⟨u,rfl,r2⟩:=dY r1;cases r2;let⟨XY,rv,pl,hz⟩:=I1.list hq;show call_enumerate_list pl.isList λh' he Zj Zw hk=>?_;let I2:XS X Z' L H1 {s1 with heap:=h'}:=I1.kept hk;show Vv he ?_;show#[s1.heap.objs.size+1,[s1.heap.objs.size+1,s1.heap.objs.size],_,_,H1,W,I2,Pk _ _ l (Nat.succ_ne_self _),#[#[_,he],Zj],λb M=>?_,q];rcases cg.mp M with z|z
 .subst z;show I1.fpOk (nh _) (I1.hok.fresh (nh _))
 .let z':b=s1.heap.objs.size:=by simpa using z
  subst z';show I1.fpOk (qw _) (I1.hok.fresh (qw _))
inductive D where
 |non|bl (b:aJ)|int (i:ah)|str (x:aj)|tup (l:Z D)|lst (l:Z D)|scr (ns:Z ah)
 |dk (l:Z (XR×D))|fdk (l:Z (XR×D))|dt (l:Z (Z XR×D))|fdt (l:Z (Z XR×D))|ins (c:aj) (fs:Z (aj×D))|ty (n:cD)
def cU:XR->D
 |.inl i=>.int i
 |.inr x=>.str x
structure Cn where
 cls:aj->au av
 self:au av:=B
mutual
inductive X9(O:Cn)(K:aS)(G:Hp):V->D->Prop where
 |non:X9 O K G .non .non
 |bl (b:aJ):X9 O K G (.bl b) (.bl b)
 |int (i:ah):X9 O K G (.int i) (.int i)
 |str (x:aj):X9 O K G (.str x) (.str x)
 |ty (n:cD):X9 O K G (.ty n) (.ty n)
 |tup {a:av} {vs:Z V} {ds:Z D}:G a=U (.tup vs)->XO O K G vs ds->X9 O K G (.ref a) (.tup ds)
 |lst {a:av} {vs:Z V} {ds:Z D}:G a=U (.lst vs)->XO O K G vs ds->X9 O K G (.ref a) (.lst ds)
 |scr {a:av} {ns:Z ah}:Zv K G a (ns.map V.int)->X9 O K G (.ref a) (.scr ns)
 |dk {a:av} {E:Z (XR×V)} {XJ:Z (XR×D)}:G a=U (.dK E)->E.map (·.1)=XJ.map (·.1)->XO O K G (E.map (·.2)) (XJ.map (·.2))->X9 O K G (.ref a) (.dk XJ)
 |fdk {a:av} {o:Obj} {E:Z (XR×V)} {XJ:Z (XR×D)}:G a=U (.frz o (.dK E))->E.map (·.1)=XJ.map (·.1)->XO O K G (E.map (·.2)) (XJ.map (·.2))->X9 O K G (.ref a) (.fdk XJ)
 |dt {a:av} {E:Z (Z XR×V)} {XJ:Z (Z XR×D)}:G a=U (.dT E)->E.map (·.1)=XJ.map (·.1)->XO O K G (E.map (·.2)) (XJ.map (·.2))->X9 O K G (.ref a) (.dt XJ)
 |fdt {a:av} {o:Obj} {E:Z (Z XR×V)} {XJ:Z (Z XR×D)}:G a=U (.frz o (.dT E))->E.map (·.1)=XJ.map (·.1)->XO O K G (E.map (·.2)) (XJ.map (·.2))->X9 O K G (.ref a) (.fdt XJ)
 |ins {a XI dx:av} {c:aj} {E:Z (aj×V)} {fs:Z (aj×D)}:G a=U (.ins XI dx E)->O.cls c=U XI->E.map (·.1)=fs.map (·.1)->XO O K G (E.map (·.2)) (fs.map (·.2))->X9 O K G (.ref a) (.ins c fs)
inductive XO(O:Cn)(K:aS)(G:Hp):Z V->Z D->Prop where
 |nil:XO O K G [] []
 |cons {v:V} {d:D} {vs:Z V} {ds:Z D}:X9 O K G v d->XO O K G vs ds->XO O K G (v::vs) (d::ds)
end
variable{O Z3:Cn}{G G' G1:Hp}{d:D}{ds:Z D}
section
variable{G2:Hp}
def X9.tr(s:aY G G')(hc:Z3.cls=O.cls)(r:X9 O K G v d):X9 Z3 K G' v d:=
 r.rec .non .bl .int .str .ty (λh _ i=>.tup (s _ _ h) i) (λh _ i=>.lst (s _ _ h) i) (λh=>.scr (s.seq h)) (λh e _ i=>.dk (s _ _ h) e i) (λh e _ i=>.fdk (s _ _ h) e i) (λh e _ i=>.dt (s _ _ h) e i) (λh e _ i=>.fdt (s _ _ h) e i) (λh c e _ i=>.ins (s _ _ h) (by rw[hc];show c) e i) .nil λ_ _ a b=>.cons a b
def XO.tr{Z3:Cn}(s:aY G G')(hc:Z3.cls=O.cls):∀{vs:Z V}{ds:Z D},XO O K G vs ds->XO Z3 K G' vs ds
 |_,_,.nil=>.nil
 |_,_,.cons h r=>.cons (h.tr s hc) (r.tr s hc)
def X9.mono(r:X9 O K G v d)(s:aY G G'):X9 O K G' v d:=r.tr s W
def XO.mono(r:XO O K G vs ds)(s:aY G G'):XO O K G' vs ds:=r.tr s W
def X9.re{Z3:Cn}(hc:Z3.cls=O.cls){v:V}{d:D}(r:X9 O K G v d):X9 Z3 K G v d:=r.tr (aY.refl _) hc
def XO.re{Z3:Cn}(hc:Z3.cls=O.cls){vs:Z V}{ds:Z D}(r:XO O K G vs ds):XO Z3 K G vs ds:=r.tr (aY.refl _) hc
def XO.length:∀{vs:Z V}{ds:Z D},XO O K G vs ds->vs.length=ds.length
 |_,_,.nil=>rfl
 |_,_,.cons _ r=>by rw[qi,qi,r.length]
def XO.get:∀{vs:Z V}{ds:Z D}{i:ag}{d:D},XO O K G vs ds->ds[i]?=U d->∃v,vs[i]?=U v/\X9 O K G v d
 |_,_,_,_,.nil,e=>by simp at e
 |_,_,0,_,.cons r _,e=>by simp at e;subst e;show#[_,W,r]
 |_,_,i+1,d,.cons _ t,e=>by let⟨u,h1,h2⟩:=XO.get t (by simpa using e);show#[u,by simpa using h1,h2]
def XO.getV:∀{vs:Z V}{ds:Z D}{i:ag}{v:V},XO O K G vs ds->vs[i]?=U v->∃d,ds[i]?=U d/\X9 O K G v d
 |_,_,_,_,.nil,e=>by simp at e
 |_,_,0,_,.cons r _,e=>by simp at e;subst e;show#[_,W,r]
 |_,_,i+1,d,.cons _ t,e=>by let⟨u,h1,h2⟩:=XO.getV t (by simpa using e);show#[u,by simpa using h1,h2]
def XO.append:∀{vs ws:Z V}{ds es:Z D},XO O K G vs ds->XO O K G ws es->XO O K G (vs++ws) (ds++es)
 |_,_,_,_,.nil,s=>s
 |_,_,_,_,.cons r t,s=>.cons r (t.append s)
def XO.take:∀{vs:Z V}{ds:Z D}(n:ag),XO O K G vs ds->XO O K G (vs.take n) (ds.take n)
 |_,_,0,_=>.nil
 |_,_,_+1,.nil=>.nil
 |_,_,n+1,.cons r t=>.cons r (t.take n)
def XO.drop:∀{vs:Z V}{ds:Z D}(n:ag),XO O K G vs ds->XO O K G (vs.drop n) (ds.drop n)
 |_,_,0,r=>r
 |_,_,_+1,.nil=>.nil
 |_,_,n+1,.cons _ t=>t.drop n
def XO.ints:∀(ns:Z ah),XO O K G (ns.map V.int) (ns.map D.int)
 |[]=>.nil
 |n::r=>.cons (.int n) (XO.ints r)
def XO.rep{vs:Z V}{ds:Z D}(h:XO O K G vs ds):∀k:ag,XO O K G (bQ k vs).flatten (bQ k ds).flatten
 |0=>.nil
 |k+1=>by rw[lM,lM,oZ,oZ];show h.append (XO.rep h k)
noncomputable def kyV:V->aJ
 |.int _=>ai
 |.str _=>ai
 |_=>ar
def ź:HO->aJ
 |.tup vs=>vs.all kyV
 |_=>ar
structure Step(G H G' H':Hp):Prop where
 hh:aY H H'
 gg:aY G G'
 gh:aY G' H'
 out:∀a o,H a=U o->ź o=ar->G' a=G a
def Step.refl(gh:aY G H):Step G H G H:=#[.refl _,.refl _,gh,λ_ _ _ _=>rfl]
def Step.trans(a:Step G H G1 H1)(b:Step G1 H1 G2 H2):Step G H G2 H2:=
 #[a.hh.trans b.hh,a.gg.trans b.gg,b.gh,λc o e k=>(b.out c o (a.hh c o e) k).trans (a.out c o e k)]
def Step.new{p:av}{o:HO}(gh:aY G H)(hp:H p=B):Step G H (X0 G p o) (X0 H p o):=by
 let gp:G p=B:=gh.free hp;show#[λb u e=>?_,λb u e=>?_,λb u e=>?_,λb u e _=>?_]
 .rw[aD (bH e hp)];show e
 .rw[aD (bH e gp)];show e
 .by_cases M:b=p
  .subst M;rw[bf] at e ⊢;show e
  .rw[aD M] at e ⊢;show gh b u e
 .rw[aD (bH e hp)]
def Step.newOwn{p:av}{o:HO}(gh:aY G H)(hp:H p=B):Step G H G (X0 H p o):=by
 show#[λb u e=>?_,.refl _,λb u e=>?_,λ_ _ _ _=>rfl]
 .rw[aD (bH e hp)];show e
 .rw[aD (bH (gh b u e) hp)];show gh b u e
end
inductive Yi where
 |d (d:D)|k (XJ:Z (XR×D))|t (XJ:Z (Z XR×D))
inductive Slot where
 |sh (d:D)
 |own (ds:Z D)
 |obj (c:aj) (fs:Z (aj×D))
 |objd (c:aj) (fs:Z (aj×D)) (n:aj) (XJ:Z (XR×D))
 |odk (XJ:Z (XR×D))
 |odt (XJ:Z (Z XR×D))
 |fo (s:aJ) (c:aj) (fs:Z (aj×Yi))
abbrev bG:=Z (au Slot)
noncomputable def gA:D->aJ
 |.non=>ai
 |.bl _=>ai
 |.int _=>ai
 |.str _=>ai
 |_=>ar
def nL(H:Hp):Z av->Z (Z V)->Prop
 |[],[]=>True
 |p::ps,vs::ň=>H p=U (.lst vs)/\nL H ps ň
 |_,_=>False
def vc(O:Cn)(K:aS)(G:Hp):Z (Z V)->Z (Z D)->Prop
 |[],[]=>True
 |vs::ň,ds::dss=>XO O K G vs ds/\vc O K G ň dss
 |_,_=>False
def nL.mem{H:Hp}:∀{ps:Z av}{ň:Z (Z V)},nL H ps ň->∀b∈ps,∃o,H b=U o/\ź o=ar
 |[],_,_,b,M=>by cases M
 |p::ps,[],h,b,M=>h.elim
 |p::ps,vs::ň,h,b,M=>by
  rcases cg.mp M with rfl|M
  .exact#[_,h.1,W]
  .exact h.2.mem b M
def nL.stay{H H':Hp}:∀{ps:Z av}{ň:Z (Z V)},nL H ps ň->(∀b∈ps,H' b=H b)->nL H' ps ň
 |[],[],_,_=>trivial
 |[],_::_,h,_=>h.elim
 |p::ps,[],h,_=>h.elim
 |p::ps,vs::ň,h,e=>#[(e p qg).trans h.1,h.2.stay λb M=>e b (qh _ M)]
def vc.map{O:Cn}{K:aS}{G G':Hp}(f:∀{vs:Z V}{ds:Z D},XO O K G vs ds->XO O K G' vs ds):∀{ň:Z (Z V)}{dss:Z (Z D)},vc O K G ň dss->vc O K G' ň dss
 |[],[],_=>trivial
 |[],_::_,h=>h.elim
 |_::_,[],h=>h.elim
 |_::_,_::_,h=>#[f h.1,h.2.map f]
inductive Yz(O:Cn)(K:aS)(G H:Hp):V->Yi->Z av->Prop where
 |d {v:V} {d:D}:X9 O K G v d->Yz O K G H v (.d d) []
 |k {q:av} {E:Z (XR×V)} {XJ:Z (XR×D)}:H q=U (.dK E)->E.map (·.1)=XJ.map (·.1)->XO O K G (E.map (·.2)) (XJ.map (·.2))->Yz O K G H (.ref q) (.k XJ) [q]
 |t {q:av} {E:Z (Z XR×V)} {XJ:Z (Z XR×D)}:H q=U (.dT E)->E.map (·.1)=XJ.map (·.1)->XO O K G (E.map (·.2)) (XJ.map (·.2))->Yz O K G H (.ref q) (.t XJ) [q]
inductive XW(O:Cn)(K:aS)(G H:Hp):Z V->Z Yi->Z av->Prop where
 |nil:XW O K G H [] [] []
 |cons {v:V} {f:Yi} {p:Z av} {vs:Z V} {fs:Z Yi} {ps:Z av}:Yz O K G H v f p->XW O K G H vs fs ps->XW O K G H (v::vs) (f::fs) (p++ps)
def Yz.mem{v:V}{f:Yi}{p:Z av}(r:Yz O K G H v f p):∀b∈p,∃o,H b=U o/\ź o=ar:=by
 cases r with
 |d _=>intro b M;cases M
 |k h _ _=>intro b M;rw[bL.mp M];show#[_,h,W]
 |t h _ _=>intro b M;rw[bL.mp M];show#[_,h,W]
def Yz.stay{f:Yi}{p:Z av}(r:Yz O K G H v f p)(gg:aY G G')(hh:∀b∈p,H' b=H b):Yz O K G' H' v f p:=by
 cases r with
 |d h=>show .d (h.mono gg)
 |k h a c=>show .k ((hh _ qg).trans h) a (c.mono gg)
 |t h a c=>show .t ((hh _ qg).trans h) a (c.mono gg)
def Yz.uniq{f:Yi}{p q:Z av}(r:Yz O K G H v f p)(s:Yz O K G H v f q):p=q:=by cases r<;>cases s<;>rfl
def XW.mem:∀{vs:Z V}{fs:Z Yi}{ps:Z av},XW O K G H vs fs ps->∀b∈ps,∃o,H b=U o/\ź o=ar
 |_,_,_,.nil,b,M=>by cases M
 |_,_,_,.cons r t,b,M=>(c8.mp M).elim (r.mem b) (t.mem b)
def XW.stay:∀{vs:Z V}{fs:Z Yi}{ps:Z av},XW O K G H vs fs ps->aY G G'->(∀b∈ps,H' b=H b)->XW O K G' H' vs fs ps
 |_,_,_,.nil,_,_=>.nil
 |_,_,_,.cons r t,gg,hh=>.cons (r.stay gg λb M=>hh b (m6 _ M)) (t.stay gg λb M=>hh b (qS _ M))
def XW.uniq:∀{vs:Z V}{fs:Z Yi}{ps qs:Z av},XW O K G H vs fs ps->XW O K G H vs fs qs->ps=qs
 |_,_,_,_,.nil,.nil=>rfl
 |_,_,_,_,.cons r t,.cons r' t'=>by rw[r.uniq r',t.uniq t']
inductive SR(O:Cn)(K:aS)(Z9 G H:Hp):Slot->V->Z av->Prop where
 |sh {d:D} {v:V}:X9 O K G v d->SR O K Z9 G H (.sh d) v []
 |own {a:av} {vs:Z V} {ds:Z D}:Z9 a=B->G a=B->H a=U (.lst vs)->XO O K G vs ds->SR O K Z9 G H (.own ds) (.ref a) [a]
 |obj {c:aj} {a XI dx:av} {vs:Z (aj×V)} {fs:Z (aj×D)}:O.cls c=U XI->Z9 a=B->G a=B->H a=U (.ins XI dx vs)->vs.map (·.1)=fs.map (·.1)->XO O K G (vs.map (·.2)) (fs.map (·.2))->O.self=U a->SR O K Z9 G H (.obj c fs) (.ref a) [a]
 |objd {c n:aj} {a XI dx p:av} {vs:Z (aj×V)} {fs:Z (aj×D)} {E:Z (XR×V)} {XJ:Z (XR×D)}:O.cls c=U XI->Z9 a=B->G a=B->H a=U (.ins XI dx (vs++[(n,.ref p)]))->vs.map (·.1)=fs.map (·.1)->XO O K G (vs.map (·.2)) (fs.map (·.2))->
   Z9 p=B->G p=B->H p=U (.dK E)->E.map (·.1)=XJ.map (·.1)->XO O K G (E.map (·.2)) (XJ.map (·.2))->O.self=U a->SR O K Z9 G H (.objd c fs n XJ) (.ref a) [a,p]
 |odk {a:av} {E:Z (XR×V)} {XJ:Z (XR×D)}:Z9 a=B->G a=B->H a=U (.dK E)->E.map (·.1)=XJ.map (·.1)->XO O K G (E.map (·.2)) (XJ.map (·.2))->SR O K Z9 G H (.odk XJ) (.ref a) [a]
 |odt {a:av} {E:Z (Z XR×V)} {XJ:Z (Z XR×D)}:Z9 a=B->G a=B->H a=U (.dT E)->E.map (·.1)=XJ.map (·.1)->XO O K G (E.map (·.2)) (XJ.map (·.2))->SR O K Z9 G H (.odt XJ) (.ref a) [a]
 |fo {s:aJ} {c:aj} {a XI dx:av} {vs:Z (aj×V)} {fs:Z (aj×Yi)} {ps:Z av}:(s=ai->O.self=U a)->O.cls c=U XI->(∀b∈a::ps,Z9 b=B/\G b=B)->(a::ps).Nodup->H a=U (.ins XI dx vs)->vs.map (·.1)=fs.map (·.1)->XW O K G H (vs.map (·.2)) (fs.map (·.2)) ps->SR O K Z9 G H (.fo s c fs) (.ref a) (a::ps)
variable{Z9:Hp}
section
variable{s:Slot}
def SR.fpt(r:SR O K Z9 G H s v fp):∀b∈fp,Z9 b=B/\G b=B/\∃o,H b=U o/\ź o=ar:=by
 cases r with
 |sh r=>intro b M;cases M
 |own h1 h2 h3 _=>intro b M;rw[bL.mp M];show#[h1,h2,_,h3,W]
 |obj _ h1 h2 h3 _ _ _=>intro b M;rw[bL.mp M];show#[h1,h2,_,h3,W]
 |objd _ h1 h2 h3 _ _ q1 q2 q3 _ _ _=>
  intro b M;rcases cg.mp M with rfl|M
  .exact#[h1,h2,_,h3,W]
  .rw[bL.mp M];show#[q1,q2,_,q3,W]
 |odk h1 h2 h3 _ _=>intro b M;rw[bL.mp M];show#[h1,h2,_,h3,W]
 |odt h1 h2 h3 _ _=>intro b M;rw[bL.mp M];show#[h1,h2,_,h3,W]
 |fo _ _ h1 h2 h3 _ h4=>
  intro b M;show#[(h1 b M).1,(h1 b M).2,?_];rcases cg.mp M with rfl|M
  .exact#[_,h3,W]
  .exact h4.mem b M
def SR.stay(r:SR O K Z9 G H s v fp)(gg:aY G G')(hg:∀b∈fp,G' b=B)(hh:∀b∈fp,H' b=H b):SR O K Z9 G' H' s v fp:=by
 cases r with
 |sh r=>show .sh (r.mono gg)
 |own h1 h2 h3 h4=>show .own h1 (hg _ (bL.mpr W)) ((hh _ (bL.mpr W)).trans h3) (h4.mono gg)
 |obj c h1 h2 h3 h4 h5 hs=>show .obj c h1 (hg _ (bL.mpr W)) ((hh _ (bL.mpr W)).trans h3) h4 (h5.mono gg) hs
 |objd c h1 h2 h3 h4 h5 q1 q2 q3 q4 q5 hs=>
  show .objd c h1 (hg _ qg) ((hh _ qg).trans h3) h4 (h5.mono gg) q1 (hg _ (qh _ qg)) ((hh _ (qh _ qg)).trans q3) q4 (q5.mono gg) hs
 |odk h1 h2 h3 h4 h5=>show .odk h1 (hg _ (bL.mpr W)) ((hh _ (bL.mpr W)).trans h3) h4 (h5.mono gg)
 |odt h1 h2 h3 h4 h5=>show .odt h1 (hg _ (bL.mpr W)) ((hh _ (bL.mpr W)).trans h3) h4 (h5.mono gg)
 |fo y c h1 h2 h3 h4 h5=>show .fo y c (λb M=>#[(h1 b M).1,hg b M]) h2 ((hh _ qg).trans h3) h4 (h5.stay gg λb M=>hh b (qh _ M))
def SR.stepS(r:SR O K Z9 G H s v fp)(t:Step G H G' H'):SR O K Z9 G' H' s v fp:=r.stay t.gg (λb M=>by
 let⟨_,h2,o,h3,h4⟩:=r.fpt b M;show(t.out b o h3 h4).trans h2) (λb M=>by
 let⟨_,_,o,h3,_⟩:=r.fpt b M;rw[h3];show t.hh b o h3)
end
def SR.uniq{O:Cn}{K:aS}{Z9 G H:Hp}{s:Slot}{v:V}{fp fq:Z av}(r:SR O K Z9 G H s v fp)(q:SR O K Z9 G H s v fq):fp=fq:=by
 cases r with
 |sh r=>cases q;rfl
 |own h1 h2 h3 _=>cases q;rfl
 |obj _ h1 h2 h3 _ _ _=>cases q;rfl
 |objd _ h1 h2 h3 _ _ q1 q2 q3 _ _ _=>
  cases q with
  |objd _ _ _ k3 _ _ _ _ _ _ _ _=>
   rw[h3] at k3;let z:=(HO.ins.inj (qI k3)).2.2;let z2:=(List.append_inj' z W).2;cases z2;rfl
 |odk h1 h2 h3 _ _=>cases q;rfl
 |odt h1 h2 h3 _ _=>cases q;rfl
 |fo _ _ _ _ h3 _ h5=>
  cases q with
  |fo _ _ _ _ k3 _ k5=>
   rw[h3] at k3;cases k3;rw[h5.uniq k5]
structure Zf(O:Cn)(K:aS)(Z9 G H:Hp)(Y:bG)(L:St):Prop where
 len:Y.length=L.length
 sl:∃í:ag->Z av,(∀(i:ag)s,Y[i]?=U (U s)->∃v,L[i]?=U (U v)/\SR O K Z9 G H s v (í i)) /\
  ∀(i j:ag)s t,i≠j->Y[i]?=U (U s)->Y[j]?=U (U t)->∀b∈í i,b∉í j
structure At(O:Cn)(K:aS)(Z8 Z9 G H:Hp)(Y:bG)(L:St):Prop where
 st:Step Z8 Z9 G H
 env:Zf O K Z9 G H Y L
def fj(Y:bG):Prop:=∀(i:ag)s,Y[i]?=U (U s)->∃d,s=.sh d
variable{Z8:Hp}{Y:bG}{Α:Z av}{ws:Z V}
def Zf.ofSh(len:Y.length=L.length)(no:fj Y)(sh:∀(i:ag)d,Y[i]?=U (U (.sh d))->∃v,L[i]?=U (U v)/\X9 O K G v d):Zf O K Z9 G H Y L :=
 #[len,λ_=>[],λi s e=>by let⟨d,rfl⟩:=no i s e;let⟨v,h1,h2⟩:=sh i d e;show#[v,h1,.sh h2],λ_ _ _ _ _ _ _ b M=>by cases M]
def Zf.sh(us:Zf O K Z9 G H Y L)(i:ag)(d:D)(e:Y[i]?=U (U (.sh d))):∃v,L[i]?=U (U v)/\X9 O K G v d:=by
 let⟨í,h,_⟩:=us.sl;let⟨v,h1,h2⟩:=h i _ e;generalize í i=fp at h2;cases h2 with
 |sh r=>show#[v,h1,r]
def Zf.own(us:Zf O K Z9 G H Y L)(i:ag)(ds:Z D)(e:Y[i]?=U (U (.own ds))):∃a vs,L[i]?=U (U (.ref a))/\Z9 a=B/\G a=B/\H a=U (.lst vs)/\XO O K G vs ds:=by
 let⟨í,h,_⟩:=us.sl;let⟨v,h1,h2⟩:=h i _ e;generalize í i=fp at h2;cases h2 with
 |own q1 q2 q3 q4=>show#[_,_,h1,q1,q2,q3,q4]
def At.gh(A:At O K Z8 Z9 G H Y L):aY G H:=A.st.gh
def At.step(A:At O K Z8 Z9 G H Y L)(s:Step G H G' H'):At O K Z8 Z9 G' H' Y L:=by
 let⟨í,h,ap⟩:=A.env.sl;show#[A.st.trans s,A.env.len,í,λi t e=>by let⟨v,h1,h2⟩:=h i t e;show#[v,h1,h2.stepS s],ap]
def At.put(A:At O K Z8 Z9 G H Y L){s':Slot}{v':V} 
  (hfp:fp=[]\/∃s v,Y[i]?=U (U s)/\L[i]?=U (U v)/\SR O K Z9 G H s v fp)
  (hH:∀b o,H b=U o->b∉fp->H' b=U o)(hS:SR O K Z9 G' H' s' v' Α)(hn:∀b∈Α,b∈fp\/H b=B)
  (gg:aY G G')(gh:aY G' H')(out:∀b o,H b=U o->b∉fp->ź o=ar->G' b=G b)(out2:∀b∈fp,Z9 b=B):At O K Z8 Z9 G' H' (Y.set i (U s')) (L.set i (U v')):=by
 let⟨í,h,ap⟩:=A.env.sl;let hl:=A.env.len;let Ĺ:∀b∈fp,∀j t,j≠i->Y[j]?=U (U t)->b∉í j:=λb M j t hj e=>by
  rcases hfp with rfl|⟨s,v,h1,h2,h3⟩
  .cases M
  .obtain⟨v2,h4,h5⟩:=h i s h1;rw[h2] at h4;cases h4;let efp:fp=í i:=h3.uniq h5;subst efp;show ap i j s t (cL hj) h1 e b M
 let slj:∀(j:ag)t,j≠i->Y[j]?=U (U t)->∃v,L[j]?=U (U v)/\SR O K Z9 G' H' t v (í j):=λj t hj e=>by
  let⟨v,h1,h2⟩:=h j t e;show#[v,h1,h2.stay gg (λb M=>?_) (λb M=>?_)]
  .obtain⟨_,q2,o,q3,q4⟩:=h2.fpt b M;show(out b o q3 (λz=>Ĺ b z j t hj e M) q4).trans q2
  .obtain⟨_,_,o,q3,_⟩:=h2.fpt b M;rw[q3];show hH b o q3 λz=>Ĺ b z j t hj e M
 let no2:∀b o,Z9 b=U o->b∉fp:=λb o e z=>by rw[out2 b z] at e;cases e
 let æ:Step Z8 Z9 G' H':=#[λb o e=>hH b o (A.st.hh b o e) (no2 b o e),A.st.gg.trans gg,gh,λb o e k=>(out b o (A.st.hh b o e) (no2 b o e) k).trans (A.st.out b o e k)];show#[æ,by simp[hl],λj=>if j=i then Α else í j,λj t e=>?_,λj k t u hjk e1 e2 b M=>?_]
 .by_cases hj:j=i
  .subst hj;let YX:j < Y.length:=by
    rcases kA j Y.length with q|q
    .exact q
    .rw[vO (by simp;ext)] at e;cases e
   rw[oP YX] at e;cases e;show ∃v,_/\SR _ _ _ _ _ _ v (if j=j then Α else í j);rw[qY W];show#[v',by rw[oP .(b)],hS]
  .rw[qz (cL hj)] at e ⊢;show ∃v,_/\SR _ _ _ _ _ _ v (if j=i then Α else í j);rw[qZ hj];show slj j t hj e
 .let cross:∀{k:ag}{u:Slot},k≠i->Y[k]?=U (U u)->∀b∈Α,b∉í k:=λ{k u}hk e b M ċ=>by
   rcases hn b M with z|z
   .exact Ĺ b z k u hk e ċ
   .obtain⟨v,_,q⟩:=h k u e;let⟨_,_,o,q3,_⟩:=q.fpt b ċ;rw[z] at q3;cases q3
  replace M:b∈(if j=i then Α else í j):=M
  show b∉(if k=i then Α else í k);by_cases hj:j=i
  .subst hj;let hk:k≠j:=cL hjk;rw[qY W] at M;rw[qZ hk];rw[qz hjk] at e2;show cross hk e2 b M
  .rw[qZ hj] at M;rw[qz (cL hj)] at e1;by_cases hk:k=i
   .subst hk;rw[qY W];exactλz=>cross hj e1 b z M
   .rw[qZ hk];rw[qz (cL hk)] at e2;show ap j k t u hjk e1 e2 b M
def At.setSh(A:At O K Z8 Z9 G H Y L)(r:X9 O K G v d):At O K Z8 Z9 G H (Y.set i (U (.sh d))) (L.set i (U v)):=
 A.put (.inl W) (λb o e _=>e) (.sh r) (λb M=>by cases M) (.refl _) A.gh (λ_ _ _ _ _=>rfl) (λb M=>by cases M)
def At.setOwn(A:At O K Z8 Z9 G H Y L)(ha:H a=B)(r:XO O K G vs ds):At O K Z8 Z9 G (X0 H a (.lst vs)) (Y.set i (U (.own ds))) (L.set i (U (.ref a))):=by let h0:Z9 a=B:=A.st.hh.free ha;let hg:G a=B:=A.gh.free ha;show A.put (.inl W) (λb o e _=>by rw[aD (bH e ha)];show e) (.own h0 hg bf r) (λb M=>.inr (by rw[bL.mp M];show ha)) (.refl _) (λb o e=>?_) (λ_ _ _ _ _=>rfl) (λb M=>by cases M);rw[aD (bH e hg)];show A.gh b o e
def K5{l:Z α}{x:α}(h:l[i]?=U x):l.set i x=l:=by
 apply Vx;intro j;by_cases hj:j=i
 .subst hj;rw[oP (dM.mp h).1,h]
 .rw[qz (cL hj)]
def At.ch(A:At O K Z8 Z9 G H Y L){s s':Slot}(hi:Y[i]?=U (U s))(hv:L[i]?=U (U v))(hs:SR O K Z9 G H s v fp)
  (hH:∀b o,H b=U o->b∉fp->H' b=U o)(hS:SR O K Z9 G' H' s' v Α)(hn:∀b∈Α,b∈fp\/H b=B)
  (gg:aY G G')(gh:aY G' H')(out:∀b o,H b=U o->b∉fp->ź o=ar->G' b=G b):At O K Z8 Z9 G' H' (Y.set i (U s')) L:=by
 let:=A.put (.inr #[s,v,hi,hv,hs]) hH hS hn gg gh out λb M=>(hs.fpt b M).1
 rwa [K5 hv] at this
def At.get(A:At O K Z8 Z9 G H Y L){s:Slot}(hi:Y[i]?=U (U s)):∃v fp,L[i]?=U (U v)/\SR O K Z9 G H s v fp:=by let⟨í,h,_⟩:=A.env.sl;let⟨v,h1,h2⟩:=h i s hi;show#[v,_,h1,h2]
def At.chOwn(A:At O K Z8 Z9 G H Y L){es:Z D}(hi:Y[i]?=U (U (.own ds)))(ha:L[i]?=U (U (.ref a)))(r:XO O K G ws es):At O K Z8 Z9 G (X0 H a (.lst ws)) (Y.set i (U (.own es))) L:=by
 let⟨v,fp,h1,h2⟩:=A.get hi;rw[ha] at h1;cases h1;cases h2 with
 |own q1 q2 q3 q4=>
  show A.ch hi ha (.own q1 q2 q3 q4) (λb o e M=>?_) (.own q1 q2 bf r) (λb M=>.inl M) (.refl _) (λb o e=>?_) (λ_ _ _ _ _=>rfl)
  .rw[aD (λz=>M (bL.mpr z))];show e
  .rw[aD (bH e q2)];show A.gh b o e
def At.freeze(A:At O K Z8 Z9 G H Y L)(hi:Y[i]?=U (U (.own ds))):∃G',aY G G'/\At O K Z8 Z9 G' H (Y.set i (U (.sh (.lst ds)))) L:=by
 let⟨v,fp,h1,h2⟩:=A.get hi;cases h2 with
 |own q1 q2 q3 q4=>
  rename_i a vs;let sm:aY G (X0 G a (.lst vs)):=λb o e=>by rw[aD (bH e q2)];show e
  show#[X0 G a (.lst vs),sm,A.ch hi h1 (.own q1 q2 q3 q4) (λb o e M=>e) (.sh (.lst bf (q4.mono sm))) (λb M=>by cases M) sm (λb o e=>?_) (λb o e M _=>?_)]
  .by_cases M:b=a
   .subst M;rw[bf] at e;cases e;show q3
   .rw[aD M] at e;show A.gh b o e
  .rw[aD (λz=>M (bL.mpr z))]
mutual
inductive ų(H G:Hp):V->D->Prop where
 |flat {v:V} {d:D}:gA d=ai->ų H G v d
 |tup {a:av} {vs:Z V} {ds:Z D}:G a=U (.tup vs)->ě H G vs ds->ų H G (.ref a) (.tup ds)
 |lst {a:av} {vs:Z V} {ds:Z D}:G a=U (.lst vs)->H a=B->ě H G vs ds->ų H G (.ref a) (.lst ds)
inductive ě(H G:Hp):Z V->Z D->Prop where
 |nil:ě H G [] []
 |cons {v:V} {d:D} {vs:Z V} {ds:Z D}:ų H G v d->ě H G vs ds->ě H G (v::vs) (d::ds)
end
inductive Fl where
 |nx|bk|ct|rt (d:D)|ow (ds:Z D)|nw (d:D)|od (XJ:Z (XR×D))
abbrev FE:=bG->au D
abbrev FT:=bG->au aJ
abbrev FA:=bG->au (Z D)
abbrev FS:=bG->au (Fl×bG)
inductive TD(O:Cn)(K:aS)(f:FE)(L:St)(H:Hp)(Q:VK):Prop where
 |mk:∀Z8 Z9 G Y d,At O K Z8 Z9 G H Y L->f Y=U d->(∀v G' H',Step G H G' H'->X9 O K G' v d->Q v H')->TD O K f L H Q
inductive š(O:Cn)(K:aS)(f:FT)(L:St)(H:Hp)(Q:aJ->Hp->Prop):Prop where
 |mk:∀Z8 Z9 G Y b,At O K Z8 Z9 G H Y L->f Y=U b->(∀G' H',Step G H G' H'->Q b H')->š O K f L H Q
inductive TDa(O:Cn)(K:aS)(f:FA)(L:St)(H:Hp)(Q:Z V->Hp->Prop):Prop where
 |mk:∀Z8 Z9 G Y ds,At O K Z8 Z9 G H Y L->f Y=U ds->(∀vs G' H',Step G H G' H'->XO O K G' vs ds->Q vs H')->TDa O K f L H Q
def M4(O:Cn)(K:aS)(us:gm)(Z9 G' H':Hp)(Z5:St):Fl->Prop
 |.nx=>us.nx Z5 H'
 |.bk=>us.bk Z5 H'
 |.ct=>us.ct Z5 H'
 |.rt d=>∀v,X9 O K G' v d->us.rt v H'
 |.ow ds=>∀p vs,Z9 p=B->G' p=B->H' p=U (.lst vs)->XO O K G' vs ds->us.rt (.ref p) H'
 |.nw d=>∀v,X9 O K G' v d->ų Z9 G' v d->us.rt v H'
 |.od XJ=>∀p E,Z9 p=B->G' p=B->H' p=U (.dK E)->E.map (·.1)=XJ.map (·.1)->XO O K G' (E.map (·.2)) (XJ.map (·.2))->us.rt (.ref p) H'
inductive Ń(O:Cn)(K:aS)(g:FS)(us:gm)(L:St)(H:Hp):Prop where
 |mk:∀Z8 Z9 G Y fl Y',At O K Z8 Z9 G H Y L->g Y=U (fl,Y')->(∀Z5 G' H',aY G G'->At O K Z8 Z9 G' H' Y' Z5->M4 O K us Z9 G' H' Z5 fl)->Ń O K g us L H
inductive TDo(O:Cn)(K:aS)(f:FA)(L:St)(H:Hp)(Q:VK):Prop where
 |mk:∀Z8 Z9 G Y ds,At O K Z8 Z9 G H Y L->f Y=U ds->(∀p vs G' H',Step G H G' H'->H' p=B->XO O K G' vs ds->Q (.ref p) (X0 H' p (.lst vs)))->TDo O K f L H Q
structure DE(O:Cn)(X:Cx)(e:Expr)(f:FE):Prop where
 out:PE X e (TD O X.K f)
structure DT(O:Cn)(X:Cx)(e:Expr)(f:FT):Prop where
 out:PT X e (š O X.K f)
structure DW(O:Cn)(X:Cx)(e:Expr)(f:FT):Prop where
 out:PW X e (š O X.K f)
structure DA(O:Cn)(X:Cx)(es:Z Expr)(f:FA):Prop where
 out:PA X es (TDa O X.K f)
structure DS(O:Cn)(X:Cx)(st:Stmt)(g:FS):Prop where
 out:PS X st (Ń O X.K g)
structure Zn(O:Cn)(X:Cx)(st:Z Stmt)(g:FS):Prop where
 out:Ě X st (Ń O X.K g)
structure DO(O:Cn)(X:Cx)(e:Expr)(f:FA):Prop where
 out:PE X e (TDo O X.K f)
variable{fa fb fc f:FE}
section
variable{a c:Expr}
def PE.imp{t t':TE}(h:PE X e t)(i:∀L H Q,t' L H Q->t L H Q):PE X e t':=λZ' s L H Q I q=>h Z' s L H Q I (i _ _ _ q)
def PT.imp{t t':TT}(h:PT X e t)(i:∀L H Q,t' L H Q->t L H Q):PT X e t':=λZ' s L H Q I q=>h Z' s L H Q I (i _ _ _ q)
def PW.imp{t t':TT}(h:PW X e t)(i:∀L H Q,t' L H Q->t L H Q):PW X e t':=λwh Z' s L H Q I q=>h wh Z' s L H Q I (i _ _ _ q)
def PA.imp{t t':TA}(h:PA X es t)(i:∀L H Q,t' L H Q->t L H Q):PA X es t':=λp Z' s L H Q I q=>h p Z' s L H Q I (i _ _ _ q)
def PS.imp{t t':TS}(h:PS X st t)(i:∀us L H,t' us L H->t us L H):PS X st t':=λZ' s L H us I q=>h Z' s L H us I (i _ _ _ q)
def Ě.imp{st:Z Stmt}{t t':TS}(h:Ě X st t)(i:∀us L H,t' us L H->t us L H):Ě X st t':=λZ' s L H us I q=>h Z' s L H us I (i _ _ _ q)
noncomputable def C(i:ag):FE:=λY=>match Y[i]? with
 |some (U (.sh d))=>U d
 |_=>B
def SQ(h:C i Y=U d):Y[i]?=U (U (.sh d)):=by
 unfold C at h;split at h
 .rename_i e;cases h;show e
 .cases h
def bU(i:ag)(hN:X.N[i]?=U x:=by rfl)(hv:Ġ X.env.scope x:=by ac_nf)(hd:(x==("__debug__":aj))=ar:=by decide)
  (Yp:(x==("__classdict__":aj))=ar:=by decide):DE O X (.Name x pos) (C i):=⟨(gH hN hv hd Yp).imp λL H Q #[Z8,Z9,G,Y,d,A,h,k]=>by
 let⟨v,h1,h2⟩:=A.env.sh i d (SQ h);show#[v,h1,k v G H (.refl A.gh) h2]⟩
noncomputable def vC(d:D):FE:=λ_=>U d
def TD.const(r:∀G,X9 O X.K G v d)(h:PE X e (tC v)):DE O X e (vC d):=⟨h.imp λL H Q #[Z8,Z9,G,Y,d',A,h,k]=>by cases h;show k v G H (.refl A.gh) (r G)⟩
def nY{i j}:DE O X (.Constant (.int i) j pos) (vC (.int i)):=TD.const (λ_=>.int i) Gb
def NJ{i j}:DE O X (.Constant (.bool i) j pos) (vC (.bl i)):=TD.const (λ_=>.bl i) Lu
def zn{j}:DE O X (.Constant .none j pos) (vC .non):=TD.const (λ_=>.non) Qv
def y6{i j}:DE O X (.Constant (.str i) j pos) (vC (.str i)):=TD.const (λ_=>.str i) SU
def Of{i:ah}{t:Tok}(hg:Gl X x)(hm:X.mg x=U (.int i t))(hd:(x==("__debug__":aj))=ar:=by decide):DE O X (.Name x pos) (vC (.int i)):=TD.const (λ_=>.int i) (HS hg hm #[t,W] hd)
noncomputable def b2(g:D->D->au D)(fa fb:FE):FE:=λY=>(fa Y).bind λx=>(fb Y).bind λy=>g x y
noncomputable def b1(g:D->au D)(fa:FE):FE:=λY=>(fa Y).bind g
def fR(O:Cn)(K:aS)(g:D->D->au D)(r:R2):Prop:=
 ∀{G H v u x y z},aY G H->X9 O K G v x->X9 O K G u y->g x y=U z->∀Q:VK,(∀w G' H',Step G H G' H'->X9 O K G' w z->Q w H')->r v u H Q
def TD.two{g:D->D->au D}{r:R2}(hr:fR O X.K g r):∀L H Q,TD O X.K (b2 g fa fb) L H Q->tOp r (TD O X.K fa) (TD O X.K fb) L H Q:=by
 rintro L H Q ⟨Z8,Z9,G,Y,d,A,h,k⟩;unfold b2 at h;cases ha:fa Y with
 |none=>rw[ha] at h;cases h
 |some x=>
  cases M:fb Y with
  |none=>rw[ha] at h;simp only[qb,M,Option.bind_none] at h;cases h
  |some y=>
   simp only[ha,M,qb] at h;show#[Z8,Z9,G,Y,x,A,ha,λv G1 H1 s1 r1=>#[Z8,Z9,G1,Y,y,A.step s1,M,λu G2 H2 s2 r2=>?_]];show hr s2.gh (r1.mono s2.gg) r2 h Q λw G' H' s r=>k w G' H' ((s1.trans s2).trans s) r
def mV{op:Operator}{g:D->D->au D}{r:R2}(ho:Yl X (gL op) r)(hr:fR O X.K g r)(ha:DE O X a fa)(M:DE O X b fb):DE O X (.BinOp a op b pos) (b2 g fa fb):=⟨(O9 ho ha.1 M.1).imp (TD.two hr)⟩
noncomputable def aX:D->D->au D
 |.int i,.int j=>U (.int (i+j))
 |.str x,.str y=>if x.length+y.length<=aK then U (.str (x++y)) else B
 |.lst x,.lst y=>if x.length+y.length<=aK then U (.lst (x++y)) else B
 |_,_=>B
noncomputable def f8:D->D->au D
 |.int i,.int j=>U (.int (i-j))
 |_,_=>B
noncomputable def j9(x:aj)(n:ag):aj:=⟨(bQ n x.cps.toList).flatten.toArray⟩
def cR:D->D->au D
 |.int i,.int j=>if (-(2 ^ 64)<i/\i<2 ^ 64)\/(-(2 ^ 64)<j/\j<2 ^ 64) then U (.int (i*j)) else B
 |.lst x,.int j=>if -(2 ^ 63)<=j/\j<2 ^ 63/\x.length*j.toNat<=aK then U (.lst (bQ j.toNat x).flatten) else B
 |.str x,.int j=>if 0<=j/\j<1000/\x.length<1000 then U (.str (j9 x j.toNat)) else B
 |_,_=>B
noncomputable def mi:D->D->au D
 |.int i,.int j=>if 0<j/\j<1073741824 then U (.int (i / j)) else B
 |_,_=>B
noncomputable def eQ:D->D->au D
 |.int i,.int j=>if 0<j then U (.int (i%j)) else B
 |_,_=>B
noncomputable def lj:D->D->au D
 |.int i,.int j=>if 0<=j/\j<=1000000/\i.natAbs<2 ^ 64 then U (.int (i ^ j.toNat)) else B
 |_,_=>B
def X9.int_inv{i:ah}(r:X9 O K G v (.int i)):v=.int i:=by cases r;rfl
def X9.str_inv{i:aj}(r:X9 O K G v (.str i)):v=.str i:=by cases r;rfl
def X9.bl_inv{i:aJ}(r:X9 O K G v (.bl i)):v=.bl i:=by cases r;rfl
def X9.lst_inv(r:X9 O K G v (.lst ds)):∃a vs,v=.ref a/\G a=U (.lst vs)/\XO O K G vs ds:=by cases r;show#[_,_,W,by assumption,by assumption]
def X9.tup_inv(r:X9 O K G v (.tup ds)):∃a vs,v=.ref a/\G a=U (.tup vs)/\XO O K G vs ds:=by cases r;show#[_,_,W,by assumption,by assumption]
def X9.scr_inv(r:X9 O K G v (.scr ns)):∃a,v=.ref a/\Zv K G a (ns.map V.int):=by cases r;show#[_,W,by assumption]
def kg{Q:VK}(gh:aY G H)(r:XO O K G vs ds)(k:∀w G' H',Step G H G' H'->X9 O K G' w (.lst ds)->Q w H'):∀p,H p=B->Q (.ref p) (X0 H p (.lst vs)):=λp hp=>by let s:=Step.new (o:=.lst vs) gh hp;show k _ _ _ s (.lst bf (r.mono s.gg))
def tN{Q:VK}(gh:aY G H)(r:XO O K G vs ds)(k:∀w G' H',Step G H G' H'->X9 O K G' w (.tup ds)->Q w H'):∀p,H p=B->Q (.ref p) (X0 H p (.tup vs)):=λp hp=>by let s:=Step.new (o:=.tup vs) gh hp;show k _ _ _ s (.tup bf (r.mono s.gg))
def UP:fR O K aX (λx y H Q=>(ĸ (λi j=>V.int (i+j)) x y H Q\/(∃i j,x=.str i/\y=.str j/\i.length+j.length<=aK/\Q (.str (i++j)) H))\/yR x y H Q):=by
 intro G H v u x y z gh r1 r2 h Q k;unfold aX at h;split at h
 .cases h;cases r1.int_inv;cases r2.int_inv;show .inl (.inl #[_,_,W,W,k _ G H (.refl gh) (.int _)])
 .split at h
  .cases h;cases r1.str_inv;cases r2.str_inv;show .inl (.inr #[_,_,W,W,by assumption,k _ G H (.refl gh) (.str _)])
  .cases h
 .split at h
  .rename_i hz;cases h;let⟨a,vs,rfl,ha,ra⟩:=r1.lst_inv;let⟨b,E,rfl,M,rb⟩:=r2.lst_inv;show .inr #[a,b,vs,E,W,W,gh _ _ ha,gh _ _ M,by rw[ra.length,rb.length];show hz,kg gh (ra.append rb) k]
  .cases h
 .cases h
def Ka:Yl X (gL .Add) (λx y H Q=>(ĸ (λi j=>V.int (i+j)) x y H Q\/(∃i j,x=.str i/\y=.str j/\i.length+j.length<=aK/\Q (.str (i++j)) H))\/yR x y H Q):=(Le.or RI).or Oh
def Jp(ha:DE O X a fa)(M:DE O X b fb):DE O X (.BinOp a .Add b pos) (b2 aX fa fb):=mV Ka UP ha M
def KS{g:D->D->au D}{o:ah->ah->ah}(hg:∀x y z,g x y=U z->∃i j,x=.int i/\y=.int j/\z=.int (o i j)):fR O K g (ĸ λi j=>V.int (o i j)):=by intro G H v u x y z gh r1 r2 h Q k;let⟨i,j,rfl,rfl,rfl⟩:=hg x y z h;cases r1.int_inv;cases r2.int_inv;show#[_,_,W,W,k _ G H (.refl gh) (.int _)]
def xQ{g:D->D->au D}{XI:ah->ah->Prop}{o:ah->ah->ah}(hg:∀x y z,g x y=U z->∃i j,x=.int i/\y=.int j/\XI i j/\z=.int (o i j)):fR O K g (rI XI λi j=>V.int (o i j)):=by intro G H v u x y z gh r1 r2 h Q k;let⟨i,j,rfl,rfl,hc,rfl⟩:=hg x y z h;cases r1.int_inv;cases r2.int_inv;show#[_,_,W,W,hc,k _ G H (.refl gh) (.int _)]
def T8(ha:DE O X a fa)(M:DE O X b fb):DE O X (.BinOp a .Sub b pos) (b2 f8 fa fb):=mV TY (KS λx y z h=>by unfold f8 at h;split at h<;>cases h;show#[_,_,W,W,W]) ha M
def Ol(ha:DE O X a fa)(M:DE O X b fb):DE O X (.BinOp a .FloorDiv b pos) (b2 mi fa fb):=mV JA (xQ λx y z h=>by
 unfold mi at h;split at h
 .split at h<;>cases h;show#[_,_,W,W,by assumption,W]
 .cases h) ha M
def NP(ha:DE O X a fa)(M:DE O X b fb):DE O X (.BinOp a .Mod b pos) (b2 eQ fa fb):=mV OH (xQ λx y z h=>by
 unfold eQ at h;split at h
 .split at h<;>cases h;show#[_,_,W,W,by assumption,W]
 .cases h) ha M
def NA(ha:DE O X a fa)(M:DE O X b fb):DE O X (.BinOp a .Pow b pos) (b2 lj fa fb):=mV Se (xQ λx y z h=>by
 unfold lj at h;split at h
 .split at h<;>cases h;show#[_,_,W,W,by assumption,W]
 .cases h) ha M
def BG(a:bI ag):∀(k:ag)(XT:Z ag),(bQ k a).foldl (·++·) XT.toArray=(XT++(bQ k a.toList).flatten).toArray
 |0,XT=>by simp
 |k+1,XT=>by
  rw[lM,fO,lM,oZ,<-o0,<-BG a k (XT++a.toList)]
  congr 1
  simp
def CD:R2:=λx y H Q=>∃z n,x=.str z/\y=.int n/\0<=n/\n<1000/\z.length<1000/\Q (.str (j9 z n.toNat)) H
def Lg:Yl X (gL .Mult) CD:=by
 intro Z' s L H x y v u Q I rx ry h;let⟨z,n,rfl,rfl,h0,h1,h2,q⟩:=h;let⟨t,rfl⟩:=rx;let⟨t',rfl⟩:=ry;let hl:z.length*n.toNat<=1000000:=qO (zT (rN h2) (show n.toNat<=1000 by ext)) .(c);let e0:(bQ n.toNat z.cps).foldl (·++·) #[]=(j9 z n.toNat).cps:=by let:=BG z.cps n.toNat [];simpa[j9] using this
 show PySem.P.mul_str ?_ (λh _=>?_) (λ_ _=>?_) ?_
 .rw[qP .(b),qP .(b)];rfl
 .let e:(z.length:ah)*n=((z.length*n.toNat:ag):ah):=by rw[Int.natCast_mul];congr 1;ext
  let:(z.length:ah)<=(2 ^ 63-1:ah) / n:=Int.le_ediv_of_mul_le .(b) (by rw[e];ext);ext
 .unfold Xv;show qP (by let:=eM;ext)
 .split
  .let:n=0:=by ext
   subst this;show#[by decide,#[.str _,H,I.tok _,#[_,W],by simpa[j9,jE] using q]]
  .split
   .rename_i hc;let ez:j9 z n.toNat=z:=by
     rcases GX _ _▸hc with e|e
     .let:n=1:=by simpa using e
      subst this;simp[j9]
     .let hz:z.cps=#[]:=by
       let:z.cps.size=0:=by simpa[sd] using e
       show Array.eq_empty_of_size_eq_zero this
      cases z;simp only at hz;subst hz;simp[j9]
    show#[.str _,H,I,#[_,W],by rw[<-ez];show q]
   .rw[e0];show#[?_,#[.str _,H,I.tok _,#[_,W],q]];let e1:(j9 z n.toNat).length=n.toNat*z.length:=by show(bQ n.toNat z.cps.toList).flatten.toArray.size=_;rw[qC,Co];simp[sd]
    rw[e1,Vk];let:=eM;ext
def Jj:fR O K cR (λx y H Q=>(rI tQ (λi j=>V.int (i*j)) x y H Q\/A6 x y H Q)\/CD x y H Q):=by
 intro G H v u x y z gh r1 r2 h Q k;unfold cR at h;split at h
 .split at h
  .cases h;cases r1.int_inv;cases r2.int_inv;show .inl (.inl #[_,_,W,W,by assumption,k _ G H (.refl gh) (.int _)])
  .cases h
 .split at h
  .rename_i hz;cases h;let⟨a,vs,rfl,ha,ra⟩:=r1.lst_inv;cases r2.int_inv;show .inl (.inr #[a,_,vs,W,W,gh _ _ ha,hz.1,hz.2.1,by rw[ra.length];show hz.2.2,kg gh (ra.rep _) k])
  .cases h
 .split at h
  .rename_i hz;cases h;cases r1.str_inv;cases r2.int_inv;show .inr #[_,_,W,W,hz.1,hz.2.1,hz.2.2,k _ G H (.refl gh) (.str _)]
  .cases h
 .cases h
def TU(ha:DE O X a fa)(M:DE O X b fb):DE O X (.BinOp a .Mult b pos) (b2 cR fa fb):=mV ((UC.or Rr).or Lg) Jj ha M
end
variable{ft gt:FT}{fr:FA}
section
variable{a c:Expr}
def X9.non_inv(r:X9 O K G v .non):v=.non:=by cases r;rfl
noncomputable def Ŧ(x y:aj):aJ:=decide (x.cps.toList<y.cps.toList)
def Zr:D->D->au D
 |.int i,.int j=>U (.bl (decide (i<j)))
 |.str x,.str y=>U (.bl (Ŧ x y))
 |_,_=>B
def Y0:D->D->au D
 |.int i,.int j=>U (.bl (decide (i<=j)))
 |.str x,.str y=>U (.bl (!Ŧ y x))
 |_,_=>B
noncomputable def ű:D->D->au D
 |.int i,.int j=>U (.bl (decide (j<i)))
 |_,_=>B
noncomputable def geD:D->D->au D
 |.int i,.int j=>U (.bl (decide (j<=i)))
 |_,_=>B
noncomputable def Β:D->D->au aJ
 |.int i,.int j=>U (decide (i=j))
 |.bl i,.bl j=>U (decide (i=j))
 |.str i,.str j=>U (decide (i=j))
 |.non,.non=>U ai
 |.non,.int _=>U ar|.int _,.non=>U ar|.non,.bl _=>U ar|.bl _,.non=>U ar|.non,.str _=>U ar|.str _,.non=>U ar
 |.int _,.str _=>U ar|.str _,.int _=>U ar|.bl _,.str _=>U ar|.str _,.bl _=>U ar
 |_,_=>B
def â(x y:D):au D:=(Β x y).map D.bl
def neD(x y:D):au D:=(Β x y).map λb=>D.bl (!b)
def Df{u:V}{x y:D}{k:aJ}(r1:X9 O K G v x)(r2:X9 O K G u y)(h:Β x y=U k):yD v u=ai/\decide (v=u)=k:=by
 unfold Β at h;split at h<;>cases h
 .cases r1.int_inv;cases r2.int_inv;show#[W,by simp]
 .cases r1.bl_inv;cases r2.bl_inv;show#[W,by simp]
 .cases r1.str_inv;cases r2.str_inv;show#[W,by simp]
 .cases r1.non_inv;cases r2.non_inv;show#[W,by simp]
 .cases r1.non_inv;cases r2.int_inv;show#[W,by simp]
 .cases r1.int_inv;cases r2.non_inv;show#[W,by simp]
 .cases r1.non_inv;cases r2.bl_inv;show#[W,by simp]
 .cases r1.bl_inv;cases r2.non_inv;show#[W,by simp]
 .cases r1.non_inv;cases r2.str_inv;show#[W,by simp]
 .cases r1.str_inv;cases r2.non_inv;show#[W,by simp]
 .cases r1.int_inv;cases r2.str_inv;show#[W,by simp]
 .cases r1.str_inv;cases r2.int_inv;show#[W,by simp]
 .cases r1.bl_inv;cases r2.str_inv;show#[W,by simp]
 .cases r1.str_inv;cases r2.bl_inv;show#[W,by simp]
def Ry:fR O K â rEq:=by
 intro G H v u x y z gh r1 r2 h Q k;unfold â at h;cases e:Β x y with
 |none=>rw[e] at h;cases h
 |some b=>
  rw[e] at h;cases h;let⟨h1,h2⟩:=Df r1 r2 e;show#[h1,by rw[h2];show k _ G H (.refl gh) (.bl _)]
def OV:fR O K neD rNe:=by
 intro G H v u x y z gh r1 r2 h Q k;unfold neD at h;cases e:Β x y with
 |none=>rw[e] at h;cases h
 |some b=>
  rw[e] at h;cases h;let⟨h1,h2⟩:=Df r1 r2 e;show#[h1,by rw[h2];show k _ G H (.refl gh) (.bl _)]
def EL{g:D->D->au D}{o:ah->ah->aJ}(hg:∀x y z,g x y=U z->∃i j,x=.int i/\y=.int j/\z=.bl (o i j)):fR O K g (ĸ λi j=>V.bl (o i j)):=by intro G H v u x y z gh r1 r2 h Q k;let⟨i,j,rfl,rfl,rfl⟩:=hg x y z h;cases r1.int_inv;cases r2.int_inv;show#[_,_,W,W,k _ G H (.refl gh) (.bl _)]
def PU:Yl X (dB .LtE) (λx y H Q=>∃i j,x=.str i/\y=.str j/\Q (.bl (!Ŧ j i)) H):=by intro Z' s L H x y v u Q I rx ry h;let⟨i,j,rfl,rfl,q⟩:=h;let⟨t,rfl⟩:=rx;let⟨t',rfl⟩:=ry;show PySem.P.le_str (cH I q (by simp[Ŧ]))
def ND:fR O K Zr (λx y H Q=>ĸ (λi j=>V.bl (decide (i<j))) x y H Q\/∃i j,x=.str i/\y=.str j/\Q (.bl (decide (i.cps.toList<j.cps.toList))) H):=by
 intro G H v u x y z gh r1 r2 h Q k;unfold Zr at h;split at h<;>cases h
 .cases r1.int_inv;cases r2.int_inv;show .inl #[_,_,W,W,k _ G H (.refl gh) (.bl _)]
 .cases r1.str_inv;cases r2.str_inv;show .inr #[_,_,W,W,k _ G H (.refl gh) (.bl _)]
def Mu:fR O K Y0 (λx y H Q=>ĸ (λi j=>V.bl (decide (i<=j))) x y H Q\/∃i j,x=.str i/\y=.str j/\Q (.bl (!Ŧ j i)) H):=by
 intro G H v u x y z gh r1 r2 h Q k;unfold Y0 at h;split at h<;>cases h
 .cases r1.int_inv;cases r2.int_inv;show .inl #[_,_,W,W,k _ G H (.refl gh) (.bl _)]
 .cases r1.str_inv;cases r2.str_inv;show .inr #[_,_,W,W,k _ G H (.refl gh) (.bl _)]
structure Yb(O:Cn)(X:Cx)(op:CmpOp)(g:D->D->au D):Prop where
 ex:∃r,Yl X (dB op) r/\fR O X.K g r
def FZ:Yb O X .Lt Zr:=#[_,Ki.or Nf,ND]
def nW:Yb O X .LtE Y0:=#[_,Qp.or PU,Mu]
def zk:Yb O X .Gt ű:=#[_,IT,EL λx y z h=>by unfold ű at h;split at h<;>cases h;show#[_,_,W,W,W]]
def Ci:Yb O X .GtE geD:=#[_,MM,EL λx y z h=>by unfold geD at h;split at h<;>cases h;show#[_,_,W,W,W]]
def tH:Yb O X .Eq â:=#[_,Nx,Ry]
def yP:Yb O X .NotEq neD:=#[_,Td,OV]
def ye{g:D->D->au D}(h:Yb O X op g)(ha:DE O X a fa)(M:DE O X b fb)(hm:rR op b=ar):DE O X (.Compare a [op] [b] pos) (b2 g fa fb):=⟨by let⟨r,ho,hr⟩:=h.ex;show(Ri ho ha.1 M.1 hm).imp (TD.two hr)⟩
noncomputable def ą(g g':D->D->au D)(fa fb fc:FE):FE:=λY=>(fa Y).bind λx=>(fb Y).bind λy=>(g x y).bind λz=>match z with
 |.bl ai=>(fc Y).bind λw=>g' y w
 |.bl ar=>U (.bl ar)
 |_=>B
def TD.chain{g g':D->D->au D}{r:R2}(hr:fR O X.K g r)(hr':fR O X.K g' r'):∀L H Q,TD O X.K (ą g g' fa fb fc) L H Q->zq r r' (TD O X.K fa) (TD O X.K fb) (TD O X.K fc) L H Q:=by
 rintro L H Q ⟨Z8,Z9,G,Y,d,A,h,k⟩;let⟨x,ha,h⟩:=YB h;let⟨y,M,h⟩:=YB h;let⟨z,hz,h⟩:=YB h;show#[Z8,Z9,G,Y,x,A,ha,λv G1 H1 s1 r1=>#[Z8,Z9,G1,Y,y,A.step s1,M,λu G2 H2 s2 r2=>?_]];show hr s2.gh (r1.mono s2.gg) r2 hz _ λw G3 H3 s3 r3=>?_;split at h
 .cases r3.bl_inv;let⟨w,hc,h⟩:=YB h;show#[ai,W,lw #[Z8,Z9,G3,Y,w,((A.step s1).step s2).step s3,hc,λq G4 H4 s4 r4=>?_]];show hr' s4.gh ((r2.mono s3.gg).mono s4.gg) r4 h Q λw' G' H' s r=>k w' G' H' ((((s1.trans s2).trans s3).trans s4).trans s) r
 .cases r3.bl_inv;cases h;show#[ar,W,kZ (k _ G3 H3 ((s1.trans s2).trans s3) (.bl _))]
 .cases h
def Q0{g g':D->D->au D}(h:Yb O X op g)(h':Yb O X ŕ g')(ha:DE O X a fa)(M:DE O X b fb)(hc:DE O X c fc)(hm:zz [op,ŕ] [b,c]=ar:=by with_unfolding_all rfl):
  DE O X (.Compare a [op,ŕ] [b,c] pos) (ą g g' fa fb fc):=⟨by
 let⟨r,ho,hr⟩:=h.ex;let⟨r',Ñ,hr'⟩:=h'.ex;show(Mp ho Ñ ha.1 M.1 hc.1 hm).imp (TD.chain hr hr')⟩
noncomputable def XX(f:FE):FT:=λY=>(f Y).bind λd=>match d with
 |.bl b=>U b
 |_=>B
def š.val:∀L H Q,š O X.K (XX f) L H Q->TD O X.K f L H λx H'=>∃k,x=.bl k/\Q k H':=by rintro L H Q ⟨Z8,Z9,G,Y,b,A,h,k⟩;let⟨d,hd,h⟩:=YB h;split at h<;>cases h;show#[Z8,Z9,G,Y,_,A,hd,λv G' H' s r=>#[b,r.bl_inv,k G' H' s]]
def lq{g:D->D->au D}(h:Yb O X op g)(ha:DE O X a fa)(M:DE O X b fb)(hm:rR op b=ar):DT O X (.Compare a [op] [b] pos) (XX (b2 g fa fb)):=⟨by let⟨r,ho,hr⟩:=h.ex;show(Kx ho ha.1 M.1 hm).imp λL H Q q=>TD.two hr L H _ (š.val L H Q q)⟩
def Ot{g g':D->D->au D}(h:Yb O X op g)(h':Yb O X ŕ g')(ha:DE O X a fa)(M:DE O X b fb)(hc:DE O X c fc)(hm:zz [op,ŕ] [b,c]=ar:=by with_unfolding_all rfl):
  DT O X (.Compare a [op,ŕ] [b,c] pos) (XX (ą g g' fa fb fc)):=⟨by
 let⟨r,ho,hr⟩:=h.ex;let⟨r',Ñ,hr'⟩:=h'.ex;show(R6 ho Ñ ha.1 M.1 hc.1 hm).imp λL H Q q=>TD.chain hr hr' L H _ (š.val L H Q q)⟩
def ip(h:DE O X e f)(he:∀Á,isTrue e X.env Á=(do let v ←Á;oQ e.pos;ki [v] (truthy v)):=by intro _;rfl):DT O X e (XX f):=⟨(OU h.1 he).imp š.val⟩
noncomputable def bA(f:FT):FT:=λY=>(f Y).map (!·)
noncomputable def gT(f g:FT):FT:=λY=>(f Y).bind λb=>if b=ai then g Y else U ar
noncomputable def Yh(f g:FT):FT:=λY=>(f Y).bind λb=>if b=ai then U ai else g Y
variable{bS:Z Expr}
def DW.dt(h:DW O X e ft):DT O X e ft:=⟨h.1.pt⟩
def iS(h:DT O X a ft):DT O X (.UnaryOp .Not a pos) (bA ft):=⟨(N4 h.1).imp λL H Q=>by rintro⟨Z8,Z9,G,Y,b,A,h,k⟩;let⟨c,hc,h⟩:=YE h;show#[Z8,Z9,G,Y,c,A,hc,λG' H' s=>by show Q (!c) H';rw[h];show k G' H' s]⟩
def xS(h:DT O X a ft):DW O X (.BoolOp .And [a] pos) ft:=⟨LD h.1⟩
def iZ(h:DT O X a ft):DW O X (.BoolOp .Or [a] pos) ft:=⟨J2 h.1⟩
def xE(h:DT O X a ft)(h':DW O X (.BoolOp .And (b::bS) pos) gt):DW O X (.BoolOp .And (a::b::bS) pos) (gT ft gt):=⟨(OS h.1 h'.1).imp λL H Q=>by
 rintro⟨Z8,Z9,G,Y,r,A,h,k⟩;let⟨c,hc,h⟩:=YB h;show#[Z8,Z9,G,Y,c,A,hc,λG1 H1 s1=>?_];cases c with
 |true=>show lw #[Z8,Z9,G1,Y,r,A.step s1,by simpa using h,λG' H' s=>k G' H' (s1.trans s)]
 |false=>
  rw[qZ qt] at h;cases h;show kZ (k _ _ s1)⟩
def im(h:DT O X a ft)(h':DW O X (.BoolOp .Or (b::bS) pos) gt):DW O X (.BoolOp .Or (a::b::bS) pos) (Yh ft gt):=⟨(OA h.1 h'.1).imp λL H Q=>by
 rintro⟨Z8,Z9,G,Y,r,A,h,k⟩;let⟨c,hc,h⟩:=YB h;show#[Z8,Z9,G,Y,c,A,hc,λG1 H1 s1=>?_];cases c with
 |false=>show kZ #[Z8,Z9,G1,Y,r,A.step s1,by simpa using h,λG' H' s=>k G' H' (s1.trans s)]
 |true=>
  rw[qY W] at h;cases h;show lw (k _ _ s1)⟩
noncomputable def cm(fa fb:FE):FE:=λY=>(fa Y).bind λd=>match d with
 |.bl ai=>fb Y
 |.bl ar=>U (.bl ar)
 |_=>B
noncomputable def orD(fa fb:FE):FE:=λY=>(fa Y).bind λd=>match d with
 |.bl ai=>U (.bl ai)
 |.bl ar=>fb Y
 |_=>B
noncomputable def wL(fa:FE):FE:=λY=>(fa Y).bind λd=>match d with
 |.bl b=>U (.bl (!b))
 |_=>B
def By{op}(h:DE O X a fa):DE O X (.BoolOp op [a] pos) fa:=⟨Jd h.1⟩
def tp(ha:DE O X a fa)(M:DE O X (.BoolOp .And (b::bS) pos) fb):DE O X (.BoolOp .And (a::b::bS) pos) (cm fa fb):=⟨(Oa ha.1 M.1).imp λL H Q=>by
 rintro⟨Z8,Z9,G,Y,d,A,h,k⟩;let⟨x,hx,h⟩:=YB h;show#[Z8,Z9,G,Y,x,A,hx,λv G1 H1 s1 r1=>?_];split at h
 .cases r1.bl_inv;show#[ai,W,lw #[Z8,Z9,G1,Y,d,A.step s1,h,λw G' H' s r=>k w G' H' (s1.trans s) r]]
 .cases r1.bl_inv;cases h;show#[ar,W,kZ (k _ G1 H1 s1 (.bl _))]
 .cases h⟩
def OY(ha:DE O X a fa)(M:DE O X (.BoolOp .Or (b::bS) pos) fb):DE O X (.BoolOp .Or (a::b::bS) pos) (orD fa fb):=⟨(Tz ha.1 M.1).imp λL H Q=>by
 rintro⟨Z8,Z9,G,Y,d,A,h,k⟩;let⟨x,hx,h⟩:=YB h;show#[Z8,Z9,G,Y,x,A,hx,λv G1 H1 s1 r1=>?_];split at h
 .cases r1.bl_inv;cases h;show#[ai,W,lw (k _ G1 H1 s1 (.bl _))]
 .cases r1.bl_inv;show#[ar,W,kZ #[Z8,Z9,G1,Y,d,A.step s1,h,λw G' H' s r=>k w G' H' (s1.trans s) r]]
 .cases h⟩
def Jm(ha:DE O X a fa):DE O X (.UnaryOp .Not a pos) (wL fa):=⟨(JB ha.1).imp λL H Q=>by
 rintro⟨Z8,Z9,G,Y,d,A,h,k⟩;let⟨x,hx,h⟩:=YB h;show#[Z8,Z9,G,Y,x,A,hx,λv G1 H1 s1 r1=>?_];split at h
 .cases r1.bl_inv;cases h;show#[_,W,k _ G1 H1 s1 (.bl _)]
 .cases h⟩
noncomputable def ĩ(ft:FT)(fa fb:FE):FE:=λY=>(ft Y).bind λc=>if c=ai then fa Y else fb Y
def vh(hc:DT O X c ft)(ha:DE O X a fa)(M:DE O X b fb):DE O X (.IfExp c a b pos) (ĩ ft fa fb):=⟨(Q9 hc.1 ha.1 M.1).imp λL H Q=>by
 rintro⟨Z8,Z9,G,Y,d,A,h,k⟩;let⟨x,hx,h⟩:=YB h;show#[Z8,Z9,G,Y,x,A,hx,λG1 H1 s1=>?_];cases x with
 |true=>show lw #[Z8,Z9,G1,Y,d,A.step s1,by simpa using h,λw G' H' s r=>k w G' H' (s1.trans s) r]
 |false=>show kZ #[Z8,Z9,G1,Y,d,A.step s1,by simpa using h,λw G' H' s r=>k w G' H' (s1.trans s) r]⟩
noncomputable def aq:FA:=λ_=>U []
noncomputable def J(fa:FE)(fr:FA):FA:=λY=>(fa Y).bind λx=>(fr Y).map (x::·)
def cv:DA O X [] aq:=⟨gW.imp λL H Q=>by rintro⟨Z8,Z9,G,Y,d,A,h,k⟩;cases h;show k _ G H (.refl A.gh) .nil⟩
def ck(ha:DE O X e fa)(hr:DA O X es fr)(hs:aM (e::es) X.env=(ar,eval e X.env)::aM es X.env:=by rfl):DA O X (e::es) (J fa fr):=⟨(gP ha.1 hr.1 hs).imp λL H Q=>by rintro⟨Z8,Z9,G,Y,d,A,h,k⟩;let⟨x,hx,h⟩:=YB h;let⟨xs,hxs,h⟩:=YE h;subst h;show#[Z8,Z9,G,Y,x,A,hx,λv G1 H1 s1 r1=>#[Z8,Z9,G1,Y,xs,A.step s1,hxs,λvs G2 H2 s2 r2=>k _ G2 H2 (s1.trans s2) (.cons (r1.mono s2.gg) r2)]]⟩
noncomputable def X5(fr:FA):FA:=λY=>(fr Y).bind λl=>if l.length<=aK then U l else B
noncomputable def aR(fr:FA):FE:=λY=>(fr Y).map D.lst
noncomputable def ba(fr:FA):FE:=λY=>(fr Y).map D.tup
def DO.de(h:DO O X e fr):DE O X e (aR fr):=⟨h.1.imp λL H Q=>by rintro⟨Z8,Z9,G,Y,d,A,h,k⟩;let⟨ds,hd,rfl⟩:=YE h;show#[Z8,Z9,G,Y,ds,A,hd,λp vs G' H' s hp r=>kg s.gh r (λw G2 H2 s2 r2=>k w G2 H2 (s.trans s2) r2) p hp]⟩
def wT(h:DA O X es fr):DO O X (.List es pos) (X5 fr):=⟨(NU h.1).imp λL H Q=>by
 rintro⟨Z8,Z9,G,Y,d,A,h,k⟩;let⟨ds,hd,h⟩:=YB h;split at h
 .rename_i hz;cases h;show#[Z8,Z9,G,Y,d,A,hd,λvs G' H' s r=>#[by rw[r.length];show hz,λp hp=>k p vs G' H' s hp r]]
 .cases h⟩
def yU{x1}(h:DA O X es fr):DE O X (.Tuple es x1 pos) (ba (X5 fr)):=⟨(Nu h.1).imp λL H Q=>by
 rintro⟨Z8,Z9,G,Y,d,A,h,k⟩;let⟨ds',Ö,rfl⟩:=YE h;let⟨ds,hd,h⟩:=YB Ö;split at h
 .rename_i hz;cases h;show#[Z8,Z9,G,Y,ds',A,hd,λvs G' H' s r=>#[by rw[r.length];show hz,tN s.gh r λw G2 H2 s2 r2=>k w G2 H2 (s.trans s2) r2]]
 .cases h⟩
def wV(O:Cn)(K:aS)(g:Z D->au D)(r:Z V->Hp->VK->Prop):Prop:=
 ∀{G H vs ds z},aY G H->XO O K G vs ds->g ds=U z->∀Q:VK,(∀w G' H',Step G H G' H'->X9 O K G' w z->Q w H')->r vs H Q
noncomputable def cF(g:Z D->au D)(fr:FA):FE:=λY=>(fr Y).bind g
def TD.call{g:Z D->au D}{r:Z V->Hp->VK->Prop}(hr:wV O X.K g r):∀L H Q,TD O X.K (cF g fr) L H Q->tCB r (TDa O X.K fr) L H Q:=by rintro L H Q ⟨Z8,Z9,G,Y,d,A,h,k⟩;let⟨ds,hd,h⟩:=YB h;show#[Z8,Z9,G,Y,ds,A,hd,λvs G1 H1 s1 r1=>hr s1.gh r1 h Q λw G' H' s r=>k w G' H' (s1.trans s) r]
structure ß(O:Cn)(X:Cx)(id:cD)(g:Z D->au D):Prop where
 ex:∃r,dZ X (.builtin id) r/\wV O X.K g r
structure TyD(O:Cn)(X:Cx)(id:cD)(g:Z D->au D):Prop where
 ex:∃r,dZ X (.type id) r/\wV O X.K g r
def c9{id:cD}{g:Z D->au D}(hc:ß O X id g)(hg:Gl X x)(hm:X.mg x=B)(hv:dz x=U (.builtin id))(ha:DA O X (e::es) fr)(hn:x≠"__name__":=by decide)(Ô:(x==("__debug__":aj))=ar:=by decide)
  (he:aM (e::es) X.env=(ar,eval e X.env)::aM es X.env:=by rfl)(YR:(bW pos (aM es X.env)).any (·.1)=ar:=by rfl):DE O X (.Call (.Name x p) (e::es) [] pos) (cF g fr):=⟨by
 let⟨r,h1,h2⟩:=hc.ex;show(vn h1 hg hm hv ha.1 hn Ô he YR).imp (TD.call h2)⟩
def iM{id:cD}{g:Z D->au D}(hc:TyD O X id g)(hg:Gl X x)(hm:X.mg x=B)(hv:dz x=U (.type id))(ha:DA O X (e::es) fr)(hn:x≠"__name__":=by decide)(Ô:(x==("__debug__":aj))=ar:=by decide)
  (he:aM (e::es) X.env=(ar,eval e X.env)::aM es X.env:=by rfl)(YR:(bW pos (aM es X.env)).any (·.1)=ar:=by rfl):DE O X (.Call (.Name x p) (e::es) [] pos) (cF g fr):=⟨by
 let⟨r,h1,h2⟩:=hc.ex;show(tw h1 hg hm hv ha.1 hn Ô he YR).imp (TD.call h2)⟩
def mS{n:cD}(hg:Gl X x)(hm:X.mg x=B)(hv:dz x=U (.type n))(hn:x≠"__name__":=by decide)(hd:(x==("__debug__":aj))=ar:=by decide):DE O X (.Name x pos) (vC (.ty n)):=TD.const (λ_=>.ty n) (R3 hg hm hv W hn hd)
def XO.one(r:XO O K G vs [d]):∃v,vs=[v]/\X9 O K G v d:=by
 cases r with
 |cons h t=>cases t;show#[_,W,h]
def XO.two{d':D}(r:XO O K G vs [d,d']):∃v u,vs=[v,u]/\X9 O K G v d/\X9 O K G u d':=by
 cases r with
 |cons h t=>cases t with
  |cons h2 t2=>cases t2;show#[_,_,W,h,h2]
noncomputable def ij:Z D->au D
 |[.int i,.int j]=>U (.int (if j > i then j else i))
 |_=>B
def LI(hc:X.calm=ai):ß O X "max" ij:=#[_,Mb hc,λ{G H vs ds z}gh r h Q k=>by unfold ij at h;split at h<;>cases h;let⟨v,u,rfl,r1,r2⟩:=r.two;cases r1.int_inv;cases r2.int_inv;show#[_,_,W,k _ G H (.refl gh) (.int _)]]
noncomputable def j8:Z D->au D
 |[.int i,.int j]=>U (.int (if j<i then j else i))
 |_=>B
def Tr(hc:X.calm=ai):ß O X "min" j8:=#[_,PP hc,λ{G H vs ds z}gh r h Q k=>by unfold j8 at h;split at h<;>cases h;let⟨v,u,rfl,r1,r2⟩:=r.two;cases r1.int_inv;cases r2.int_inv;show#[_,_,W,k _ G H (.refl gh) (.int _)]]
noncomputable def cb:Z D->au D
 |[.str x]=>if x.length<=aK then U (.int (x.length:ag)) else B
 |[.lst l]=>U (.int (l.length:ag))
 |[.tup l]=>U (.int (l.length:ag))
 |[.scr l]=>U (.int (l.length:ag))
 |_=>B
def HM:ß O X "len" cb:=#[_,LA,λ{G H vs ds z}gh r h Q k=>by
 unfold cb at h;split at h
 .split at h
  .cases h;let⟨v,rfl,r1⟩:=r.one;cases r1.str_inv;show#[_,_,W,#[by assumption,W],k _ G H (.refl gh) (.int _)]
  .cases h
 .cases h;let⟨v,rfl,r1⟩:=r.one;let⟨a,vs,rfl,ha,rv⟩:=r1.lst_inv;show#[_,_,W,.inl #[vs,.inl (.inl (gh _ _ ha)),W],k _ G H (.refl gh) (by rw[rv.length];show .int _)]
 .cases h;let⟨v,rfl,r1⟩:=r.one;let⟨a,vs,rfl,ha,rv⟩:=r1.tup_inv;show#[_,_,W,.inr #[vs,.inl (.inl (gh _ _ ha)),W],k _ G H (.refl gh) (by rw[rv.length];show .int _)]
 .cases h;let⟨v,rfl,r1⟩:=r.one;let⟨a,rfl,ha⟩:=r1.scr_inv;show#[_,_,W,.inl #[_,gh.seq ha,W],k _ G H (.refl gh) (by rw[qf];show .int _)]
 .cases h]
noncomputable def ĵ:D->au cD
 |.non=>U "NoneType"
 |.bl _=>U "bool"
 |.int _=>U "int"
 |.str _=>U "str"
 |.lst _=>U "list"
 |.tup _=>U "tuple"
 |.dk _=>U "dict"
 |.dt _=>U "dict"
 |_=>B
noncomputable def fT(t c:cD):au aJ:=if (rL t==rL c)=ai then U ai else if PySem.W.kitMeta c=ai then ny (λx=>x.contains (rL c)) (PySem.fastBuiltinMro t) else B
def dQ:Z D->au D
 |[d,.ty c]=>(ĵ d).bind λt=>(fT t c).map D.bl
 |_=>B
def LY{t:cD}(gh:aY G H)(r:X9 O K G v d)(h:ĵ d=U t):Zs K H v (.type t):=by
 unfold ĵ at h;split at h<;>cases h
 .cases r.non_inv;show .non
 .cases r.bl_inv;show .bl _
 .cases r.int_inv;show .int _
 .cases r.str_inv;show .str _
 .obtain⟨a,vs,rfl,ha,_⟩:=r.lst_inv;show .lst (gh _ _ ha)
 .obtain⟨a,vs,rfl,ha,_⟩:=r.tup_inv;show .tup (gh _ _ ha)
 .cases r with
  |dk h _ _=>show .dK (gh _ _ h)
 .cases r with
  |dt h _ _=>show .dT (gh _ _ h)
def Jv:ß O X "isinstance" dQ:=by
 show#[λvs H Q=>∃v t c b,vs=[v,.ty c]/\Zs X.K H v (.type t)/\U0 X.K (.type t) (.type c)=U b/\Q (.bl b) H,?_,?_]
 .intro Z' s L H xs E Q I r h;let⟨v,t,c,b,rfl,ty,hk,q⟩:=h;let⟨u,w',rfl,r1,r2⟩:=xL r;cases r2;show P' I r1 ty hk λtk=>#[.bl b,H,I.tok tk,W,q]
 .intro G H vs ds z gh r h Q k;unfold dQ at h;split at h
  .obtain⟨t,ht,h⟩:=YB h;let⟨b,M,rfl⟩:=YE h;let⟨v,u,rfl,r1,r2⟩:=r.two;cases r2;show#[v,t,_,b,W,LY gh r1 ht,M,k _ G H (.refl gh) (.bl _)]
  .cases h
end
variable{β:Type}{fh:bG->au (au ah)}{fo:FE}
section
variable{a c:Expr}
def XO.atI{K:aS}{G:Hp}{vs:Z V}{ds:Z D}{i:ah}{d:D}(r:XO O K G vs ds)(h:L2.atI ds i=U d):∃v,L2.atI vs i=U v/\X9 O K G v d:=by
 unfold L2.atI at h ⊢;rw[r.length];cases e:ż ds.length i with
 |none=>rw[e] at h;cases h
 |some j=>
  rw[e] at h;let⟨v,h1,h2⟩:=r.get h;show#[v,h1,h2]
def RY(g:α->β)(xs:Z α)(i:ah):L2.atI (xs.map g) i=(L2.atI xs i).map g:=by
 unfold L2.atI;rw[qf];cases ż xs.length i with
 |none=>rfl
 |some j=>simp
def XV:D->D->au D
 |.lst l,.int i=>atI l i
 |.tup l,.int i=>atI l i
 |.scr l,.int i=>(atI l i).map D.int
 |.str x,.int i=>if x.length<=aK then (atI x.cps.toList i).map λc=>D.str ⟨#[c]⟩ else B
 |_,_=>B
def Su:fR O K XV (rIx K):=by
 intro G H v u x y z gh r1 r2 h Q k;unfold XV at h;split at h
 .obtain⟨a,vs,rfl,ha,rv⟩:=r1.lst_inv;cases r2.int_inv;let⟨w,hw,Zk⟩:=rv.atI h;show .inl #[a,vs,_,w,W,W,.inl (.inl (gh _ _ ha)),hw,k w G H (.refl gh) Zk]
 .obtain⟨a,vs,rfl,ha,rv⟩:=r1.tup_inv;cases r2.int_inv;let⟨w,hw,Zk⟩:=rv.atI h;show .inr (.inl #[a,vs,_,w,W,W,.inl (.inl (gh _ _ ha)),hw,k w G H (.refl gh) Zk])
 .obtain⟨a,rfl,ha⟩:=r1.scr_inv;cases r2.int_inv;let⟨n,hn,rfl⟩:=YE h;show .inl #[a,_,_,.int n,W,W,gh.seq ha,by rw[RY,hn];rfl,k _ G H (.refl gh) (.int _)]
 .split at h
  .cases r1.str_inv;cases r2.int_inv;let⟨n,hn,rfl⟩:=YE h;show .inr (.inr #[_,_,n,W,W,by assumption,hn,k _ G H (.refl gh) (.str _)])
  .cases h
 .cases h
def wH(ha:DE O X a fa)(M:DE O X b fb)(hs:Be b:=by intro _ _;rfl):DE O X (.Subscript a b pos) (b2 XV fa fb):=⟨(Ja J9 ha.1 M.1 hs).imp (TD.two Su)⟩
def dw(xs:Z α)(lo hi:au ah):Z α:=(xs.drop (HT.sIx xs.length 0 lo)).take (HT.sIx xs.length xs.length hi-HT.sIx xs.length 0 lo)
def IZ(g:α->β)(xs:Z α)(lo hi:au ah):dw (xs.map g) lo hi=(dw xs lo hi).map g:=by unfold dw;simp
def XO.cut(r:XO O K G vs ds)(lo hi:au ah):XO O K G (nM vs lo hi) (dw ds lo hi):=by unfold nM dw;rw[r.length];show(r.drop _).take _
def mU(x:aj)(lo hi:au ah):aj:=⟨(dw x.cps.toList lo hi).toArray⟩
def B2(lo hi:au ah)(n:ag):GY lo hi 1 n=(cw (HT.sIx n n hi-HT.sIx n 0 lo)).map (HT.sIx n 0 lo+·):=by
 rw[<-Ve];let h1:∀(o:au ah)(d:ag),d<=n->(match o with|none=>(d:ah)|some i=>if (1:ah) > 0 then max 0 (min (if i<0 then i+(n:ah) else i) n) else max (-1) (min (if i<0 then i+(n:ah) else i) ((n:ah)-1)))=((HT.sIx n d o:ag):ah):=λo d hd=>by
  cases o with
  |none=>simp[HT.sIx]
  |some i=>
   simp only[HT.sIx,show(1:ah) > 0 by decide,cx];by_cases h:i<0
   .simp only[h,cx];ext
   .simp only[h,cE];ext
 let e0:=h1 lo 0 (gM _);let e1:=h1 hi n (qw _);rw[<-e0,<-e1];rfl
def B'(x:aj)(lo hi:au ah):GZ x lo hi=mU x lo hi:=by
 let key:(GY lo hi 1 x.length).filterMap (x.cps[·]?)=dw x.cps.toList lo hi:=by rw[B2,zG];unfold dw;rw[show x.cps.toList.length=x.length by simp[sd]]
 unfold GZ mU;split
 .rename_i h;rw[<-key];let hl:(GY lo hi 1 x.length).length=x.length:=by simpa using h
  rw[B2] at hl ⊢;rw[zG];rw[qf,qW] at hl;let M:HT.sIx x.length x.length hi<=x.length:=by
   cases hi with
   |none=>simp[HT.sIx]
   |some i=>simp only[HT.sIx];split<;>ext
  let h0:HT.sIx x.length 0 lo=0\/x.length=0:=by ext
  let hx:x.cps.toList.length=x.length:=by simp[sd]
  let e:(x.cps.toList.drop (HT.sIx x.length 0 lo)).take (HT.sIx x.length x.length hi-HT.sIx x.length 0 lo)=x.cps.toList:=by
   rcases h0 with h0|h0
   .rw[h0,sq];rw[h0] at hl;show lO .(b)
   .let:x.cps.toList=[]:=vQ.mp .(b);rw[this];simp
  rw[e]
 .rw[key]
noncomputable def pN:bG->au (au ah):=λ_=>U B
noncomputable def pS(f:FE):bG->au (au ah):=λY=>(f Y).bind λd=>match d with
 |.int i=>U (U i)
 |_=>B
inductive TDp(O:Cn)(K:aS)(f:bG->au (au ah))(L:St)(H:Hp)(Q:au ah->Hp->Prop):Prop where
 |mk:∀Z8 Z9 G Y o,At O K Z8 Z9 G H Y L->f Y=U o->(∀G' H',Step G H G' H'->Q o H')->TDp O K f L H Q
structure DP(O:Cn)(X:Cx)(e:au Expr)(f:bG->au (au ah)):Prop where
 out:PO X e (TDp O X.K f)
def Eg:DP O X B pN:=⟨λZ' s L H Q I #[Z8,Z9,G,Y,o,A,h,k]=>by cases h;show Kq Z' s L H Q I (k G H (.refl A.gh))⟩
def Dc(h:DE O X e f):DP O X (U e) (pS f):=⟨λZ' s L H Q I #[Z8,Z9,G,Y,o,A,q,k]=>by let⟨d,hd,q⟩:=YB q;split at q<;>cases q;show IB h.1 Z' s L H Q I #[Z8,Z9,G,Y,_,A,hd,λv G' H' s r=>#[_,r.int_inv,k G' H' s]]⟩
def Mx:SlR X (λx lo hi H Q=>∃z,x=.str z/\z.length<=aK/\Q (.str (mU z lo hi)) H):=by
 intro Z' s L H x v vl vu lo hi sl Q I rx hs pl pu h;let⟨z,rfl,hz,q⟩:=h;let⟨t,rfl⟩:=rx;show#["str",_,PySem.F.slot_str_getitem.lookup,vK _ _ _,?_];obtain⟨l,rfl,el⟩:∃l:au (ah×Tok),vl=partValue l/\l.map (·.1)=lo:=by
  cases pl with
  |none=>show#[B,W,W]
  |int i t=>show#[U (i,t),W,W]
 obtain⟨u,rfl,eu⟩:∃l:au (ah×Tok),vu=partValue l/\l.map (·.1)=hi:=by
  cases pu with
  |none=>show#[B,W,W]
  |int i t=>show#[U (i,t),W,W]
 show wpAny_getItem_str_slice (st:=B) hs W ?_;let e:(if ((ny (λx=>x.fst) (B:au (ah×Tok))).getD 1==1 && (slicePicked z l u B).length==z.length)=ai then z else {cps:=(List.filterMap (λx=>z.cps[x]?) (slicePicked z l u B)).toArray})=mU z lo hi:=by
  let e0:GZ z (l.map (·.1)) (u.map (·.1))=mU z lo hi:=by rw[el,eu];show B' z lo hi
  show e0
 show post_val_or_str #[?_,λt' k=>?_]
 .rw[e,<-B'];show qO (Txt.slice_le z _ _) hz
 .rw[e];show#[.str _,H,I.tok k,#[_,W],q]
def li(lo hi:au ah):D->au D
 |.lst l=>U (.lst (dw l lo hi))
 |.scr l=>U (.lst ((dw l lo hi).map D.int))
 |.tup l=>if HT.sIx l.length 0 lo=0/\HT.sIx l.length l.length hi=l.length then B else U (.tup (dw l lo hi))
 |.str x=>if x.length<=aK then U (.str (mU x lo hi)) else B
 |_=>B
def Zg(f:FE)(fl fh:bG->au (au ah)):FE:=λY=>(f Y).bind λd=>(fl Y).bind λl=>(fh Y).bind λh=>li l h d
variable{fl:bG->au (au ah)}{lo hi:au Expr}
def QZ(he:DE O X e f)(hl:DP O X lo fl)(hh:DP O X hi fh):DE O X (.Subscript e (.Slice lo hi B p2) pos) (Zg f fl fh):=⟨(IE (QJ.or (JH.or Mx)) he.1 hl.1 hh.1).imp λL H Q=>by
 rintro⟨Z8,Z9,G,Y,d,A,h,k⟩;let⟨x,hx,h⟩:=YB h;let⟨l,hl,h⟩:=YB h;let⟨u,hu,h⟩:=YB h;show#[Z8,Z9,G,Y,x,A,hx,λv G1 H1 s1 r1=>#[Z8,Z9,G1,Y,l,A.step s1,hl,λG2 H2 s2=>#[Z8,Z9,G2,Y,u,(A.step s1).step s2,hu,λG3 H3 s3=>?_]]];let s:=(s1.trans s2).trans s3;let r:=r1.mono (s2.gg.trans s3.gg);let gh:=s3.gh;unfold li at h;split at h
 .cases h;let⟨a,vs,rfl,ha,rv⟩:=r.lst_inv;show .inl #[a,vs,W,.inl (.inl (gh _ _ ha)),kg gh (rv.cut l u) λw G4 H4 s4 r4=>k w G4 H4 (s.trans s4) r4]
 .cases h;let⟨a,rfl,ha⟩:=r.scr_inv;show .inl #[a,_,W,gh.seq ha,kg gh ?_ λw G4 H4 s4 r4=>k w G4 H4 (s.trans s4) r4];show XO O X.K G3 (dw _ l u) _;rw[IZ];show XO.ints _
 .split at h
  .cases h
  .rename_i hw;cases h;let⟨a,vs,rfl,ha,rv⟩:=r.tup_inv;show .inr (.inl #[a,vs,W,.inl (.inl (gh _ _ ha)),by rw[rv.length];show hw,tN gh (rv.cut l u) λw G4 H4 s4 r4=>k w G4 H4 (s.trans s4) r4])
 .split at h
  .cases h;cases r.str_inv;show .inr (.inr #[_,W,by assumption,k _ _ _ s (.str _)])
  .cases h
 .cases h⟩
structure MtD(O:Cn)(X:Cx)(T id:cD)(g:D->Z D->au D):Prop where
 ex:∃r,MtR X id r/\∀{G H v x vs ds z},aY G H->X9 O X.K G v x->XO O X.K G vs ds->g x ds=U z->∀Q:VK,(∀w G' H',Step G H G' H'->X9 O X.K G' w z->Q w H')->r v vs H Q
 ty:∀{G H v x ds z},aY G H->X9 O X.K G v x->g x ds=U z->tyV X.K T v H
noncomputable def mF(g:D->Z D->au D)(f:FE)(fr:FA):FE:=λY=>(f Y).bind λd=>(fr Y).bind λds=>g d ds
def Nb{T id:cD}{g:D->Z D->au D}(pa:PlainAttrs T)(slot:vR T name id)(hty:typeOf (.builtin id)=bc (.type "method_descriptor"))(hm:MtD O X T id g)(ho:DE O X o fo)(ha:DA O X (e::es) fr)
  (Ys:gN o name X.env (eval o X.env)=eval o X.env:=by rfl)
  (ī:((bW YG (aM (e::es) X.env)).all (λx=>!x.1) && (jH YG (jI [] X.env)).all (λx=>x.1.isSome)
   && decide ((e::es).length+([]:Z iy).length+(if ([]:Z iy).isEmpty then 0 else 1)<30))=ai:=by rfl)
  (Yr:(YN.endLine==YG.line)=ai:=by rfl)(hs:aM (e::es) X.env=(ar,eval e X.env)::aM es X.env:=by rfl)(Za:(bW YG (aM es X.env)).any (·.1)=ar:=by rfl):
  DE O X (.Call (.Attribute o name YN) (e::es) [] YG) (mF g fo fr):=⟨by
 let⟨r,h1,h2⟩:=hm.ex;show(wA pa slot hty h1 ho.1 ha.1 Ys ī Yr hs Za).imp λL H Q=>?_;rintro⟨Z8,Z9,G,Y,d,A,h,k⟩;let⟨x,hx,h⟩:=YB h;let⟨ds,hd,h⟩:=YB h;show#[Z8,Z9,G,Y,x,A,hx,λv G1 H1 s1 r1=>#[hm.ty s1.gh r1 h,Z8,Z9,G1,Y,ds,A.step s1,hd,λvs G2 H2 s2 r2=>h2 s2.gh (r1.mono s2.gg) r2 h Q λw G3 H3 s3 r3=>k w G3 H3 ((s1.trans s2).trans s3) r3]]⟩
noncomputable def jy:Z D->au (Z aj)
 |[]=>U []
 |.str x::r=>(jy r).map (x::·)
 |_::_=>B
def pp:D->Z D->au D
 |.str sep,[.lst l]=>(jy l).bind λys=>if (ys.map (·.length)).sum+ys.length*sep.length<=16777216 then U (.str (G0 sep ys)) else B
 |_,_=>B
def yN{K:aS}{G:Hp}:∀{vs:Z V}{ds:Z D}{ys:Z aj},XO O K G vs ds->jy ds=U ys->vs=ys.map V.str
 |_,[],ys,r,h=>by cases r;cases h;rfl
 |_,d::ds,ys,.cons h1 h2,h=>by
  cases d with
  |str x=>
   let⟨zs,hz,rfl⟩:=YE (h);rw[h1.str_inv,yN h2 hz];rfl
  |_=>cases h
def D5:∀{ys:Z aj}{E:Z aw},bi (ys.map V.str) E->vS E ys:=by
 intro X7
 induction X7 with
 |nil=>
  intro _ r;rw[qQ] at r;cases r;show .nil
 |cons y ys ih=>
  intro _ r;rw[qo] at r;cases r with
  |cons r1 r2=>
   let⟨t,e⟩:=r1;subst e;show .cons y t (ih r2)
def P8:MtD O X "str" "str.join" pp:=by
 show#[#[λv vs H Q=>∃sep a ys,v=.str sep/\vs=[.ref a]/\H a=U (.lst (ys.map V.str))/\(ys.map (·.length)).sum+ys.length*sep.length<=16777216/\Q (.str (G0 sep ys)) H,?_,?_],?_]
 .intro Z' s L H x xs v E Q I rx rs h;let⟨sep,a,ys,rfl,rfl,ha,hz,q⟩:=h;let⟨t,rfl⟩:=rx;let⟨u,rfl,ru⟩:=dY rs;cases ru;let⟨XY,rv,pl,_⟩:=I.list (.inl (.inl ha));show join_list pl.isList (D5 rv) hz λt' k=>#[.str _,H,I.tok k,#[_,W],q]
 .intro G H v x vs ds z gh r1 r2 h Q k;unfold pp at h;split at h
  .obtain⟨ys,hy,h⟩:=YB h;split at h
   .cases h;cases r1.str_inv;let⟨v,rfl,r3⟩:=r2.one;let⟨a,ws,rfl,ha,Zk⟩:=r3.lst_inv;show#[_,a,ys,W,W,?_,by assumption,k _ G H (.refl gh) (.str _)];rw[<-yN Zk hy];show gh _ _ ha
   .cases h
  .cases h
 .intro G H v x ds z gh r h;unfold pp at h;split at h
  .cases r.str_inv;show W
  .cases h
noncomputable def je:Z D->au (Z aJ)
 |[]=>U []
 |.bl x::r=>(je r).map (x::·)
 |_::_=>B
def yx{K:aS}{G:Hp}:∀{vs:Z V}{ds:Z D}{ys:Z aJ},XO O K G vs ds->je ds=U ys->vs=ys.map V.bl
 |_,[],ys,r,h=>by cases r;cases h;rfl
 |_,d::ds,ys,.cons h1 h2,h=>by
  cases d with
  |bl x=>
   let⟨zs,hz,rfl⟩:=YE (h);rw[h1.bl_inv,yx h2 hz];rfl
  |_=>cases h
def er:Z D->au D
 |[.lst l]=>(je l).map λbs=>D.bl (bs.all id)
 |_=>B
def zf:Z D->au D
 |[.lst l]=>(je l).map λbs=>D.bl (bs.any id)
 |_=>B
def EO:∀{bs:Z aJ}{E:Z aw},bi (bs.map V.bl) E->E=bs.map lG:=by
 intro X7
 induction X7 with
 |nil=>
  intro _ r;rw[qQ] at r;cases r;rfl
 |cons y ys ih=>
  intro _ r;rw[qo] at r;cases r with
  |cons r1 r2=>cases r1;rw[ih r2];rfl
def My(bs:Z aJ):(cw bs.length).all (λi=>bs.getD i ar)=bs.all id:=by
 rw[m9,iu,iu];constructor
 .intro h x hx;let⟨i,hi,e⟩:=vT.mp hx;let:=h i (eV.mpr hi);simp[sr,hi] at this;rw[<-e];show this
 .intro h i hi;let è:=eV.mp hi;let:=h (bs[i]) (lP è);simp[sr,è];show this
def Iw(bs:Z aJ):(cw bs.length).any (λi=>bs.getD i ar)=bs.any id:=by
 rw[m9,o6,o6];constructor
 .rintro⟨i,hi,h⟩;let è:=eV.mp hi;show#[bs[i],lP è,?_];simpa[sr,è] using h
 .rintro⟨x,hx,h⟩;let⟨i,hi,e⟩:=vT.mp hx;show#[i,eV.mpr hi,?_];simp[sr,hi,e];show h
def CJ{bs:Z aJ}:TruthOf prog w A (λi v=>(bs.map lG).toArray[i]?=U v) (λi=>bs.getD i ar):=λi v s Q us hP hQ=>by
 let hP':(bs.map lG)[i]?=U v:=by simpa using hP
 rw[ql] at hP';let⟨b,M,rfl⟩:=YE hP';let:bs.getD i ar=b:=by simp[sr,M]
 let hQ':Q (bs.getD i ar) s:=hQ;rw[this] at hQ';show jB hQ'
def ge(hc:X.calm=ai):ß O X "all" er:=by
 show#[λvs H Q=>∃(a:av)(bs:Z aJ),vs=[.ref a]/\H a=U (.lst (bs.map V.bl))/\Q (.bl (bs.all id)) H,?_,?_]
 .intro Z' s L H xs E Q I r h;let⟨a,bs,rfl,ha,q⟩:=h;let⟨u,rfl,ru⟩:=dY r;cases ru;let⟨XY,rv,pl,_⟩:=I.list (.inl (.inl ha));let e:=EO rv;subst e;show call_all_walk (nz pl.isList ?_);let ne:a≠s.heap.objs.size:=by let⟨o,_,h1,_⟩:=pl;show qD (qv h1)
  show#[s.heap.objs.size,_,_,_,_,_,λi=>bs.getD i ar,W,o7 (show X.A.in1.handled=B from I.ok.hd hc) s.heap.objs.size a ne (bs.map lG).toArray,#[#[_,qH _ W,W,W],pl.isList.at λo q=>qu _ q],CJ,λh' tk hk=>?_];let e2:(bs.map lG).toArray.size=bs.length:=by simp
  rw[e2,My];show#[.bl _,H,I.kept λb o z=>hk b o ?_ (qu _ z),W,q];intro z';let:b=s.heap.objs.size:=by simpa using z'
  show bj (qv z) (by rw[this];show fN _)
 .intro G H vs ds z gh r h Q k;unfold er at h;split at h
  .obtain⟨bs,M,rfl⟩:=YE h;let⟨v,rfl,r1⟩:=r.one;let⟨a,ws,rfl,ha,Zk⟩:=r1.lst_inv;show#[a,bs,W,?_,k _ G H (.refl gh) (.bl _)];rw[<-yx Zk M];show gh _ _ ha
  .cases h
def TL(hc:X.calm=ai):ß O X "any" zf:=by
 show#[λvs H Q=>∃(a:av)(bs:Z aJ),vs=[.ref a]/\H a=U (.lst (bs.map V.bl))/\Q (.bl (bs.any id)) H,?_,?_]
 .intro Z' s L H xs E Q I r h;let⟨a,bs,rfl,ha,q⟩:=h;let⟨u,rfl,ru⟩:=dY r;cases ru;let⟨XY,rv,pl,_⟩:=I.list (.inl (.inl ha));let e:=EO rv;subst e;show call_any_walk (nz pl.isList ?_);let ne:a≠s.heap.objs.size:=by let⟨o,_,h1,_⟩:=pl;show qD (qv h1)
  show#[s.heap.objs.size,_,_,_,_,_,λi=>bs.getD i ar,W,o7 (show X.A.in1.handled=B from I.ok.hd hc) s.heap.objs.size a ne (bs.map lG).toArray,#[#[_,qH _ W,W,W],pl.isList.at λo q=>qu _ q],CJ,λh' tk hk=>?_];let e2:(bs.map lG).toArray.size=bs.length:=by simp
  rw[e2,Iw];show#[.bl _,H,I.kept λb o z=>hk b o ?_ (qu _ z),W,q];intro z';let:b=s.heap.objs.size:=by simpa using z'
  show bj (qv z) (by rw[this];show fN _)
 .intro G H vs ds z gh r h Q k;unfold zf at h;split at h
  .obtain⟨bs,M,rfl⟩:=YE h;let⟨v,rfl,r1⟩:=r.one;let⟨a,ws,rfl,ha,Zk⟩:=r1.lst_inv;show#[a,bs,W,?_,k _ G H (.refl gh) (.bl _)];rw[<-yx Zk M];show gh _ _ ha
  .cases h
end
structure Yd(O:Cn)(K:aS)(ao:It)(G:Hp)(ds:Z D):Prop where
 go:∀(i:ag)d G2 H2,ds[i]?=U d->aY G G2->aY G2 H2->ao.go i H2/\∀x H3,ao.yld i H2 x H3->∃G3,Step G2 H2 G3 H3/\X9 O K G3 x d
 stop:∀G2 H2,aY G G2->aY G2 H2->ao.stop ds.length H2
inductive TDi(O:Cn)(K:aS)(f:FA)(L:St)(H:Hp)(R:It->Hp->Prop):Prop where
 |mk:∀Z8 Z9 G Y ds,At O K Z8 Z9 G H Y L->f Y=U ds->(∀ao G' H',Step G H G' H'->Yd O K ao G' ds->R ao H')->TDi O K f L H R
structure DI(O:Cn)(X:Cx)(tg e:Expr)(f:FA):Prop where
 out:PI X tg e (TDi O X.K f)
def PI.imp{t t':TI}(h:PI X tg e t)(i:∀L H R,t' L H R->t L H R):PI X tg e t':=λZ' s L H R I q=>h Z' s L H R I (i _ _ _ q)
variable{fi:FA}{ts:Z Expr}{gs:FGs}{fe:FE}{Y1:bG}
section
variable{a c:Expr}
def Oj{a:av}(h:G a=U (.tup vs))(r:XO O K G vs ds):Yd O K (Itt K a) G ds:=by show#[λi d G2 H2 hd g1 g2=>?_,λG2 H2 g1 g2=>#[vs,.inl (.inl (g2 _ _ (g1 _ _ h))),by rw[r.length];show qw _]];let⟨v,hv,rv⟩:=r.get hd;show#[#[vs,v,.inl (.inl (g2 _ _ (g1 _ _ h))),hv],λx H3 #[e1,e2]=>?_];subst e1;let:=e2 vs (.inl (.inl (g2 _ _ (g1 _ _ h))));rw[hv] at this;cases this;show#[G2,.refl g2,rv.mono g1]
def Cq{a:av}(h:Zv K G a vs)(r:XO O K G vs ds):Yd O K (Ite K a) G (ds.mapIdx λi d=>D.tup [.int i,d]):=by show#[λi d G2 H2 hd g1 g2=>?_,λG2 H2 g1 g2=>#[vs,g2.seq (g1.seq h),by rw[zU,r.length];show qw _]];rw[Vy] at hd;let⟨d',Ö,rfl⟩:=YE hd;let⟨v,hv,rv⟩:=r.get Ö;show#[#[vs,v,g2.seq (g1.seq h),hv],λx H3 #[T,y,e0,hT,e1,e2]=>?_];subst e0;let:=e2 vs (g2.seq (g1.seq h));rw[hv] at this;cases this;subst e1;let s:=Step.new (o:=.tup [.int i,v]) g2 hT;show#[_,s,.tup bf (.cons (.int _) (.cons ((rv.mono g1).mono s.gg) .nil))]
noncomputable def p8:D->au (Z D)
 |.lst l=>U l
 |.tup l=>U l
 |.scr l=>U (l.map D.int)
 |_=>B
def X6(f:FE):FA:=λY=>(f Y).bind p8
def T5{l:Expr}{tl:TE}(hl:PE X l tl):PI X tg l (λL H R=>tl L H λx H1=>(∃a,x=.ref a/\(∃xs,Zv X.K H1 a xs)/\R (Itl X.K a) H1)\/(∃a,x=.ref a/\(∃xs,į X.K H1 a xs)/\R (Itt X.K a) H1)):=by
 intro Z' s L H R I h;show YI (hl Z' s L H _ I h) λv s1 #[x,H1,I1,r1,q1]=>?_;rcases q1 with⟨a,e,⟨xs,hq⟩,q⟩|⟨a,e,⟨xs,hq⟩,q⟩
 .subst e;cases r1;let⟨XY,rv,p,hz⟩:=I1.list hq;show nz p.isList ?_;show#[s1.heap.objs.size,[s1.heap.objs.size],_,_,H1,W,I1.kept λb o e=>qu _ e,Qq a _,#[_,qH _ W,W,W],λb M=>?_,q];let e:b=s1.heap.objs.size:=by simpa using M
  subst e;show I1.fpOk (qw _) (I1.hok.fresh (qw _))
 .subst e;cases r1;let⟨XY,rv,p,hz⟩:=I1.tuple hq;show wpAny_pyIter_tuple (p) ?_;show#[s1.heap.objs.size,[s1.heap.objs.size],_,_,H1,W,I1.kept λb o e=>qu _ e,IJ a _,#[_,qH _ W,W,W],λb M=>?_,q];let e:b=s1.heap.objs.size:=by simpa using M
  subst e;show I1.fpOk (qw _) (I1.hok.fresh (qw _))
def nT(h:DE O X iter f):DI O X tg iter (X6 f):=⟨(T5 h.1).imp λL H R=>by
 rintro⟨Z8,Z9,G,Y,ds,A,h,k⟩;let⟨d,hd,h⟩:=YB h;show#[Z8,Z9,G,Y,d,A,hd,λv G' H' s r=>?_];unfold p8 at h;split at h
 .cases h;let⟨a,vs,rfl,ha,rv⟩:=r.lst_inv;show .inl #[a,W,#[vs,.inl (.inl (s.gh _ _ ha))],k _ G' H' s ?_];show#[λi d G2 H2 hd g1 g2=>?_,λG2 H2 g1 g2=>#[vs,.inl (.inl (g2 _ _ (g1 _ _ ha))),by rw[rv.length];show qw _]];let⟨v,hv,rv'⟩:=rv.get hd;show#[#[vs,v,.inl (.inl (g2 _ _ (g1 _ _ ha))),hv],λx H3 #[e1,e2]=>?_];subst e1;let:=e2 vs (.inl (.inl (g2 _ _ (g1 _ _ ha))));rw[hv] at this;cases this;show#[G2,.refl g2,rv'.mono g1]
 .cases h;let⟨a,vs,rfl,ha,rv⟩:=r.tup_inv;show .inr #[a,W,#[vs,.inl (.inl (s.gh _ _ ha))],k _ G' H' s (Oj ha rv)]
 .rename_i l;cases h;let⟨a,rfl,ha⟩:=r.scr_inv;show .inl #[a,W,#[_,s.gh.seq ha],k _ G' H' s ?_];show#[λi d G2 H2 hd g1 g2=>?_,λG2 H2 g1 g2=>#[_,g2.seq (g1.seq ha),by simp]];rw[ql] at hd;let⟨n,hn,rfl⟩:=YE hd;let hv:(List.map V.int l)[i]?=U (V.int n):=by rw[ql,hn];rfl
  show#[#[_,_,g2.seq (g1.seq ha),hv],λx H3 #[e1,e2]=>?_];subst e1;let:=e2 _ (g2.seq (g1.seq ha));rw[hv] at this;cases this;show#[G2,.refl g2,.int _]
 .cases h⟩
noncomputable def xr:D->au (Z D)
 |.str x=>U (x.cps.toList.map λc=>D.str ⟨#[c]⟩)
 |_=>B
def itS(f:FE):FA:=λY=>(f Y).bind xr
def Qc{n:aj}{q:di}(h:DE O X iter f):DI O X (.Name n q) iter (itS f):=⟨(K6 h.1).imp λL H R=>by
 rintro⟨Z8,Z9,G,Y,ds,A,h,k⟩;let⟨d,hd,h⟩:=YB h;show#[Z8,Z9,G,Y,d,A,hd,λv G' H' s r=>?_];unfold xr at h;split at h<;>cases h;cases r.str_inv;rename_i x;show#[x,W,k _ G' H' s #[λi d G2 H2 hd g1 g2=>?_,λG2 H2 g1 g2=>?_]]
 .rw[ql] at hd;let⟨c,hc,rfl⟩:=YE hd;let Ş:x.cps[i]?=U c:=by simpa using hc
  show#[(gu.mp Ş).1,λy H3 #[e1,c2,h2,e2]=>?_];subst e1;subst e2;rw[Ş] at h2;cases h2;show#[G2,.refl g2,.str _]
 .show _=x.cps.size;simp⟩
noncomputable def AL:D->au (Z D)
 |.lst l=>U (l.mapIdx λi d=>D.tup [.int i,d])
 |.scr l=>U ((l.map D.int).mapIdx λi d=>D.tup [.int i,d])
 |_=>B
def ς(f:FE):FA:=λY=>(f Y).bind AL
def Ql{k1:ag}(hg:Gl X "enumerate")(hm:X.mg "enumerate"=B)(h:DE O X a f)(hs:aM [a] X.env=[(ar,eval a X.env)]:=by rfl)(hs0:aM ([a]:Z Expr) X.env=(ar,eval a X.env)::aM [] X.env:=by rfl):
  DI O X (.Tuple elts k1 tpos) (.Call (.Name "enumerate" p) [a] [] pos) (ς f):=⟨(Sf hg hm (gP h.1 gW hs0) hs).imp λL H R=>by
 rintro⟨Z8,Z9,G,Y,ds,A,h,k⟩;let⟨d,hd,h⟩:=YB h;show#[Z8,Z9,G,Y,d,A,hd,λv G' H' s r=>?_];unfold AL at h;split at h
 .cases h;let⟨a,vs,rfl,ha,rv⟩:=r.lst_inv;show#[a,W,#[vs,.inl (.inl (s.gh _ _ ha))],k _ G' H' s (Cq (.inl (.inl ha)) rv)]
 .cases h;let⟨a,rfl,ha⟩:=r.scr_inv;show#[a,W,#[_,s.gh.seq ha],k _ G' H' s (Cq ha (XO.ints _))]
 .cases h⟩
def CV{lo:ah}:Yd O K (Itr lo n) G ((cw n).map λi:ag=>D.int (lo+i)):=by
 show#[λi d G2 H2 hd g1 g2=>?_,λG2 H2 g1 g2=>?_]
 .rw[ql] at hd;let⟨j,hj,rfl⟩:=YE hd;let hi:i<n:=by let:=(dM.mp hj).1;simpa using this
  let e:j=i:=by simpa[hi] using hj.symm
  subst e;show#[hi,λx H3 #[e1,e2]=>?_];subst e1;subst e2;show#[G2,.refl g2,.int _]
 .show n<=_;simp
noncomputable def e9:Z D->au (Z D)
 |[.int j]=>if -(2 ^ 62)<=j/\j<2 ^ 62 then U ((cw j.toNat).map λi:ag=>D.int (0+i)) else B
 |_=>B
noncomputable def mZ:Z D->au (Z D)
 |[.int i,.int j]=>if -(2 ^ 62)<=i/\i<2 ^ 62 /\ -(2 ^ 62)<=j/\j<2 ^ 62 then U ((cw (j-i).toNat).map λk:ag=>D.int (i+k)) else B
 |_=>B
noncomputable def ä(g:Z D->au (Z D))(fr:FA):FA:=λY=>(fr Y).bind g
def NQ(hg:Gl X "range")(hm:X.mg "range"=B)(h:DA O X [a] fr)(hs:aM [a] X.env=[(ar,eval a X.env)]:=by rfl):DI O X tg (.Call (.Name "range" p) [a] [] pos) (ä e9 fr):=⟨(Lq hg hm h.1 hs).imp λL H R=>by
 rintro⟨Z8,Z9,G,Y,ds,A,h,k⟩;let⟨d,hd,h⟩:=YB h;show#[Z8,Z9,G,Y,d,A,hd,λv G' H' s r=>?_];unfold e9 at h;split at h
 .split at h
  .rename_i hz;cases h;let⟨v,rfl,r1⟩:=r.one;cases r1.int_inv;show#[_,W,hz.1,hz.2,k _ G' H' s CV]
  .cases h
 .cases h⟩
def J1(hg:Gl X "range")(hm:X.mg "range"=B)(h:DA O X [a,b] fr)(hs:aM [a,b] X.env=[(ar,eval a X.env),(ar,eval b X.env)]:=by rfl)(Ŀ:aM [b] X.env=[(ar,eval b X.env)]:=by rfl):DI O X tg (.Call (.Name "range" p) [a,b] [] pos) (ä mZ fr):=⟨(Ju hg hm h.1 hs Ŀ).imp λL H R=>by
 rintro⟨Z8,Z9,G,Y,ds,A,h,k⟩;let⟨d,hd,h⟩:=YB h;show#[Z8,Z9,G,Y,d,A,hd,λv G' H' s r=>?_];unfold mZ at h;split at h
 .split at h
  .rename_i hz;cases h;let⟨v,u,rfl,r1,r2⟩:=r.two;cases r1.int_inv;cases r2.int_inv;show#[_,_,W,hz,k _ G' H' s CV]
  .cases h
 .cases h⟩
abbrev FG:=D->bG->au bG
abbrev FGs:=Z D->bG->au bG
inductive TDg(O:Cn)(K:aS)(g:FG)(v:V)(L:St)(H:Hp)(Q:St->Hp->Prop):Prop where
 |mk:∀Z8 Z9 G Y d Y',At O K Z8 Z9 G H Y L->X9 O K G v d->g d Y=U Y'->(∀Z5,At O K Z8 Z9 G H Y' Z5->Q Z5 H)->TDg O K g v L H Q
inductive TDgs(O:Cn)(K:aS)(g:FGs)(vs:Z V)(L:St)(H:Hp)(Q:St->Hp->Prop):Prop where
 |mk:∀Z8 Z9 G Y ds Y',At O K Z8 Z9 G H Y L->XO O K G vs ds->g ds Y=U Y'->(∀Z5,At O K Z8 Z9 G H Y' Z5->Q Z5 H)->TDgs O K g vs L H Q
structure DG(O:Cn)(X:Cx)(tg:Expr)(g:FG):Prop where
 pg:PG X tg (TDg O X.K g)
 no:∀d Y Y',g d Y=U Y'->fj Y->fj Y'
structure DGs(O:Cn)(X:Cx)(ts:Z Expr)(g:FGs):Prop where
 pg:PGs X ts (TDgs O X.K g)
 no:∀d Y Y',g d Y=U Y'->fj Y->fj Y'
def PG.imp{t t':TG}(h:PG X tg t)(i:∀v L H Q,t' v L H Q->t v L H Q):PG X tg t':=λZ' s L H v u Q I r q=>h Z' s L H v u Q I r (i _ _ _ _ q)
def PGs.imp{t t':TGs}(h:PGs X ts t)(i:∀v L H Q,t' v L H Q->t v L H Q):PGs X ts t':=λZ' s L H v u Q I r q=>h Z' s L H v u Q I r (i _ _ _ _ q)
noncomputable def aA(i:ag):FG:=λd Y=>U (Y.set i (U (.sh d)))
def UN(h:fj Y):fj (Y.set i (U (.sh d))):=λj ds e=>by
 by_cases hj:j=i
 .subst hj;rw[List.getElem?_set,qY W] at e;split at e<;>cases e;show#[_,W]
 .rw[qz (cL hj)] at e;show h j ds e
def lC(i:ag)(hN:X.N.Nodup)(hi:X.N[i]?=U x:=by rfl)(hx:Ŷ X.env.scope x:=by ac_nf)(hf:X.fn x=ai\/X.env.scope.names.lookup x=U .local:=by ac_nf):DG O X (.Name x pos) (aA i):=by
 show#[(Qg hN hi hx hf).imp λv L H Q=>?_,λd Y Y' e h=>?_]
 .rintro⟨Z8,Z9,G,Y,d,Y',A,r,h,k⟩;cases h;show k _ (A.setSh r)
 .cases e;show UN h
noncomputable def bV:FGs:=λds Y=>match ds with
 |[]=>U Y
 |_=>B
noncomputable def aQ(g:FG)(gs:FGs):FGs:=λds Y=>match ds with
 |d::r=>(g d Y).bind λY'=>gs r Y'
 |_=>B
def Bw:DGs O X [] bV:=by
 show#[Ng.imp λvs L H Q=>?_,λd Y Y' e h=>?_]
 .rintro⟨Z8,Z9,G,Y,ds,Y',A,r,h,k⟩;unfold bV at h;split at h<;>cases h;cases r;show#[W,k L A]
 .unfold bV at e;split at e<;>cases e;show h
def pJ{g:FG}(h1:DG O X e g)(h2:DGs O X ts gs)(hs:(jC (e::ts) X.env).map (·.2)=rP e X.env::(jC ts X.env).map (·.2):=by rfl):DGs O X (e::ts) (aQ g gs):=by
 show#[(MW h1.pg h2.pg hs).imp λvs L H Q=>?_,λds Y Y' e h=>?_]
 .rintro⟨Z8,Z9,G,Y,ds,Y',A,r,h,k⟩;unfold aQ at h;split at h
  .obtain⟨Y1,h1,h⟩:=YB h;cases r with
   |cons r1 r2=>show#[_,_,W,Z8,Z9,G,Y,_,Y1,A,r1,h1,λZ2 A1=>#[Z8,Z9,G,Y1,_,Y',A1,r2,h,k]]
  .cases h
 .unfold aQ at e;split at e
  .obtain⟨Y1,e1,e⟩:=YB e;show h2.no _ _ _ e (h1.no _ _ _ e1 h)
  .cases e
noncomputable def bT(n:ag)(gs:FGs):FG:=λd Y=>match d with
 |.tup ds=>if ds.length=n then gs ds Y else B
 |_=>B
def Bd{k:ag}(hc:X.calm=ai)(h:DGs O X ts gs)(hn:(jC ts X.env).length=n:=by rfl)(æ:(jC ts X.env).findIdx? (·.1)=B:=by rfl):DG O X (.Tuple ts k pos) (bT n gs):=by
 show#[(Oc hc h.pg hn æ).imp λv L H Q=>?_,λds Y Y' e q=>?_]
 .rintro⟨Z8,Z9,G,Y,d,Y',A,r,h,k⟩;unfold bT at h;split at h
  .split at h
   .rename_i hl;let⟨a,vs,rfl,ha,rv⟩:=r.tup_inv;show#[a,vs,W,.inl (.inl (A.gh _ _ ha)),by rw[rv.length];show hl,Z8,Z9,G,Y,_,Y',A,rv,h,k]
   .cases h
  .cases h
 .unfold bT at e;split at e
  .split at e
   .exact h.no _ _ _ e q
   .cases e
  .cases e
def b9(g:FG)(ft:FT)(fe:FE):Z D->bG->au (Z D)
 |[],_=>U []
 |x::xs,Y=>(g x Y).bind λY1=>(ft Y1).bind λb=>if b=ai then (fe Y1).bind λd=>(b9 g ft fe xs Y1).map (d::·) else b9 g ft fe xs Y1
noncomputable def dU(fv:Z (au ag))(Y:bG):bG:=fv.map λo=>o.bind λj=>match Y[j]? with
 |some (U (.sh d))=>U (.sh d)
 |_=>B
def aW(fi:FA)(g:FG)(ft:FT)(fe:FE)(fv:Z (au ag)):FA:=λY=>(fi Y).bind λxs=>if xs.length<=aK then b9 g ft fe xs (dU fv Y) else B
structure DTs(O:Cn)(X:Cx)(es:Z Expr)(f:FT):Prop where
 out:PTs X es (š O X.K f)
def PTs.imp{t t':TT}(h:PTs X es t)(i:∀L H Q,t' L H Q->t L H Q):PTs X es t':=λZ' s L H Q I q=>h Z' s L H Q I (i _ _ _ q)
noncomputable def tT:FT:=λ_=>U ai
def mH:DTs O X [] tT:=⟨JW.imp λL H Q=>by rintro⟨Z8,Z9,G,Y,b,A,h,k⟩;cases h;show k G H (.refl A.gh)⟩
def sZ(h:DT O X c ft):DTs O X [c] ft:=⟨TZ h.1⟩
variable{g:FG}
structure DB(O:Cn)(X:Cx)(N':Z aj)(scope:Scope)(tg:Expr)(ć:Z Expr)(Č:Expr)(g:FG)(ft:FT)(fe:FE):Prop where
 out:∀(cl:Z (aj×av))(XI:av)(Z6:aH)(Z9:Hp)(fp:Z av),DG O (iE X N' scope cl XI Z6 Z9 fp) tg g/\DTs O (iE X N' scope cl XI Z6 Z9 fp) ć ft/\DE O (iE X N' scope cl XI Z6 Z9 fp) Č fe
def DB.pb(h:DB O X N' scope tg ć Č g ft fe):PB X N' scope tg ć Č (TDg O X.K g) (š O X.K ft) (TD O X.K fe):=λcl XI Z6 Z9 fp=>#[(h.1 cl XI Z6 Z9 fp).1.pg,(h.1 cl XI Z6 Z9 fp).2.1.1,(h.1 cl XI Z6 Z9 fp).2.2.1]
def BA(A:At O K Z8 Z9 G H Y L):At O K G H G H (dU fv Y) (ie fv L)/\fj (dU fv Y):=by
 let no:fj (dU fv Y):=λi ds e=>by
  unfold dU at e;rw[ql] at e;let⟨o,ho,e⟩:=YE e;cases o with
  |none=>cases e
  |some j=>
   simp only[qb] at e;split at e<;>cases e;show#[_,W]
 show#[#[.refl A.gh,.ofSh (by simp[dU,ie]) no λi d e=>?_],no];unfold dU at e;unfold ie;rw[ql] at e ⊢;let⟨o,ho,e⟩:=YE e;rw[ho];cases o with
 |none=>cases e
 |some j=>
  simp only[qb] at e;split at e
  .rename_i d' Ö;cases e;let⟨v,h1,h2⟩:=A.env.sh j d Ö;show#[v,by simp[h1],h2]
  .cases e
def Bj{ao:It}{Z2:St}{xs:Z D}{Q:VK}{XT:av}(no:∀d Y Y',g d Y=U Y'->fj Y->fj Y')(A0:At O X.K G1 H1 G1 H1 Y1 Z2)(no0:fj Y1)(ρ:Yd O X.K ao G1 xs)(hz:xs.length<=aK)(h:b9 g ft fe xs Y1=U ds)(Yw:H1 XT=B)
  (k:∀p vs G' H',Step G1 H1 G' H'->H' p=B->XO O X.K G' vs ds->Q (.ref p) (X0 H' p (.lst vs))):LcW ao (TDg O X.K g) (š O X.K ft) (TD O X.K fe) XT Q Z2 H1:=by
 let gacc:G1 XT=B:=A0.gh.free Yw;show#[λi m ys Z5 H'=>m=xs.length-i/\i<=xs.length/\ys.length<=i/\∃G' Y' done bS,At O X.K G1 H1 G' H' Y' Z5/\fj Y'/\H' XT=U (.lst ys)/\G' XT=B/\XO O X.K G' ys done/\b9 g ft fe (xs.drop i) Y'=U bS/\done++bS=ds,?_,?_]
 .refine#[xs.length,W,gM _,qw _,G1,Y1,[],ds,?_,no0,bf,gacc,.nil,by rw[sq];show h,W];let sn:=Step.newOwn (o:=.lst []) A0.gh Yw;show#[sn,.ofSh A0.env.len no0 A0.env.sh]
 .rintro i m ys Z5 H' ⟨hm,hi,hyi,G',Y',done,bS,A',no',ė,gacc',ry,hr,hd⟩;subst hm;show#[ė,?_];by_cases YX:i<xs.length
  .right
   let hxi:xs[i]?=U xs[i]:=by simp[YX]
   let⟨go,yl⟩:=ρ.go i _ G' H' hxi A'.st.gg A'.gh;show#[go,λx H2 hy=>?_];let⟨G2,s2,r2⟩:=yl x H2 hy;let A2:=A'.step s2;let hdr:xs.drop i=xs[i]::xs.drop (i+1):=su YX;rw[hdr] at hr;let⟨Y2,h1,hr⟩:=YB hr;let⟨b,h2,hr⟩:=YB hr;show#[G1,H1,G2,Y',_,Y2,A2,r2,h1,λZY A3=>#[G1,H1,G2,Y2,b,A3,h2,λG4 H4 s4=>?_]];let no1:=no _ _ _ h1 no';let hH4:H4 XT=U (.lst ys):=s4.hh _ _ (s2.hh _ _ ė);let hG4:G4 XT=B:=(s4.out _ _ (s2.hh _ _ ė) W).trans ((s2.out _ _ ė W).trans gacc');cases b with
   |false=>
    rw[qZ qt] at hr;show kZ #[xs.length-(i+1),by ext,W,YX,by ext,G4,Y2,done,bS,A3.step s4,no1,hH4,hG4,(ry.mono s2.gg).mono s4.gg,hr,hd]
   |true=>
    rw[qY W] at hr;let⟨d,h3,hr⟩:=YB hr;let⟨zs,h5,rfl⟩:=YE hr;show lw #[G1,H1,G4,Y2,d,A3.step s4,h3,λv G5 H5 s5 r5=>?_];let A5:=(A3.step s4).step s5;let hH5:H5 XT=U (.lst ys):=s5.hh _ _ hH4;let hG5:G5 XT=B:=(s5.out _ _ hH4 W).trans hG4;show#[hH5,by ext,xs.length-(i+1),by ext,W,YX,by rw[qj,nt];ext,G5,Y2,done++[d],zs,?_,no1,bf,hG5,((((ry.mono s2.gg).mono s4.gg).mono s5.gg).append (.cons r5 .nil)),h5,by rw[o0];show hd];show#[#[λb o e=>?_,A5.st.gg,λb o e=>?_,A5.st.out],.ofSh A5.env.len no1 A5.env.sh]
    .rw[aD (bH e Yw)];show A5.st.hh b o e
    .rw[aD (bH e hG5)];show A5.st.gh b o e
  .left
   let e:i=xs.length:=by ext
   subst e;rw[sv] at hr;cases hr;rw[jG] at hd;subst hd;show#[ρ.stop G' H' A'.st.gg A'.gh,?_];let hf:H'=X0 (λb=>if b=XT then B else H' b) XT (.lst ys):=by
    funext b
    by_cases M:b=XT
    .subst M;rw[bf];show ė
    .rw[aD M,qZ M]
   rw[hf];show k XT ys G' (λb=>if b=XT then B else H' b) #[λb o e=>?_,A'.st.gg,λb o e=>?_,A'.st.out] (qY W) ry
   .show(if b=XT then B else H' b)=U o;rw[qZ (bH e Yw)];show A'.st.hh b o e
   .show(if b=XT then B else H' b)=U o;rw[qZ (bH e gacc')];show A'.st.gh b o e
def xB(no:∀d Y Y',g d Y=U Y'->fj Y->fj Y'):∀L H Q,TDo O X.K (aW fi g ft fe fv) L H Q->tLC (TDi O X.K fi) (TDg O X.K g) (š O X.K ft) (TD O X.K fe) fv L H Q:=by
 rintro L H Q ⟨Z8,Z9,G,Y,ds,A,h,k⟩;let⟨xs,hx,h⟩:=YB h;split at h
 case isFalse=>cases h
 rename_i hz;show#[Z8,Z9,G,Y,xs,A,hx,λao G1 H1 s1 ρ XT Yw=>?_];let⟨A0,no0⟩:=BA (A.step s1);show Bj no A0 no0 ρ hz h Yw λp vs G' H' s2 hp r=>k p vs G' H' (s1.trans s2) hp r
def HJ(hc:X.calm=ai)(S:YH X scope)(F:Ý X N' scope fv)(hi:DI O X tg iter fi)(M:DB O X N' scope tg ć Č g ft fe)(hs:∀x,km iter X.env x=bc x:=by intro _;rfl):
  DO O X .(q) (aW fi g ft fe fv):=⟨(Ei hc S F hi.1 M.pb hs).imp (xB (M.1 [] 0 X.Z6 X.Z9 []).1.no)⟩
end
variable{g g':FS}{sts:Z Stmt}{gg:FG}{vp:di}
section
variable{a c:Expr}
noncomputable def aZ:FS:=λY=>U (.nx,Y)
def ay(g g':FS):FS:=λY=>(g Y).bind λr=>match r.1 with
 |.nx=>g' r.2
 |fl=>U (fl,r.2)
def dF:Zn O X [] aZ:=⟨UI.imp λus L H=>by rintro⟨Z8,Z9,G,Y,fl,Y',A,h,k⟩;cases h;show k L G H (.refl _) A⟩
def bK(h:DS O X st g):Zn O X [st] g:=⟨JJ h.1⟩
def aI(h1:DS O X st g)(h2:Zn O X sts g'):Zn O X (st::sts) (ay g g'):=⟨(M' h1.1 h2.1).imp λus L H=>by
 rintro⟨Z8,Z9,G,Y,fl,Y',A,h,k⟩;let⟨⟨fl1,Y1⟩,h1,h⟩:=YB h;show#[Z8,Z9,G,Y,fl1,Y1,A,h1,λZ2 G1 H1 sm A1=>?_];cases fl1 with
 |nx=>show#[Z8,Z9,G1,Y1,fl,Y',A1,h,λZ5 G' H' sm' A'=>k Z5 G' H' (sm.trans sm') A']
 |bk=>cases h;show k Z2 G1 H1 sm A1
 |ct=>cases h;show k Z2 G1 H1 sm A1
 |rt d=>cases h;show k Z2 G1 H1 sm A1
 |ow d=>cases h;show k Z2 G1 H1 sm A1
 |nw d=>cases h;show k Z2 G1 H1 sm A1
 |od d=>cases h;show k Z2 G1 H1 sm A1⟩
noncomputable def aE(f:FE):FS:=λY=>(f Y).map λd=>(.rt d,Y)
def cK(h:DE O X e f):DS O X (.Return (U e) pos) (aE f):=⟨(M5 h.1).imp λus L H=>by rintro⟨Z8,Z9,G,Y,fl,Y',A,h,k⟩;let⟨d,hd,h⟩:=YE h;cases h;show#[Z8,Z9,G,Y,d,A,hd,λv G' H' s r=>k L G' H' s.gg (A.step s) v r]⟩
noncomputable def aP(i:ag)(f:FE):FS:=λY=>(f Y).map λd=>(.nx,Y.set i (U (.sh d)))
def ir(i:ag)(hN:X.N.Nodup)(h:DE O X e f)(hi:X.N[i]?=U x:=by rfl)(hx:Ŷ X.env.scope x:=by ac_nf)(hs:dA e (U (.Name x YQ)) pos.line X.env=bc ar:=by rfl)(hf:X.fn x=ai\/X.env.scope.names.lookup x=U .local:=by ac_nf):
  DS O X (.Assign [.Name x YQ] e pos) (aP i f):=⟨(nS hN hi hx h.1 hs hf).imp λus L H=>by
 rintro⟨Z8,Z9,G,Y,fl,Y',A,h,k⟩;let⟨d,hd,h⟩:=YE h;cases h;show#[Z8,Z9,G,Y,d,A,hd,λv G' H' s r=>k _ G' H' s.gg ((A.step s).setSh r)]⟩
noncomputable def eL(i:ag)(f:FA):FS:=λY=>(f Y).map λd=>(.nx,Y.set i (U (.own d)))
def Bo:∀us L H,Ń O X.K (eL i fr) us L H->rg (TDo O X.K fr) (rC i) us L H:=by rintro us L H ⟨Z8,Z9,G,Y,fl,Y',A,h,k⟩;let⟨d,hd,h⟩:=YE h;cases h;show#[Z8,Z9,G,Y,d,A,hd,λp vs G' H' s hp r=>k _ G' _ s.gg ((A.step s).setOwn hp r)]
def S3(i:ag)(hN:X.N.Nodup)(h:DO O X e fr)(hi:X.N[i]?=U x:=by rfl)(hx:Ŷ X.env.scope x:=by ac_nf)(hs:dA e (U (.Name x YQ)) pos.line X.env=bc ar:=by rfl)(hf:X.fn x=ai\/X.env.scope.names.lookup x=U .local:=by ac_nf):
  DS O X (.Assign [.Name x YQ] e pos) (eL i fr):=⟨(nS hN hi hx h.1 hs hf).imp Bo⟩
def OX:∀us L H,Ń O X.K (aP i (aR fr)) us L H->rg (TDo O X.K fr) (rC i) us L H:=by rintro us L H ⟨Z8,Z9,G,Y,fl,Y',A,h,k⟩;let⟨d,hd,h⟩:=YE h;let⟨ds,Ö,rfl⟩:=YE hd;cases h;show#[Z8,Z9,G,Y,ds,A,Ö,λp vs G' H' s hp r=>?_];let s2:=Step.new (o:=.lst vs) s.gh hp;show k _ _ _ (s.gg.trans s2.gg) (((A.step s).step s2).setSh (.lst bf (r.mono s2.gg)))
def J4(i:ag){y:aj}(hN:X.N.Nodup)(hc:X.calm=ai)(S:YH X scope)(F:Ý X N' scope fv)(hi:DI O X tg iter fi)(M:DB O X N' scope tg ć Č gg ft fe)
  (hy:X.N[i]?=U y:=by rfl)(τ:X.env.scope.names.lookup y=U .local:=by rfl)(ũ:dA .(q) (U (.Name y py)) Ď.line X.env=bc ai:=by rfl)(hs:∀x,km iter X.env x=bc x:=by intro _;rfl):
  DS O X (.Assign [.Name y py] .(q) Ď) (aP i (aR (aW fi gg ft fe fv))):=⟨(Eb hN hy τ hc S F hi.1 M.pb ũ hs).imp λus L H q=>xB (M.1 [] 0 X.Z6 X.Z9 []).1.no L H _ (OX us L H q)⟩
def Qy(i:ag){y:aj}(hN:X.N.Nodup)(hc:X.calm=ai)(S:YH X scope)(F:Ý X N' scope fv)(hi:DI O X tg iter fi)(M:DB O X N' scope tg ć Č gg ft fe)
  (hy:X.N[i]?=U y:=by rfl)(τ:X.env.scope.names.lookup y=U .local:=by rfl)(ũ:dA .(q) (U (.Name y py)) Ď.line X.env=bc ai:=by rfl)(hs:∀x,km iter X.env x=bc x:=by intro _;rfl):
  DS O X (.Assign [.Name y py] .(q) Ď) (eL i (aW fi gg ft fe fv)):=⟨(Eb hN hy τ hc S F hi.1 M.pb ũ hs).imp λus L H q=>xB (M.1 [] 0 X.Z6 X.Z9 []).1.no L H _ (Bo us L H q)⟩
noncomputable def fL(i:ag)(f:FE):FS:=λY=>match Y[i]? with
 |some (U (.own ds))=>(f Y).bind λd=>if ds.length<aK then U (.nx,Y.set i (U (.own (ds++[d])))) else B
 |_=>B
def Sl(i:ag)(h:DE O X e f)(hN:X.N[i]?=U x:=by rfl)(hv:Ġ X.env.scope x:=by ac_nf)(hd:(x==("__debug__":aj))=ar:=by decide)
  (Yp:(x==("__classdict__":aj))=ar:=by decide)
  (Ys:gN (.Name x vp) "append" X.env (eval (.Name x vp) X.env)=eval (.Name x vp) X.env:=by rfl)
  (ī:((bW YG (aM [e] X.env)).all (λx=>!x.1) && (jH YG (jI [] X.env)).all (λx=>x.1.isSome)
   && decide ([e].length+([]:Z iy).length+(if ([]:Z iy).isEmpty then 0 else 1)<30))=ai:=by rfl)
  (Yr:(YN.endLine==YG.line)=ai:=by rfl)(hs:aM [e] X.env=(ar,eval e X.env)::aM [] X.env:=by rfl)(Za:(bW YG (aM [] X.env)).any (·.1)=ar:=by rfl)
  (ũ:dA (.Call (.Attribute (.Name x vp) "append" YN) [e] [] YG) B pos.line X.env=bc ar:=by rfl):
  DS O X (.Expr (.Call (.Attribute (.Name x vp) "append" YN) [e] [] YG) pos) (fL i f):=⟨(wM (wA Vz Vh PySem.F.type_list_append D' (gH hN hv hd Yp) (gP h.1 gW hs) Ys ī Yr hs Za) ũ).imp λus L H=>by
  rintro⟨Z8,Z9,G,Y,fl,Y',A,h,k⟩;unfold fL at h;split at h
  .rename_i ds hi;let⟨d,hd,h⟩:=YB h;split at h
   .rename_i hz;cases h;let⟨a,vs,h1,h2,h3,h4,h5⟩:=A.env.own i ds hi;show#[.ref a,h1,.inl #[W,vs,.inl (.inl h4)],Z8,Z9,G,Y,d,A,hd,λv G1 H1 s1 r1=>?_];let A1:=A.step s1;show#[a,vs,v,W,W,s1.hh _ _ h4,by rw[h5.length];show hz,?_];show k L G1 _ s1.gg (A1.chOwn hi h1 ((h5.mono s1.gg).append (.cons r1 .nil)))
   .cases h
  .cases h⟩
noncomputable def eO(i:ag)(g:FS):FS:=λY=>match Y[i]? with
 |some (U (.own ds))=>g (Y.set i (U (.sh (.lst ds))))
 |_=>B
def Ń.frz(i:ag):∀us L H,Ń O X.K (eO i g) us L H->Ń O X.K g us L H:=by
 rintro us L H ⟨Z8,Z9,G,Y,fl,Y',A,h,k⟩;unfold eO at h;split at h
 .rename_i ds hi;let⟨G',sm,A'⟩:=A.freeze hi;show#[Z8,Z9,G',_,fl,Y',A',h,λZ2 G1 H1 sm1 A1=>k Z2 G1 H1 (sm.trans sm1) A1]
 .cases h
def ub(i:ag)(h:Zn O X sts g):Zn O X sts (eO i g):=⟨h.1.imp (Ń.frz i)⟩
noncomputable def YJ(ft:FT)(g g':FS):FS:=λY=>(ft Y).bind λc=>if c=ai then g Y else g' Y
def dc{sa sb:Z Stmt}(hc:DT O X c ft)(ha:Zn O X sa g)(M:Zn O X sb g'):DS O X (.If c sa sb pos) (YJ ft g g'):=⟨(IR hc.1 ha.1 M.1).imp λus L H=>by
 rintro⟨Z8,Z9,G,Y,fl,Y',A,h,k⟩;let⟨x,hx,h⟩:=YB h;show#[Z8,Z9,G,Y,x,A,hx,λG1 H1 s1=>?_];cases x with
 |true=>show lw #[Z8,Z9,G1,Y,fl,Y',A.step s1,by simpa using h,λZY G2 H2 sm2 A2=>k ZY G2 H2 (s1.gg.trans sm2) A2]
 |false=>show kZ #[Z8,Z9,G1,Y,fl,Y',A.step s1,by simpa using h,λZY G2 H2 sm2 A2=>k ZY G2 H2 (s1.gg.trans sm2) A2]⟩
noncomputable def u6(gg:FG)(f:FE):FS:=λY=>(f Y).bind λd=>(gg d Y).map λY'=>(.nx,Y')
def Ll(h:DE O X e f)(hg:DG O X tg gg)(hs:swapsWithSole [tg] e pos.line X.env=bc ar:=by rfl)(hw:swappedStores [tg] e X.env=bc B:=by rfl)
  (h1:(jC [tg] X.env).map (·.2)=[rP tg X.env]:=by rfl):DS O X (.Assign [tg] e pos) (u6 gg f):=⟨(Qu h.1 hg.pg hs hw h1).imp λus L H=>by
 rintro⟨Z8,Z9,G,Y,fl,Y',A,h,k⟩;let⟨d,hd,h⟩:=YB h;let⟨Y1,h1,h⟩:=YE h;cases h;show#[Z8,Z9,G,Y,d,A,hd,λv G' H' s r=>#[Z8,Z9,G',Y,d,Y',A.step s,r,h1,λZ5 A'=>k Z5 G' H' s.gg A']]⟩
def eU(gg:FG)(body:FS):Z D->FS
 |[],Y=>U (.nx,Y)
 |x::xs,Y=>(gg x Y).bind λY1=>(body Y1).bind λr=>match r.1 with
  |.nx=>eU gg body xs r.2
  |.ct=>eU gg body xs r.2
  |.bk=>U (.nx,r.2)
  |.rt d=>U (.rt d,r.2)
  |.ow d=>U (.ow d,r.2)
  |.nw d=>U (.nw d,r.2)
  |.od d=>U (.od d,r.2)
def bN(fi:FA)(gg:FG)(body:FS):FS:=λY=>(fi Y).bind λxs=>eU gg body xs Y
def cN{body:Z Stmt}(hp:PassesOwn .(t) X.A X.env X.xe)(hc:X.calm=ai)(hi:DI O X tg iter fi)(hg:DG O X tg gg)(M:Zn O X body g)(hs:∀x,km iter X.env x=bc x:=by intro _;rfl):
  DS O X (.For tg iter body [] pos) (bN fi gg g):=⟨(JV hp hc hi.1 hg.pg M.1 hs).imp λus L H=>by
 rintro⟨Z8,Z9,G,Y,fl,Y',A,h,k⟩;let⟨xs,hx,h⟩:=YB h;show#[Z8,Z9,G,Y,xs,A,hx,λao G1 H1 s1 ρ=>?_];show#[λi m Z5 H'=>m=xs.length-i/\i<=xs.length/\∃G' Y1,aY G1 G'/\At O X.K Z8 Z9 G' H' Y1 Z5/\eU gg g (xs.drop i) Y1=U (fl,Y'),#[xs.length,W,gM _,G1,Y,.refl _,A.step s1,by rw[sq];show h],?_];rintro i m Z5 H' ⟨rfl,hi,G',Y1,sm,A',hr⟩;by_cases YX:i<xs.length
 .right
  let hxi:xs[i]?=U xs[i]:=by simp[YX]
  let⟨go,yl⟩:=ρ.go i _ G' H' hxi sm A'.gh;let hdr:xs.drop i=xs[i]::xs.drop (i+1):=su YX;rw[hdr] at hr;let⟨Y2,h2,hr⟩:=YB hr;let⟨⟨fl3,Y3⟩,h3,hr⟩:=YB hr;show#[go,λZZ H3=>(fl3=.nx\/fl3=.ct)/\∃G3,aY G1 G3/\At O X.K Z8 Z9 G3 H3 Y3 ZZ,λZZ H3 #[hfl,G3,sm3,A3]=>?_,λx H2 hy=>?_]
  .refine#[xs.length-(i+1),by ext,W,YX,G3,Y3,sm3,A3,?_];rcases hfl with e|e<;>subst e<;>show hr
  .obtain⟨G2,s2,r2⟩:=yl x H2 hy;show#[Z8,Z9,G2,Y1,_,Y2,A'.step s2,r2,h2,λZY A2=>#[Z8,Z9,G2,Y2,fl3,Y3,A2,h3,λZZ G3 H3 sm3 A3=>?_]];let smm:aY G1 G3:=(sm.trans s2.gg).trans sm3;cases fl3 with
   |nx=>show#[.inl W,G3,smm,A3]
   |ct=>show#[.inr W,G3,smm,A3]
   |bk=>cases hr;show k ZZ G3 H3 (s1.gg.trans smm) A3
   |rt d=>cases hr;show k ZZ G3 H3 (s1.gg.trans smm) A3
   |ow d=>cases hr;show k ZZ G3 H3 (s1.gg.trans smm) A3
   |nw d=>cases hr;show k ZZ G3 H3 (s1.gg.trans smm) A3
   |od d=>cases hr;show k ZZ G3 H3 (s1.gg.trans smm) A3
 .left
  let e:i=xs.length:=by ext
  subst e;rw[sv] at hr;cases hr;show#[ρ.stop G' H' sm A'.gh,k Z5 G' H' (s1.gg.trans sm) A']⟩
end
variable{fk:FE}
section
variable{a c:Expr}{fw:FE}
inductive θ(O:Cn)(K:aS)(n:ag)(F:Z D->au D)(vs:Z V)(H:Hp)(Q:VK)(_e3:XK):Prop where
 |mk:∀G ds d,aY G H->XO O K G vs ds->ds.length=n->F ds=U d->(∀v G' H',Step G H G' H'->X9 O K G' v d->Q v H')->θ O K n F vs H Q _e3
noncomputable def aO(n:ag)(g:FS):Z D->au D:=λds=>(g (ds.map (λd=>U (Slot.sh d))++bQ n B)).bind λr=>match r.1 with
 |.rt d=>U d
 |.nx=>U .non
 |_=>B
def yA{m:ag}(gh:aY G H)(r:XO O K G vs ds)(hm:m=N.length-vs.length):At O K G H G H (ds.map (λd=>U (Slot.sh d))++bQ m B) (dE N vs):=by
 let no:fj (ds.map (λd=>U (Slot.sh d))++bQ m B):=λi es e=>by
  by_cases hi:i<ds.length
  .rw[qA (by simpa using hi),ql] at e;let⟨d,_,e⟩:=YE e;cases e;show#[_,W]
  .rw[qM (by simpa using hi),vH] at e;split at e<;>cases e
 show#[.refl gh,.ofSh (by simp[dE,r.length,hm]) no λi d e=>?_];by_cases hi:i<ds.length
 .rw[qA (by simpa using hi),ql] at e;let⟨d',hd,e⟩:=YE e;cases e;let⟨v,hv,rv⟩:=r.get hd;show#[v,?_,rv];unfold dE;rw[qA (by rw[qf,r.length];show hi),ql,hv];rfl
 .rw[qM (by simpa using hi),vH] at e;split at e<;>cases e
def Ĳ.okD{f:av}{k:ag}(F:Ĳ K x qual st f fd)(S:YC N ps (aC st))
  (X8:∀(X1:aw)(A:cJ)(outer:Z cB)(s:aH)(H:Hp)(us:XK),YK k .(l)->
   Zn O .(j).nox (ca st) g):YY P w K mg base ã (k+1) f fd ps (θ O K ps.length (aO (N.length-ps.length) g)):=by
 show F.ok S (λvs H Q us h=>?_) (λX1 A outer s H vs Q us hr h=>?_)
 .obtain⟨G,ds,d,_,r,hl,_⟩:=h;rw[r.length,hl]
 .obtain⟨G,ds,d,gh,r,hl,hd,k⟩:=h;show#[_,(X8 X1 A outer s H us hr).1,?_];let⟨⟨fl,Y'⟩,hg,hd⟩:=YB hd;show#[G,H,G,_,fl,Y',yA gh r (by rw[r.length,hl]),hg,λZ5 G' H' sm A'=>?_];cases fl with
  |rt d'=>cases hd;exactλv rv=>k v G' H' A'.st rv
  |nx=>cases hd;show k .non G' H' A'.st .non
  |bk=>cases hd
  |ct=>cases hd
  |ow d=>cases hd
  |nw d=>cases hd
  |od d=>cases hd
def Sg{k:ag}{fx:av}{F:Z D->au D}(Fo:YY X.prog X.w X.K X.mg X.base ã k fx fd ps (θ O X.K n F))(hr:YK k X.A)(hg:Gl X x)(hm:X.mg x=U (.ref fx))(hk:gr X.K (.ref fx)=ai)(M:fK X.K fd ps [])
  (ha:DA O X (e::es) fr)(hn:∀Y ds,fr Y=U ds->ds.length=n)(Ô:(x==("__debug__":aj))=ar:=by decide)(he:aM (e::es) X.env=(ar,eval e X.env)::aM es X.env:=by rfl)(YR:(bW pos (aM es X.env)).any (·.1)=ar:=by rfl):
  DE O X (.Call (.Name x p) (e::es) [] pos) (cF F fr):=⟨(SB Fo hr hg hm hk M .nil mj ha.1 Ô he YR).imp λL H Q=>by
 rintro⟨Z8,Z9,G,Y,d,A,h,k⟩;let⟨ds,hd,h⟩:=YB h;show#[Z8,Z9,G,Y,ds,A,hd,λvs G1 H1 s1 r1=>?_];rw[jG];show#[G1,ds,d,s1.gh,r1,hn Y ds hd,h,λv G' H' s r=>k v G' H' (s1.trans s) r]⟩
def Ut(h:aq Y=U ds):ds.length=0:=by cases h;rfl
def mC(hn:∀Y ds,fr Y=U ds->ds.length=n):∀Y ds,J fa fr Y=U ds->ds.length=n+1:=λY ds h=>by let⟨x,hx,h⟩:=YB h;let⟨xs,hxs,rfl⟩:=YE h;rw[qi,hn Y xs hxs]
end
structure Ţ(O:Cn)(P:dy)(w:cA)(K:aS)(mg:aj->au aw)(base:Heap)(x:aj)(n k:ag)(F:Z D->au D):Prop where
 ex:∃f fd ps,YY P w K mg base ã k f fd ps (θ O K n F)/\mg x=U (.ref f)/\gr K (.ref f)=ai/\fK K fd ps []
structure YS(K:aS)(mg:aj->au aw)(x:aj)(st:Stmt):Prop where
 ex:∃f fd,Ĳ K x x st f fd/\mg x=U (.ref f)
def uS{k:ag}{F:Z D->au D}(XI:Ţ O X.prog X.w X.K X.mg X.base x n k F)(hr:YK j X.A)(hk:k<=j)(hg:Gl X x)(ha:DA O X (e::es) fr)(hn:∀Y ds,fr Y=U ds->ds.length=n)
  (Ô:(x==("__debug__":aj))=ar:=by decide)(he:aM (e::es) X.env=(ar,eval e X.env)::aM es X.env:=by rfl)(YR:(bW pos (aM es X.env)).any (·.1)=ar:=by rfl):
  DE O X (.Call (.Name x p) (e::es) [] pos) (cF F fr):=by
 let⟨f,fd,ps,h1,h2,h3,h4⟩:=XI.ex;show Sg h1 (hr.mono hk) hg h2 h3 h4 ha hn Ô he YR
def YS.cal{k:ag}(F:YS K mg x st)(S:YC N ps (aC st))
  (M:∀(kV YV pm:aw)(an:au av)(X1 ct:aw)(E:Z aw),E.length=ps.length->eX (cX x x (cY st) (ca st) (aC st) .none kV YV pm an X1 ct) #[E,[]]=bc (ps.zip E))
  (X8:∀(f:av)(X1:aw)(A:cJ)(outer:Z cB)(s:aH)(H:Hp)(us:XK),YK k (A.deeper (dj x (aC st) s.heap.objs.size f X1))->
   Zn O (dH ã P w K mg base N x (aC st) f X1 A outer s H us).nox (ca st) g):Ţ O P w K mg base x ps.length (k+1) (aO (N.length-ps.length) g):=by
 let⟨f,fd,h1,h2⟩:=F.ex;show#[f,fd,ps,h1.okD S (X8 f),h2,h1.kp,h1.binds M]
def YS.mk'{h:Heap}{f:av}{kV:aw}(X:K.In h)(G:h.Ns fu mg)(a:sx K fu x=U (U (.ref f)))
  (l:K.lookup f=U #[oc,od,.func (cX x x (cY st) (ca st) (aC st) .none kV YV pm an X1 ct),Ē])(c:nj K X1 x=ai)(k:gr K (.ref f)=ai):YS K mg x st:=
 #[f,_,wW l c k,sy X G a]
noncomputable def tX(names:Z (aj×hV))(outer:Z (aj×hV)):aJ:=
 names.all λy=>y.2 != .cell && (y.2 != .local || names.lookup y.1==U .local) && (y.2 != .free || outer.lookup y.1==U .cell || outer.lookup y.1==U .free)
def YH.of(hk:scope.kind=.function)(h:tX scope.names X.env.scope.names=ai):YH X scope:=by
 unfold tX at h;rw[iu] at h;show#[hk,λy hy e=>?_,λy hy e=>?_,λy hy e=>?_]
 .let:=h y hy;rw[e] at this;simp at this
 .let:=h y hy;rw[e] at this;simpa using this
 .let:=h y hy;rw[e] at this;simpa[Env.kindOf] using this
noncomputable def sR(N':Z aj)(fv:Z (au ag))(N:Z aj)(outer names:Z (aj×hV)):aJ:=
 fv.length==N'.length && (N'.zip fv).all λy=>match y.2 with
  |none=>ai
  |some j=>N[j]?==U y.1 && (outer.lookup y.1==U .cell || outer.lookup y.1==U .free) && names.lookup y.1==U .free
def Ý.of(h:sR N' fv X.N X.env.scope.names scope.names=ai):Ý X N' scope fv:=by
 unfold sR at h;rw[cW,iu] at h;let⟨h1,h2⟩:=h;show#[by simpa using h1,λi j x e1 e2=>?_];let hm:(x,U j)∈N'.zip fv:=by show vU.mpr #[i,?_];rw[List.getElem?_zip_eq_some];show#[e1,e2]
 let:=h2 _ hm;simp only[cW,GX,ko] at this;show#[this.1.1,this.1.2,this.2]
mutual
def Zh:D->au zV
 |.non=>U .none
 |.bl b=>U (.bool b)
 |.int i=>U (.int i)
 |.str x=>U (.str x)
 |.tup l=>(iD l).map PyData.tuple
 |.lst l=>(iD l).map PyData.list
 |.scr ns=>U (.list (ns.map VA))
 |_=>B
def iD:Z D->au (Z zV)
 |[]=>U []
 |d::r=>(Zh d).bind λp=>(iD r).map (p::·)
end
def KM{h:Heap}:∀{ns:Z ah}{E:Z aw},bi (ns.map V.int) E->∃as,ReadsAll h E (ns.map VA) as:=by
 intro X7
 induction X7 with
 |nil=>
  intro _ r;rw[qQ] at r;cases r;show#[_,.nil]
 |cons n ns ih=>
  intro _ r;rw[qo] at r;cases r with
  |cons r1 r2=>
   let⟨t,e⟩:=r1;subst e;let⟨as,q⟩:=ih r2;show#[_,.cons (.int n t) q]
def X9.reads(I:XS X Z' L H s)(gh:aY G H){p:zV}(r:X9 O X.K G v d):bF v u->Zh d=U p->∃as,Reads s.heap u p as:=by
 show r.rec (motive_2:=λvs ds _=>∀E ps,bi vs E->iD ds=U ps->∃as,ReadsAll s.heap E ps as) ?_ ?_ ?_ ?_ ?_ ?_ ?_ ?_ ?_ ?_ ?_ ?_ ?_ ?_ ?_ u p
 .intro u p r h;cases r;rw[Zh] at h;cases h;show#[_,.none]
 .intro b u p r h;cases r;rw[Zh] at h;cases h;show#[_,.bool b]
 .intro i u p r h;let⟨t,rfl⟩:=r;rw[Zh] at h;cases h;show#[_,.int i t]
 .intro x u p r h;let⟨t,rfl⟩:=r;rw[Zh] at h;cases h;show#[_,.str x t]
 .intro n u p r h;rw[Zh] at h;cases h;all_goals (intros;contradiction)
 .intro a vs ds ha _ i u p r h;cases r;rw[Zh] at h;let⟨ps,hp,rfl⟩:=YE h;let⟨XY,rv,⟨o,e1,e2,n,e3⟩,_⟩:=I.tuple (.inl (.inl (gh _ _ ha)));let⟨as,q⟩:=i _ _ rv hp;show#[_,.tuple e1 e2 e3 (by simpa using q)]
 .intro a vs ds ha _ i u p r h;cases r;rw[Zh] at h;let⟨ps,hp,rfl⟩:=YE h;let⟨XY,rv,⟨o,n,e1,e2,_,e3⟩,_⟩:=I.list (.inl (.inl (gh _ _ ha)));let⟨as,q⟩:=i _ _ rv hp;show#[_,.list e1 e2 e3 (by simpa using q)]
 .intro a ns hs u p r h;cases r;rw[Zh] at h;cases h;let⟨XY,rv,⟨o,n,e1,e2,_,e3⟩,_⟩:=I.list (gh.seq hs);let⟨as,q⟩:=KM rv;show#[_,.list e1 e2 e3 (by simpa using q)]
 iterate 5
  .intros
   rename_i h;rw[Zh] at h;cases h;all_goals (intros;contradiction)
 .intro E ps r h;cases r;rw[iD] at h;cases h;show#[_,.nil]
 .intro v d vs ds _ _ i1 i2 E ps r h;cases r with
  |cons q1 q2=>
   rw[iD] at h;let⟨p,hp,h⟩:=YB h;let⟨ps,hps,rfl⟩:=YE h;let⟨as,a1⟩:=i1 _ _ q1 hp;let⟨bs,a2⟩:=i2 _ _ q2 hps;show#[_,.cons a1 a2]
section
variable{a c:Expr}
noncomputable def eqX(x y:D):au aJ:=(Zh x).bind λp=>(Zh y).bind λq=>if fP p=ai/\fP q=ai then U (jJ p q) else B
def t5(x y:D):au D:=(eqX x y).map D.bl
def nQ(x y:D):au D:=(eqX x y).map λb=>D.bl (!b)
def rX(O:Cn)(K:aS)(neg:aJ):R2:=λx y H Q=>∃G d e b,aY G H/\X9 O K G x d/\X9 O K G y e/\eqX d e=U b/\Q (.bl (if neg then !b else b)) H
def AF{x y:D}{b:aJ}(h:eqX x y=U b):∃p q,Zh x=U p/\Zh y=U q/\fP p=ai/\fP q=ai/\b=jJ p q:=by
 let⟨p,hp,h⟩:=YB h;let⟨q,hq,h⟩:=YB h;split at h
 .rename_i hz;cases h;show#[p,q,hp,hq,hz.1,hz.2,W]
 .cases h
def Up(hu:X.A.units+64<cq):Yl X (dB .Eq) (rX O X.K ar):=by intro Z' s L H x y v u Q I rx ry h;let⟨G,d,e,b,gh,r1,r2,M,q⟩:=h;let⟨p,q',hp,hq,s1,s2,rfl⟩:=AF M;let⟨as,a1⟩:=r1.reads I gh rx hp;let⟨bs,a2⟩:=r2.reads I gh ry hq;show eq_dataH a1 a2 s1 s2 hu #[.bl _,H,I,W,q]
def N1(hu:X.A.units+64<cq):Yl X (dB .NotEq) (rX O X.K ai):=by intro Z' s L H x y v u Q I rx ry h;let⟨G,d,e,b,gh,r1,r2,M,q⟩:=h;let⟨p,q',hp,hq,s1,s2,rfl⟩:=AF M;let⟨as,a1⟩:=r1.reads I gh rx hp;let⟨bs,a2⟩:=r2.reads I gh ry hq;show ne_dataH a1 a2 s1 s2 hu #[.bl _,H,I,W,q]
def Pm(hu:X.A.units+64<cq):Yb O X .Eq t5:=#[_,Up hu,λ{G H v u x y z}gh r1 r2 h Q k=>by let⟨b,M,rfl⟩:=YE h;show#[G,x,y,b,gh,r1,r2,M,k _ G H (.refl gh) (.bl _)]]
def KB(hu:X.A.units+64<cq):Yb O X .NotEq nQ:=#[_,N1 hu,λ{G H v u x y z}gh r1 r2 h Q k=>by let⟨b,M,rfl⟩:=YE h;show#[G,x,y,b,gh,r1,r2,M,k _ G H (.refl gh) (.bl _)]]
noncomputable def inX(x y:D):au aJ:=(Zh x).bind λp=>(Zh y).bind λq=>match q with
 |.list l=>if fP p=ai/\o8 l=ai then U (l.any λz=>jJ z p) else B
 |_=>B
def l9(x y:D):au D:=(inX x y).map D.bl
def jR(x y:D):au D:=(inX x y).map λb=>D.bl (!b)
def CB(O:Cn)(K:aS)(neg:aJ):R2:=λx y H Q=>∃G d e b,aY G H/\X9 O K G x d/\X9 O K G y e/\inX d e=U b/\Q (.bl (if neg then !b else b)) H
def ES{x y:D}{b:aJ}(h:inX x y=U b):∃p l,Zh x=U p/\Zh y=U (.list l)/\fP p=ai/\o8 l=ai/\b=l.any λz=>jJ z p:=by
 let⟨p,hp,h⟩:=YB h;let⟨q,hq,h⟩:=YB h;split at h
 .split at h
  .rename_i hz;cases h;show#[p,_,hp,hq,hz.1,hz.2,W]
  .cases h
 .cases h
def Fj{p:zV}(h:fP p=ai):p.canLay0=ai/\p.depth<=64:=by unfold fP at h;rw[cW] at h;show#[h.1,eq h.2]
def Pu(hu:X.A.units+66<cq):Yl X (dB .In) (CB O X.K ar):=by intro Z' s L H x y v u Q I rx ry h;let⟨G,d,e,b,gh,r1,r2,M,q⟩:=h;let⟨p,l,hp,hq,s1,s2,rfl⟩:=ES M;let⟨as,a1⟩:=r1.reads I gh rx hp;let⟨bs,a2⟩:=r2.reads I gh ry hq;let⟨c1,c2⟩:=Fj s1;show SeqAt.in_list_reads a2 a1 s2 c1 .(b) #[.bl _,H,I,W,q]
def JX(hu:X.A.units+66<cq):Yl X (dB .NotIn) (CB O X.K ai):=by intro Z' s L H x y v u Q I rx ry h;let⟨G,d,e,b,gh,r1,r2,M,q⟩:=h;let⟨p,l,hp,hq,s1,s2,rfl⟩:=ES M;let⟨as,a1⟩:=r1.reads I gh rx hp;let⟨bs,a2⟩:=r2.reads I gh ry hq;let⟨c1,c2⟩:=Fj s1;show SeqAt.notIn_list_reads a2 a1 s2 c1 .(b) #[.bl _,H,I,W,q]
def Bx(hu:X.A.units+66<cq):Yb O X .In l9:=#[_,Pu hu,λ{G H v u x y z}gh r1 r2 h Q k=>by let⟨b,M,rfl⟩:=YE h;show#[G,x,y,b,gh,r1,r2,M,k _ G H (.refl gh) (.bl _)]]
def BV(hu:X.A.units+66<cq):Yb O X .NotIn jR:=#[_,JX hu,λ{G H v u x y z}gh r1 r2 h Q k=>by let⟨b,M,rfl⟩:=YE h;show#[G,x,y,b,gh,r1,r2,M,k _ G H (.refl gh) (.bl _)]]
def cu{k:ag}(hr:YK k X.A):X.A.units+66<cq:=by let:=hr.un;ext
def uv{k:ag}(hr:YK k X.A):X.A.units+64<cq:=by let:=hr.un;ext
noncomputable def jV(d:D):aJ:=match d with
 |.non=>ai
 |_=>ar
def Zz(x y:D):au D:=match y with
 |.non=>U (.bl (jV x))
 |_=>B
def jc(x y:D):au D:=match y with
 |.non=>U (.bl (!jV x))
 |_=>B
def Dq(r:X9 O K G v d):decide (v=.non)=jV d:=by cases r<;>simp[jV]
def Ex:Yb O X .Is Zz:=#[_,O4,λ{G H v u x y z}gh r1 r2 h Q k=>by unfold Zz at h;split at h<;>cases h;show#[r2.non_inv,by rw[Dq r1];show k _ G H (.refl gh) (.bl _)]]
def BD:Yb O X .IsNot jc:=#[_,Us,λ{G H v u x y z}gh r1 r2 h Q k=>by unfold jc at h;split at h<;>cases h;show#[r2.non_inv,by rw[Dq r1];show k _ G H (.refl gh) (.bl _)]]
end
variable{fx:FE}
section
variable{a c i:Expr}
def Step.back(gh:aY G H)(s1:aY G G1)(s:Step G1 H G' H'):Step G H G H':=#[s.hh,.refl _,(s1.trans s.gg).trans s.gh,λ_ _ _ _=>rfl]
def X9.flat(r:X9 O K G v d)(h:gA d=ai):X9 O K G' v d:=by
 cases r with
 |non=>show .non
 |bl b=>show .bl b
 |int i=>show .int i
 |str x=>show .str x
 |_=>cases h
noncomputable def gR(i:ag)(f:FE):FS:=λY=>match Y[i]? with
 |some (U (.own ds))=>(f Y).bind λd=>match d with
  |.lst l=>if ds.length+l.length<=aK then U (.nx,Y.set i (U (.own (ds++l)))) else B
  |_=>B
 |_=>B
def vg(i:ag)(h:DE O X e f)(hN:X.N[i]?=U x:=by rfl)(hv:Ġ X.env.scope x:=by ac_nf)(hd:(x==("__debug__":aj))=ar:=by decide)
  (Yp:(x==("__classdict__":aj))=ar:=by decide)
  (Ys:gN (.Name x vp) "extend" X.env (eval (.Name x vp) X.env)=eval (.Name x vp) X.env:=by rfl)
  (ī:((bW YG (aM [e] X.env)).all (λx=>!x.1) && (jH YG (jI [] X.env)).all (λx=>x.1.isSome)
   && decide ([e].length+([]:Z iy).length+(if ([]:Z iy).isEmpty then 0 else 1)<30))=ai:=by rfl)
  (Yr:(YN.endLine==YG.line)=ai:=by rfl)(hs:aM [e] X.env=(ar,eval e X.env)::aM [] X.env:=by rfl)(Za:(bW YG (aM [] X.env)).any (·.1)=ar:=by rfl)
  (ũ:dA (.Call (.Attribute (.Name x vp) "extend" YN) [e] [] YG) B pos.line X.env=bc ar:=by rfl):
  DS O X (.Expr (.Call (.Attribute (.Name x vp) "extend" YN) [e] [] YG) pos) (gR i f):=⟨(wM (wA Vz Vi PySem.F.type_list_extend Ig (gH hN hv hd Yp) (gP h.1 gW hs) Ys ī Yr hs Za) ũ).imp λus L H=>by
  rintro⟨Z8,Z9,G,Y,fl,Y',A,h,k⟩;unfold gR at h;split at h
  .rename_i ds hi;let⟨d,hd,h⟩:=YB h;split at h
   .rename_i l;split at h
    .rename_i hz;cases h;let⟨a,vs,h1,h2,h3,h4,h5⟩:=A.env.own i ds hi;show#[.ref a,h1,.inl #[W,vs,.inl (.inl h4)],Z8,Z9,G,Y,_,A,hd,λv G1 H1 s1 r1=>?_];let A1:=A.step s1;let⟨b,E,rfl,M,rb⟩:=r1.lst_inv;show#[a,b,vs,E,W,W,s1.hh _ _ h4,s1.gh _ _ M,by rw[h5.length,rb.length];show hz,?_];show k L G1 _ s1.gg (A1.chOwn hi h1 ((h5.mono s1.gg).append rb))
    .cases h
   .cases h
  .cases h⟩
noncomputable def zb:Z D->au D
 |[.lst l]=>U (.tup l)
 |[.tup l]=>U (.tup l)
 |_=>B
def T9:TyD O X "tuple" zb:=#[_,So,λ{G H vs ds z}gh r h Q k=>by
 unfold zb at h;split at h<;>cases h
 .obtain⟨v,rfl,r1⟩:=r.one;let⟨a,E,rfl,ha,ra⟩:=r1.lst_inv;show#[a,E,W,.inl #[.inl (.inl (gh _ _ ha)),tN gh ra k]]
 .obtain⟨v,rfl,r1⟩:=r.one;let⟨a,E,rfl,ha,ra⟩:=r1.tup_inv;show#[a,E,W,.inr #[.inl (.inl (gh _ _ ha)),k _ G H (.refl gh) (.tup ha ra)]]]
noncomputable def bw[dJ κ](XJ:Z (κ×α))(k:κ):au α:=(XJ.find? λkv=>decide (kv.1=k)).map (·.2)
noncomputable def ce[dJ κ](XJ:Z (κ×α))(k:κ)(v:α):Z (κ×α):=
 if (XJ.any λkv=>decide (kv.1=k))=ai then XJ.map (λkv=>if kv.1=k then (kv.1,v) else kv) else XJ++[(k,v)]
def pC{κ:Type}[dJ κ]{K:aS}{G:Hp}{k:κ}:∀{E:Z (κ×V)}{XJ:Z (κ×D)},E.map (·.1)=XJ.map (·.1)->XO O K G (E.map (·.2)) (XJ.map (·.2))->
  (bw XJ k=B/\gI E k=B)\/∃d v,bw XJ k=U d/\gI E k=U v/\X9 O K G v d
 |[],[],_,_=>.inl #[W,W]
 |[],_::_,e,_=>by cases e
 |_::_,[],e,_=>by cases e
 |(k1,v)::E,(k2,d)::XJ,e,r=>by
  let e1:k1=k2:=(eZ e).1;let e2:E.map (·.1)=XJ.map (·.1):=(eZ e).2;subst e1;cases r with
  |cons r1 r2=>
   by_cases h:k1=k
   .exact .inr #[d,v,by simp[bw,eY,h],u8 h,r1]
   .let:=pC (k:=k) e2 r2;rw[uc h];simpa[bw,eY,h] using this
def B4{κ:Type}[dJ κ]{k:κ}{α β:Type}:∀{E:Z (κ×α)}{XJ:Z (κ×β)},E.map (·.1)=XJ.map (·.1)->(E.any λkv=>decide (kv.1=k))=(XJ.any λkv=>decide (kv.1=k))
 |[],[],_=>rfl
 |[],_::_,e=>by cases e
 |_::_,[],e=>by cases e
 |(k1,v)::E,(k2,d)::XJ,e=>by let e1:k1=k2:=(eZ e).1;subst e1;rw[ky,ky,B4 (eZ e).2]
def A9{κ:Type}[dJ κ]{K:aS}{G:Hp}{k:κ}{v:V}{d:D}(rv:X9 O K G v d):∀{E:Z (κ×V)}{XJ:Z (κ×D)},E.map (·.1)=XJ.map (·.1)->XO O K G (E.map (·.2)) (XJ.map (·.2))->
  (E.map λkv=>if kv.1=k then (kv.1,v) else kv).map (·.1)=(XJ.map λkv=>if kv.1=k then (kv.1,d) else kv).map (·.1)/\XO O K G ((E.map λkv=>if kv.1=k then (kv.1,v) else kv).map (·.2)) ((XJ.map λkv=>if kv.1=k then (kv.1,d) else kv).map (·.2))
 |[],[],_,_=>#[W,.nil]
 |[],_::_,e,_=>by cases e
 |_::_,[],e,_=>by cases e
 |(k1,u)::E,(k2,x)::XJ,e,r=>by
  let e1:k1=k2:=(eZ e).1;let e2:E.map (·.1)=XJ.map (·.1):=(eZ e).2;subst e1;cases r with
  |cons r1 r2=>
   let⟨h1,h2⟩:=A9 (k:=k) rv e2 r2;by_cases h:k1=k
   .subst h;simp only[qo,cx];show#[by rw[h1],.cons rv h2]
   .simp only[qo,qZ h];show#[by rw[h1],.cons r1 h2]
def oM[dJ κ]{k:κ}(rv:X9 O K G v d){E:Z (κ×V)}{XJ:Z (κ×D)}(e:E.map (·.1)=XJ.map (·.1))(r:XO O K G (E.map (·.2)) (XJ.map (·.2))):
  (putK E k v).map (·.1)=(ce XJ k d).map (·.1)/\XO O K G ((putK E k v).map (·.2)) ((ce XJ k d).map (·.2)):=by
 unfold putK ce;rw[B4 e];split
 .exact A9 rv e r
 .simp only[dN,qo,qQ];show#[by rw[e],r.append (.cons rv .nil)]
def gG:D->au XR
 |.int i=>U (.inl i)
 |.str x=>U (.inr x)
 |_=>B
def ff:Z D->au (Z XR)
 |[]=>U []
 |d::r=>(gG d).bind λk=>(ff r).map (k::·)
def mv{k:XR}(r:X9 O K G v d)(h:gG d=U k):v=kV k:=by
 unfold gG at h;split at h<;>cases h
 .exact r.int_inv
 .exact r.str_inv
def jY{K:aS}{G:Hp}:∀{vs:Z V}{ds:Z D}{ks:Z XR},XO O K G vs ds->ff ds=U ks->vs=ks.map kV
 |_,[],ks,r,h=>by cases r;cases h;rfl
 |_,d::ds,ks,.cons h1 h2,h=>by let⟨k,hk,h⟩:=YB h;let⟨zs,hz,rfl⟩:=YE h;rw[mv h1 hk,jY h2 hz];rfl
def jA(d k:D):au (au D):=match d,k with
 |.dk l,k=>(gG k).map (bw l)
 |.fdk l,k=>(gG k).map (bw l)
 |.dt l,.tup t=>(ff t).map (bw l)
 |.fdt l,.tup t=>(ff t).map (bw l)
 |_,_=>B
def Ez{k:D}{r:au D}(gh:aY G H)(rv:X9 O K G v d)(h:jA d k=U r):∃a,v=.ref a/\IsD H a:=by
 unfold jA at h;split at h
 .cases rv with
  |dk h _ _=>show#[_,W,.inl #[_,.inl (gh _ _ h)]]
 .cases rv with
  |fdk h _ _=>show#[_,W,.inl #[_,.inr #[_,gh _ _ h]]]
 .cases rv with
  |dt h _ _=>show#[_,W,.inr #[_,.inl (gh _ _ h)]]
 .cases rv with
  |fdt h _ _=>show#[_,W,.inr #[_,.inr #[_,gh _ _ h]]]
 .cases h
def pA{k:D}{r:au D}(gh:aY G H)(rv:X9 O K G v d)(ry:X9 O K G y k)(h:jA d k=U r):
  ∃a o,v=.ref a/\fS H a y o/\((r=B/\o=B)\/∃w z,r=U z/\o=U w/\X9 O K G w z):=by
 unfold jA at h;split at h
 .obtain⟨kk,hk,rfl⟩:=YE h;cases rv with
  |dk h1 h2 h3=>
   let ey:=mv ry hk;subst ey;show#[_,_,W,fS.k (gh _ _ h1),?_];rcases pC h2 h3 with⟨q1,q2⟩|⟨z,w,q1,q2,q3⟩
   .exact .inl #[q1,q2]
   .exact .inr #[w,z,q1,q2,q3]
 .obtain⟨kk,hk,rfl⟩:=YE h;cases rv with
  |fdk h1 h2 h3=>
   let ey:=mv ry hk;subst ey;show#[_,_,W,.inl #[_,kk,.inr #[_,gh _ _ h1],W,W],?_];rcases pC h2 h3 with⟨q1,q2⟩|⟨z,w,q1,q2,q3⟩
   .exact .inl #[q1,q2]
   .exact .inr #[w,z,q1,q2,q3]
 .obtain⟨kk,hk,rfl⟩:=YE h;cases rv with
  |dt h1 h2 h3=>
   let⟨b,ys,rfl,M,rb⟩:=ry.tup_inv;let ey:=jY rb hk;subst ey;show#[_,_,W,fS.t (gh _ _ h1) (gh _ _ M),?_];rcases pC h2 h3 with⟨q1,q2⟩|⟨z,w,q1,q2,q3⟩
   .exact .inl #[q1,q2]
   .exact .inr #[w,z,q1,q2,q3]
 .obtain⟨kk,hk,rfl⟩:=YE h;cases rv with
  |fdt h1 h2 h3=>
   let⟨b,ys,rfl,M,rb⟩:=ry.tup_inv;let ey:=jY rb hk;subst ey;show#[_,_,W,.inr #[_,kk,_,.inr #[_,gh _ _ h1],W,gh _ _ M,W],?_];rcases pC h2 h3 with⟨q1,q2⟩|⟨z,w,q1,q2,q3⟩
   .exact .inl #[q1,q2]
   .exact .inr #[w,z,q1,q2,q3]
 .cases h
def aT(d k:D):au D:=(jA d k).bind id
def NX(hu:X.A.units+66<cq)(ho:DE O X o fo)(hi:DE O X i fi')(hs:wY i:=by intro _ _;rfl):DE O X (.Subscript o i pos) (b2 aT fo fi'):=⟨(Uf .(b) ho.1 hi.1 hs).imp λL H Q=>by
 rintro⟨Z8,Z9,G,Y,d,A,h,k⟩;let⟨x,hx,h⟩:=YB h;let⟨y,hy,h⟩:=YB h;show#[Z8,Z9,G,Y,x,A,hx,λv G1 H1 s1 r1=>#[Z8,Z9,G1,Y,y,A.step s1,hy,λu G2 H2 s2 r2=>?_]];let⟨r,hr,h⟩:=YB h;let⟨a,ov,rfl,hg,hc⟩:=pA s2.gh (r1.mono s2.gg) r2 hr;rcases hc with⟨rfl,_⟩|⟨w,z,rfl,rfl,Zk⟩
 .cases h
 .cases h;show#[a,w,W,hg,k w G2 H2 (s1.trans s2) Zk]⟩
def xg(d k:D):au D:=(jA d k).map λr=>r.getD .non
def DU(hu:X.A.units+66<cq)(ho:DE O X o fo)(he:DE O X e f)(m:M1 X o "get" YN e YG:=by show#[W,W,W,W]):DE O X (.Call (.Attribute o "get" YN) [e] [] YG) (b2 xg fo f):=⟨(SC .(b) ho.1 he.1 m).imp λL H Q=>by
 rintro⟨Z8,Z9,G,Y,d,A,h,k⟩;let⟨x,hx,h⟩:=YB h;let⟨y,hy,h⟩:=YB h;let⟨r,hr,rfl⟩:=YE h;show#[Z8,Z9,G,Y,x,A,hx,λv G1 H1 s1 r1=>?_];let⟨a0,e0,d0⟩:=Ez s1.gh r1 hr;show#[a0,e0,d0,Z8,Z9,G1,Y,y,A.step s1,hy,λu G2 H2 s2 r2=>?_];let⟨a,ov,e1,hg,hc⟩:=pA s2.gh (r1.mono s2.gg) r2 hr;subst e0;cases e1;rcases hc with⟨rfl,rfl⟩|⟨w,z,rfl,rfl,Zk⟩
 .exact#[B,hg,k _ G2 H2 (s1.trans s2) .non]
 .exact#[U w,hg,k w G2 H2 (s1.trans s2) Zk]⟩
def tO(d k x:D):au D:=(jA d k).map λr=>r.getD x
noncomputable def b3(g:D->D->D->au D)(fa fb fc:FE):FE:=λY=>(fa Y).bind λx=>(fb Y).bind λy=>(fc Y).bind λz=>g x y z
def AE(hu:X.A.units+66<cq)(ho:DE O X o fo)(he:DE O X e f)(hf:DE O X c fc)(m:M2 X o "get" YN e c YG:=by show#[W,W,W,W]):DE O X (.Call (.Attribute o "get" YN) [e,c] [] YG) (b3 tO fo f fc):=⟨(HU .(b) ho.1 he.1 hf.1 m).imp λL H Q=>by
 rintro⟨Z8,Z9,G,Y,d,A,h,k⟩;let⟨x,hx,h⟩:=YB h;let⟨y,hy,h⟩:=YB h;let⟨z,hz,h⟩:=YB h;let⟨r,hr,rfl⟩:=YE h;show#[Z8,Z9,G,Y,x,A,hx,λv G1 H1 s1 r1=>?_];let⟨a0,e0,d0⟩:=Ez s1.gh r1 hr;show#[a0,e0,d0,Z8,Z9,G1,Y,y,A.step s1,hy,λu G2 H2 s2 r2=>#[Z8,Z9,G2,Y,z,(A.step s1).step s2,hz,λw3 G3 H3 s3 r3=>?_]];let⟨a,ov,e1,hg,hc⟩:=pA s3.gh (r1.mono (s2.gg.trans s3.gg)) (r2.mono s3.gg) hr;subst e0;cases e1;rcases hc with⟨rfl,rfl⟩|⟨w,z,rfl,rfl,Zk⟩
 .exact#[B,hg,k _ G3 H3 ((s1.trans s2).trans s3) r3]
 .exact#[U w,hg,k w G3 H3 ((s1.trans s2).trans s3) Zk]⟩
def k0(k d:D):au D:=(jA d k).map λr=>.bl r.isSome
def mq(k d:D):au D:=(jA d k).map λr=>.bl (!r.isSome)
def Dr(O:Cn)(K:aS)(neg:aJ):R2:=λy x H Q=>∃G k d r,aY G H/\X9 O K G y k/\X9 O K G x d/\jA d k=U r/\Q (.bl (if neg then !r.isSome else r.isSome)) H
def Ro(hu:X.A.units+66<cq):Yl X (dB .In) (Dr O X.K ar):=by
 intro Z' s L H x y v u Q I rx ry h;let⟨G,kd,d,r,gh,r1,r2,hr,q⟩:=h;let⟨a,ov,rfl,hg,hc⟩:=pA gh r2 r1 hr;cases ry;let e:ov.isSome=r.isSome:=by rcases hc with⟨rfl,rfl⟩|⟨w,z,rfl,rfl,_⟩<;>rfl
 show NC .(b) I hg rx λs3 I3=>#[.bl _,H,I3,W,by rw[e];show q]
def N2(hu:X.A.units+66<cq):Yl X (dB .NotIn) (Dr O X.K ai):=by
 intro Z' s L H x y v u Q I rx ry h;let⟨G,kd,d,r,gh,r1,r2,hr,q⟩:=h;let⟨a,ov,rfl,hg,hc⟩:=pA gh r2 r1 hr;cases ry;let e:ov.isSome=r.isSome:=by rcases hc with⟨rfl,rfl⟩|⟨w,z,rfl,rfl,_⟩<;>rfl
 show MR .(b) I hg rx λs3 I3=>#[.bl _,H,I3,W,by rw[e];show q]
def tG(hu:X.A.units+66<cq):Yb O X .In k0:=#[_,Ro hu,λ{G H v u x y z}gh r1 r2 h Q k=>by let⟨r,hr,rfl⟩:=YE h;show#[G,x,y,r,gh,r1,r2,hr,k _ G H (.refl gh) (.bl _)]]
def xY(hu:X.A.units+66<cq):Yb O X .NotIn mq:=#[_,N2 hu,λ{G H v u x y z}gh r1 r2 h Q k=>by let⟨r,hr,rfl⟩:=YE h;show#[G,x,y,r,gh,r1,r2,hr,k _ G H (.refl gh) (.bl _)]]
noncomputable def sNo:FS:=λ_=>B
def Px:DS O X st sNo:=⟨λZ' s L H us I q=>by let⟨Z8,Z9,G,Y,fl,Y',A,h,k⟩:=q;cases h⟩
end
structure CF(O:Cn)(K:aS)(c:aj)(YO:Z aj):Prop where
 ex:∃XI,O.cls c=U XI/\Ň K XI/\∀f∈YO,kQ K XI f
variable{YO:Z aj}{dp ap:di}{ke:Expr}
section
variable{a c i:Expr}{fv:FE}{cl fl n:aj}
def j6{K:aS}{G:Hp}{k:aj}:∀{E:Z (aj×V)}{fs:Z (aj×D)},E.map (·.1)=fs.map (·.1)->XO O K G (E.map (·.2)) (fs.map (·.2))->
  (fs.lookup k=B/\E.lookup k=B)\/∃d v,fs.lookup k=U d/\E.lookup k=U v/\X9 O K G v d
 |[],[],_,_=>.inl #[W,W]
 |[],_::_,e,_=>by cases e
 |_::_,[],e,_=>by cases e
 |(k1,v)::E,(k2,d)::fs,e,r=>by
  let e1:k1=k2:=(eZ e).1;let e2:E.map (·.1)=fs.map (·.1):=(eZ e).2;subst e1;cases r with
  |cons r1 r2=>
   by_cases h:k=k1
   .subst h;show .inr #[d,v,by simp[cS],by simp[cS],r1]
   .let M:(k==k1)=ar:=by simpa using h
    let:=j6 (k:=k) e2 r2;simpa[cS,M] using this
def pZ{f:aj}:∀{fs:Z (aj×V)},fs.lookup f=B->fm f v fs=fs++[(f,v)]:=by
 intro X7
 induction X7 with
 |nil=>
  intro _;show W
 |cons x0 r ih=>
  let⟨g,x⟩:=x0;intro h;by_cases e:f=g
  .subst e;simp[cS] at h
  .let M:(f==g)=ar:=by simpa using e
   rw[fm,qZ (λz=>e z.symm),ih (by simpa[cS,M] using h)];rfl
noncomputable def Cz(c f:aj):D->au D
 |.ins c' fs=>if c'=c then fs.lookup f else B
 |_=>B
def bh(c f:aj)(fo:FE):FE:=λY=>(fo Y).bind (Cz c f)
def PF(hc:CF O X.K cl YO)(hf:fl∈YO)(ho:DE O X o fo)(M:gN o fl X.env (eval o X.env)=eval o X.env:=by rfl):DE O X (.Attribute o fl pos) (bh cl fl fo):=⟨(ua ho.1 M).imp λL H Q=>by
 rintro⟨Z8,Z9,G,Y,d,A,h,k⟩;let⟨x,hx,hq⟩:=YB h;clear h;show#[Z8,Z9,G,Y,x,A,hx,λv G1 H1 s1 r1=>?_];unfold Cz at hq;split at hq
 .split at hq
  .rename_i ec;subst ec;let⟨XI,q1,q2,q3⟩:=hc.ex;cases r1 with
   |ins h1 h2 h3 h4=>
    rw[q1] at h2;cases h2;rcases j6 h3 h4 with⟨z1,_⟩|⟨d',v',z1,z2,z3⟩
    .rw[z1] at hq;cases hq
    .rw[z1] at hq;cases hq;show#[_,XI,_,_,v',W,s1.gh _ _ h1,q2,q3 fl hf,z2,k v' G1 H1 s1 z3]
  .cases hq
 .cases hq⟩
noncomputable def Az(f:aj):Slot->au D
 |.obj _ fs=>fs.lookup f
 |.objd _ fs n _=>if f=n then B else fs.lookup f
 |_=>B
noncomputable def JK:Slot->au aj
 |.obj c _=>U c
 |.objd c _ _ _=>U c
 |_=>B
def jb(c f:aj)(i:ag):FE:=λY=>match Y[i]? with
 |some (U s)=>if JK s=U c then Az f s else B
 |_=>B
def J3{vs:Z (aj×V)}{f:aj}{w:V}(h:vs.lookup f=U v):(vs++[(n,w)]).lookup f=U v:=by
 induction vs with
 |nil=>cases h
 |cons p r ih=>
  let⟨g,x⟩:=p;by_cases e:f=g
  .subst e;simpa[cS] using h
  .let M:(f==g)=ar:=by simpa using e
   simp only[qq,cS,M] at h ⊢;show ih h
def uI(i:ag)(hc:CF O X.K cl YO)(hf:fl∈YO)(hN:X.N[i]?=U x:=by rfl)(hv:Ġ X.env.scope x:=by ac_nf)(hd:(x==("__debug__":aj))=ar:=by decide)
  (Yp:(x==("__classdict__":aj))=ar:=by decide)(M:gN (.Name x vp) fl X.env (eval (.Name x vp) X.env)=eval (.Name x vp) X.env:=by rfl):DE O X (.Attribute (.Name x vp) fl pos) (jb cl fl i):=⟨(ua (gH hN hv hd Yp) M).imp λL H Q=>by
 rintro⟨Z8,Z9,G,Y,d,A,h,k⟩;unfold jb at h;split at h
 .rename_i s hi;split at h
  .rename_i hcl;let⟨XI,q1,q2,q3⟩:=hc.ex;let⟨v,fp,h1,h2⟩:=A.get hi;cases h2 with
   |sh _=>cases h
   |own _ _ _ _=>cases h
   |odk _ _ _ _ _=>cases h
   |odt _ _ _ _ _=>cases h
   |fo _ _ _ _ _ _ _=>cases h
   |obj g1 g2 g3 g4 g5 g6 g7=>
    cases hcl;rw[q1] at g1;cases g1;let h:cS fl _=U d:=h;rcases j6 g5 g6 with⟨z1,_⟩|⟨d',v',z1,z2,z3⟩
    .rw[z1] at h;cases h
    .rw[z1] at h;cases h;show#[_,h1,_,XI,_,_,v',W,g4,q2,q3 fl hf,z2,k v' G H (.refl A.gh) z3]
   |objd g1 g2 g3 g4 g5 g6 _ _ _ _ _ g7=>
    cases hcl;rw[q1] at g1;cases g1;unfold Az at h;simp only at h;split at h
    .cases h
    .rcases j6 g5 g6 with⟨z1,_⟩|⟨d',v',z1,z2,z3⟩
     .rw[z1] at h;cases h
     .rw[z1] at h;cases h;show#[_,h1,_,XI,_,_,v',W,g4,q2,q3 fl hf,J3 z2,k v' G H (.refl A.gh) z3]
  .cases h
 .cases h⟩
noncomputable def gS(c f:aj)(i:ag)(fv:FE):FS:=λY=>(fv Y).bind λd=>match Y[i]? with
 |some (U (.obj c' fs))=>if c'=c/\fs.lookup f=B/\fs.length<100 then U (.nx,Y.set i (U (.obj c (fs++[(f,d)])))) else B
 |_=>B
def jj(i:ag)(hc:CF O X.K cl YO)(hf:fl∈YO)(Zt:DE O X YL fv)(hN:X.N[i]?=U x:=by rfl)(hv:Ġ X.env.scope x:=by ac_nf)(hd:(x==("__debug__":aj))=ar:=by decide)
  (Yp:(x==("__classdict__":aj))=ar:=by decide)(hs:dA YL (U (.Attribute (.Name x vp) fl YQ)) pos.line X.env=bc ar:=by rfl):DS O X (.Assign [.Attribute (.Name x vp) fl YQ] YL pos) (gS cl fl i fv):=⟨(pV (gH hN hv hd Yp) Zt.1 hs).imp λus L H=>by
 rintro⟨Z8,Z9,G,Y,flw,Y',A,h,k⟩;let⟨d,hd,h⟩:=YB h;split at h
 .rename_i c' fs hi;split at h
  .rename_i hz;let⟨rfl,á,hz3⟩:=hz;cases h;let⟨XI,q1,q2,q3⟩:=hc.ex;show#[Z8,Z9,G,Y,d,A,hd,λv G1 H1 s1 r1=>?_];let A1:=A.step s1;let⟨w,fp,h1,h2⟩:=A1.get hi;cases h2 with
   |obj g1 g2 g3 g4 g5 g6 g7=>
    rename_i a C' dx vs;let Zy:=g1;rw[q1] at g1;cases g1;let hl:vs.lookup fl=B:=by
     rcases j6 g5 g6 with⟨_,z2⟩|⟨d',v',z1,_,_⟩
     .exact z2
     .rw[z1] at á;cases á
    let X2:vs.length=fs.length:=by simpa using bM cC g5
    show#[_,h1,a,XI,dx,vs,W,g4,q2,q3 fl hf,by ext,?_];rw[pZ hl];show k L G1 _ s1.gg (A1.ch hi h1 (.obj Zy g2 g3 g4 g5 g6 g7) (λb o e M=>?_) (.obj Zy g2 g3 bf (by simp[g5]) (by simpa using g6.append (.cons r1 .nil)) g7) (λb M=>.inl M) (.refl _) (λb o e=>?_) (λ_ _ _ _ _=>rfl))
    .rw[aD (λz=>M (bL.mpr z))];show e
    .rw[aD (bH e g3)];show A1.gh b o e
  .cases h
 .cases h⟩
noncomputable def nU(c f:aj)(i:ag):FS:=λY=>match Y[i]? with
 |some (U (.obj c' fs))=>if c'=c/\fs.lookup f=B/\fs.length<100 then U (.nx,Y.set i (U (.objd c fs f []))) else B
 |_=>B
def M3(i:ag)(hc:CF O X.K cl YO)(hf:fl∈YO)(hN:X.N[i]?=U x:=by rfl)(hv:Ġ X.env.scope x:=by ac_nf)(hd:(x==("__debug__":aj))=ar:=by decide)
  (Yp:(x==("__classdict__":aj))=ar:=by decide)(hs:dA (.Dict [] [] dp) (U (.Attribute (.Name x vp) fl YQ)) pos.line X.env=bc ar:=by rfl):DS O X (.Assign [.Attribute (.Name x vp) fl YQ] (.Dict [] [] dp) pos) (nU cl fl i):=⟨(pV (gH hN hv hd Yp) vd hs).imp λus L H=>by
 rintro⟨Z8,Z9,G,Y,flw,Y',A,h,k⟩ p hp;unfold nU at h;split at h
 .rename_i c' fs hi;split at h
  .rename_i hz;let⟨rfl,á,hz3⟩:=hz;cases h;let⟨XI,q1,q2,q3⟩:=hc.ex;let⟨w,fp,h1,h2⟩:=A.get hi;cases h2 with
   |obj g1 g2 g3 g4 g5 g6 g7=>
    rename_i a C' dx vs;let Zy:=g1;rw[q1] at g1;cases g1;let hl:vs.lookup fl=B:=by
     rcases j6 g5 g6 with⟨_,z2⟩|⟨d',v',z1,_,_⟩
     .exact z2
     .rw[z1] at á;cases á
    let X2:vs.length=fs.length:=by simpa using bM cC g5
    let ê:a≠p:=bH g4 hp;show#[_,h1,a,XI,dx,vs,W,by rw[aD ê];show g4,q2,q3 fl hf,by ext,?_];rw[pZ hl];let hp0:Z9 p=B:=A.st.hh.free hp;let υ:G p=B:=A.gh.free hp;show k L G _ (.refl _) (A.ch hi h1 (.obj Zy g2 g3 g4 g5 g6 g7) (λb o e M=>?_) (.objd Zy g2 g3 bf g5 g6 hp0 υ (by rw[aD ê.symm,bf]) W .nil g7) (λb M=>?_) (.refl _) (λb o e=>?_) (λ_ _ _ _ _=>rfl))
    .rw[aD (λz=>M (bL.mpr z)),aD (bH e hp)];show e
    .rcases cg.mp M with rfl|M
     .exact .inl (bL.mpr W)
     .rw[bL.mp M];show .inr hp
    .rw[aD (bH e g3),aD (bH e υ)];show A.gh b o e
  .cases h
 .cases h⟩
def mN(c f:aj)(i:ag)(fk fv:FE):FS:=λY=>(fv Y).bind λd=>(fk Y).bind λkd=>(gG kd).bind λk=>match Y[i]? with
 |some (U (.objd c' fs n XJ))=>if c'=c/\n=f/\fs.lookup f=B/\XJ.length<100000 then U (.nx,Y.set i (U (.objd c fs n (ce XJ k d)))) else B
 |_=>B
def Uc{vs:Z (aj×V)}{f:aj}{w:V}(h:vs.lookup f=B):(vs++[(f,w)]).lookup f=U w:=by
 induction vs with
 |nil=>simp[cS]
 |cons p r ih=>
  let⟨g,x⟩:=p;by_cases e:f=g
  .subst e;simp[cS] at h
  .let M:(f==g)=ar:=by simpa using e
   simp only[qq,cS,M] at h ⊢;show ih h
def T0(i:ag)(hu:X.A.units+66<cq)(hc:CF O X.K cl YO)(hf:fl∈YO)(hk:DE O X ke fk)(Zt:DE O X YL fv)(hN:X.N[i]?=U x:=by rfl)(hv:Ġ X.env.scope x:=by ac_nf)(hd:(x==("__debug__":aj))=ar:=by decide)
  (Yp:(x==("__classdict__":aj))=ar:=by decide)(M:gN (.Name x vp) fl X.env (eval (.Name x vp) X.env)=eval (.Name x vp) X.env:=by rfl)(hs:dA YL (U (.Subscript (.Attribute (.Name x vp) fl ap) ke YQ)) pos.line X.env=bc ar:=by rfl):
  DS O X (.Assign [.Subscript (.Attribute (.Name x vp) fl ap) ke YQ] YL pos) (mN cl fl i fk fv):=⟨(zo .(b) (ua (gH hN hv hd Yp) M) hk.1 Zt.1 hs).imp λus L H=>by
 rintro⟨Z8,Z9,G,Y,flw,Y',A,h,k⟩;let⟨d,hd,ha⟩:=YB h;clear h;let⟨kd,ĉ,ş⟩:=YB ha;clear ha;let⟨kk,ś,hq⟩:=YB ş;clear ş;split at hq
 .rename_i c' fs n XJ hi;split at hq
  .rename_i hz;let⟨rfl,rfl,á,hz3⟩:=hz;cases hq;let⟨XI,q1,q2,q3⟩:=hc.ex;show#[Z8,Z9,G,Y,d,A,hd,λv G1 H1 s1 r1=>?_];let A1:=A.step s1;let⟨w,fp,h1,h2⟩:=A1.get hi;cases h2 with
   |objd g1 g2 g3 g4 g5 g6 y1 y2 y3 y4 y5 g7=>
    rename_i a C' dx p vs E;let Zy:=g1;rw[q1] at g1;cases g1;let hl:vs.lookup n=B:=by
     rcases j6 g5 g6 with⟨_,z2⟩|⟨d',v',z1,_,_⟩
     .exact z2
     .rw[z1] at á;cases á
    show#[_,h1,a,XI,dx,_,.ref p,W,g4,q2,q3 n hf,Uc hl,Z8,Z9,G1,Y,kd,A1,ĉ,λu G2 H2 s2 r2=>?_];let A2:=A1.step s2;let eu:=mv r2 ś;subst eu;let Ā:H2 p=U (.dK E):=s2.hh _ _ y3;let ğ:H2 a=U (.ins XI dx (vs++[(n,.ref p)])):=s2.hh _ _ g4;let ga2:G2 a=B:=(s2.out _ _ g4 W).trans g3;let gp2:G2 p=B:=(s2.out _ _ y3 W).trans y2;let ê:a≠p:=xD ğ Ā (by intro z;cases z);let X2:E.length=XJ.length:=by simpa using bM cC y4
    let⟨w1,w2⟩:=oM (r1.mono s2.gg) y4 (y5.mono s2.gg);show#[p,_,W,iR.k Ā (by let:=eM;ext),?_];show k L G2 _ (s1.gg.trans s2.gg) (A2.ch hi h1 (.objd Zy g2 ga2 ğ g5 (g6.mono s2.gg) y1 gp2 Ā y4 (y5.mono s2.gg) g7) (λb o e M=>?_) (.objd Zy g2 ga2 (by rw[aD ê];show ğ) g5 (g6.mono s2.gg) y1 gp2 bf w1 w2 g7) (λb M=>.inl M) (.refl _) (λb o e=>?_) (λ_ _ _ _ _=>rfl))
    .rw[aD (λz=>M (by rw[z];show qh _ qg))];show e
    .rw[aD (bH e gp2)];show A2.gh b o e
  .cases hq
 .cases hq⟩
noncomputable def CO:Slot->au D
 |.obj c fs=>U (.ins c fs)
 |.objd c fs n XJ=>U (.ins c (fs++[(n,.dk XJ)]))
 |_=>B
def At.done(A:At O K Z8 Z9 G H Y L){i:ag}{s:Slot}(hi:Y[i]?=U (U s))(hd:CO s=U d):∃a G',O.self=U a/\Step Z8 Z9 G' H/\X9 O K G' (.ref a) d:=by
 let⟨v,fp,h1,h2⟩:=A.get hi;cases h2 with
 |sh _=>cases hd
 |own _ _ _ _=>cases hd
 |odk _ _ _ _ _=>cases hd
 |odt _ _ _ _ _=>cases hd
 |fo _ _ _ _ _ _ _=>cases hd
 |obj g1 g2 g3 g4 g5 g6 g7=>
  cases hd;rename_i a XI dx vs fs;let sm:aY G (X0 G a (.ins XI dx vs)):=λb o e=>by rw[aD (bH e g3)];show e
  show#[a,X0 G a (.ins XI dx vs),g7,#[A.st.hh,A.st.gg.trans sm,λb o e=>?_,λb o e ek=>?_],.ins bf g1 g5 (g6.mono sm)]
  .by_cases M:b=a
   .subst M;rw[bf] at e;cases e;show g4
   .rw[aD M] at e;show A.gh b o e
  .rw[aD (bH e g2)];show A.st.out b o e ek
 |objd g1 g2 g3 g4 g5 g6 y1 y2 y3 y4 y5 g7=>
  cases hd;rename_i n a XI dx p vs fs E XJ;let ê:a≠p:=xD g4 y3 (by intro z;cases z);let sm:aY G (X0 (X0 G p (.dK E)) a (.ins XI dx (vs++[(n,.ref p)]))):=λb o e=>by rw[aD (bH e g3),aD (bH e y2)];show e
  show#[a,_,g7,#[A.st.hh,A.st.gg.trans sm,λb o e=>?_,λb o e ek=>?_],.ins bf g1 (by simp[g5]) ?_]
  .by_cases M:b=a
   .subst M;rw[bf] at e;cases e;show g4
   .rw[aD M] at e;by_cases vk:b=p
    .subst vk;rw[bf] at e;cases e;show y3
    .rw[aD vk] at e;show A.gh b o e
  .rw[aD (bH e g2),aD (bH e y1)];show A.st.out b o e ek
  .let r2:X9 O K (X0 (X0 G p (.dK E)) a (.ins XI dx (vs++[(n,.ref p)]))) (.ref p) (.dk XJ):=.dk (by rw[aD ê.symm,bf]) y4 (y5.mono sm);simpa using(g6.mono sm).append (.cons r2 .nil)
end
noncomputable def Cn.mk1(O:Cn)(x:av):Cn:=#[O.cls,U x]
variable{c:aj}
section
variable{x:av}
def X9.to1(x:av)(r:X9 O K G v d):X9 (O.mk1 x) K G v d:=X9.re (O:=O) (Z3:=O.mk1 x) W r
def XO.to1{v:Z V}{d:Z D}(x:av)(r:XO O K G v d):XO (O.mk1 x) K G v d:=XO.re (O:=O) (Z3:=O.mk1 x) W r
def X9.of1(r:X9 (O.mk1 x) K G v d):X9 O K G v d:=X9.re (O:=O.mk1 x) (Z3:=O) W r
def XO.of1{v:Z V}{d:Z D}(r:XO (O.mk1 x) K G v d):XO O K G v d:=XO.re (O:=O.mk1 x) (Z3:=O) W r
def CF.re(h:CF O K c YO)(x:av):CF (O.mk1 x) K c YO:=⟨h.ex⟩
def Ef{F:Z D->au D}{Q:VK}{us:XK}(x:av)(h:θ (O.mk1 x) K n F vs H Q us):θ O K n F vs H Q us:=by let⟨G,ds,d,h1,h2,h3,h4,k⟩:=h;show#[G,ds,d,h1,h2.of1,h3,h4,λv G' H' s r=>k v G' H' s (r.to1 x)]
def Ţ.re{y:aj}{k:ag}{F:Z D->au D}(XI:Ţ O P w K mg base y n k F)(x:av):Ţ (O.mk1 x) P w K mg base y n k F:=by let⟨f,fd,ps,h1,h2,h3,h4⟩:=XI.ex;show#[f,fd,ps,h1.imp λvs H Q us q=>Ef x q,h2,h3,h4]
structure Yx(O:Cn)(P:dy)(w:cA)(K:aS)(mg:aj->au aw)(base:Heap)(c m:aj)(n k:ag)(F:Z D->au D):Prop where
 ex:∃XI f fd ps,O.cls c=U XI/\Ň K XI/\Ŵ K XI m f/\YY P w K mg base ã k f fd ps (θ O K n F)/\fK K fd ps []
def Yx.re{k:ag}{F:Z D->au D}(XI:Yx O P w K mg base c m n k F)(x:av):Yx (O.mk1 x) P w K mg base c m n k F:=by let⟨XI,f,fd,ps,h0,h1,h2,h3,h4⟩:=XI.ex;show#[XI,f,fd,ps,h0,h1,h2,h3.imp λvs H Q us q=>Ef x q,h4]
inductive spI(O:Cn)(K:aS)(XI:av)(n:ag)(F:Z D->au D)(vs:Z V)(H:Hp)(Q:VK)(_e3:XK):Prop where
 |mk:∀x dx H1 G ds d E,vs=.ref x::E->H=X0 (X0 H1 dx (.own x)) x (.ins XI dx [])->H1 x=B->H1 dx=B->dx≠x->aY G H1->XO O K G E ds->ds.length=n->F ds=U d->(∀G' H',Step G H1 G' H'->X9 O K G' (.ref x) d->Q .non H')->spI O K XI n F vs H Q _e3
structure CalI(O:Cn)(P:dy)(w:cA)(K:aS)(mg:aj->au aw)(base:Heap)(c:aj)(n k:ag)(F:Z D->au D):Prop where
 ex:∃XI f fd ps,O.cls c=U XI/\Mk K XI f/\mg c=U (.ref XI)/\YY P w K mg base ã k f fd ps (spI O K XI n F)/\fK K fd ps []
end
noncomputable def bp(c m:aj)(F:Z D->au D)(fo:FE)(fr:FA):FE:=λY=>(fo Y).bind λd=>match d with
 |.ins c' fs=>if c'=c/\fs.lookup m=B then (fr Y).bind λds=>F (d::ds) else B
 |_=>B
def Kc{k:ag}{F:Z D->au D}(XI:Yx O X.prog X.w X.K X.mg X.base c m (n+1) k F)(hr:YK j X.A)(hk:k<=j)(ho:DE O X o fo)(ha:DA O X (e::es) fr)(hn:∀Y ds,fr Y=U ds->ds.length=n)
  (æ:aM (e::es) X.env=(ar,eval e X.env)::aM es X.env:=by rfl)(YR:(bW pos (aM es X.env)).any (·.1)=ar:=by rfl)
  (ht:eval (.Call (.Attribute o m YN) (e::es) [] pos) X.env=(do
   let ov ←eval o X.env
   oQ YN.atName
   let (f,first) ←ki [ov] (oU ov m pl)
   vG pos f first (bW pos (aM (e::es) X.env)) (jH pos (jI [] X.env))):=by rfl):
  DE O X (.Call (.Attribute o m YN) (e::es) [] pos) (bp c m F fo fr):=⟨by
 let⟨Ca,f,fd,ps,h0,h1,h2,h3,h4⟩:=XI.ex;show(BQ ho.1 h1 h2 h3 (hr.mono hk) h4 .nil mj ha.1 æ YR ht).imp λL H Q=>?_;rintro⟨Z8,Z9,G,Y,d,A,h,k⟩;let⟨x,hx,hq⟩:=YB h;clear h;show#[Z8,Z9,G,Y,x,A,hx,λv G1 H1 s1 r1=>?_];split at hq
 .rename_i c' fs;split at hq
  .rename_i hz;let⟨rfl,á⟩:=hz;let⟨ds,Ċ,hF⟩:=YB hq;let r1':=r1;cases r1 with
   |ins g1 g2 g3 g4=>
    rw[h0] at g2;cases g2;rename_i _ _ us0;let hl:cS m us0=B:=by
     rcases j6 g3 g4 with⟨_,z2⟩|⟨d',v',z1,_,_⟩
     .exact z2
     .rw[z1] at á;cases á
    show#[_,_,_,W,s1.gh _ _ g1,hl,Z8,Z9,G1,Y,ds,A.step s1,Ċ,λvs G2 H2 s2 r2=>?_];rw[jG];show#[G2,_,d,s2.gh,.cons (r1'.mono s2.gg) r2,by rw[qi,hn Y ds Ċ],hF,λv G' H' s r=>k v G' H' ((s1.trans s2).trans s) r]
  .cases hq
 .cases hq⟩
def Uj{k:ag}{F:Z D->au D}(XI:Yx O X.prog X.w X.K X.mg X.base c m 1 k F)(hr:YK j X.A)(hk:k<=j)(ho:DE O X o fo)
  (ht:eval (.Call (.Attribute o m YN) [] [] pos) X.env=(do
   let ov ←eval o X.env
   oQ YN.atName
   let (f,first) ←ki [ov] (oU ov m pl)
   vG pos f first (bW pos (aM [] X.env)) (jH pos (jI [] X.env))):=by rfl):
  DE O X (.Call (.Attribute o m YN) [] [] pos) (bp c m F fo aq):=⟨by
 let⟨Ca,f,fd,ps,h0,h1,h2,h3,h4⟩:=XI.ex;show(ME ho.1 h1 h2 h3 (hr.mono hk) h4 .nil mj ht).imp λL H Q=>?_;rintro⟨Z8,Z9,G,Y,d,A,h,k⟩;let⟨x,hx,hq⟩:=YB h;clear h;show#[Z8,Z9,G,Y,x,A,hx,λv G1 H1 s1 r1=>?_];split at hq
 .rename_i c' fs;split at hq
  .rename_i hz;let⟨rfl,á⟩:=hz;let⟨ds,Ċ,hF⟩:=YB hq;cases Ċ;let r1':=r1;cases r1 with
   |ins g1 g2 g3 g4=>
    rw[h0] at g2;cases g2;rename_i _ _ us0;let hl:cS m us0=B:=by
     rcases j6 g3 g4 with⟨_,z2⟩|⟨d',v',z1,_,_⟩
     .exact z2
     .rw[z1] at á;cases á
    show#[_,_,_,W,s1.gh _ _ g1,hl,?_];show#[G1,_,d,s1.gh,.cons r1' .nil,W,hF,λv G' H' s r=>k v G' H' (s1.trans s) r]
  .cases hq
 .cases hq⟩
def TM{k:ag}{F:Z D->au D}(XI:CalI O X.prog X.w X.K X.mg X.base c n k F)(hr:YK j X.A)(hk:k+1<=j)(hg:Gl X c)(ha:DA O X (e::es) fr)(hn:∀Y ds,fr Y=U ds->ds.length=n)
  (Ô:(c==("__debug__":aj))=ar:=by decide)(he:aM (e::es) X.env=(ar,eval e X.env)::aM es X.env:=by rfl)(YR:(bW pos (aM es X.env)).any (·.1)=ar:=by rfl):
  DE O X (.Call (.Name c p) (e::es) [] pos) (cF F fr):=⟨by
 let⟨Ca,f,fd,ps,h0,h1,h2,h3,h4⟩:=XI.ex;show(xn h1 h3 (hr.mono hk) hg h2 h4 .nil mj ha.1 Ô he YR).imp λL H Q=>?_;rintro⟨Z8,Z9,G,Y,d,A,h,k⟩;let⟨ds,hd,hq⟩:=YB h;show#[Z8,Z9,G,Y,ds,A,hd,λvs G1 H1 s1 r1 x dx hx Ο Zb=>?_];rw[jG];show#[x,dx,H1,G1,ds,d,vs,W,W,hx,Ο,Zb,s1.gh,r1,hn Y ds hd,hq,λG' H' s r=>#[W,k _ G' H' (s1.trans s) r]]⟩
def u0(n:ag)(c:aj)(g:FS):Z D->au D:=λds=>(g (U (.obj c [])::ds.map (λd=>U (Slot.sh d))++bQ n B)).bind λr=>match r.1 with
 |.nx=>match r.2[0]? with
  |some (U s)=>CO s
  |_=>B
 |_=>B
variable{s0:aj}
def Ĳ.okI{f:av}{k:ag}(F:Ĳ K x qual st f fd)(S:YC N (s0::ps) (aC st))(hC:O.cls c=U XI)
  (X8:∀(y:av)(X1:aw)(A:cJ)(outer:Z cB)(s:aH)(H:Hp)(us:XK),YK k .(l)->
   Zn (O.mk1 y) .(j).nox (ca st) g):YY P w K mg base ã (k+1) f fd (s0::ps) (spI O K XI ps.length (u0 (N.length-(ps.length+1)) c g)):=by
 show F.ok S (λvs H Q us h=>?_) (λX1 A outer s H vs Q us hr h=>?_)
 .obtain⟨y,dx,H1,G,ds,d,E,rfl,_,_,_,_,_,r,hl,_⟩:=h;rw[qi,r.length,hl,qi]
 .obtain⟨y,dx,H1,G,ds,d,E,rfl,rfl,hx,Ο,Zb,gh,r,hl,hd,k⟩:=h;show#[_,(X8 y X1 A outer s _ us hr).1,?_];let⟨⟨fl,Y'⟩,hg,hd⟩:=YB hd;let s1:=Step.newOwn (o:=.own y) gh Ο;let hx1:(X0 H1 dx (.own y)) y=B:=by rw[aD (cL Zb)];show hx
  let s2:=s1.trans (Step.newOwn (o:=.ins XI dx []) s1.gh hx1);let X2:E.length=ds.length:=r.length;let A0:At (O.mk1 y) K G H1 G (X0 (X0 H1 dx (.own y)) y (.ins XI dx [])) (U (.obj c [])::ds.map (λd=>U (Slot.sh d))++bQ (N.length-(ps.length+1)) B) (dE N (.ref y::E)):=by
   show#[s2,by simp[dE,X2,hl],λi=>if i=0 then [y] else [],λi t e=>?_,λi j t u hij e1 e2 b M=>?_]
   .cases i with
    |zero=>
     cases e;show#[.ref y,W,.obj hC hx (gh.free hx) bf W .nil W]
    |succ i=>
     let e:(ds.map (λd=>U (Slot.sh d))++bQ (N.length-(ps.length+1)) B)[i]?=U (U t):=e;by_cases hi:i<ds.length
     .rw[qA (by simpa using hi),ql] at e;let⟨d',Ö,e⟩:=YE e;cases e;let⟨v,hv,rv⟩:=r.get Ö;show#[v,?_,.sh (rv.to1 y)];show((E.map U)++_)[i]?=U (U v);rw[qA (by rw[qf,X2];show hi),ql,hv];rfl
     .rw[qM (by simpa using hi),vH] at e;split at e<;>cases e
   .let M:b∈(if i=0 then [y] else []):=M;show b∉(if j=0 then [y] else []);by_cases hi:i=0
    .subst hi;rw[qZ (cL hij)];exactλz=>by cases z
    .rw[qZ hi] at M;cases M
  show#[G,H1,G,_,fl,Y',A0,hg,λZ5 G' H' sm A'=>?_];cases fl with
  |nx=>
   simp only at hd;split at hd
   .rename_i sl hs;let⟨a,G2,e1,Ź,rp⟩:=A'.done hs hd;cases e1;show k G2 H' Ź rp.of1
   .cases hd
  |rt d'=>cases hd
  |ow d'=>cases hd
  |nw d'=>cases hd
  |od d'=>cases hd
  |bk=>cases hd
  |ct=>cases hd
structure XZ(K:aS)(XI:av)(c m qual:aj)(st:Stmt):Prop where
 ex:∃f fd,Ĳ K m qual st f fd/\cj K (.ref XI) m=U (U (.ref f))/\oT K (.ref f)=ai
structure Yc(O:Cn)(K:aS)(mg:aj->au aw)(c:aj)(XI:av):Prop where
 cn:O.cls c=U XI
 cl:Ň K XI
 mgC:mg c=U (.ref XI)
 makes:rT K XI=ai
 kp:gr K (.ref XI)=ai
def XZ.cal{k:ag}(Γ:Yc O K mg c XI)(F:XZ K XI c m qual st)(S:YC N ps (aC st))
  (M:∀(kV YV pm:aw)(an:au av)(X1 ct:aw)(E:Z aw),E.length=ps.length->eX (cX m qual (cY st) (ca st) (aC st) .none kV YV pm an X1 ct) #[E,[]]=bc (ps.zip E))
  (X8:∀(f:av)(X1:aw)(A:cJ)(outer:Z cB)(s:aH)(H:Hp)(us:XK),YK k .(l)->
   Zn O .(j).nox (ca st) g):Yx O P w K mg base c m ps.length (k+1) (aO (N.length-ps.length) g):=by
 let⟨f,fd,h1,h2,h3⟩:=F.ex;show#[XI,f,fd,ps,Γ.cn,Γ.cl,#[h2,h3,h1.kp],h1.okD S (X8 f),h1.binds M]
def XZ.calI{k:ag}(Γ:Yc O K mg c XI)(F:XZ K XI c "__init__" qual st)(S:YC N (s0::ps) (aC st))
  (M:∀(kV YV pm:aw)(an:au av)(X1 ct:aw)(E:Z aw),E.length=(s0::ps).length->eX (cX "__init__" qual (cY st) (ca st) (aC st) .none kV YV pm an X1 ct) #[E,[]]=bc ((s0::ps).zip E))
  (X8:∀(f y:av)(X1:aw)(A:cJ)(outer:Z cB)(s:aH)(H:Hp)(us:XK),YK k .(l)->
   Zn (O.mk1 y) .(j).nox (ca st) g):CalI O P w K mg base c ps.length (k+1) (u0 (N.length-(ps.length+1)) c g):=by
 let⟨f,fd,h1,h2,h3⟩:=F.ex;show#[XI,f,fd,s0::ps,Γ.cn,#[Γ.makes,h2,h3,Γ.kp],Γ.mgC,h1.okI S Γ.cn (X8 f),h1.binds M]
def Yc.cf(Γ:Yc O K mg c XI)(h:∀f∈YO,kQ K XI f):CF O K c YO:=#[XI,Γ.cn,Γ.cl,h]
variable{h:ah}{n0 ep:ag}{XN:bI (au ag)}{hs:Z ah}{I S:av}{wr:Z av}{hashAt:ag->ah}{h0:Heap}{Yj:bI (ah×aw)}
namespace ST
def wo(xs:bI ag)(j:ag)(hs:xs.toList.Pairwise (· < ·)):∀(YU lo hi:ag),hi-lo<=YU->lo<=hi->hi<=xs.size->(∀i,i<lo->∀v,xs[i]?=U v->v<j)->(∀i,hi<=i->∀v,xs[i]?=U v->j<=v)->
  (zW xs j YU lo hi<=xs.size)/\(∀i,i<zW xs j YU lo hi->∀v,xs[i]?=U v->v<j)/\∀i,zW xs j YU lo hi<=i->∀v,xs[i]?=U v->j<=v
 |0,lo,hi,hf,hl,hh,h1,h2=>by
  let e:lo=hi:=by ext
  subst e;show#[hh,h1,h2]
 |YU+1,lo,hi,hf,hl,hh,h1,h2=>by
  let mono:∀a b va vb,a<b->xs[a]?=U va->xs[b]?=U vb->va<vb:=λa b va vb é ha M=>by let:=G6.mp hs a b;let⟨a1,a2⟩:=gu.mp ha;let⟨b1,b2⟩:=gu.mp M;let q:=this (by simpa using a1) (by simpa using b1) é;simpa[a2,b2] using q
  unfold zW;by_cases YX:lo<hi
  .rw[qY YX];let hget:∃v,xs[(lo+hi) / 2]?=U v:=#[xs[(lo+hi) / 2]'.(b),by simp[show(lo+hi) / 2<xs.size by ext]];let⟨v,hv⟩:=hget;let hd:xs.getD ((lo+hi) / 2) j=v:=by simp[zX,hv]
   dsimp only;rw[hd];by_cases hvj:v<j
   .rw[qY hvj];show wo xs j hs YU _ _ .(b) .(b) hh (λi è w hw=>?_) h2;rcases kA i ((lo+hi) / 2) with hi2|hi2
    .exact sg (mono i _ w v hi2 hw hv) hvj
    .let e:i=(lo+hi) / 2:=by ext
     subst e;rw[hv] at hw;cases hw;show hvj
   .rw[qZ hvj];show wo xs j hs YU _ _ .(b) .(b) .(b) h1 λi è w hw=>?_;rcases kA ((lo+hi) / 2) i with hi2|hi2
    .exact qO .(b) (rN (mono _ i v w hi2 hv hw))
    .let e:i=(lo+hi) / 2:=by ext
     subst e;rw[hv] at hw;cases hw;ext
  .rw[qZ YX];let e:lo=hi:=by ext
   subst e;show#[hh,h1,h2]
def oe(xs:bI ag)(j:ag)(hs:xs.toList.Pairwise (· < ·)):bX xs j<=xs.size/\(∀i,i<bX xs j->∀v,xs[i]?=U v->v<j)/\∀i,bX xs j<=i->∀v,xs[i]?=U v->j<=v:=
 wo xs j hs xs.size 0 xs.size (qw _) (gM _) (qw _) (λi h=>bj h (vV _)) λi h v hv=>by let:=(gu.mp hv).1;ext
def xF(xs:bI ag)(j i:ag)(hs:xs.toList.Pairwise (· < ·))(h:xs[i]?=U j):bX xs j=i:=by
 let⟨h0,h1,h2⟩:=oe xs j hs;rcases VB (bX xs j) i with hl|hl|hl
 .let hi:=(gu.mp h).1;let hg:xs[bX xs j]?=U (xs[bX xs j]'.(b)):=by simp[show bX xs j<xs.size by ext]
  let q1:=h2 _ (qw _) _ hg;let:=G6.mp hs (bX xs j) i (by simp;ext) (by simpa using hi) hl;let⟨_,e⟩:=gu.mp h;simp only[VC] at this;ext
 .exact hl
 .let:=h1 i hl j h;ext
structure Tb(t:hZ)(es:bI (ah×aw)):Prop where
 full:Yg t.mask
 sz:t.place.size=es.size
 dm:t.dummies=#[]
 ri:t.place.toList.Pairwise (· < ·)
 le:∀j∈t.place.toList,j<=t.mask
 few:es.size*5<t.mask*3
 rc:∀(i j:ag)(h:ah)(x:aw),t.place[i]?=U j->es[i]?=U (h,x)->∃n,ao t.mask h n=j/\∀m,m<n->ao t.mask h m∈t.place.toList
section
variable{t:hZ}{es:bI (ah×aw)}
def Tb.live(T:Tb t es)(h:t.place[i]?=U j):t.slot j=.live i:=by unfold VD;rw[xF _ _ _ T.ri h];simp[h]
def Tb.empty(T:Tb t es)(h:j∉t.place.toList):t.slot j=.empty:=by
 unfold VD;let h1:t.place[bX t.place j]?≠U j:=λe=>h (by rw[<-qJ] at e;show qR e)
 let h2:zY t.dummies j=ar:=by rw[T.dm];rfl
 simp[h1,h2]
def Tb.occ(T:Tb t es)(h:j∈t.place.toList):∃i:ag,t.place[i]?=U j:=by let⟨i,hi⟩:=vU.mp h;show#[i,by rw[<-qJ];show hi]
def Tb.fits(T:Tb t es):t.fits es.size=ai:=by let h1:=T.sz;let h2:=T.few;simp only[o9,G7,T.dm,Array.size_empty,cW,ko,gw];ext
def sS:∀(a b:Z ag),a.Nodup->(∀x∈a,x∈b)->a.length<=b.length:=by
 intro X7
 induction X7 with
 |nil=>
  intro _ _ _;show gM _
 |cons x r ih=>
  intro b nd h;let hx:=h x qg;let Ř:=dD.mp nd;let:=ih (b.erase x) Ř.2 λy hy=>(List.mem_erase_of_ne (λe=>Ř.1 (by rw[<-e];show hy))).mpr (h y (qh _ hy));let hl:=List.length_erase_of_mem hx;let hp:0<b.length:=List.length_pos_of_mem hx;rw[qi];ext
def Tb.free(T:Tb t es):∃j,j<=t.mask/\decide (j∈t.place.toList)=ar:=by
 by_cases hx:∃j,j<=t.mask/\j∉t.place.toList
 .obtain⟨j,h1,h2⟩:=hx;show#[j,h1,qP h2]
 .exfalso;let all:∀j,j<=t.mask->j∈t.place.toList:=λj hj=>Classical.byContradiction λhn=>hx #[j,hj,hn];let h1:=sS (cw (t.mask+1)) t.place.toList zZ λj hj=>all j (by let:=eV.mp hj;ext);let h2:=T.sz;let h3:=T.few;simp only[qW,fy] at h1;ext
def Tb.first(T:Tb t es)(h:ah):∃n,n<10*(t.mask+15)/\ao t.mask h n∉t.place.toList/\∀m,m<n->ao t.mask h m∈t.place.toList:=by let⟨n,h1,h2,h3⟩:=T.full.first h (λj=>decide (j∈t.place.toList)) T.free;show#[n,h1,vW h2,λm hm=>eq (h3 m hm)]
def gK(p:Pr):z5:={j:=p.j,more:=p.more,i:=p.i,perturb:=p.pt,dummy:=B}
def Sh(t:hZ)(h:ah):t.probeStart h=gK (it t.mask h 0):=rfl
def Bi(t:hZ)(p:Pr):t.advance (gK p)=gK (γ t.mask p):=by
 unfold SetTable.advance γ gK;by_cases h:p.more > 0
 .simp only[h,cx]
 .simp only[h,cE]
def Tb.probe_go(T:Tb t es)(hashAt:ag->ah)(h:ah){n0:ag}(hf:ao t.mask h n0∉t.place.toList)(ho:∀m,m<n0->ao t.mask h m∈t.place.toList):∀(YU n:ag),n<=n0->n0<n+YU->
  (∃n' i,n<=n'/\n'<n0/\t.place[i]?=U (ao t.mask h n')/\hashAt i=h/\(∀m i,n<=m->m<n'->t.place[i]?=U (ao t.mask h m)->hashAt i≠h)/\G8 t hashAt h YU (gK (it t.mask h n))=U (.candidate (ao t.mask h n') i (gK (it t.mask h (n'+1))))) \/
  ((∀m i,n<=m->m<n0->t.place[i]?=U (ao t.mask h m)->hashAt i≠h)/\G8 t hashAt h YU (gK (it t.mask h n))=U (.empty (ao t.mask h n0) B))
 |0,n,h1,h2=>by ext
 |YU+1,n,h1,h2=>by
  unfold G8;by_cases hn:n=n0
  .subst hn
   right
   show#[λm i a b=>by ext,?_];let hs:t.slot (gK (it t.mask h n)).j=.empty:=T.empty hf;rw[hs];rfl
  .obtain⟨i,hi⟩:=T.occ (ho n .(b));let hs:t.slot (gK (it t.mask h n)).j=.live i:=T.live hi;rw[hs];dsimp only;by_cases hh:hashAt i=h
   .left
    show#[n,i,qw _,by ext,hi,hh,λm i a b=>by ext,?_];rw[qY (by simpa using hh),Bi];rfl
   .rw[qZ (by simpa using hh),Bi];let inj:∀i',t.place[i']?=U (ao t.mask h n)->i'=i:=λi' h'=>by rw[<-xF _ _ _ T.ri h',<-xF _ _ _ T.ri hi]
    let ext:∀{b:ag},(∀m i,n+1<=m->m<b->t.place[i]?=U (ao t.mask h m)->hashAt i≠h)->∀m i,n<=m->m<b->t.place[i]?=U (ao t.mask h m)->hashAt i≠h:=λ{b}q m i' a c d=>by
     by_cases e:m=n
     .subst e;rw[inj i' d];show hh
     .exact q m i' .(b) c d
    rcases T.probe_go hashAt h hf ho YU (n+1) .(b) .(b) with⟨n',i',a,b,c,d,e,f⟩|⟨e,f⟩
    .exact .inl #[n',i',by ext,b,c,d,ext e,f]
    .exact .inr #[ext e,f]
def lE(xs:bI α)(p:ag)(x:α)(hp:p<=xs.size):(ci xs p x).toList=xs.toList.take p++x::xs.toList.drop p:=by unfold ci;simp[Array.toList_extract,List.extract_eq_take_drop];show lO (by simp)
def BP(l:Z α)(p:ag)(x:α)(hp:p<=l.length)(i:ag):(l.take p++x::l.drop p)[i]?=if i<p then l[i]? else if i=p then U x else l[i-1]?:=by
 by_cases h1:i<p
 .rw[qY h1,qA (by rw[qF];ext),zE h1]
 .rw[qZ h1,qM (by rw[qF];ext),qF,VE hp];by_cases h2:i=p
  .rw[qY h2,h2];simp
  .rw[qZ h2];obtain⟨k,hk⟩:∃k,i-p=k+1:=#[i-p-1,by ext];rw[hk,qd,VF]
   congr 1
   ext
def yo(l:Z α)(p:ag)(x y:α):y∈l.take p++x::l.drop p↔y=x\/y∈l:=by
 rw[c8,qN];constructor
 .rintro(h|h|h)
  .exact .inr (pc h)
  .exact .inl h
  .exact .inr (VG h)
 .rintro(h|h)
  .exact .inr (.inl h)
  .let:y∈l.take p++l.drop p:=by rw[sA];show h
   rcases c8.mp this with h|h
   .exact .inl h
   .exact .inr (.inr h)
def Tb.put(T:Tb t es){x:aw}(hf:ao t.mask h n0∉t.place.toList)(ho:∀m,m<n0->ao t.mask h m∈t.place.toList)(few:(es.size+1)*5<t.mask*3)(pl:aJ):
  Tb { (t.put (ao t.mask h n0)).1 with plain:=pl} (ci es (t.put (ao t.mask h n0)).2 (h,x)):=by
 let⟨b0,b1,b2⟩:=oe t.place (ao t.mask h n0) T.ri;let bes:bX t.place (ao t.mask h n0)<=es.size:=by rw[<-T.sz];show b0
 let pl1:(ci t.place (bX t.place (ao t.mask h n0)) (ao t.mask h n0)).toList=t.place.toList.take (bX t.place (ao t.mask h n0))++ao t.mask h n0::t.place.toList.drop (bX t.place (ao t.mask h n0)):=lE _ _ _ b0;let el1:(ci es (bX t.place (ao t.mask h n0)) (h,x)).toList=es.toList.take (bX t.place (ao t.mask h n0))++(h,x)::es.toList.drop (bX t.place (ao t.mask h n0)):=lE _ _ _ bes;let szp:(ci t.place (bX t.place (ao t.mask h n0)) (ao t.mask h n0)).size=t.place.size+1:=by rw[<-fy,pl1];simp;ext
 let sze:(ci es (bX t.place (ao t.mask h n0)) (h,x)).size=es.size+1:=by rw[<-fy,el1];simp;ext
 show#[T.full,?_,?_,?_,?_,?_,?_]
 .show(ci t.place _ _).size=_;rw[szp];show _=(ci es (bX t.place (ao t.mask h n0)) (h,x)).size;rw[sze,T.sz]
 .show(if zY t.dummies (ao t.mask h n0)=ai then _ else t.dummies)=#[];rw[T.dm];rfl
 .show(ci t.place (bX t.place (ao t.mask h n0)) (ao t.mask h n0)).toList.Pairwise (· < ·);rw[pl1,List.pairwise_append,List.pairwise_cons];let tk:∀a∈t.place.toList.take (bX t.place (ao t.mask h n0)),a<ao t.mask h n0:=λa ha=>by
   let⟨i,hi⟩:=vU.mp ha;let è:i<bX t.place (ao t.mask h n0):=by let:=(dM.mp hi).1;rw[qF] at this;ext
   rw[zE è,qJ] at hi;show b1 i è a hi
  let dr:∀a∈t.place.toList.drop (bX t.place (ao t.mask h n0)),ao t.mask h n0<a:=λa ha=>by
   let⟨i,hi⟩:=vU.mp ha;rw[VF,qJ] at hi;let h1:=b2 _ (zu _ i) a hi;rcases kA (ao t.mask h n0) a with q|q
   .exact q
   .exact bj (by rw[<-qJ] at hi;let e:a=ao t.mask h n0:=.(b);rw[e] at hi;show qR hi) hf
  show#[T.ri.sublist (lK _ _),#[dr,T.ri.sublist (List.drop_sublist _ _)],λa ha b M=>?_];rcases cg.mp M with e|M
  .rw[e];show tk a ha
  .exact sg (tk a ha) (dr b M)
 .intro j hj;let hj':j∈(ci t.place (bX t.place (ao t.mask h n0)) (ao t.mask h n0)).toList:=hj;rw[pl1,yo] at hj';rcases hj' with e|hj'
  .rw[e];show xo _ _ _
  .exact T.le j hj'
 .show(ci es (bX t.place (ao t.mask h n0)) (h,x)).size*5<t.mask*3;rw[sze];show few
 .intro i j h' x' e1 e2;let ę:(ci t.place (bX t.place (ao t.mask h n0)) (ao t.mask h n0)).toList[i]?=U j:=by rw[qJ];show e1
  let ï:(ci es (bX t.place (ao t.mask h n0)) (h,x)).toList[i]?=U (h',x'):=by rw[qJ];show e2
  rw[pl1,BP _ _ _ (by simpa using b0)] at ę;rw[el1,BP _ _ _ (by simpa using bes)] at ï;let up:∀{n:ag},(∀m,m<n->ao t.mask h' m∈t.place.toList)->∀m,m<n->ao t.mask h' m∈(ci t.place (bX t.place (ao t.mask h n0)) (ao t.mask h n0)).toList:=λq m hm=>by rw[pl1,yo];show .inr (q m hm)
  by_cases c1:i<bX t.place (ao t.mask h n0)
  .rw[qY c1] at ę ï;rw[qJ] at ę ï;let⟨n,hn,q⟩:=T.rc i j h' x' ę ï;show#[n,hn,up q]
  .rw[qZ c1] at ę ï;by_cases c2:i=bX t.place (ao t.mask h n0)
   .rw[qY c2] at ę ï;cases ę;cases ï;show#[n0,W,up ho]
   .rw[qZ c2] at ę ï;rw[qJ] at ę ï;let⟨n,hn,q⟩:=T.rc _ j h' x' ę ï;show#[n,hn,up q]
end
noncomputable def eR(XN:bI (au ag))(j:ag):aJ:=(XN.getD j (U 0)).isNone
def rB{r:ag}(e:it hb h n=lZ hb (lp hb h r)){k:ag}(hk:k<cV hb (lp hb h r).1+1-(lp hb h r).1):ao hb h (n+k)=(lp hb h r).1+k:=by unfold ao;rw[u9,e,tF hb k _ (by show k<=cV hb (lp hb h r).1-(lp hb h r).1;ext)];rfl
def LG{r:ag}(e:it hb h n=lZ hb (lp hb h r)):it hb h (n+(cV hb (lp hb h r).1+1-(lp hb h r).1))=lZ hb (lp hb h (r+1)):=by
 let hge:(lp hb h r).1<=cV hb (lp hb h r).1:=by unfold cV;split<;>ext
 let e2:=tF hb (cV hb (lp hb h r).1-(lp hb h r).1) (lZ hb (lp hb h r)) (qw _);rw[show n+(cV hb (lp hb h r).1+1-(lp hb h r).1)=n+(cV hb (lp hb h r).1-(lp hb h r).1)+1 by ext,it,u9,e,e2];unfold γ;rw[qZ (by show ¬((cV hb (lp hb h r).1-(lp hb h r).1)-(cV hb (lp hb h r).1-(lp hb h r).1) > 0);ext)];rfl
def Cu{hb:ag}{h:ah}(XN:bI (au ag)){rs:ag}(Ŝ:eR XN (lp hb h rs).1=ai):∀(YU r n:ag),it hb h n=lZ hb (lp hb h r)->r<=rs->rs<r+YU->(∀m,m<n->eR XN (ao hb h m)=ar)->
  ∃n',eR XN (ao hb h n')=ai/\(∀m,m<n'->eR XN (ao hb h m)=ar)/\sB hb XN YU (lp hb h r).1 (lp hb h r).2=U (ao hb h n')
 |0,r,n,_,h1,h2,_=>by ext
 |YU+1,r,n,e,h1,h2,h3=>by
  unfold sB;cases hf:(cw (cV hb (lp hb h r).1+1-(lp hb h r).1)).find? (λk=>(XN.getD ((lp hb h r).1+k) (U 0)).isNone) with
  |some k=>
   let hk:=eV.mp (VH hf);let hp:eR XN ((lp hb h r).1+k)=ai:=by let:=VI hf;show this
   show#[n+k,by rw[rB e hk];show hp,λm hm=>?_,?_]
   .rcases kA m n with c|c
    .exact h3 m c
    .obtain⟨d,rfl⟩:∃d,m=n+d:=#[m-n,by ext];rw[rB e .(b)];let⟨as,bs,é,Zi⟩:=(List.find?_eq_some_iff_append.mp hf).2;let hd:d∈as:=by
      let hl:as=cw k:=by
       let X2:as.length=k:=by
        let:(cw (cV hb (lp hb h r).1+1-(lp hb h r).1))[as.length]?=U k:=by rw[é];simp
        rw[List.getElem?_range] at this
        .exact qI this
        .let:=bM cC é;simp at this;ext
       let:=bM (sC k) é;rw[List.take_range,VE .(b),<-X2,List.take_left'] at this
       .rw[X2] at this;show this.symm
       .rfl
      rw[hl];show eV.mpr .(b)
     let:=Zi d hd;show G9.mpr (λz=>by rw[show(XN.getD ((lp hb h r).1+d) (U 0)).isNone=ai from z] at this;cases this)
   .rw[rB e hk]
  |none=>
   let hn:∀k,k<cV hb (lp hb h r).1+1-(lp hb h r).1->eR XN (ao hb h (n+k))=ar:=λk hk=>by rw[rB e hk];let:=z6.mp hf k (eV.mpr hk);show G9.mpr this
   let hge:(lp hb h r).1<=cV hb (lp hb h r).1:=by unfold cV;split<;>ext
   let hr:r≠rs:=λz=>by subst z;let:=hn 0 .(b);rw[rB e .(b),Nat.add_zero,Ŝ] at this;cases this
   show Cu XN Ŝ YU (r+1) _ (LG e) .(b) .(b) λm hm=>by
    rcases kA m n with c|c
    .exact h3 m c
    .obtain⟨d,rfl⟩:∃d,m=n+d:=#[m-n,by ext];show hn d .(b)
def Yg.free(F:Yg hb)(h:ah)(XN:bI (au ag))(hf:∃j,j<=hb/\eR XN j=ai):
  ∃n,eR XN (ao hb h n)=ai/\(∀m,m<n->eR XN (ao hb h m)=ar)/\sB hb XN (nA hb) (fM h%(hb+1)) (fM h)=U (ao hb h n):=by
 let⟨j,hj,hjf⟩:=hf;let⟨m,hm,e⟩:=F.reach (w8 hb h 13) hj;let hl:(lp hb h (13+m)).1=j:=by rw[zj,e]
 show Cu XN (by rw[hl];show hjf) (nA hb) 0 0 W (gM _) (by unfold nA;ext) λm hm=>bj hm (vV _)
structure ő(hb:ag)(hs:Z ah)(XN:bI (au ag)):Prop where
 sz:XN.size=hb+1
 lt:∀(j k:ag),XN[j]?=U (U k)->k<hs.length
 on:∀k,k<hs.length->∃j:ag,XN[j]?=U (U k)
 inj:∀(j j' k:ag),XN[j]?=U (U k)->XN[j']?=U (U k)->j=j'
 rc:∀(j k:ag)h,XN[j]?=U (U k)->hs[k]?=U h->∃n,ao hb h n=j/\∀m,m<n->eR XN (ao hb h m)=ar
def pX:eR XN j=ai↔XN[j]?=U B:=by
 unfold eR;rw[zX];cases e:XN[j]? with
 |none=>simp
 |some o=>cases o<;>simp
def ő.empty(hb:ag):ő hb [] (VJ (hb+1) B):=by
 let no:∀(j k:ag),(VJ (hb+1) (B:au ag))[j]?=U (U k)->False:=λj k h=>by rw[Array.getElem?_replicate] at h;split at h<;>cases h
 show#[by simp,λj k h=>(no j k h).elim,λk h=>bj h (vV _),λj _ k h _=>(no j k h).elim,λj k _ h _=>(no j k h).elim]
def ő.room(Γ:ő hb hs XN)(hr:hs.length<=hb):∃j,j<=hb/\eR XN j=ai:=by
 by_cases hx:∃j,j<=hb/\eR XN j=ai
 .exact hx
 .exfalso;let all:∀j,j<=hb->∃k,XN[j]?=U (U k):=λj hj=>by
   let h1:eR XN j≠ai:=λz=>hx #[j,hj,z];let h2:j<XN.size:=by rw[Γ.sz];ext
   cases q:XN[j] with
   |none=>show bj (pX.mpr (by simp[h2,q])) h1
   |some k=>show#[k,by simp[h2,q]]
  let pig:=sS ((cw (hb+1)).map λj=>((XN[j]?).join).getD 0) (cw hs.length) ?_ ?_
  .rw[qf,qW,qW] at pig;ext
  .refine VL.mpr (vX.mpr (Ha ?_ zZ));intro a b ha M é e;let⟨k,hk⟩:=all a (by let:=eV.mp ha;ext);let⟨k',Ν⟩:=all b (by let:=eV.mp M;ext);simp only[hk,Ν,VM,VN] at e;subst e;show é (Γ.inj a b k hk Ν)
  .intro x hx';let⟨j,hj,rfl⟩:=bo.mp hx';let⟨k,hk⟩:=all j (by let:=eV.mp hj;ext);simp only[hk,VM,VN];show eV.mpr (Γ.lt j k hk)
def ő.more(Γ:ő hb hs XN)(hf:eR XN (ao hb h n)=ai)(ho:∀m,m<n->eR XN (ao hb h m)=ar):
  ő hb (hs++[h]) (XN.setIfInBounds (ao hb h n) (U hs.length)):=by
 let YX:ao hb h n<XN.size:=by rw[Γ.sz];let:=xo hb h n;ext
 let hold:=pX.mp hf;let get:∀j:ag,(XN.setIfInBounds (ao hb h n) (U hs.length))[j]?=if j=ao hb h n then U (U hs.length) else XN[j]?:=λj=>by
  rw[Array.getElem?_setIfInBounds];by_cases e:ao hb h n=j
  .subst e;simp[YX]
  .rw[qZ e,qZ (cL e)]
 let stay:∀{j k:ag},XN[j]?=U (U k)->(XN.setIfInBounds (ao hb h n) (U hs.length))[j]?=U (U k):=λ{j k}q=>by
  rw[get,qZ]
  .exact q
  .intro e;rw[e,hold] at q;cases q
 let ĺ:∀{j:ag},eR XN j=ar->eR (XN.setIfInBounds (ao hb h n) (U hs.length)) j=ar:=λ{j}q=>by
  show G9.mpr λz=>?_;let z':=pX.mp z;rw[get] at z';split at z'
  .cases z'
  .rw[pX.mpr z'] at q;cases q
 show#[by simp[Γ.sz],λj k q=>?_,λk hk=>?_,λj j' k q q'=>?_,λj k h' q q'=>?_]
 .rw[get] at q;rw[qj,nt];split at q
  .cases q;ext
  .let:=Γ.lt j k q;ext
 .rw[qj,nt] at hk;by_cases e:k=hs.length
  .exact#[ao hb h n,by rw[get,qY W,e]]
  .obtain⟨j,hj⟩:=Γ.on k .(b);show#[j,stay hj]
 .rw[get] at q q';split at q
  .rename_i c;cases q;split at q'
   .rename_i c';rw[c,c']
   .let:=Γ.lt j' _ q';ext
  .split at q'
   .cases q';let:=Γ.lt j _ q;ext
   .exact Γ.inj j j' k q q'
 .rw[get] at q;split at q
  .rename_i c;cases q;rw[qM (qw _)] at q';simp at q';subst q';show#[n,c.symm,λm hm=>ĺ (ho m hm)]
  .let hk:=Γ.lt j k q;rw[qA hk] at q';let⟨n',e,r⟩:=Γ.rc j k h' q q';show#[n',e,λm hm=>ĺ (r m hm)]
def Yg.lays(F:Yg hb)(hs:bI ah)(hr:hs.size<=hb):∃XN,VO hb hs=U XN/\ő hb hs.toList XN:=by
 let all:∀(bS done:Z ah)(XN:bI (au ag)),ő hb done XN->(done++bS).length<=hb->∃Zp,ő hb (done++bS) Zp /\
   bS.foldl (λXT h=>do
    let (XN,k) ←XT
    let j ←sB hb XN (nA hb) (fM h%(hb+1)) (fM h)
    bc (XN.setIfInBounds j (U k),k+1)) (U (XN,done.length))=U (Zp,(done++bS).length):=by
  intro bS
  induction bS with
  |nil=>intro done XN Γ _;show#[XN,by rw[jG];show Γ,by simp]
  |cons h r ih=>
   intro done XN Γ hl;let⟨n,h1,h2,h3⟩:=F.free h XN (Γ.room (by simp at hl;ext));let O':=Γ.more h1 h2;let⟨Zp,O2,e⟩:=ih (done++[h]) _ O' (by simpa using hl);show#[Zp,by simpa using O2,?_];rw[fO];let e1:(do
    let (XN,k) ←U (XN,done.length)
    let j ←sB hb XN (nA hb) (fM h%(hb+1)) (fM h)
    bc (XN.setIfInBounds j (U k),k+1):au (bI (au ag)×ag))=U (XN.setIfInBounds (ao hb h n) (U done.length),done.length+1):=by
    show(sB hb XN (nA hb) (fM h%(hb+1)) (fM h) >>= λj=>bc (XN.setIfInBounds j (U done.length),done.length+1))=_;rw[h3];rfl
   rw[e1];rw[qj,nt] at e;rw[e];simp
 let⟨Zp,Γ,e⟩:=all hs.toList [] _ (ő.empty hb) (by simpa using hr);show#[Zp,?_,by simpa using Γ];unfold VO;rw[<-Array.foldl_toList];let e':=bM (ny (·.1)) e;show e'
def TH(f:α->au β):∀(l:Z α),(∀k∈l,∃y,f k=U y)->∀i:ag,(l.filterMap f)[i]?=(l[i]?).bind f:=by
 intro X7
 induction X7 with
 |nil=>
  intro _ i;simp
 |cons k r ih=>
  intro h i;let⟨y,hy⟩:=h k qg;rw[VP hy];cases i with
  |zero=>simp[hy]
  |succ i=>simp only[qd];show ih (λk hk=>h k (qh _ hk)) i
def LL(f:α->au β):∀(l:Z α),(∀k∈l,∃y,f k=U y)->(l.filterMap f).length=l.length:=by
 intro X7
 induction X7 with
 |nil=>
  intro _;show W
 |cons k r ih=>
  intro h;let⟨y,hy⟩:=h k qg;rw[VP hy,qi,qi,ih λk hk=>h k (qh _ hk)]
noncomputable def fB(hb:ag)(XN:bI (au ag)):Z (ag×ag):=(cw (hb+1)).filterMap λj=>(XN.getD j B).map (j,·)
def iQ(Zw:XN.size=hb+1){k:ag}:(j,k)∈fB hb XN↔XN[j]?=U (U k):=by
 unfold fB;rw[rQ];constructor
 .rintro⟨j',hj',e⟩;rw[zX] at e;cases q:XN[j']? with
  |none=>rw[q] at e;cases e
  |some o=>
   rw[q] at e;cases o with
   |none=>cases e
   |some k'=>cases e;show q
 .intro q;let hj:j<XN.size:=(gu.mp q).1;show#[j,eV.mpr .(b),by rw[zX,q];rfl]
def BH(hb:ag)(XN:bI (au ag)):((fB hb XN).map (·.1)).Pairwise (· < ·):=by rw[vX];show Xw _ ?_ (VQ);intro a a' haa b M b' vk;let⟨k,_,rfl⟩:=YE M;let⟨k',_,rfl⟩:=YE vk;show haa
def F6(Γ:ő hb hs XN):((fB hb XN).map (·.2)).Nodup:=by let h1:=vX.mp (BH hb XN);show VL.mpr (vX.mpr (Ha ?_ h1));rintro⟨j,k⟩ ⟨j',k'⟩ ha M YX e;let e':k=k':=e;subst e';let:=Γ.inj j j' k ((iQ Γ.sz).mp ha) ((iQ Γ.sz).mp M);ext
def Lb(Γ:ő hb hs XN):(fB hb XN).length=hs.length:=by
 let h1:=sS ((fB hb XN).map (·.2)) (cw hs.length) (F6 Γ) λk hk=>by let⟨⟨j,k'⟩,hm,rfl⟩:=bo.mp hk;show eV.mpr (Γ.lt j k' ((iQ Γ.sz).mp hm))
 let h2:=sS (cw hs.length) ((fB hb XN).map (·.2)) zZ λk hk=>by let⟨j,hj⟩:=Γ.on k (eV.mp hk);show bo.mpr #[(j,k),(iQ Γ.sz).mpr hj,W]
 rw[qf,qW] at h1 h2;ext
def Yg.relaid{t:hZ}{es:bI (ah×aw)}{Ym:ag}(F:Yg (kC Ym-1))(few:es.size*5<(kC Ym-1)*3):
  ∃t' Y4,t.relaid (es.map (·.1)) Ym=U (t',Y4)/\(Y4.filterMap (es[·]?)).size=es.size/\Tb t' (Y4.filterMap (es[·]?))/\(∀e,e∈(Y4.filterMap (es[·]?)).toList↔e∈es.toList)/\t'.mask=kC Ym-1/\t'.led=t.led:=by
 generalize hM:kC Ym-1=hb at F few;let⟨XN,hl,Γ⟩:=F.lays (es.map (·.1)) (by simp;ext);let X2:(es.map (·.1)).toList.length=es.size:=by simp
 let llen:(fB hb XN).length=es.size:=by rw[Lb Γ,X2]
 show#[{mask:=hb,place:=((fB hb XN).map (·.1)).toArray,dummies:=#[],finger:=t.finger,led:=t.led,moves:=t.movedTo hb,plain:=t.plain},((fB hb XN).map (·.2)).toArray,?_,?_]
 .unfold VR;rw[hM];unfold VS;rw[hl];rfl
 .let Ė:∀k∈(fB hb XN).map (·.2),∃y,es[k]?=U y:=λk hk=>by let⟨⟨j,k'⟩,hm,rfl⟩:=bo.mp hk;let:=Γ.lt j k' ((iQ Γ.sz).mp hm);rw[X2] at this;show#[es[k'],by simp[this]]
  let etl:(VT (λx=>es[x]?) ((fB hb XN).map (·.2)).toArray).toList=((fB hb XN).map (·.2)).filterMap (λx=>es[x]?):=by simp
  let esz:(VT (λx=>es[x]?) ((fB hb XN).map (·.2)).toArray).size=es.size:=by rw[<-fy,etl,LL _ _ Ė,qf,llen]
  show#[esz,#[F,?_,W,?_,?_,?_,?_],λe=>?_,W,W]
  .rw[esz];simp[llen]
  .show((fB hb XN).map (·.1)).toArray.toList.Pairwise (· < ·);show BH hb XN
  .intro j hj;let hj':j∈(fB hb XN).map (·.1):=hj;let⟨⟨j',k⟩,hm,rfl⟩:=bo.mp hj';let:=(gu.mp ((iQ Γ.sz).mp hm)).1;rw[Γ.sz] at this;show j'<=hb;ext
  .rw[esz];show few
  .intro i j h x e1 e2;let ę:((fB hb XN).map (·.1))[i]?=U j:=by simpa using e1
   rw[<-qJ,etl,TH _ _ Ė,ql] at e2;rw[ql] at ę;let⟨⟨j',k⟩,hm,rfl⟩:=YE ę;rw[hm] at e2;let ï:es[k]?=U (h,x):=e2;let ho:=(iQ Γ.sz).mp (qR hm);let⟨n,hn,q⟩:=Γ.rc j' k h ho (by simp[ï]);show#[n,hn,λm hm'=>?_];let ŀ:=q m hm';let hle:=xo hb h m;let YX:ao hb h m<XN.size:=by rw[Γ.sz];ext
   cases c:XN[ao hb h m] with
   |none=>
    rw[pX.mpr (by simp[YX,c])] at ŀ;cases ŀ
   |some k'=>
    show bo.mpr #[(ao hb h m,k'),(iQ Γ.sz).mpr (by simp[YX,c]),W]
  .rw[etl,rQ];constructor
   .rintro⟨k,_,hk⟩;rw[<-qJ] at hk;show qR hk
   .intro he;let⟨k,hk⟩:=vU.mp he;rw[qJ] at hk;let YX:=(gu.mp hk).1;let⟨j,hj⟩:=Γ.on k (by rw[X2];show YX);show#[k,bo.mpr #[(j,k),(iQ Γ.sz).mpr hj,W],hk]
def Mk(hb:ag):Prop:=hb=7\/hb=31\/hb=127\/hb=511
def Mk.full(h:Mk hb):Yg hb:=by
 rcases h with h|h|h|h<;>subst h
 .exact wR
 .exact La
 .exact K8
 .exact Qh
def Mk.grow(h:Mk hb)(h1:n*5<hb*3)(h2:¬(n+1)*5<hb*3)(hn:n<=300):Mk (kC (sD (n+1))-1)/\(n+1)*5<(kC (sD (n+1))-1)*3/\kC (sD (n+1))<=512:=by
 rcases h with h|h|h|h<;>subst h
 .let:n=4:=by ext
  subst this;show#[.inr (.inl .(c)),by decide,by decide]
 .let:n=18:=by ext
  subst this;show#[.inr (.inr (.inl .(c))),by decide,by decide]
 .let:n=76:=by ext
  subst this;show#[.inr (.inr (.inr .(c))),by decide,by decide]
 .omega
section
variable{R:lJ->aH->Prop}{G:bI rO->bI rO->Prop}{P:ag->aw->Prop}{St:ag->aH->Prop}
def CZ(prog:dy)(w:cA)(A:cJ)(S:av)(Ba:Heap->Prop)(P:ag->aw->Prop)(n:ag)(ao:ag->Obj->Prop):Prop:=
 ∀(i:ag)(v:aw)(s:aH)(o:Obj)(Q:aJ->aH->Prop)(us:aw->aH->Prop),i<n->P i v->s.heap.get? S=U o->ao i o->Ba s.heap->
  (∀b h' tk o',s.toks<=tk->g9 S s.heap h'->h'.get? S=U o'->ao (i+1) o'->Q b {s with heap:=h',toks:=tk})->aL (aN prog w) A (setAdd S v) Q us s
def Sj(Ya:WalksS prog w A.in1 I fp wr G n P St)(S:av)(Zx:S∉fp)(Ba:Heap->Prop)(hBa:∀h h',Ba h->(∀b o,b∉S::wr->h.get? b=U o->h'.get? b=U o)->Ba h')(ao:ag->Obj->Prop)(Į:CZ prog w A.in1 S Ba P n ao):
  ∀(k i:ag)(s:aH)(o:Obj),n-i=k->i<=n->St i s->s.heap.get? S=U o->ao i o->Ba s.heap->
   (∀s' o',Moved (S::wr) G s s'->s'.heap.get? S=U o'->ao n o'->R (.ok (.ret .none)) s')->
   fz (aN prog w) A (.builtin "set.update.loop" #[[.ref S,.ref I],[]]) R s:=by
 let hSw:S∉wr:=λh=>Zx (Ya.sub _ h);let å:∀b∈wr,b∈S::wr:=λb M=>qh _ M;intro k
 induction k with
 |zero=>
  intro i s o hk hi æ hS hJ hB hR;let Ĕ:i=n:=by ext
  subst Ĕ;show ia VU ?_;rw[iB Hb _];show qx (Ya.done s _ _ æ λs' hm=>?_);show qB (hR s' o (hm.mono å) (hm.heap S _ hSw hS) hJ)
 |succ k ih=>
  intro i s o hk hi æ hS hJ hB hR;let YX:i<n:=by ext
  show ia VU ?_;rw[iB Hb _];show qx (Ya.item i s _ _ YX æ λv s' hP hst' hm=>?_);show qx (qV ?_);show Į i v s' o _ _ YX hP (hm.heap S _ hSw hS) hJ (hBa _ _ hB λb o M e=>hm.heap b o (λz=>M (å b z)) e) λb h' tk o' Ĉ Ī Τ Υ=>?_;show qB #[ib Hb _,ih (i+1) _ o' .(b) YX (Ya.frame _ s' _ _ hst' Ĉ λb M o e=>?_) Τ Υ ?_ λι o'' hm'' hS'' hJ''=>?_]
  .rw[Ī.2 b (λh:b=S=>Zx (by rw[<-h];show M))];show e
  .refine hBa _ _ (hBa _ _ hB λb o M e=>hm.heap b o (λz=>M (å b z)) e) λb o M e=>?_;rw[Ī.2 b (λh:b=S=>M (by rw[h];show qg))];show e
  .refine hR ι o'' (VV Ya.gtrans ((hm.mono å).then_heap Ĉ λb o M e=>?_) hm'') hS'' hJ'';rw[Ī.2 b (λh:b=S=>M (by rw[h];show qg))];show e
end
def RE(a:aw){Q₁:aw->aH->Prop} 
  (h:Q₁ (.ref s.heap.objs.size) {s with heap:=s.heap.push {cls:=.type "set",dict:=B,data:=.set #[] 0 (.fresh 0 0 (!w.params.followText "set-order"))} }):
  fz (aN prog w) A (.call (.builtin "set.__new__") #[[.type "set",a],[]]) (wants Q₁ us) s:=by
 show VW ?_;show qx (nB (F.newCall_set_1 a) (qB #[ib VX _,ia F.entry_set_new ?_]));rw[iB VX _];unfold Builtin.«set.__new__» Xx;let å:=sub_set_self;let⟨hp,g,d,tk,os⟩:=s;dsimp only
 wp_walk
 show vY (qB ?_);dsimp only;simp only[newObj];show qx (wpAny_alloc (qB (qB h)))
set_option maxRecDepth 100000 in
set_option maxHeartbeats 3200000 in
def yC{l:av}{items:bI aw}(hh:A.handled=B)(hl:s.heap.IsList l items)(ao:ag->Obj->Prop)
  (hJ0:ao 0 {cls:=.type "set",dict:=B,data:=.set #[] 0 (.fresh 0 0 (!w.params.followText "set-order"))})
  (Į:∀A':cJ,A'.units<=A.units+16->CZ prog w A' s.heap.objs.size (λh=>∀b o,b<s.heap.objs.size->s.heap.get? b=U o->h.get? b=U o) (λi v=>items[i]?=U v) items.size ao)
  (h:∀(h':Heap)(tk:ag)(o:Obj),h'.get? s.heap.objs.size=U o->ao items.size o->
   (∀b o,b<s.heap.objs.size->s.heap.get? b=U o->h'.get? b=U o)->Q (.ref s.heap.objs.size) {s with heap:=h',toks:=tk}):
  aL (aN prog w) A (call (.type "set") [.ref l]) Q us s:=by
 let⟨c,tl,hmro⟩:=sE.mro;let hmade:=sE.made;let å:=sE.sub;show zD (VW ?_);show qB #[Code.quiet_builtin _ (by decide +kernel),ia F.entry_type_call ?_];rw[Around.under_plain (weight_type_call_type "set" [.ref l] []) W]
 repeat (any_goals (first|assumption|wp_step))
 show rV (RE (.ref l) (us:=us) (Q₁:=λobj Z7=>∃led:aJ,led=(!w.params.followText "set-order")/\obj=.ref s.heap.objs.size/\Z7={s with heap:=s.heap.push {cls:=.type "set",dict:=B,data:=.set #[] 0 (.fresh 0 0 led)} }) #[_,rfl,rfl,rfl]) λr Z7 hr=>?_;cases r with
 |error e=>show hr
 |ok fl=>
  cases fl with
  |ret obj=>
   let⟨led,Yv,rfl,rfl⟩:=hr;rw[<-Yv] at hJ0;let hS:(s.heap.push {cls:=.type "set",dict:=B,data:=.set #[] 0 (.fresh 0 0 led)}).get? s.heap.objs.size=U {cls:=.type "set",dict:=B,data:=.set #[] 0 (.fresh 0 0 led)}:=qH _ W;let hT:z7 {s with heap:=s.heap.push {cls:=.type "set",dict:=B,data:=.set #[] 0 (.fresh 0 0 led)} } (.ref s.heap.objs.size) "set":=#[_,hS,rfl];let hli:=sE.init.lookup;let hbi:=sE.init.bind (.ref s.heap.objs.size)
   repeat (any_goals (first|assumption|wp_step))
   show rV (VY (R:=wants (λr Z4=>r=.none/\∃h' tk o,Z4={s with heap:=h',toks:=tk}/\h'.get? s.heap.objs.size=U o/\ao items.size o /\
     (∀b o,b<s.heap.objs.size->s.heap.get? b=U o->h'.get? b=U o)) us) sE.init.plain F.entry_set_init (check_set_init_1 hT ?_)) λr₂ Z4 ZW=>?_
   .obtain⟨ol,hol,hcl,nl,hdl⟩:=hl;let⟨ocls,odict,odata,oslots⟩:=ol;simp only at hcl hdl;subst hcl;subst hdl;let hol':(s.heap.push {cls:=.type "set",dict:=B,data:=.set #[] 0 (.fresh 0 0 led)}).get? l=U {cls:=.type "list",dict:=odict,data:=.seq items nl,slots:=oslots}:=qu _ hol;let hsls:=F.sub_list_set;let hslf:=F.sub_list_frozenset;let Zb:(rL "list"==rL "dict")=ar:=by decide
    let χ:(s.heap.push {cls:=.type "set",dict:=B,data:=.set #[] 0 (.fresh 0 0 led)}).IsList l items:=#[_,hol',W,nl,W];unfold Builtin.«set.__init__» noKeywords Xy;generalize hPI:kj=PI
    wp_walk
    subst hPI;show nz χ ?_;show qx (wpAny_runValue ?_);let hlS:l<s.heap.objs.size:=qv hol;let hh3:A.in1.in1.in1.handled=B:=by simp[hh]
    let hneI:l≠(s.heap.push {cls:=.type "set",dict:=B,data:=.set #[] 0 (.fresh 0 0 led)}).objs.size:=by rw[jF];show qD (lQ hlS)
    let Zx:s.heap.objs.size∉[(s.heap.push {cls:=.type "set",dict:=B,data:=.set #[] 0 (.fresh 0 0 led)}).objs.size,l]:=by rw[jF];simp only[qN,bL,qL,or_false,sF];show#[qD (ng _),zx hlS]
    let hget:((s.heap.push {cls:=.type "set",dict:=B,data:=.set #[] 0 (.fresh 0 0 led)}).push {cls:=.type "list_iterator",data:=.fields [.ref l,.int 0 0].toArray}).get? s.heap.objs.size
       = U {cls:=.type "set",dict:=B,data:=.set #[] 0 (.fresh 0 0 led)}:=qu _ hS
    show Sj ((o7 hh3 _ l hneI items).toS) s.heap.objs.size
     Zx (λh=>∀b o,b<s.heap.objs.size->s.heap.get? b=U o->h.get? b=U o) (λh h' hB hk b o M e=>hk b o ?_ (hB b o M e)) ao (Į _ (by show A.units+3<=_;ext)) (items.size-0) 0 _ _ .(b) (gM _)
     #[#[_,qH _ W,W,W],(χ.push _)] hget hJ0 (λb o M e=>qu _ (qu _ e)) ?hR
    .let ş:b≠s.heap.objs.size:=qD M;let ċ:b≠(s.heap.push {cls:=.type "set",dict:=B,data:=.set #[] 0 (.fresh 0 0 led)}).objs.size:=by rw[jF];show qD (lQ M)
     simp only[qN,bL,qL,or_false,sF];show#[ş,ċ]
    case hR=>
     intro s' o' hm Τ Υ;let⟨h',g',d',η,os'⟩:=s';let eg:g'=s.gens:=hm.gens;let ed:d'=s.drawn:=hm.drawn;let eo:os'=s.os:=hm.os;subst eg;subst ed;subst eo;show qB ?_;show qB #[W,h',η,o',W,Τ,Υ,λb o M e=>?_];let ş:b≠s.heap.objs.size:=qD M;let ċ:b≠(s.heap.push {cls:=.type "set",dict:=B,data:=.set #[] 0 (.fresh 0 0 led)}).objs.size:=by rw[jF];show qD (lQ M)
     show hm.heap b o (by simp only[qN,bL,qL,or_false,sF];show#[ş,ċ]) (qu _ (qu _ e))
   .cases r₂ with
    |error e=>show ZW
    |ok ZO =>
     cases ZO with
     |ret r=>
      let⟨rfl,h',tk,o',rfl,Τ,Υ,Ν⟩:=ZW
      repeat (any_goals (first|assumption|wp_step))
      show h _ _ _ Τ Υ Ν
     |_=>show ZW.elim
  |_=>show hr.elim
noncomputable def dd[dJ κ](l:Z κ):Z κ:=l.foldl (λa k=>if k∈a then a else a++[k]) []
def rK[dJ κ](l:Z κ)(k:κ):dd (l++[k])=if k∈dd l then dd l else dd l++[k]:=by unfold dd;rw[Aa];rfl
def mw[dJ κ](l:Z κ):(dd l).length<=l.length:=by
 let key:∀(l a:Z κ),(l.foldl (λa k=>if k∈a then a else a++[k]) a).length<=a.length+l.length:=by
  intro l
  induction l with
  |nil=>intro a;show qw _
  |cons k r ih=>
   intro a;rw[fO];show qO (ih _) ?_;split
   .simp only[qi];ext
   .simp only[qj,qi,qm];ext
 let:=key l [];simpa[dd] using this
section
variable[dJ κ]{YF:KeyKind prog w κ}
def JU{ks:Z κ}{Q:aJ->aH->Prop}(hk:IsTupleKey YF s.heap ks a)(hsc:∀v k,YF.is k v=ai->v.scannable=ai)(h:∀b,Q b s):aL (aN prog w) A (hashByValue 8 (.ref a)) Q us s:=by
 let hT:=hk.typeIs;let⟨o,items,n,ho,_,hd,hi⟩:=hk;show qx (GP hT F.slot_tuple_hash.lookup ?_);show qx (jK ho hd ?_);show qx ?_;show aL _ _ (forIn items _ _) _ _ s;rw[<-VZ];let Ė:∀v∈items.toList,v.scannable=ai:=by
  let:∀{x:Z κ}{vs:Z aw},ItemsAre YF x vs->∀v∈vs,v.scannable=ai:=by
   intro x vs q
   induction q with
   |nil=>intro v hv;cases hv
   |cons h1 _ ih=>
    intro v hv;rcases cg.mp hv with rfl|hv
    .exact hsc _ _ h1
    .exact ih v hv
  show this hi
 show Hc _ (λbS r s'=>s'=s/\∀v∈bS,v.scannable=ai) _ ?_ ?_ _ _ #[W,Ė]
 .rintro v bS r s' ⟨rfl,hv⟩;rw[V0 _ (hv v qg)];show qx (qB ?_);cases hp:plainKind v with
  |true=>
   simp only[ic,qr,cE];show qB #[W,λu hu'=>hv u (qh _ hu')]
  |false=>
   simp only[lR,cx]
   first|show qB (qB (h _))|show qB (h _)|show qx (qB (qB (qB (h _))))
 .rintro⟨r1,r2⟩ s' ⟨rfl,_⟩
  first|show qB (h _)|(cases r1<;>show qB (h _))
def Cd{ks:Z κ}{Q:aJ->aH->Prop}(hk:IsTupleKey YF s.heap ks a)(h:Q ar s):aL (aN prog w) A (Hd 8 (.ref a)) Q us s:=by
 let hT:=hk.typeIs;let⟨o,items,n,ho,_,hd,hi⟩:=hk;unfold Hd;show qx (rZ hT ?_);dsimp only;rw[qY .(c)];show qx (qB ?_);simp only[ic,qr,cE];show qx (jK ho hd ?_);show qx ?_;rw[<-VZ];show Hc _ (λbS r s'=>r.1=B/\s'=s/\∀v∈bS,V1 v=ai) _ ?_ ?_ _ _ #[W,W,hi.byValue]
 .rintro v bS r s' ⟨hr,rfl,hv⟩;let e:Hd 7 v=bc ar:=by
   let:=hv v qg;cases v with
   |ref b=>simp[V1] at this
   |_=>rfl
  rw[e];show qx (qB ?_);simp only[qr,cE];show qB #[W,W,λu hu'=>hv u (qh _ hu')]
 .rintro⟨r1,r2⟩ s' ⟨hr,rfl,_⟩;simp only at hr;subst hr;show qB h
def TQ{ks:Z κ}{Q:aJ->aH->Prop}(hk:IsTupleKey YF s.heap ks a)(st:Z aw)(æ:∀y∈st,∃k b,y=.ref b/\IsTupleKey YF s.heap k b)(h:Q ar s):aL (aN prog w) A (searchCouldBeSeen (.ref a) st) Q us s:=by
 show qx ?_;show Hc _ (λbS r s'=>r.1=B/\s'=s/\∀y∈bS,∃k b,y=.ref b/\IsTupleKey YF s.heap k b) _ ?_ ?_ _ _ #[W,W,æ]
 .rintro v bS r s' ⟨hr,rfl,hv⟩;let⟨k,b,rfl,M⟩:=hv v qg;dsimp only;split
  .exact qB #[W,W,λu hu'=>hv u (qh _ hu')]
  .refine qx (V2 hk ?_);simp only[ic,qr,cE];show qx (V2 M ?_);simp only[ic,qr,cE];show qx (Cd hk ?_);simp only[qr,cE];show qx (Cd M ?_);simp only[qr,cE];show qB #[W,W,λu hu'=>hv u (qh _ hu')]
 .rintro⟨r1,r2⟩ s' ⟨hr,rfl,_⟩;simp only at hr;subst hr;show qB h
end
def xG{t:hZ}{es:bI (ah×aw)}(T:Tb t es){p:z5}{r:au SetTable.Met}(hp:t.probe hashAt h p=r)(Κ:p=gK (it t.mask h n))(hn:n<=n0)(hn0:n0<10*(t.mask+15))
  (hf:ao t.mask h n0∉t.place.toList)(ho:∀m,m<n0->ao t.mask h m∈t.place.toList):
  (∃n' i,n<=n'/\n'<n0/\t.place[i]?=U (ao t.mask h n')/\hashAt i=h/\(∀m i,n<=m->m<n'->t.place[i]?=U (ao t.mask h m)->hashAt i≠h)/\r=U (.candidate (ao t.mask h n') i (gK (it t.mask h (n'+1))))) \/
  ((∀m i,n<=m->m<n0->t.place[i]?=U (ao t.mask h m)->hashAt i≠h)/\r=U (.empty (ao t.mask h n0) B)):=by
 subst Κ;subst hp;show T.probe_go hashAt h hf ho (10*nA t.mask) n hn (by unfold nA;ext)
def Sr{t:hZ}{es:bI (ah×aw)}(T:Tb t es){p:z5}(hp:∀met,t.probe hashAt h p=U met->False)(Κ:p=gK (it t.mask h n))(hn:n<=n0)(hn0:n0<10*(t.mask+15))
  (hf:ao t.mask h n0∉t.place.toList)(ho:∀m,m<n0->ao t.mask h m∈t.place.toList):False:=by
 rcases xG T rfl Κ hn hn0 hf ho with⟨n',i,_,_,_,_,_,g6⟩|⟨_,g2⟩
 .exact hp _ g6
 .exact hp _ g2
section
variable[dJ κ]{YF:KeyKind prog w κ}
def pW(YF:KeyKind prog w κ)(h:Heap)(es:bI (ah×aw)):Prop:=∀(i:ag)e,es[i]?=U e->∃k b,e=(bJ YF k,.ref b)/\IsTupleKey YF h k b
def Mk.odd(h:Mk hb):(hb%2==0)=ar:=by rcases h with rfl|rfl|rfl|rfl<;>rfl
def UJ{o:Obj}{es:bI (ah×aw)}{t:hZ}{k:Z κ}{Q:SetFound->aH->Prop}(hu:A.units<cq)(ho:s.heap.get? S=U o)(hd:o.data=.set es ep t)(T:Tb t es)(hM:Mk t.mask)
  (hk:IsTupleKey YF s.heap k a)(he:pW YF s.heap es)(hf:ao t.mask (bJ YF k) n0∉t.place.toList)(hocc:∀m,m<n0->ao t.mask (bJ YF k) m∈t.place.toList)(hn0:n0<10*(t.mask+15))
  (hyes:∀(i:ag)(b:av),es[i]?=U (bJ YF k,.ref b)->IsTupleKey YF s.heap k b->Q (.there B) s)
  (Zi:(∀(i:ag)(b:av),es[i]?=U (bJ YF k,.ref b)->¬IsTupleKey YF s.heap k b)->Q (.free (ao t.mask (bJ YF k) n0) ar) s):
  ∀(YU n:ag)(ķ:au z5),n0-n<YU->n<=n0->(ķ.getD (t.probeStart (bJ YF k))=gK (it t.mask (bJ YF k) n))->
   (∀(m i:ag)(b:av),m<n->t.place[i]?=U (ao t.mask (bJ YF k) m)->es[i]?=U (bJ YF k,.ref b)->¬IsTupleKey YF s.heap k b)->
   aL (aN prog w) A (He S (.ref a) (bJ YF k) ai YU ķ) Q us s:=by
 intro YU
 induction YU with
 |zero=>intro n ķ h1;ext
 |succ YU ih=>
  intro n ķ h1 h2 hs hw;show qx (kD ho hd T.fits ?_);dsimp only;let hg:t.gaveWay=ar:=hM.odd;rw[hg];simp only[qr,cE];split
  .rename_i met hp;rcases xG T hp hs h2 hn0 hf hocc with⟨n',i,g1,g2,g3,g4,g5,g6⟩|⟨g1,g2⟩
   .cases g6;let hi:i<es.size:=by let:=(gu.mp g3).1;rw[T.sz] at this;show this
    let ă:es[i]?=U es[i]:=by simp[hi]
    let⟨k',b,e1,M⟩:=he i _ ă;rw[e1] at ă;let hh:bJ YF k'=bJ YF k:=by let g4':((es[i]?).map (·.1)).getD 0=bJ YF k:=g4;rw[ă] at g4';show g4'
    rw[hh] at ă;let bS:aL (aN prog w) A (do
      let U (_,y):=es[i]? | unsupported "internal:set-entry"
      let equal ←ki [y] (eqBool y (.ref a))
      let (Yj,_,t') ←setState S
      if ai && equal then return .there B
      let U same:=t'.sameMemory t.moves t.mask|unsupported "set.changed-during-lookup:is-the-new-block-at-the-old-address"
      let still ←match (if same then t'.slot (ao t.mask (bJ YF k) n') else .empty) with
       |.live i'=>match Yj[i']? with
        |some (_,y')=>do bc (if ←isSame y' y then U i' else B)
        |none=>bc B
       |_=>bc B
      match still with
      |none=>rule "set.search.anew";He S (.ref a) (bJ YF k) ai YU B
      |some i'=>if equal then return .there (U i') else He S (.ref a) (bJ YF k) ai YU (U (gK (it t.mask (bJ YF k) (n'+1))))) Q us s:=by
     rw[ă];dsimp only;show qx (qV (wpAny_eqBool_tuple hu M hk ?_));show qx (kD ho hd T.fits ?_);dsimp only;by_cases ś:k'=k
     .subst ś;rw[qU W];simp only[vZ,cx];show qB (hyes i b ă M)
     .rw[qP ś];simp only[vZ,qr,cE];let hsm:t.sameMemory t.moves t.mask=U ai:=by unfold SetTable.sameMemory;simp
      rw[hsm];dsimp only;simp only[cx];rw[T.live g3];dsimp only;rw[ă];dsimp only;show qx (wpAny_isSame_ref_self ?_);simp only[cx];show qx (qB ?_);dsimp only;show ih (n'+1) _ .(b) .(b) W ?_;intro m i2 b2 hm Ā he2;by_cases h3:m<n
      .exact hw m i2 b2 h3 Ā he2
      .by_cases h4:m=n'
       .subst h4;let ei:i2=i:=by let q1:=T.live Ā;let q2:=T.live g3;rw[q1] at q2;injection q2
        subst ei;rw[ă] at he2;cases he2;exactλz=>ś (M.inj z)
       .exfalso;show g5 m i2 .(b) .(b) Ā ?_;show((es[i2]?).map (·.1)).getD 0=_;rw[he2];rfl
    cases Yv:t.led with
    |true=>
     simp only[ic,qr,cE];show bS
    |false=>
     simp only[lR,cx];show qx (TQ hk _ (λy hy=>?_) ?_)
     .obtain⟨e,he1,rfl⟩:=bo.mp hy;let he2:e∈es.toList:=by let:=Gv.mp he1;rw[Array.mem_filter] at this;show Gv.mpr this.1
      let⟨j,hj,ej⟩:=vT.mp he2;let⟨k2,b2,q1,q2⟩:=he j e (by rw[<-qJ,qE hj,ej]);show#[k2,b2,by rw[q1],q2]
     .simp only[qr,cE];show bS
   .cases g2;dsimp only;show qB (Zi λi b ă M=>?_);let hi:i<es.size:=(gu.mp ă).1;let hpi:t.place[i]?=U t.place[i]! := by
     let:i<t.place.size:=by rw[T.sz];show hi
     simp[this]
    let⟨m,q1,q2⟩:=T.rc i _ _ _ hpi ă;let ŋ:ao t.mask (bJ YF k) m∈t.place.toList:=by rw[q1];rw[<-qJ] at hpi;show qR hpi
    let hm:m<n0:=by
     rcases VB m n0 with z|z|z
     .exact z
     .subst z;show bj ŋ hf
     .exact bj (q2 n0 z) hf
    by_cases h3:m<n
    .exact hw m i b h3 (by rw[q1];show hpi) ă M
    .refine g1 m i .(b) hm (by rw[q1];show hpi) ?_;show((es[i]?).map (·.1)).getD 0=_;rw[ă];rfl
  .rename_i hp;show(Sr T hp hs h2 hn0 hf hocc).elim
structure TS(YF:KeyKind prog w κ)(h:Heap)(ks:Z (Z κ))(o:Obj):Prop where
 cls:o.ExactSet
 ex:∃es ep t,o.data=.set es ep t/\Tb t es/\Mk t.mask/\pW YF h es/\es.size=(dd ks).length/\(∀k∈dd ks,∃(i:ag)(b:av),es[i]?=U (bJ YF k,.ref b)/\IsTupleKey YF h k b)/\∀(i:ag)(k:Z κ)(b:av),es[i]?=U (bJ YF k,.ref b)->IsTupleKey YF h k b->k∈dd ks
def IsTupleKey.mono{h:Heap}{k:Z κ}(x:IsTupleKey YF h k a)(q:∀o,h.get? a=U o->h'.get? a=U o):IsTupleKey YF h' k a:=by let⟨o,items,n,h1,h2⟩:=x;show#[o,items,n,q o h1,h2]
def mK{es:bI (ah×aw)}{e:ah×aw}:e∈es.toList↔∃i:ag,es[i]?=U e:=by
 constructor
 .intro h;let⟨i,hi,q⟩:=vT.mp h;show#[i,by rw[<-qJ,qE hi,q]]
 .rintro⟨i,h⟩;rw[<-qJ] at h;show qR h
def M8{ks:Z (Z κ)}{k:Z κ}{es:bI (ah×aw)}(hk:IsTupleKey YF h0 k a)(hE:pW YF h0 es)(Zw:es.size=(dd ks).length)(Ĕ:∀k∈dd ks,∃(i:ag)(b:av),es[i]?=U (bJ YF k,.ref b)/\IsTupleKey YF h0 k b)
  (Ŭ:∀(i:ag)(k:Z κ)(b:av),es[i]?=U (bJ YF k,.ref b)->IsTupleKey YF h0 k b->k∈dd ks)(ā:k∉dd ks)(mem:∀e,e∈Yj.toList↔e=(bJ YF k,.ref a)\/e∈es.toList)(size:Yj.size=es.size+1):
  pW YF h0 Yj/\Yj.size=(dd (ks++[k])).length/\(∀k'∈dd (ks++[k]),∃(i:ag)(b:av),Yj[i]?=U (bJ YF k',.ref b)/\IsTupleKey YF h0 k' b)/\∀(i:ag)(k':Z κ)(b:av),Yj[i]?=U (bJ YF k',.ref b)->IsTupleKey YF h0 k' b->k'∈dd (ks++[k]):=by
 rw[rK,qZ ā];show#[λi e he=>?_,by rw[size,Zw,qj,nt],λk' Ν=>?_,λi k' b he M=>?_]
 .rcases(mem e).mp (mK.mpr #[i,he]) with rfl|q
  .exact#[k,a,W,hk]
  .obtain⟨j,q⟩:=mK.mp q;show hE j e q
 .rcases c8.mp Ν with q|q
  .obtain⟨i,b,q1,q2⟩:=Ĕ k' q;let⟨j,q3⟩:=mK.mp ((mem _).mpr (.inr (mK.mpr #[i,q1])));show#[j,b,q3,q2]
  .rw[bL.mp q];let⟨j,q3⟩:=mK.mp ((mem _).mpr (.inl rfl));show#[j,a,q3,hk]
 .rcases(mem _).mp (mK.mpr #[i,he]) with q|q
  .let e:b=a:=by let:=(V3 q).2;injection this
   subst e;show c8.mpr (.inr (bL.mpr (M.inj hk)))
  .obtain⟨j,q⟩:=mK.mp q;show c8.mpr (.inl (Ŭ j k' b q M))
def tV{h:Heap}{o:Obj}{es:bI (ah×aw)}{t t':hZ}(ho:h.get? S=U o)(hd:o.data=.set es ep t):(h.update S (Ab Yj t')).get? S=U {o with data:=.set Yj (ep+1) t'}:=by
 let q:=nC (Ab Yj t') ho (by rw[putSet_of Yj t' hd];rfl)
 rwa [putSet_of Yj t' hd] at q
set_option maxHeartbeats 1000000 in
def Q5{o:Obj}{ks:Z (Z κ)}{k:Z κ}{Q:aJ->aH->Prop}(hsc:∀v k,YF.is k v=ai->v.scannable=ai)(hu:A.units<cq)(ho:s.heap.get? S=U o)(T:TS YF h0 ks o)(hk:IsTupleKey YF h0 k a)
  (hB:∀b o,h0.get? b=U o->s.heap.get? b=U o)(X2:ks.length<=300)
  (h:∀b h' tk o',s.toks<=tk->g9 S s.heap h'->h'.get? S=U o'->TS YF h0 (ks++[k]) o'->Q b {s with heap:=h',toks:=tk}):aL (aN prog w) A (setAdd S (.ref a)) Q us s:=by
 let⟨hc,es,ep,t,hd,TB,hM,hE,Zw,Ĕ,Ŭ⟩:=T;let up:∀{k:Z κ}{b:av},IsTupleKey YF h0 k b->IsTupleKey YF s.heap k b:=λq=>IsTupleKey.mono q λo e=>hB _ _ e;let down:∀{k k':Z κ}{b:av},IsTupleKey YF h0 k' b->IsTupleKey YF s.heap k b->k=k':=λq1 q2=>q2.inj (up q1);let hE':pW YF s.heap es:=λi e he=>by let⟨k,b,q1,q2⟩:=hE i e he;show#[k,b,q1,up q2]
 let hddl:=mw ks;let⟨n0,f1,f2,f3⟩:=TB.first (bJ YF k);show qV (qx (wpAny_pyHash_tuple hu (up hk) ?_));show qV (qx (kD ho hd TB.fits ?_));dsimp only;rw[show byScan (.ref a) es=ar from W];simp only[qr,cE];show qx (UJ (s:={s with toks:=s.toks+(k.length+1)}) hu ho hd TB hM (up hk) hE' f2 f3 f1 (λi b ă M=>?_) (λĖ=>?_) 100000 0 B ?_ (gM _) W (λm i b hm=>by ext))
 ·
  dsimp only;let⟨k',b',q1,q2⟩:=hE i _ ă;let:b'=b:=by let:=(V3 q1).2;injection this with e;show e.symm
  subst this;let ek:=down q2 M;subst ek;let ŋ:=Ŭ i k _ ă q2;show qB (h ar s.heap _ o (by show s.toks<=s.toks+(k.length+1);ext) (GW S s.heap) ho #[hc,es,ep,t,hd,TB,hM,hE,?_]);rw[rK,qY ŋ];show#[Zw,Ĕ,Ŭ]
 ·
  dsimp only;let ā:k∉dd ks:=λhm=>by let⟨i,b,q1,q2⟩:=Ĕ k hm;show Ė i b q1 (up q2)
  let YR:bX t.place (ao t.mask (bJ YF k) n0)<=es.size:=by let:=(oe t.place (ao t.mask (bJ YF k) n0) TB.ri).1;rw[TB.sz] at this;show this
  let ŋ:∀e,e∈(ci es (bX t.place (ao t.mask (bJ YF k) n0)) (bJ YF k,cI a)).toList↔e=(bJ YF k,cI a)\/e∈es.toList:=λe=>by rw[lE _ _ _ YR];show yo _ _ _ _
  let Ð:(ci es (bX t.place (ao t.mask (bJ YF k) n0)) (bJ YF k,cI a)).size=es.size+1:=by let:=bM cC (lE es _ (bJ YF k,cI a) YR);simp only[fy,qj,qi,qF,iz] at this;ext
  let ū:(ci t.place (bX t.place (ao t.mask (bJ YF k) n0)) (ao t.mask (bJ YF k) n0)).size=es.size+1:=by let:=bM cC (lE t.place _ (ao t.mask (bJ YF k) n0) (by rw[TB.sz];show YR));let h3:=TB.sz;simp only[fy,qj,qi,qF,iz] at this;ext
  show qx (kD ho hd TB.fits ?_);dsimp only;let Yy:∀(Yj:bI (ah×aw))(t':hZ)(h':Heap)(o':Obj),Tb t' Yj->Mk t'.mask->(∀e,e∈Yj.toList↔e=(bJ YF k,cI a)\/e∈es.toList)->Yj.size=es.size+1->g9 S s.heap h'->h'.get? S=U o'->o'.ExactSet->(∃Δ,o'.data=.set Yj Δ t')->Q ai {s with heap:=h',toks:=s.toks+(k.length+1)}:=λYj t' h' o' q1 q2 q3 q4 q5 q6 q7 q8=>by let⟨Δ,q8⟩:=q8;let⟨w1,w2,w3,w4⟩:=M8 hk hE Zw Ĕ Ŭ ā q3 q4;show h ai h' _ o' .(b) q5 q6 #[q7,Yj,Δ,t',q8,q1,q2,w1,w2,w3,w4]
  let bS:∀pl:aJ,aL (aN prog w) A (do
    storeSet S (ci es (t.put (ao t.mask (bJ YF k) n0)).2 (bJ YF k,cI a)) { (t.put (ao t.mask (bJ YF k) n0)).1 with plain:=pl}
    if (!ar && lS { (t.put (ao t.mask (bJ YF k) n0)).1 with plain:=pl})=ai then do
     setRelay S (sD (es.size+1))
     bc ai
    else bc ai) Q us {s with toks:=s.toks+(k.length+1)}:=λpl=>by
   show qx (Ac ho hd ?_ (by show(ci es (bX t.place (ao t.mask (bJ YF k) n0)) (bJ YF k,cI a)).size<=aK;rw[Ð,eM];ext));let ω:=tV (Yj:=ci es (t.put (ao t.mask (bJ YF k) n0)).2 (bJ YF k,cI a)) (t':={ (t.put (ao t.mask (bJ YF k) n0)).1 with plain:=pl}) ho hd;let Ū:=lU s.heap S (Ab (ci es (t.put (ao t.mask (bJ YF k) n0)).2 (bJ YF k,cI a)) { (t.put (ao t.mask (bJ YF k) n0)).1 with plain:=pl});let hdum:(t.put (ao t.mask (bJ YF k) n0)).1.dummies=#[]:=by show(if zY t.dummies _ then _ else t.dummies)=#[];rw[TB.dm];rfl
   let Ó:G7 { (t.put (ao t.mask (bJ YF k) n0)).1 with plain:=pl}=es.size+1:=by show(ci t.place _ _).size+(t.put (ao t.mask (bJ YF k) n0)).1.dummies.size=_;rw[hdum];show ū
   by_cases few:(es.size+1)*5<t.mask*3
   .let Ò:lS { (t.put (ao t.mask (bJ YF k) n0)).1 with plain:=pl}=ar:=by unfold lS;rw[Ó];show qP (by show ¬((es.size+1)*5 ≥ t.mask*3);ext)
    rw[Ò];simp only[lR,GO,qr,cE];show qB (Yy _ _ _ _ (TB.put f2 f3 few pl) hM ŋ Ð Ū ω hc #[_,W])
   .let Ò:lS { (t.put (ao t.mask (bJ YF k) n0)).1 with plain:=pl}=ai:=by unfold lS;rw[Ó];show qU (by show((es.size+1)*5 ≥ t.mask*3);ext)
    rw[Ò];simp only[lR,V4,cx];let⟨m1,m2,m3⟩:=hM.grow TB.few few .(b);let Ă:(ci es (t.put (ao t.mask (bJ YF k) n0)).2 (bJ YF k,cI a)).size=es.size+1:=Ð;let⟨t',Y4,r1,r2,r3,r4,r5,r6⟩:=Yg.relaid m1.full (by rw[Ă];show m2);let Ű:o9 { (t.put (ao t.mask (bJ YF k) n0)).1 with plain:=pl} (ci es (t.put (ao t.mask (bJ YF k) n0)).2 (bJ YF k,cI a)).size=ai:=by unfold o9;rw[Ó,Ă,cW];let:=TB.few;show#[by rw[ko];show ū,qU (by show es.size+1<=t.mask;ext)]
    show qx ?_;show qx (kD ω W Ű ?_);dsimp only;rw[qZ (by rw[eM];ext),r1];show qx ?_;show aL _ _ (if ((Y4.filterMap ((ci es (t.put (ao t.mask (bJ YF k) n0)).2 (bJ YF k,cI a))[·]?)).size != (ci es (t.put (ao t.mask (bJ YF k) n0)).2 (bJ YF k,cI a)).size)=ai then _ else _) _ _ _;rw[qZ (by rw[r2];simp)];show qB ?_;dsimp only;show Ac ω W ?_ (by rw[r2,Ă,eM];ext);show qB (Yy _ t' _ _ r3 (by rw[r5];show m1) (λe=>(r4 e).trans (ŋ e)) (by rw[r2,Ă]) (Ū.trans (lU _ S _)) (tV ω W) hc #[_,W])
  split
  .refine qx (JU (up hk) hsc λbv=>?_);cases bv
   .exact bS ar
   .exact bS _
  .refine qx (qB ?_);show bS _
 .show n0-0<100000;let:t.mask<=511:=by rcases hM with e|e|e|e<;>ext
  ext
end
end ST
section
open ST
instance (priority:=high) keyBEq:BEq XR:=V5
instance (priority:=high) keyLaw:LawfulBEq XR:=inferInstanceAs (@LawfulBEq XR V5)
def Ee(n:ag)(o:Obj):Prop:=o.ExactSet/\∃es ep t,o.data=.set es ep t/\t.fits es.size=ai/\es.size=n
def ma(p:av)(n:ag):HO:=.ext λh=>∃o,h.get? p=U o/\Ee n o
def B7(v:aw)(k:XR)(h:(cG P w).is k v=ai):v.scannable=ai:=by rcases iU h with⟨i,t,rfl,rfl⟩|⟨x,t,rfl,rfl⟩<;>rfl
def RV:Z V->Hp->VK->Prop:=λxs H Q=>∃a vs,xs=[.ref a]/\H a=U (.lst vs)/\vs.length<=300 /\
 ((∃ks:Z XR,vs=ks.map kV/\∀p,H p=B->Q (.ref p) (X0 H p (ma p (dd ks).length))) \/
 (∃ts:Z (Z XR),vs.length=ts.length/\(∀(i:ag)t,ts[i]?=U t->∃b,vs[i]?=U (.ref b)/\H b=U (.tup (t.map kV)))/\∀p,H p=B->Q (.ref p) (X0 H p (ma p (dd ts).length))))
def Sy(hc:X.calm=ai)(hu:X.A.units+66<cq):dZ X (.type "set") RV:=by
 intro Z' s L H xs E Q I r h;let⟨a,vs,rfl,ha,hl,h⟩:=h;let⟨u,rfl,ru⟩:=dY r;cases ru;let⟨XY,rv,pl,hz⟩:=I.list (.inl (.inl ha));let X2:=rv.length;let Yy:∀(n:ag)(h':Heap)(tk:ag)(o:Obj),h'.get? s.heap.objs.size=U o->Ee n o->(∀b o,b<s.heap.objs.size->s.heap.get? b=U o->h'.get? b=U o)->
   (∀p,H p=B->Q (.ref p) (X0 H p (ma p n)))->EP X Z' L Q (.ref s.heap.objs.size) {s with heap:=h',toks:=tk}:=λn h' tk o ho hn hk q=>by
  show#[.ref s.heap.objs.size,_,I.laid (λb u e=>hk b u (qv e) e) (qw _) ?_,W,q _ I.fresh];show#[#[o,ho,hn],#[o,ho],λh1 h2 hp ψ=>?_];let⟨o1,q1,q2⟩:=hp;show#[o1,ψ o1 q1,q2]
 rcases h with⟨ks,rfl,q⟩|⟨ts,ht,hts,q⟩
 ·
  let hkl:ks.length=XY.length:=by rw[<-X2,qf]
  show yC (I.ok.hd hc) pl.isList (λi o=>o.SetObjOf (cG X.prog X.w) (λk=>decide (k∈dd (ks.take i))) (dd (ks.take i)).length) ?_ (λA' hA' i v sh o Q' E' hi hv ho hJ hB hQ=>?_) λh' tk o ho hJ hk=>?_
  .let:=setObjOf_fresh (knd:=cG X.prog X.w) (!X.w.params.followText "set-order");simpa[dd] using this
  .let è:i<ks.length:=by rw[qC] at hi;ext
   let⟨u2,Η,Ε⟩:=rv.get (i:=i) (x:=kV ks[i]) (by simp[è]);let ev:v=u2:=by
    let Zt:XY[i]?=U v:=by simpa using hv
    rw[Η] at Zt;show(qI Zt).symm
   subst ev;let ç:=jT (P:=X.prog) (w:=X.w) Ε;let hle:(dd (ks.take i)).length<=300:=by let h1:=mw (ks.take i);rw[qF] at h1;rw[qf] at hl;ext
   show qV (qx ((cG X.prog X.w).pyHash ç ?_));show wpAny_setAddHashed_of ç (B7 _ _ ç) (hJ.setOf ho (by unfold scanBound;ext)) (by unfold scanBound;ext) λh' Ī hS2=>?_;let⟨o',Ñ,hso⟩:=hS2.objOf;show hQ _ h' _ o' (nh _) Ī Ñ ?_;let Ĉ:ks.take (i+1)=ks.take i++[ks[i]]:=by rw[i8,qE è];rfl
   show Obj.SetObjOf (cG X.prog X.w) o' (λk=>decide (k∈dd (sC (i+1) ks))) (dd (sC (i+1) ks)).length;rw[Ĉ,rK];by_cases hm:ks[i]∈dd (ks.take i)
   .rw[qY hm];rw[qY (by simpa using hm)] at hso;let e:(λk'=>decide (k'∈dd (ks.take i)) || decide (k'=ks[i]))=λk'=>decide (k'∈dd (ks.take i)):=by
     funext k'
     by_cases Ν:k'=ks[i]
     .subst Ν;simp[hm]
     .simp[Ν]
    rw[e] at hso;show hso
   .rw[qZ hm];rw[qZ (by simpa using hm)] at hso;let e:(λk'=>decide (k'∈dd (ks.take i)) || decide (k'=ks[i]))=λk'=>decide (k'∈dd (ks.take i)++[ks[i]]):=by
     funext k'
     rw[m9];simp
    rw[e] at hso;simpa using hso
  .let e:ks.take XY.toArray.size=ks:=by rw[qC,<-hkl];show eN
   rw[e] at hJ;let hS:=hJ.setOf ho (by let:=mw ks;rw[qf] at hl;unfold scanBound;ext);let⟨o1,es,ep,t,v0,v1,v2,_,_,_,v3,v4⟩:=hS;rw[ho] at v0;cases v0;show Yy _ h' tk o ho #[v1,es,ep,t,v2,v3,v4] hk q
 ·
  let hkl:ts.length=XY.length:=by rw[<-X2,ht]
  show yC (I.ok.hd hc) pl.isList (λi o=>ST.TS (cG X.prog X.w) s.heap (ts.take i) o) ?_ (λA' hA' i v sh o Q' E' hi hv ho hJ hB hQ=>?_) λh' tk o ho hJ hk=>?_
  .refine#[#[W,W,W],#[],0,kF 0 0 (!X.w.params.followText "set-order"),W,?_,.inl W,λi e he=>by simp at he,W,λk hk=>by simp[dd] at hk,λi k b he=>by simp at he];show#[wR,W,W,by simp[kF],by simp[kF],by simp[kF],λi j h x hp=>by simp[kF] at hp]
  .let è:i<ts.length:=by rw[qC] at hi;ext
   let⟨b,ş,ċ⟩:=hts i ts[i] (by simp[è]);let⟨u2,Η,Ε⟩:=rv.get ş;let ev:v=u2:=by
    let Zt:XY[i]?=U v:=by simpa using hv
    rw[Η] at Zt;show(qI Zt).symm
   subst ev;cases Ε;let ç:=kc I.hok ċ;let Ĉ:ts.take (i+1)=ts.take i++[ts[i]]:=by rw[i8,qE è];rfl
   show Q5 (λv k=>B7 v k) .(b) ho hJ ç (λb' o' e=>hB b' o' (qv e) e) (by rw[qF];let:=hl;ext) λbb h' tk o' h1 h2 h3 h4=>hQ bb h' tk o' h1 h2 h3 (by show ST.TS _ _ (sC (i+1) ts) o';rw[Ĉ];show h4)
  .let e:ts.take XY.toArray.size=ts:=by rw[qC,<-hkl];show eN
   rw[e] at hJ;let⟨Ş,es,ep,t,w1,w2,w3,w4,w5,w6,w7⟩:=hJ;show Yy _ h' tk o ho #[Ş,es,ep,t,w1,w2.fits,w5] hk q
def Kk:dZ X (.builtin "len") (λxs H Q=>∃p n,xs=[.ref p]/\H p=U (ma p n)/\n<=300/\Q (.int n) H):=by intro Z' s L H xs E Q I r h;let⟨p,n,rfl,hp,hn,q⟩:=h;let⟨u,rfl,ru⟩:=dY r;cases ru;let⟨⟨o,ho,hex,es,ep,t,w1,w2,w3⟩,_,_⟩:=I.hok p _ hp;show call_len_set ho hex w1 w2 .(b) #[.int n,H,I.tok _,#[_,by rw[w3]],q]
end
variable{đ:di}
section
open ST
def oh:Z D->au (Z (Z XR))
 |[]=>U []
 |.tup t::r=>(ff t).bind λk=>(oh r).map (k::·)
 |_::_=>B
def AT{O:Cn}{K:aS}{G H:Hp}(gh:aY G H):∀{vs:Z V}{ds:Z D}{ts:Z (Z XR)},XO O K G vs ds->oh ds=U ts->vs.length=ts.length/\∀(i:ag)t,ts[i]?=U t->∃b,vs[i]?=U (.ref b)/\H b=U (.tup (t.map kV))
 |_,[],ts,r,h=>by cases r;cases h;show#[W,λi t e=>by simp at e]
 |_,d::ds,ts,.cons h1 h2,h=>by
  cases d with
  |tup t=>
   let⟨k,hk,h⟩:=YB h;let⟨zs,hz,rfl⟩:=YE h;let⟨a,E,rfl,ha,ra⟩:=h1.tup_inv;let e:=jY ra hk;subst e;let⟨q1,q2⟩:=AT gh h2 hz;show#[by rw[qi,qi,q1],λi t' e=>?_];cases i with
   |zero=>cases e;show#[a,W,gh _ _ ha]
   |succ i=>show q2 i t' e
  |_=>cases h
def nN:D->au D
 |.lst l=>if l.length<=300 then match ff l with
  |some ks=>U (.int (dd ks).length)
  |none=>(oh l).map λts=>.int (dd ts).length
  else B
 |_=>B
def Jz(hc:X.calm=ai)(hu:X.A.units+66<cq)(hgl:Gl X "len")(hml:X.mg "len"=B)(hgs:Gl X "set")(hms:X.mg "set"=B)(h:DE O X e f)
  (h1:aM ([.Call (.Name "set" p2) [e] [] đ]:Z Expr) X.env=(ar,eval (.Call (.Name "set" p2) [e] [] đ) X.env)::aM [] X.env:=by rfl)(h2:(bW pos (aM [] X.env)).any (·.1)=ar:=by rfl)
  (h3:aM ([e]:Z Expr) X.env=(ar,eval e X.env)::aM [] X.env:=by rfl)(h4:(bW đ (aM [] X.env)).any (·.1)=ar:=by rfl):
  DE O X (.Call (.Name "len" p) [.Call (.Name "set" p2) [e] [] đ] [] pos) (b1 nN f):=⟨by
 show(vn Kk hgl hml (by rfl) (gP (tw (Sy hc hu) hgs hms (by rfl) (gP h.1 gW h3) .(c) .(c) h3 h4) gW h1) .(c) .(c) h1 h2).imp λL H Q=>?_;rintro⟨Z8,Z9,G,Y,d,A,hq,k⟩;let⟨x,hx,hl⟩:=YB hq;clear hq;show#[Z8,Z9,G,Y,x,A,hx,λv G1 H1 s1 r1=>?_];unfold nN at hl;split at hl
 .rename_i l;split at hl
  .rename_i hz;let⟨a,vs,rfl,ha,ra⟩:=r1.lst_inv;let go:∀(n:ag),n<=300->d=.int n->∀p,H1 p=B->∃p' n',[V.ref p]=[V.ref p']/\(X0 H1 p (ma p n)) p'=U (ma p' n')/\n'<=300/\Q (.int n') (X0 H1 p (ma p n)):=λn hn ed p hp=>by subst ed;show#[p,n,W,bf,hn,k _ G1 _ (s1.trans (Step.newOwn s1.gh hp)) (.int _)]
   show#[a,vs,W,s1.gh _ _ ha,by rw[ra.length];show hz,?_];split at hl
   .rename_i ks hk;show .inl #[ks,jY ra hk,go _ ?_ (qI hl).symm];let h5:=mw ks;let h6:ks.length=l.length:=by let:=jY ra hk;rw[<-ra.length,this,qf]
    ext
   .obtain⟨ts,ht,e1⟩:=YE hl;let⟨q1,q2⟩:=AT s1.gh ra ht;show .inr #[ts,q1,q2,go _ ?_ e1.symm];let h5:=mw ts;let h6:=ra.length;ext
  .cases hl
 .cases hl⟩
end
namespace DT
def QM:vI (.type "list") "keys"=bc B:=by rw[sG,sH];kernel_rfl
def IU:vI (.type "list") "__getattr__"=bc B:=by rw[sG,sH];kernel_rfl
theorem Uy{l:av}{u:Tok}{R:lJ->aH->Prop}{xs:bI aw}(hx:s.heap.get? l=U {cls:=.type "list",data:=.seq xs n})(hA:A.handled=B)
  (h:∀h' tk e,Heap.NewAttrErr s.heap h' e (.ref l) "keys"->R (.error (.ref e)) {s with heap:=h',toks:=tk}):
  fz (aN prog w) A (.call (.builtin "list.__getattribute__") #[[.ref l,.str "keys" u],[]]) R s:=by
 let⟨hp,g,d,tk,os⟩:=s;let hT:(#[hp,g,d,tk,os]:aH).TypeIs (.ref l) "list":=#[_,hx,W];let f1:=QM;show VY Ad.plain F.entry_list_ga (Ad.check _ _ _ _ _ _ _ _ hT (F.args_list_getattribute_2 _ _) ?_)
 repeat (any_goals (first|assumption|wp_step))
 let Zw:(pf "keys").length+100<=aK:=by rw[PySem.ofString_length];decide
 show wpAny_raiseAttrError hA h ?_;show attrMsg_fits .(c) Zw
set_option maxHeartbeats 4000000 in
def Nv{l:av}{Q:au aw->aH->Prop}{xs:bI aw}(hx:s.heap.get? l=U {cls:=.type "list",data:=.seq xs n})(hA:A.handled=B)
  (h:∀h' tk,(∀b ob,s.heap.get? b=U ob->h'.get? b=U ob)->Q B {s with heap:=h',toks:=tk}):
  aL (aN prog w) A (getAttr? (.ref l) "keys") Q us s:=by
 let⟨hp,g,d,tk,os⟩:=s;let hT:∀η,(#[hp,g,d,η,os]:aH).TypeIs (.ref l) "list":=λ_=>#[_,hx,W];let f1:=sub_AttributeError;let f2:=Ad.lookup;let f3:=Ad.bind (.ref l);let f5:=IU;show qx (wpAny_mkText ?_);show qx (v5 ?_);show qV (qx (rZ (hT _) (qx (nB f2 ?_))));show qx (qB ?_);show qx (v5 (qV ?_));show aL _ _ (boundAndCalled _ _ _) _ _ _;show qx (nB f3 ?_);show zD (Uy hx hA λh' η e hn=>?_);let⟨t',u',he⟩:=hn.there;let hE:z7 #[h',g,d,η,os] (.ref e) "AttributeError":=#[_,he,W];show qx (v6 hE f1 ?_);simp only[cx];show qx (nB f5 ?_);unfold hookOrError attributeErrorLeaves;simp only[lR,cx];show qx (Hf ?_);show qx (v6 hE f1 ?_);simp only[cx];show qB (h h' η hn.keeps)
def FV:Ae table "dict.update.loop"=U Builtin.«dict.update.loop»:=V6 (by kernel_rfl)
def uk:plainId "dict.update.loop"=ai:=by decide +kernel
section
variable{R:lJ->aH->Prop}{G:bI rO->bI rO->Prop}{P:ag->aw->Prop}{St:ag->aH->Prop}
def CH(prog:dy)(w:cA)(A:cJ)(S:av)(h0:Heap)(P:ag->aw->Prop)(n:ag)(ao:ag->Obj->Prop):Prop:=
 ∀(i:ag)(b:av)(kv vv:aw)(s:aH)(o:Obj)(Q:m8->aH->Prop)(us:aw->aH->Prop),i<n->P i (.ref b)->h0.IsTuple b [kv,vv].toArray->s.heap.get? S=U o->ao i o->(∀b o,b<h0.objs.size->h0.get? b=U o->s.heap.get? b=U o)->
  (∀h' tk o',s.toks<=tk->g9 S s.heap h'->h'.get? S=U o'->ao (i+1) o'->Q () {s with heap:=h',toks:=tk})->aL (aN prog w) A (dictSet S kv vv) Q us s
def Qk(Ya:WalksS prog w A.in1 I fp wr G n P St)(S:av)(Zx:S∉fp)(h0:Heap)(hS0:h0.objs.size<=S)(hw0:∀b∈wr,h0.objs.size<=b)(ao:ag->Obj->Prop)(Į:CH prog w A.in1 S h0 P n ao)(hP:∀i v,P i v->∃b kv vv,v=.ref b/\h0.IsTuple b [kv,vv].toArray):
  ∀(k i:ag)(c:ah)(s:aH)(o:Obj),n-i=k->i<=n->St i s->s.heap.get? S=U o->ao i o->(∀b o,b<h0.objs.size->h0.get? b=U o->s.heap.get? b=U o)->
   (∀s' o',Moved (S::wr) G s s'->s'.heap.get? S=U o'->ao n o'->R (.ok (.ret .none)) s')->
   fz (aN prog w) A (.builtin "dict.update.loop" #[[.ref S,.ref I,jD c,.none],[]]) R s:=by
 let hSw:S∉wr:=λh=>Zx (Ya.sub _ h);let å:∀b∈wr,b∈S::wr:=λb M=>qh _ M;let keep:∀{h h':Heap},(∀b o,b<h0.objs.size->h0.get? b=U o->h.get? b=U o)->(∀b o,b∉S::wr->h.get? b=U o->h'.get? b=U o)->∀b o,b<h0.objs.size->h0.get? b=U o->h'.get? b=U o:=λq1 q2 b o M e=>q2 b o (λz=>by
  rcases cg.mp z with z|z
  .rw[z] at M;show bj M (GV.mpr hS0)
  .exact bj M (GV.mpr (hw0 b z))) (q1 b o M e)
 intro k
 induction k with
 |zero=>
  intro i c s o hk hi æ hS hJ hB hR;let Ĕ:i=n:=by ext
  subst Ĕ;show ia FV ?_;rw[iB uk _];show qx (Ya.done s _ _ æ λs' hm=>?_);show qx (qB (qB (hR s' o (hm.mono å) (hm.heap S _ hSw hS) hJ)))
 |succ k ih=>
  intro i c s o hk hi æ hS hJ hB hR;let YX:i<n:=by ext
  show ia FV ?_;rw[iB uk _];show qx (Ya.item i s _ _ YX æ λv s' hPv hst' hm=>?_);let⟨b,kv,vv,rfl,M⟩:=hP i v hPv;let hB':=keep hB λb o M e=>hm.heap b o (λz=>M (å b z)) e;let⟨ob,Ś,hoc,nn,ř⟩:=M;let hob':s'.heap.get? b=U ob:=hB' b ob (qv Ś) Ś;let hTb:s'.TypeIs (.ref b) "tuple":=#[_,hob',hoc];show qx (qV ?_);show qx ?_;show jL ?_;show qx (rZ hTb ?_);rw[qY .(c)];show qx (jK hob' ř (qB ?_));show qV (Į i b kv vv s' o _ _ YX hPv #[ob,Ś,hoc,nn,ř] (hm.heap S _ hSw hS) hJ hB' λh' tk o' Ĉ Ī Τ Υ=>?_);show qB #[ib uk _,ih (i+1) (c+1) _ o' .(b) YX (Ya.frame _ s' _ _ hst' Ĉ λb M o e=>?_) Τ Υ ?_ λι o'' hm'' hS'' hJ''=>?_]
  .rw[Ī.2 b (λh:b=S=>Zx (by rw[<-h];show M))];show e
  .refine keep hB' λb o M e=>?_;rw[Ī.2 b (λh:b=S=>M (by rw[h];show qg))];show e
  .refine hR ι o'' (VV Ya.gtrans ((hm.mono å).then_heap Ĉ λb o M e=>?_) hm'') hS'' hJ'';rw[Ī.2 b (λh:b=S=>M (by rw[h];show qg))];show e
end
def call_dict_gen{l:av}{items:bI aw}{c:ag}(hh:A.handled=B)(hl:s.heap.get? l=U {cls:=.type "list",data:=.seq items c})(ao:ag->Obj->Prop)
  (hJ0:ao 0 {cls:=.type "dict",data:=.dict #[]})
  (Į:∀A':cJ,A'.units<=A.units+16->CH prog w A' s.heap.objs.size s.heap (λi v=>items[i]?=U v) items.size ao)
  (hP:∀(i:ag)(v:aw),items[i]?=U v->∃b kv vv,v=.ref b/\s.heap.IsTuple b [kv,vv].toArray)
  (h:∀(h':Heap)(tk:ag)(o:Obj),h'.get? s.heap.objs.size=U o->ao items.size o->
   (∀b o,b<s.heap.objs.size->s.heap.get? b=U o->h'.get? b=U o)->Q (.ref s.heap.objs.size) {s with heap:=h',toks:=tk}):
  aL (aN prog w) A (call (.type "dict") [.ref l]) Q us s:=by
 show callType_codes (Q₁:=λobj Z7=>obj=.ref s.heap.objs.size/\Z7={s with heap:=s.heap.push {cls:=.type "dict",data:=.dict #[]} }) F.kt_called_dict (F.kt_typeCall_dict_1 _) F.entry_dict_init (kt_code_dict_new _ #[rfl,rfl]) ?_;rintro obj Z7 ⟨rfl,rfl⟩;let ā:(s.heap.push {cls:=.type "dict",data:=.dict #[]}).get? s.heap.objs.size=U {cls:=.type "dict",data:=.dict #[]}:=qH _ W;let χ:(s.heap.push {cls:=.type "dict",data:=.dict #[]}).get? l=U {cls:=.type "list",data:=.seq items c}:=qu _ hl;let hT:z7 {s with heap:=s.heap.push {cls:=.type "dict",data:=.dict #[]} } (.ref s.heap.objs.size) "dict":=#[_,ā,rfl];let hTl:z7 {s with heap:=s.heap.push {cls:=.type "dict",data:=.dict #[]} } (.ref l) "list":=#[_,χ,rfl];show#[hT,F.args_dict_init_2 _ _,?_];show qx ?_;show qx (V7 hT ?_);show qB ?_;show aL _ _ (Xz "dict.__init__" s.heap.objs.size (.ref l) [] .none) _ _ _;show qx (rZ hTl ?_);rw[qY .(c)];show qx (Nv χ hh λh1 tk1 hk1=>?_);simp only[Option.isNone_none,cx];show qx (Af ?_);let Μ:h1.IsList l items:=#[_,hk1 _ _ χ,W,_,W];show qx (nz Μ ?_);show qB #[ib uk _,?_];let hlS:l<s.heap.objs.size:=qv hl;let Θ:s.heap.objs.size<h1.objs.size:=qv (hk1 _ _ ā);let hneI:l≠h1.objs.size:=qD (sg hlS Θ);let Zx:s.heap.objs.size∉[h1.objs.size,l]:=by simp only[qN,bL,qL,or_false,sF];show#[qD Θ,zx hlS]
 let Ĺ:∀b o,b<s.heap.objs.size->s.heap.get? b=U o->h1.get? b=U o:=λb o _ e=>hk1 _ _ (qu _ e);show Qk ((o7 (by simpa using hh) _ l hneI items).toS) s.heap.objs.size Zx s.heap (qw _) (λb M=>?_) ao (Į _ (by show A.units+2<=_;ext)) hP (items.size-0) 0 0 _ _ .(b) (gM _)
  #[#[_,qH _ W,W,W],Μ.push _] (qu _ (hk1 _ _ ā)) hJ0 (λb o M e=>qu _ (Ĺ b o M e)) λs' o' hm Τ Υ=>?_
 .let:b=h1.objs.size:=by simpa using M
  rw[this];show rN Θ
 .obtain⟨h',g',d',η,os'⟩:=s';let eg:g'=s.gens:=hm.gens;let ed:d'=s.drawn:=hm.drawn;let eo:os'=s.os:=hm.os;subst eg;subst ed;subst eo;show#[W,h h' η o' Τ Υ λb o M e=>hm.heap b o ?_ (qu _ (Ĺ b o M e))];simp only[qN,bL,qL,or_false,sF];show#[qD M,qD (sg M Θ)]
end DT
section
variable[dJ κ]
def Ħ(XJ ps:Z (κ×V)):Z (κ×V):=ps.foldl (λXT kv=>putK XT kv.1 kv.2) XJ
def Fi(XJ ps:Z (κ×V))(p:κ×V):Ħ XJ (ps++[p])=putK (Ħ XJ ps) p.1 p.2:=by unfold Ħ;rw[Aa];rfl
def JF(XJ:Z (κ×V))(k:κ)(v:V):(putK XJ k v).length<=XJ.length+1:=by
 unfold putK;split
 .rw[qf];ext
 .rw[qj,nt];ext
def uD:∀(ps XJ:Z (κ×V)),(Ħ XJ ps).length<=XJ.length+ps.length:=by
 intro X7
 induction X7 with
 |nil=>
  intro XJ;show qw _
 |cons p ps ih=>
  intro XJ;let h1:=ih (putK XJ p.1 p.2);let h2:=JF XJ p.1 p.2;show(Ħ (putK XJ p.1 p.2) ps).length<=_;rw[qi];ext
end
def Lj:Z V->Hp->VK->Prop:=λxs H Q=>∃(a:av)(vs:Z V)(ps:Z (XR×V)),xs=[.ref a]/\H a=U (.lst vs)/\vs.length=ps.length/\ps.length<=1000/\(∀(i:ag)p,ps[i]?=U p->∃b,vs[i]?=U (.ref b)/\H b=U (.tup [kV p.1,p.2])) /\
 ∀q,H q=B->Q (.ref q) (X0 H q (.dK (Ħ [] ps)))
def FK{b:av}{x:V}(I:XS X Z' L H s)(M:H b=U (.tup [x,y])):∃u v,bF x u/\bF y v/\s.heap.IsTuple b [u,v].toArray:=by
 let⟨XY,r,p,_⟩:=I.tuple (.inl (.inl M));cases r with
 |cons r1 r2=>
  cases r2 with
  |cons r2 r3=>
   cases r3;show#[_,_,r1,r2,p]
def tuple_inj{h:Heap}{b:av}{x y:bI aw}(p:h.IsTuple b x)(q:h.IsTuple b y):x=y:=by let⟨o,h1,_,n,h2⟩:=p;let⟨o',g1,_,m,g2⟩:=q;rw[h1] at g1;cases g1;rw[h2] at g2;cases g2;rfl
def O1(hc:X.calm=ai)(hu:X.A.units+66<cq):dZ X (.type "dict") Lj:=by
 intro Z' s L H xs E Q I r h;let⟨a,vs,ps,rfl,ha,hl,hz,hp,q⟩:=h;let⟨u,rfl,ru⟩:=dY r;cases ru;let⟨z,XY,n,rv,X2,e⟩:=I.lstM ha;let Zw:XY.toArray.size=ps.length:=by rw[qC,<-X2,hl]
 let Zj:∀(i:ag)(v:aw),XY.toArray[i]?=U v->∃p b u w,ps[i]?=U p/\v=.ref b/\bF (kV p.1) u/\bF p.2 w/\s.heap.IsTuple b [u,w].toArray:=λi v hv=>by
  let hi:i<ps.length:=by rw[<-Zw];show(gu.mp hv).1
  let⟨b,ş,ċ⟩:=hp i ps[i] (by simp[hi]);let⟨u2,Η,Ε⟩:=rv.get ş;let Zt:XY[i]?=U v:=by simpa using hv
  rw[Η] at Zt;cases Zt;cases Ε;let⟨u,w,r1,r2,r3⟩:=FK I ċ;show#[ps[i],b,u,w,by simp[hi],W,r1,r2,r3]
 show DT.call_dict_gen (I.ok.hd hc) e (λi o=>∃vs',KV (Ħ [] (ps.take i)) vs'/\o.IsDictOf (cG X.prog X.w) vs') ?_ (λA' hA' i b kv vv sh o Q' E' hi hv M ho hJ hB hQ=>?_) (λi v hv=>?_) λh' tk o ho hJ hk=>?_
 .obtain⟨o,ho,hd⟩:=Ag.mp (Vl (knd:=cG X.prog X.w) s.heap);let:o={cls:=.type "dict",data:=.dict #[]}:=by let:=qH s.heap (o:={cls:=.type "dict",data:=.dict #[]}) W;rw[this] at ho;show(qI ho).symm
  subst this;show#[[],.nil,hd]
 .obtain⟨p,b',u,w,h1,h2,h3,h4,h5⟩:=Zj i _ hv;cases h2;let e2:=tuple_inj M h5;let e3:kv=u/\vv=w:=by simpa using e2
  let⟨rfl,rfl⟩:=e3;let⟨vs',k1,k2⟩:=hJ;let hle:vs'.length<=1000:=by let q1:=k1.length;let q2:=uD (ps.take i) ([]:Z (XR×V));rw[qF,qm] at q2;ext
  show wpAny_dictSet_pairs (jT h3) (Ag.mpr #[o,ho,k2]) (λh' Ö Ī=>?_) (by rw[eM];ext);let⟨o',Ñ,hd''⟩:=Ag.mp Ö;show hQ h' _ o' (nh _) Ī Ñ #[_,?_,hd''];let Ĉ:ps.take (i+1)=ps.take i++[p]:=by rw[i8,h1];rfl
  rw[Ĉ,Fi];show k1.put p.1 h4
 .obtain⟨p,b,u,w,h1,h2,h3,h4,h5⟩:=Zj i v hv;show#[b,u,w,h2,h5]
 .obtain⟨vs',k1,k2⟩:=hJ;rw[Zw,eN] at k1;show#[.ref s.heap.objs.size,_,I.laid (o:=.dK (Ħ [] ps)) (λb u e=>hk b u (qv e) e) (qw _) #[?_,?_,vs',k1,Ag.mpr #[o,ho,k2]],W,q _ I.fresh]
  .let:=uD ps ([]:Z (XR×V));rw[qm] at this;rw[eM];ext
  .exact lF.mpr (cL (qD I.big))
def Mg:Z V->Hp->VK->Prop:=λxs H Q=>∃(a:av)(vs:Z V)(ps:Z (Z XR×V)),xs=[.ref a]/\H a=U (.lst vs)/\vs.length=ps.length/\ps.length<=2000/\(∀(i:ag)p,ps[i]?=U p->∃b kb,vs[i]?=U (.ref b)/\H b=U (.tup [.ref kb,p.2])/\H kb=U (.tup (p.1.map kV))) /\
 ∀q,H q=B->Q (.ref q) (X0 H q (.dT (Ħ [] ps)))
def Pi{P:Z XR->av->Prop}(hP:∀k b,H b=U (.tup (k.map kV))->P k b):∀{XJ:Z (Z XR×V)}{xs:Z (Z XR×av×aw)},KT H XJ xs->∀x∈xs,P x.1 x.2.1:=by
 intro XJ xs q
 induction q with
 |nil=>intro x hx;cases hx
 | @cons p y ps ys hq t ih=>
  intro x hx;rcases cg.mp hx with rfl|hx
  .exact hP _ _ (by rw[<-hq.1];show hq.2.1)
  .exact ih x hx
def NN(hc:X.calm=ai)(hu:X.A.units+66<cq):dZ X (.type "dict") Mg:=by
 intro Z' s L H xs E Q I r h;let⟨a,vs,ps,rfl,ha,hl,hz,hp,q⟩:=h;let⟨u,rfl,ru⟩:=dY r;cases ru;let⟨z,XY,n,rv,X2,e⟩:=I.lstM ha;let Zw:XY.toArray.size=ps.length:=by rw[qC,<-X2,hl]
 let Zj:∀(i:ag)(v:aw),XY.toArray[i]?=U v->∃p b kb w,ps[i]?=U p/\v=.ref b/\H kb=U (.tup (p.1.map kV))/\bF p.2 w/\s.heap.IsTuple b [.ref kb,w].toArray:=λi v hv=>by
  let hi:i<ps.length:=by rw[<-Zw];show(gu.mp hv).1
  let⟨b,kb,ş,ċ,hb3⟩:=hp i ps[i] (by simp[hi]);let⟨u2,Η,Ε⟩:=rv.get ş;let Zt:XY[i]?=U v:=by simpa using hv
  rw[Η] at Zt;cases Zt;cases Ε;let⟨u,w,r1,r2,r3⟩:=FK I ċ;cases r1;show#[ps[i],b,kb,w,by simp[hi],W,hb3,r2,r3]
 let isk:∀{h':Heap},(∀b o,b<s.heap.objs.size->s.heap.get? b=U o->h'.get? b=U o)->∀k b,H b=U (.tup (k.map kV))->(lH (cG X.prog X.w)).is h' k b:=λhB k b M=>ST.IsTupleKey.mono (kc I.hok M) λo e=>hB _ _ (qv e) e;show DT.call_dict_gen (I.ok.hd hc) e (λi o=>∃xs',KT H (Ħ [] (ps.take i)) xs'/\∃es ep,o.ExactDict/\o.data=.dict es ep/\es.toList=xs'.map (entryOfKey (lH (cG X.prog X.w)))/\(xs'.map (·.1)).Nodup) ?_ (λA' hA' i b kv vv sh o Q' E' hi hv M ho hJ hB hQ=>?_) (λi v hv=>?_) λh' tk o ho hJ hk=>?_
 .exact#[[],.nil,#[],0,#[W,W,W],W,W,lN]
 .obtain⟨p,b',kb,w,h1,h2,h3,h4,h5⟩:=Zj i _ hv;cases h2;let e2:=tuple_inj M h5;let e3:kv=.ref kb/\vv=w:=by simpa using e2
  let⟨rfl,rfl⟩:=e3;let⟨xs',k1,es,ep,k2,k3,k4,k5⟩:=hJ;let hle:xs'.length<=2000:=by let q1:=Paired.length k1;let q2:=uD (ps.take i) ([]:Z (Z XR×V));rw[qF,qm] at q2;ext
  show wpAny_dictSet_heap (show A'.units<cq by ext) (isk hB _ _ h3) #[o,es,ep,ho,k2,k3,k4,Pi (isk hB) k1,k5] (λh' Ö Ī=>?_) (by rw[eM];ext);let⟨o',Yj,Δ,Ñ,w2,w3,w4,_,w5⟩:=Ö;show hQ h' _ o' (zu _ _) Ī Ñ #[_,?_,Yj,Δ,w2,w3,w4,w5];let Ĉ:ps.take (i+1)=ps.take i++[p]:=by rw[i8,h1];rfl
  rw[Ĉ,Fi];show k1.put p.1 h3 h4
 .obtain⟨p,b,kb,w,h1,h2,h3,h4,h5⟩:=Zj i v hv;show#[b,_,w,h2,h5]
 .obtain⟨xs',k1,es,ep,k2,k3,k4,k5⟩:=hJ;rw[Zw,eN] at k1;show#[.ref s.heap.objs.size,_,I.laid (o:=.dT (Ħ [] ps)) (λb u e=>hk b u (qv e) e) (qw _) #[?_,?_,xs',k1.keeps λb ys e=>?_,o,es,ep,ho,k2,k3,k4,k5],W,q _ I.fresh]
  .let:=uD ps ([]:Z (Z XR×V));rw[qm] at this;rw[eM];ext
  .exact lF.mpr (cL (qD I.big))
  .rw[aD (bH e I.fresh)];show e
def nR:Z D->au (Z (XR×D))
 |[]=>U []
 |.tup [k,v]::r=>(gG k).bind λkk=>(nR r).map ((kk,v)::·)
 |_::_=>B
def lY:Z D->au (Z (Z XR×D))
 |[]=>U []
 |.tup [.tup t,v]::r=>(ff t).bind λkk=>(lY r).map ((kk,v)::·)
 |_::_=>B
def pI[dJ κ](ps:Z (κ×D)):Z (κ×D):=ps.foldl (λXT kv=>ce XT kv.1 kv.2) []
def iL:Z D->au D
 |[.lst l]=>if l.length<=1000 then (nR l).map λps=>.dk (pI ps) else B
 |_=>B
def nO:Z D->au D
 |[.lst l]=>if l.length<=2000 then (lY l).map λps=>.dt (pI ps) else B
 |_=>B
def yY{κ:Type}[dJ κ]{K:aS}{G:Hp}:∀{E:Z (κ×V)}{XJ:Z (κ×D)}{XT:Z (κ×V)}{acd:Z (κ×D)},E.map (·.1)=XJ.map (·.1)->XO O K G (E.map (·.2)) (XJ.map (·.2))->XT.map (·.1)=acd.map (·.1)->XO O K G (XT.map (·.2)) (acd.map (·.2))->
  (Ħ XT E).map (·.1)=(XJ.foldl (λXT kv=>ce XT kv.1 kv.2) acd).map (·.1)/\XO O K G ((Ħ XT E).map (·.2)) ((XJ.foldl (λXT kv=>ce XT kv.1 kv.2) acd).map (·.2))
 |[],[],_,_,_,_,e,r=>#[e,r]
 |[],_::_,_,_,e,_,_,_=>by cases e
 |_::_,[],_,_,e,_,_,_=>by cases e
 |(k1,v)::E,(k2,d)::XJ,XT,acd,e,r,e0,r0=>by
  let e1:k1=k2:=(eZ e).1;subst e1;cases r with
  |cons r1 r2=>
   let⟨w1,w2⟩:=oM r1 e0 r0;show yY (E:=E) (XJ:=XJ) (eZ e).2 r2 w1 w2
def AH{K:aS}{G H:Hp}(gh:aY G H):∀{vs:Z V}{ds:Z D}{ps:Z (XR×D)},XO O K G vs ds->nR ds=U ps->
  ∃E:Z (XR×V),vs.length=E.length/\E.map (·.1)=ps.map (·.1)/\XO O K G (E.map (·.2)) (ps.map (·.2))/\∀(i:ag)p,E[i]?=U p->∃b,vs[i]?=U (.ref b)/\H b=U (.tup [kV p.1,p.2])
 |_,[],ps,r,h=>by cases r;cases h;show#[[],W,W,.nil,λi p e=>by simp at e]
 |_,d::ds,ps,.cons h1 h2,h=>by
  unfold nR at h;split at h
  .rename_i heq;cases heq
  .rename_i heq;cases heq;let⟨kk,hk,h⟩:=YB h;let⟨zs,hz,rfl⟩:=YE h;let⟨E,q1,q2,q3,q4⟩:=AH gh h2 hz;let⟨a,ws,rfl,ha,ra⟩:=h1.tup_inv;let⟨x,y,rfl,rx,ry⟩:=ra.two;let ex:=mv rx hk;subst ex;show#[(kk,y)::E,by rw[qi,qi,q1],by simp[q2],.cons ry q3,λi p e=>?_];cases i with
   |zero=>cases e;show#[a,W,gh _ _ ha]
   |succ i=>show q4 i p e
  .cases h
def DL{K:aS}{G H:Hp}(gh:aY G H):∀{vs:Z V}{ds:Z D}{ps:Z (Z XR×D)},XO O K G vs ds->lY ds=U ps->
  ∃E:Z (Z XR×V),vs.length=E.length/\E.map (·.1)=ps.map (·.1)/\XO O K G (E.map (·.2)) (ps.map (·.2))/\∀(i:ag)p,E[i]?=U p->∃b kb,vs[i]?=U (.ref b)/\H b=U (.tup [.ref kb,p.2])/\H kb=U (.tup (p.1.map kV))
 |_,[],ps,r,h=>by cases r;cases h;show#[[],W,W,.nil,λi p e=>by simp at e]
 |_,d::ds,ps,.cons h1 h2,h=>by
  unfold lY at h;split at h
  .rename_i heq;cases heq
  .rename_i heq;cases heq;let⟨kk,hk,h⟩:=YB h;let⟨zs,hz,rfl⟩:=YE h;let⟨E,q1,q2,q3,q4⟩:=DL gh h2 hz;let⟨a,ws,rfl,ha,ra⟩:=h1.tup_inv;let⟨x,y,rfl,rx,ry⟩:=ra.two;let⟨kb,ks,rfl,hkb,rk⟩:=rx.tup_inv;let ex:=jY rk hk;subst ex;show#[(kk,y)::E,by rw[qi,qi,q1],by simp[q2],.cons ry q3,λi p e=>?_];cases i with
   |zero=>cases e;show#[a,kb,W,gh _ _ ha,gh _ _ hkb]
   |succ i=>show q4 i p e
  .cases h
def oy(hc:X.calm=ai)(hu:X.A.units+66<cq):TyD O X "dict" iL:=#[_,O1 hc hu,λ{G H vs ds z}gh r h Q k=>by
 unfold iL at h;split at h
 .split at h
  .rename_i hz;let⟨ps,hp,rfl⟩:=YE h;let⟨v,rfl,r1⟩:=r.one;let⟨a,ws,rfl,ha,ra⟩:=r1.lst_inv;let⟨E,q1,q2,q3,q4⟩:=AH gh ra hp;show#[a,ws,E,W,gh _ _ ha,q1,by rw[<-q1,ra.length];show hz,q4,λp hp=>?_];let s:=Step.new (o:=.dK (Ħ [] E)) gh hp;let⟨w1,w2⟩:=yY (XT:=[]) (acd:=[]) q2 q3 rfl .nil;show k _ _ _ s (.dk bf w1 (w2.mono s.gg))
  .cases h
 .cases h]
def AA(hc:X.calm=ai)(hu:X.A.units+66<cq):TyD O X "dict" nO:=#[_,NN hc hu,λ{G H vs ds z}gh r h Q k=>by
 unfold nO at h;split at h
 .split at h
  .rename_i hz;let⟨ps,hp,rfl⟩:=YE h;let⟨v,rfl,r1⟩:=r.one;let⟨a,ws,rfl,ha,ra⟩:=r1.lst_inv;let⟨E,q1,q2,q3,q4⟩:=DL gh ra hp;show#[a,ws,E,W,gh _ _ ha,q1,by rw[<-q1,ra.length];show hz,q4,λp hp=>?_];let s:=Step.new (o:=.dT (Ħ [] E)) gh hp;let⟨w1,w2⟩:=yY (XT:=[]) (acd:=[]) q2 q3 rfl .nil;show k _ _ _ s (.dt bf w1 (w2.mono s.gg))
  .cases h
 .cases h]
def YS.none{k:ag}(F:YS K mg x st)
  (M:∀(kV YV pm:aw)(an:au av)(X1 ct:aw)(E:Z aw),E.length=ps.length->eX (cX x x (cY st) (ca st) (aC st) .none kV YV pm an X1 ct) #[E,[]]=bc (ps.zip E))
 : Ţ O P w K mg base x ps.length k (λ_=>B):=by
 let⟨f,fd,h1,h2⟩:=F.ex;show#[f,fd,ps,#[λvs H Q us h=>?_,λA outer s H args E vs Q us hr I b v h=>?_],h2,h1.kp,h1.binds M]
 .obtain⟨_,_,_,_,_,_,z,_⟩:=h;cases z
 .obtain⟨_,_,_,_,_,_,z,_⟩:=h;cases z
noncomputable def orG(g g':D->D->au D)(x y:D):au D:=match g x y with
 |some z=>U z
 |none=>g' x y
variable{z:D}
section
variable{a c:Expr}{g g':D->D->au D}
def PN{x y:D}(h:orG g g' x y=U z):g x y=U z\/g' x y=U z:=by
 unfold orG at h;split at h
 .rename_i q;cases h;show .inl q
 .exact .inr h
def Yb.or(h:Yb O X op g)(h':Yb O X op g'):Yb O X op (orG g g'):=by
 let⟨r,o,d⟩:=h.ex;let⟨r',o',d'⟩:=h'.ex;show#[_,o.or o',λ{G H v u x y z}gh r1 r2 q Q k=>?_];rcases PN q with q|q
 .exact .inl (d gh r1 r2 q Q k)
 .exact .inr (d' gh r1 r2 q Q k)
def Ŏ:=orG â t5
def Ļ:=orG neD nQ
def FM(hu:X.A.units+64<cq):Yb O X .Eq Ŏ:=tH.or (Pm hu)
def Dz(hu:X.A.units+64<cq):Yb O X .NotEq Ļ:=yP.or (KB hu)
def XZ.mk'{f:av}{c:aj}{kV:aw}(a:cj K (.ref XI) m=U (U (.ref f)))(i:oT K (.ref f)=ai)
  (l:K.lookup f=U #[oc,od,.func (cX m qual (cY st) (ca st) (aC st) .none kV YV pm an X1 ct),Ē])(cd:nj K X1 qual=ai)(k:gr K (.ref f)=ai):XZ K XI c m qual st:=#[f,_,wW l cd k,a,i]
end
section
variable{f1 f2 f3 f4 f5 f6 f7:FE}
def Ľ:∀Y ds,J f1 aq Y=U ds->ds.length=1:=mC λ_ _ h=>Ut h
def ln2:∀Y ds,J f1 (J f2 aq) Y=U ds->ds.length=2:=mC Ľ
def ln3:∀Y ds,J f1 (J f2 (J f3 aq)) Y=U ds->ds.length=3:=mC ln2
def ln4:∀Y ds,J f1 (J f2 (J f3 (J f4 aq))) Y=U ds->ds.length=4:=mC ln3
def ln5:∀Y ds,J f1 (J f2 (J f3 (J f4 (J f5 aq)))) Y=U ds->ds.length=5:=mC ln4
def ln6:∀Y ds,J f1 (J f2 (J f3 (J f4 (J f5 (J f6 aq))))) Y=U ds->ds.length=6:=mC ln5
def ln7:∀Y ds,J f1 (J f2 (J f3 (J f4 (J f5 (J f6 (J f7 aq)))))) Y=U ds->ds.length=7:=mC ln6
end
variable{XJ:Z (Z XR×D)}
def At.setOdt(A:At O K Z8 Z9 G H Y L)(ha:H a=B):At O K Z8 Z9 G (X0 H a (.dT [])) (Y.set i (U (.odt []))) (L.set i (U (.ref a))):=by let h0:Z9 a=B:=A.st.hh.free ha;let hg:G a=B:=A.gh.free ha;show A.put (.inl W) (λb o e _=>by rw[aD (bH e ha)];show e) (.odt h0 hg bf W .nil) (λb M=>.inr (by rw[bL.mp M];show ha)) (.refl _) (λb o e=>?_) (λ_ _ _ _ _=>rfl) (λb M=>by cases M);rw[aD (bH e hg)];show A.gh b o e
def At.setOdk(A:At O K Z8 Z9 G H Y L)(ha:H a=B):At O K Z8 Z9 G (X0 H a (.dK [])) (Y.set i (U (.odk []))) (L.set i (U (.ref a))):=by let h0:Z9 a=B:=A.st.hh.free ha;let hg:G a=B:=A.gh.free ha;show A.put (.inl W) (λb o e _=>by rw[aD (bH e ha)];show e) (.odk h0 hg bf W .nil) (λb M=>.inr (by rw[bL.mp M];show ha)) (.refl _) (λb o e=>?_) (λ_ _ _ _ _=>rfl) (λb M=>by cases M);rw[aD (bH e hg)];show A.gh b o e
def At.chOdt(A:At O K Z8 Z9 G H Y L){ZM:Z (Z XR×D)}{ġ:Z (Z XR×V)}(hi:Y[i]?=U (U (.odt XJ)))(ha:L[i]?=U (U (.ref a)))(e:ġ.map (·.1)=ZM.map (·.1))(r:XO O K G (ġ.map (·.2)) (ZM.map (·.2))):At O K Z8 Z9 G (X0 H a (.dT ġ)) (Y.set i (U (.odt ZM))) L:=by
 let⟨v,fp,h1,h2⟩:=A.get hi;rw[ha] at h1;cases h1;cases h2 with
 |odt q1 q2 q3 q4 q5=>
  show A.ch hi ha (.odt q1 q2 q3 q4 q5) (λb o e M=>?_) (.odt q1 q2 bf e r) (λb M=>.inl M) (.refl _) (λb o e=>?_) (λ_ _ _ _ _=>rfl)
  .rw[aD (λz=>M (bL.mpr z))];show e
  .rw[aD (bH e q2)];show A.gh b o e
def At.chOdk(A:At O K Z8 Z9 G H Y L){XJ ZM:Z (XR×D)}{ġ:Z (XR×V)}(hi:Y[i]?=U (U (.odk XJ)))(ha:L[i]?=U (U (.ref a)))(e:ġ.map (·.1)=ZM.map (·.1))(r:XO O K G (ġ.map (·.2)) (ZM.map (·.2))):At O K Z8 Z9 G (X0 H a (.dK ġ)) (Y.set i (U (.odk ZM))) L:=by
 let⟨v,fp,h1,h2⟩:=A.get hi;rw[ha] at h1;cases h1;cases h2 with
 |odk q1 q2 q3 q4 q5=>
  show A.ch hi ha (.odk q1 q2 q3 q4 q5) (λb o e M=>?_) (.odk q1 q2 bf e r) (λb M=>.inl M) (.refl _) (λb o e=>?_) (λ_ _ _ _ _=>rfl)
  .rw[aD (λz=>M (bL.mpr z))];show e
  .rw[aD (bH e q2)];show A.gh b o e
noncomputable def AN:Slot->au D
 |.odt XJ=>U (.dt XJ)
 |.odk XJ=>U (.dk XJ)
 |_=>B
def At.frzD(A:At O K Z8 Z9 G H Y L){s:Slot}(hi:Y[i]?=U (U s))(hd:AN s=U d):∃G',aY G G'/\At O K Z8 Z9 G' H (Y.set i (U (.sh d))) L:=by
 let⟨v,fp,h1,h2⟩:=A.get hi;cases h2 with
 |sh _=>cases hd
 |own _ _ _ _=>cases hd
 |obj _ _ _ _ _ _ _=>cases hd
 |fo _ _ _ _ _ _ _=>cases hd
 |objd _ _ _ _ _ _ _ _ _ _ _ _=>cases hd
 |odk q1 q2 q3 q4 q5=>
  cases hd;rename_i a E XJ;let sm:aY G (X0 G a (.dK E)):=λb o e=>by rw[aD (bH e q2)];show e
  show#[X0 G a (.dK E),sm,A.ch hi h1 (.odk q1 q2 q3 q4 q5) (λb o e M=>e) (.sh (.dk bf q4 (q5.mono sm))) (λb M=>by cases M) sm (λb o e=>?_) (λb o e M _=>?_)]
  .by_cases M:b=a
   .subst M;rw[bf] at e;cases e;show q3
   .rw[aD M] at e;show A.gh b o e
  .rw[aD (λz=>M (bL.mpr z))]
 |odt q1 q2 q3 q4 q5=>
  cases hd;rename_i a E XJ;let sm:aY G (X0 G a (.dT E)):=λb o e=>by rw[aD (bH e q2)];show e
  show#[X0 G a (.dT E),sm,A.ch hi h1 (.odt q1 q2 q3 q4 q5) (λb o e M=>e) (.sh (.dt bf q4 (q5.mono sm))) (λb M=>by cases M) sm (λb o e=>?_) (λb o e M _=>?_)]
  .by_cases M:b=a
   .subst M;rw[bf] at e;cases e;show q3
   .rw[aD M] at e;show A.gh b o e
  .rw[aD (λz=>M (bL.mpr z))]
section
variable{a c:Expr}{fv:FE}
noncomputable def ut(i:ag):FS:=λY=>U (.nx,Y.set i (U (.odt [])))
noncomputable def yb(i:ag):FS:=λY=>U (.nx,Y.set i (U (.odk [])))
def zm(i:ag)(hN:X.N.Nodup)(hi:X.N[i]?=U x:=by rfl)(hx:Ŷ X.env.scope x:=by ac_nf)(hs:dA (.Dict [] [] dp) (U (.Name x YQ)) pos.line X.env=bc ar:=by rfl)(hf:X.fn x=ai\/X.env.scope.names.lookup x=U .local:=by ac_nf):
  DS O X (.Assign [.Name x YQ] (.Dict [] [] dp) pos) (ut i):=⟨(nS hN hi hx CT hs hf).imp λus L H=>by
 rintro⟨Z8,Z9,G,Y,fl,Y',A,h,k⟩ p hp;cases h;show k _ G _ (.refl _) (A.setOdt hp)⟩
def D9(i:ag)(hN:X.N.Nodup)(hi:X.N[i]?=U x:=by rfl)(hx:Ŷ X.env.scope x:=by ac_nf)(hs:dA (.Dict [] [] dp) (U (.Name x YQ)) pos.line X.env=bc ar:=by rfl)(hf:X.fn x=ai\/X.env.scope.names.lookup x=U .local:=by ac_nf):
  DS O X (.Assign [.Name x YQ] (.Dict [] [] dp) pos) (yb i):=⟨(nS hN hi hx vd hs hf).imp λus L H=>by
 rintro⟨Z8,Z9,G,Y,fl,Y',A,h,k⟩ p hp;cases h;show k _ G _ (.refl _) (A.setOdk hp)⟩
def fE(i:ag)(fk fv:FE):FS:=λY=>(fv Y).bind λd=>(fk Y).bind λkd=>match Y[i]? with
 |some (U (.odt XJ))=>match kd with
  |.tup t=>(ff t).bind λks=>if XJ.length<100000 then U (.nx,Y.set i (U (.odt (ce XJ ks d)))) else B
  |_=>B
 |some (U (.odk XJ))=>(gG kd).bind λk=>if XJ.length<100000 then U (.nx,Y.set i (U (.odk (ce XJ k d)))) else B
 |_=>B
def mL(i:ag)(hu:X.A.units+66<cq)(hk:DE O X ke fk)(Zt:DE O X YL fv)(hN:X.N[i]?=U x:=by rfl)(hv:Ġ X.env.scope x:=by ac_nf)(hd:(x==("__debug__":aj))=ar:=by decide)
  (Yp:(x==("__classdict__":aj))=ar:=by decide)(hs:dA YL (U (.Subscript (.Name x vp) ke YQ)) pos.line X.env=bc ar:=by rfl):
  DS O X (.Assign [.Subscript (.Name x vp) ke YQ] YL pos) (fE i fk fv):=⟨(zo .(b) (gH hN hv hd Yp) hk.1 Zt.1 hs).imp λus L H=>by
 rintro⟨Z8,Z9,G,Y,flw,Y',A,h,k⟩;let⟨d,hd,ha⟩:=YB h;clear h;let⟨kd,ĉ,hq⟩:=YB ha;clear ha;show#[Z8,Z9,G,Y,d,A,hd,λv G1 H1 s1 r1=>?_];let A1:=A.step s1;split at hq
 .rename_i XJ hi;split at hq
  .rename_i t;let⟨ks,hks,hq⟩:=YB hq;split at hq
   .rename_i hz;cases hq;let⟨w,fp,h1,h2⟩:=A1.get hi;cases h2 with
    |odt q1 q2 q3 q4 q5=>
     rename_i a E;show#[_,h1,Z8,Z9,G1,Y,_,A1,ĉ,λu G2 H2 s2 r2=>?_];let A2:=A1.step s2;let⟨bb,vs,rfl,M,rb⟩:=r2.tup_inv;let ev:=jY rb hks;subst ev;let ğ:H2 a=U (.dT E):=s2.hh _ _ q3;let X2:E.length=XJ.length:=by simpa using bM cC q4
     let⟨w1,w2⟩:=oM (r1.mono s2.gg) q4 (q5.mono s2.gg);show#[a,_,W,iR.t ğ (s2.gh _ _ M) (by let:=eM;ext),k L G2 _ (s1.gg.trans s2.gg) (A2.chOdt hi h1 w1 w2)]
   .cases hq
  .cases hq
 .rename_i XJ hi;let⟨kk,ś,hq⟩:=YB hq;split at hq
  .rename_i hz;cases hq;let⟨w,fp,h1,h2⟩:=A1.get hi;cases h2 with
   |odk q1 q2 q3 q4 q5=>
    rename_i a E;show#[_,h1,Z8,Z9,G1,Y,_,A1,ĉ,λu G2 H2 s2 r2=>?_];let A2:=A1.step s2;let eu:=mv r2 ś;subst eu;let ğ:H2 a=U (.dK E):=s2.hh _ _ q3;let X2:E.length=XJ.length:=by simpa using bM cC q4
    let⟨w1,w2⟩:=oM (r1.mono s2.gg) q4 (q5.mono s2.gg);show#[a,_,W,iR.k ğ (by let:=eM;ext),k L G2 _ (s1.gg.trans s2.gg) (A2.chOdk hi h1 w1 w2)]
  .cases hq
 .cases hq⟩
def n3(i:ag)(g:FS):FS:=λY=>match Y[i]? with
 |some (U s)=>match AN s with
  |some d=>g (Y.set i (U (.sh d)))
  |none=>B
 |_=>B
def Ń.frzD(i:ag):∀us L H,Ń O X.K (n3 i g) us L H->Ń O X.K g us L H:=by
 rintro us L H ⟨Z8,Z9,G,Y,fl,Y',A,h,k⟩;unfold n3 at h;split at h
 .rename_i s hi;split at h
  .rename_i d hd;let⟨G',sm,A'⟩:=A.frzD hi hd;show#[Z8,Z9,G',_,fl,Y',A',h,λZ2 G1 H1 sm1 A1=>k Z2 G1 H1 (sm.trans sm1) A1]
  .cases h
 .cases h
def yu(i:ag)(h:Zn O X sts g):Zn O X sts (n3 i g):=⟨h.1.imp (Ń.frzD i)⟩
end
variable{cp:di}
section
open PyProof
section
variable{R:lJ->aH->Prop}{P:ag->aw->Prop}{St:ag->Heap->Prop}
noncomputable abbrev om(l:Z aw)(c:ag):Obj:={cls:=.type "list",dict:=B,data:=.seq l.toArray c,slots:=#[]}
def UF(Ya:kz prog w A.in1 I fp wr n P St)(bt:ag->ag->aJ)(kw:Z (aj×aw))(hc:ph prog w A.in1 .Gt P bt)(S:av)(Zx:S∉fp):∀(m j:ag)(s:aH)(u:aw)(c:ag),n=j+1+m->
  St (j+1) s.heap->P (cr bt j) u->s.heap.get? S=U (om [u,u] c)->
  (∀v h' tk,P (cr bt (j+m)) v->(∀b o,b∉wr->b≠S->s.heap.get? b=U o->h'.get? b=U o)->R (.ok (.ret v)) {s with heap:=h',toks:=tk})->fz (aN prog w) A (.builtin "max.loop" #[[.ref I,.none,.ref S],kw]) R s:=by
 let sw:S∉wr:=λz=>Zx (Ya.sub _ z);let nm:(i9 "max"++i9 ".loop":cD)="max.loop":=by decide
 intro m
 induction m with
 |zero=>
  intro j s u c e st pu so r;show ia Ah (by
   rw[iB lV _];show qx (jK so W ?_);show aL _ A.in1 (kH (hU (.ref I)) _ >>= _) _ _ s;show qx (jL (Ya.done s _ _ (by rw[e];show st) λh' tk kp=>?_));show aL _ A.in1 (Ai S (λ_=>#[]) >>= _) _ _ _;let ď:=kp S _ sw so;show qx ?_;show sI ď W (qx (nD (qB ?_)));show r u _ tk pu λb o M hS z=>(qy _ _ (cL hS)).trans (kp b o M z))
 |succ m ih=>
  intro j s u c e st pu so r;let lt:j+1<n:=by ext
  show ia Ah (by
   rw[iB lV _];show qx (jK so W ?_);show aL _ A.in1 (kH (hU (.ref I)) _ >>= _) _ _ s;show qx (jL (Ya.item (j+1) s _ _ lt st λv h' tk pv Y7 kp=>?_));let ď:=kp S _ sw so;show aL _ A.in1 (kH (ki [v,v] (richCompare .Gt v u >>= _)) _ >>= _) _ _ _;show qx (jL (qV (qx (hc (j+1) (cr bt j) v u _ _ _ pv pu ?_))));show qx (qV (jB ?_));show qx (nD (qB ?_));let ae:j+1+m=j+(m+1):=by ext
   by_cases M:bt (j+1) (cr bt j)=ai
   .let ab:cr bt (j+1)=j+1:=by simp only[cr,M,cx]
    simp only[M,cx];show qx ?_;show sI ď W (qx (nD ?_));rw[nm];show qB #[ib lV _,ih (j+1) _ v _ .(b) (Ya.frame _ _ _ Y7 λb hf o z=>?_) (by rw[ab];show pv) (nC _ ď W) λv' h2 t2 p2 k2=>?_]
    .exact(qy _ _ (λq:S=b=>Zx (by rw[q];show hf))).trans z
    .exact r v' h2 t2 (by rw[<-ae];show p2) λb o hw hS z=>k2 b o hw hS ((qy _ _ (cL hS)).trans (kp b o hw z))
   .let vk:bt (j+1) (cr bt j)=ar:=by simpa using M
    let ab:cr bt (j+1)=cr bt j:=by simp only[cr,vk,qr,cE]
    simp only[vk,qr,cE];show qx (nD ?_);rw[nm];show qB #[ib lV _,ih (j+1) _ u c .(b) Y7 (by rw[ab];show pu) ď λv' h2 t2 p2 k2=>?_];show r v' h2 t2 (by rw[<-ae];show p2) λb o hw hS z=>k2 b o hw hS (kp b o hw z))
def Ie(Ya:kz prog w A.in1 I fp wr n P St)(bt:ag->ag->aJ)(kw:Z (aj×aw))(hc:ph prog w A.in1 .Gt P bt)(S:av)(Zx:S∉fp)(hn:0<n){c:ag}(st:St 0 s.heap)(so:s.heap.get? S=U (om [] c))
  (r:∀v h' tk,P (cr bt (n-1)) v->(∀b o,b∉wr->b≠S->s.heap.get? b=U o->h'.get? b=U o)->R (.ok (.ret v)) {s with heap:=h',toks:=tk}):fz (aN prog w) A (.builtin "max.loop" #[[.ref I,.none,.ref S],kw]) R s:=by
 let sw:S∉wr:=λz=>Zx (Ya.sub _ z);let nm:(i9 "max"++i9 ".loop":cD)="max.loop":=by decide
 show ia Ah (by
  rw[iB lV _];show qx (jK so W ?_);show aL _ A.in1 (kH (hU (.ref I)) _ >>= _) _ _ s;show qx (jL (Ya.item 0 s _ _ hn st λv h' tk pv Y7 kp=>?_));let ď:=kp S _ sw so;show aL _ A.in1 (Ai S (λ_=>[v,v].toArray) >>= _) _ _ _;show qx ?_;show sI ď W ?_;rw[nm];show qB #[ib lV _,UF Ya bt kw hc S Zx (n-1) 0 _ v _ .(b) (Ya.frame _ _ _ Y7 λb hf o z=>?_) pv (nC _ ď W) λv' h2 t2 p2 k2=>?_]
  .exact(qy _ _ (λq:S=b=>Zx (by rw[q];show hf))).trans z
  .exact r v' h2 t2 (by rw[lW] at p2;show p2) λb o hw hS z=>k2 b o hw hS ((qy _ _ (cL hS)).trans (kp b o hw z)))
def Sm(Ya:kz prog w A.in1 I fp wr n P St)(x:aj)(d:aw)(kw:Z (aj×aw))(S:av)(Zx:S∉fp)(hn:n=0){c:ag}(st:St 0 s.heap)(so:s.heap.get? S=U (om [] c))
  (r:∀h' tk,(∀b o,b∉wr->b≠S->s.heap.get? b=U o->h'.get? b=U o)->R (.ok (.ret d)) {s with heap:=h',toks:=tk}):fz (aN prog w) A (.builtin "max.loop" #[[.ref I,.none,.ref S],(x,d)::kw]) R s:=by
 subst hn;show ia Ah (by rw[iB lV _];show qx (jK so W ?_);show aL _ A.in1 (kH (hU (.ref I)) _ >>= _) _ _ s;show qx (jL (Ya.done s _ _ st λh' tk kp=>?_));show qx (Af ?_);show qB (r h' tk λb o M _ z=>kp b o M z))
end
def ON(a v:aw):kI "max" #[[a],[(pf "default",v)]]:=by unfold kI;kernel_rfl
def P7{x d:aw} 
  (h:aL (aN prog w) A.in1 (kj x) (λit t=>∃I fp wr n P St bt,it=.ref I/\kz prog w A.in1 I fp wr n P St/\St 0 t.heap/\(∀b∈fp,b<t.heap.objs.size)/\ph prog w A.in1 .Gt P bt /\
   (n=0->∀h' tk,(∀b o,b∉wr->t.heap.get? b=U o->h'.get? b=U o)->Q d {t with heap:=h',toks:=tk}) /\
   (0<n->∀v h' tk,P (cr bt (n-1)) v->(∀b o,b∉wr->t.heap.get? b=U o->h'.get? b=U o)->Q v {t with heap:=h',toks:=tk})) us s):
  aL (aN prog w) A (call (.builtin "max") [x] [(pf "default",d)]) Q us s:=by
 let nm:(i9 "max"++i9 ".loop":cD)="max.loop":=by decide
 show kmb_tree F.kind_max F.plain_max F.entry_max (ON _ _) ?_;show aL _ A.in1 (V8 "max" ["key","default"] 0 #[[],[(pf "default",d)]] >>= _) _ _ s;show qx (nB (W) ?_);show qx (qB ?_);show qx (YI h λit t q=>?_);let⟨I,fp,wr,n,P,St,bt,rfl,Ya,st,hf,hc,q0,q1⟩:=q;let nf:t.heap.objs.size∉fp:=λz=>fN _ (hf _ z);show qx (iA ?_);rw[nm];by_cases hn:n=0
 .exact qB #[ib lV _,Sm Ya _ d [] t.heap.objs.size nf hn (Ya.frame _ _ _ st λb _ o z=>qu _ z) (qH _ W) λh' tk kp=>q0 hn h' tk λb o M z=>kp b o M (qD (qv z)) (qu _ z)]
 .exact qB #[ib lV _,Ie Ya bt _ hc t.heap.objs.size nf .(b) (Ya.frame _ _ _ st λb _ o z=>qu _ z) (qH _ W) λv h' tk pv kp=>q1 .(b) v h' tk pv λb o M z=>kp b o M (qD (qv z)) (qu _ z)]
noncomputable def fX:Z D->au (Z ah)
 |[]=>U []
 |.int x::r=>(fX r).map (x::·)
 |_::_=>B
def nX{K:aS}{G:Hp}:∀{vs:Z V}{ds:Z D}{ys:Z ah},XO O K G vs ds->fX ds=U ys->vs=ys.map V.int
 |_,[],ys,r,h=>by cases r;cases h;rfl
 |_,d::ds,ys,.cons h1 h2,h=>by
  cases d with
  |int x=>
   let⟨zs,hz,rfl⟩:=YE (h);rw[h1.int_inv,nX h2 hz];rfl
  |_=>cases h
def Fk:∀{ns:Z ah}{E:Z aw},bi (ns.map V.int) E->E.length=ns.length/\∀(i:ag)v,E[i]?=U v->∃t,v=.int (ns.getD i 0) t:=by
 intro X7
 induction X7 with
 |nil=>
  intro _ r;rw[qQ] at r;cases r;show#[W,λi v h=>by simp at h]
 |cons n ns ih=>
  intro _ r;rw[qo] at r;cases r with
  |cons r1 r2=>
   let⟨h1,h2⟩:=ih r2;show#[by simp[h1],λi v h=>?_];cases i with
   |zero=>
    let⟨t,rfl⟩:=r1;cases h;show#[t,W]
   |succ i=>show h2 i v h
noncomputable def Ψ(ns:Z ah)(i j:ag):aJ:=decide (ns.getD i 0 > ns.getD j 0)
def mxI(ns:Z ah):D:=if ns=[] then .non else .int (ns.getD (cr (Ψ ns) (ns.length-1)) 0)
def mxV(ns:Z ah):V:=if ns=[] then .non else .int (ns.getD (cr (Ψ ns) (ns.length-1)) 0)
def uh:D->au D
 |.lst l=>(fX l).map mxI
 |_=>B
def TJ(t:TE):TE:=λL H Q=>t L H λv H1=>∃(a:av)(ns:Z ah),[v]=[.ref a]/\H1 a=U (.lst (ns.map V.int))/\Q (mxV ns) H1
def Rs{t:TE}{kp:di}(hc:X.calm=ai)(hg:Gl X "max")(hm:X.mg "max"=B)(h:PE X e t)(he:aM [e] X.env=(ar,eval e X.env)::aM [] X.env:=by rfl)(M:bW pos (aM [e] X.env)=(ar,eval e X.env)::bW pos (aM [] X.env):=by rfl)
  (YR:(bW pos (aM [e] X.env)).any (·.1)=ar:=by rfl):
  PE X (.Call (.Name "max" p) [e] [#[U "default",.Constant .none j cp,kp]] pos) (TJ t):=by
 intro Z' s L H Q I q;show rW (jM I hg hm (by rfl) ?_);show callWith_kw (YI (gP h gW he pos Z' s L H (λvs H1=>∃(a:av)(ns:Z ah),vs=[.ref a]/\H1 a=U (.lst (ns.map V.int))/\Q (mxV ns) H1) I q) λE s1 #[vs,H1,I1,r1,q1]=>?_) M YR;let⟨a,ns,rfl,ha,q2⟩:=q1;let⟨u,rfl,ru⟩:=dY r1;cases ru;show kws_cons (Gq (kws_nil ?_));let⟨XY,rv,pl,_⟩:=I1.list (.inl (.inl ha));let⟨vl,vi⟩:=Fk rv;show P7 (nz pl.isList ?_);let ne:a≠s1.heap.objs.size:=by let⟨o,_,h1,_⟩:=pl;show qD (qv h1)
 let hP:∀(i:ag)v,XY.toArray[i]?=U v->∃t,v=.int (ns.getD i 0) t:=λi v hv=>vi i v (by simpa using hv);let la:a<s1.heap.objs.size:=by let⟨o,_,h1,_⟩:=pl;show qv h1
 let sz:XY.toArray.size=ns.length:=by simp[vl]
 show#[s1.heap.objs.size,_,_,_,_,_,Ψ ns,W,o7 (show X.A.in1.handled=B from I1.ok.hd hc) s1.heap.objs.size a ne XY.toArray,#[#[_,qH _ W,W,W],pl.isList.at λo q=>qu _ q],λb M=>?_,V9 (λi=>ns.getD i 0) hP,λhn h' tk hk=>?_,λhn v h' tk pv hk=>?_]
 .rw[jF];simp only[qN,qL,or_false] at M;rcases M with z|z
  .rw[z];show ng _
  .rw[z];show lQ la
 .let e0:ns=[]:=vQ.mp .(b);show#[.non,H1,I1.kept λb o z=>hk b o ?_ (qu _ z),W,?_]
  .intro z';let:b=s1.heap.objs.size:=by simpa using z'
   show bj (qv z) (by rw[this];show fN _)
  .unfold mxV at q2;rw[qY e0] at q2;show q2
 .let e0:ns≠[]:=λz=>by rw[sz,z] at hn;show bj hn .(c)
  let⟨t,rfl⟩:=hP _ _ pv;show#[mxV ns,H1,I1.kept λb o z=>hk b o ?_ (qu _ z),?_,q2]
  .intro z';let:b=s1.heap.objs.size:=by simpa using z'
   show bj (qv z) (by rw[this];show fN _)
  .unfold mxV;rw[qZ e0,sz];show#[t,W]
def Kb{kp:di}(hc:X.calm=ai)(hg:Gl X "max")(hm:X.mg "max"=B)(h:DE O X e f)(he:aM [e] X.env=(ar,eval e X.env)::aM [] X.env:=by rfl)(M:bW pos (aM [e] X.env)=(ar,eval e X.env)::bW pos (aM [] X.env):=by rfl)
  (YR:(bW pos (aM [e] X.env)).any (·.1)=ar:=by rfl):DE O X (.Call (.Name "max" p) [e] [#[U "default",.Constant .none j cp,kp]] pos) (b1 uh f):=⟨(Rs hc hg hm h.1 he M YR).imp λL H Q=>by
 rintro⟨Z8,Z9,G,Y,z,A,hq,k⟩;let⟨d,hd,hi⟩:=YB hq;show#[Z8,Z9,G,Y,d,A,hd,λv G1 H1 s1 r1=>?_];unfold uh at hi;split at hi
 .obtain⟨ns,hn,rfl⟩:=YE hi;let⟨a,E,rfl,ha,ra⟩:=r1.lst_inv;show#[a,ns,W,by rw[<-nX ra hn];show s1.gh _ _ ha,k _ G1 H1 s1 ?_];unfold mxV mxI;split
  .exact .non
  .exact .int _
 .cases hi⟩
end
noncomputable def foF:Yi->D
 |.d d=>d
 |.k XJ=>.dk XJ
 |.t XJ=>.dt XJ
def ō(c:aj)(fs:Z (aj×Yi)):D:=.ins c (fs.map λz=>(z.1,foF z.2))
mutual
def œ:D->aJ
 |.non=>ai
 |.bl _=>ai
 |.int _=>ai
 |.str _=>ai
 |.tup l=>fZ l
 |.lst l=>fZ l
 |_=>ar
def fZ:Z D->aJ
 |[]=>ai
 |x::r=>œ x && fZ r
end
noncomputable def iP(fp:Z av)(H G:Hp):Hp:=λb=>if b∈fp then H b else G b
noncomputable def ik(fp:Z av)(G:Hp):Hp:=λb=>if b∈fp then B else G b
def kO(h:a∉fp):ik fp G a=G a:=qZ h
def X9.less(no:∀b∈fp,∀vs,G b≠U (.lst vs)/\G b≠U (.tup vs))(r:X9 O K G v d):œ d=ai->X9 O K (ik fp G) v d:=by
 show r.rec (motive_2:=λvs ds _=>fZ ds=ai->XO O K (ik fp G) vs ds) (λ_=>.non) (λ_ _=>.bl _) (λ_ _=>.int _) (λ_ _=>.str _) ?_ (λh _ i hp=>.tup ((kO λz=>(no _ z _).2 h).trans h) (i (by rw[œ] at hp;show hp))) (λh _ i hp=>.lst ((kO λz=>(no _ z _).1 h).trans h) (i (by rw[œ] at hp;show hp))) ?_ ?_ ?_ ?_ ?_ ?_ (λ_=>.nil) (λ_ _ a b hp=>?_)
 all_goals intros
 all_goals rename_i hp
 any_goals (simp[œ] at hp;done)
 rw[fZ] at hp;show .cons (a (Hg.mp hp).1) (b (Hg.mp hp).2)
def XO.less(no:∀b∈fp,∀vs,G b≠U (.lst vs)/\G b≠U (.tup vs)):∀{vs:Z V}{ds:Z D},XO O K G vs ds->fZ ds=ai->XO O K (ik fp G) vs ds
 |_,_,.nil,_=>.nil
 |_,_,.cons r t,hp=>by rw[fZ] at hp;let ſ:=Hg.mp hp;show .cons (r.less no ſ.1) (t.less no ſ.2)
def mG(hn:∀b∈fp,G b=B):aY G (iP fp H G):=λb o e=>by show(if b∈fp then H b else G b)=_;rw[qZ (λz=>by rw[hn b z] at e;cases e)];show e
def XW.frz(hn:∀b∈fp,G b=B):∀{vs:Z V}{fs:Z Yi}{ps:Z av},XW O K G H vs fs ps->(∀b∈ps,b∈fp)->XO O K (iP fp H G) vs (fs.map foF)
 |_,_,_,.nil,_=>.nil
 |_,_,_,.cons r t,hm=>by
  show .cons ?_ (t.frz hn λb M=>hm b (qS _ M));cases r with
  |d h=>show h.mono (mG hn)
  |k h a c=>show .dk (show(if _∈fp then H _ else G _)=_ by rw[qY (hm _ (m6 _ qg))];show h) a (c.mono (mG hn))
  |t h a c=>show .dt (show(if _∈fp then H _ else G _)=_ by rw[qY (hm _ (m6 _ qg))];show h) a (c.mono (mG hn))
def XW.kinds:∀{vs:Z V}{fs:Z Yi}{ps:Z av},XW O K G H vs fs ps->∀b∈ps,(∃E,H b=U (.dK E))\/∃E,H b=U (.dT E)
 |_,_,_,.nil,b,M=>by cases M
 |_,_,_,.cons r t,b,M=>by
  rcases c8.mp M with M|M
  .cases r with
   |d _=>cases M
   |k h _ _=>rw[bL.mp M];show .inl #[_,h]
   |t h _ _=>rw[bL.mp M];show .inr #[_,h]
  .exact t.kinds b M
section
variable{s:aJ}{fs:Z (aj×Yi)}
def At.look(A:At O K Z8 Z9 G H Y L)(hi:Y[i]?=U (U (.fo s c fs))):∃fp,(∀b∈fp,G b=B/\∃o,H b=U o/\(∀vs,o≠.lst vs)/\∀vs,o≠.tup vs)/\At O K Z8 Z9 (iP fp H G) H (Y.set i (U (.sh (ō c fs)))) L:=by
 let⟨v,fp,h1,h2⟩:=A.get hi;cases h2 with
 |fo gs g1 g2 g3 g4 g5 g6=>
  rename_i a XI dx vs ps;let hn:∀b∈a::ps,G b=B:=λb M=>(g2 b M).2;let sm:=mG (H:=H) hn;let ga:iP (a::ps) H G a=U (.ins XI dx vs):=by show(if a∈a::ps then H a else G a)=_;rw[qY qg];show g4
  show#[a::ps,λb M=>#[hn b M,?_],A.ch hi h1 (.fo gs g1 g2 g3 g4 g5 g6) (λb o e _=>e) (.sh (.ins ga g1 (by rw[g5,qp];rfl) ?_)) (λb M=>by cases M) sm (λb o e=>?_) (λb o e M _=>?_)]
  .rcases cg.mp M with rfl|M
   .exact#[_,g4,(λ_ z=>by cases z),(λ_ z=>by cases z)]
   .rcases g6.kinds b M with⟨E,e⟩|⟨E,e⟩
    .exact#[_,e,(λ_ z=>by cases z),(λ_ z=>by cases z)]
    .exact#[_,e,(λ_ z=>by cases z),(λ_ z=>by cases z)]
  .let:=g6.frz hn λb M=>qh _ M;rw[qp] at this ⊢;show this
  .replace e:(if b∈a::ps then H b else G b)=U o:=e
   split at e
   .exact e
   .exact A.gh b o e
  .show(if b∈a::ps then H b else G b)=G b;rw[qZ M]
def Ch(gh:aY G H)(hf:∀b∈fp,G b=B/\∃o,H b=U o/\(∀vs,o≠.lst vs)/\∀vs,o≠.tup vs)(s:Step (iP fp H G) H G' H'):Step G H (ik fp G') H'/\∀b∈fp,∀vs,G' b≠U (.lst vs)/\G' b≠U (.tup vs):=by
 let hn:∀b∈fp,G b=B:=λb M=>(hf b M).1;show#[#[s.hh,λb o e=>?_,λb o e=>?_,λb o e ek=>?_],λb M vs=>?_]
 .show(if b∈fp then B else G' b)=_;rw[qZ (λz=>by rw[hn b z] at e;cases e)];show s.gg b o (mG hn b o e)
 .replace e:(if b∈fp then B else G' b)=U o:=e
  split at e
  .cases e
  .exact s.gh b o e
 .show(if b∈fp then B else G' b)=_;by_cases M:b∈fp
  .rw[qY M,hn b M]
  .rw[qZ M,s.out b o e ek];show(if b∈fp then H b else G b)=_;rw[qZ M]
 .obtain⟨_,o,e,k1,k2⟩:=hf b M;let:G' b=U o:=by rw[s.out b o e (by cases o<;>first|rfl|show bj W (k2 _))];show(if b∈fp then H b else G b)=_;rw[qY M,e]
  rw[this];show#[λz=>k1 vs (qI z),λz=>k2 vs (qI z)]
end
def bwF(i:ag)(f:FE):FE:=λY=>match Y[i]? with
 |some (U (.fo s c fs))=>(f (Y.set i (U (.sh (ō c fs))))).bind λd=>if œ d=ai then U d else B
 |_=>f Y
def iJ(i:ag)(f:FA):FA:=λY=>match Y[i]? with
 |some (U (.fo s c fs))=>(f (Y.set i (U (.sh (ō c fs))))).bind λds=>if fZ ds=ai then U ds else B
 |_=>f Y
def EK(i:ag)(h:DE O X e f):DE O X e (bwF i f):=⟨h.1.imp λL H Q=>by
 rintro⟨Z8,Z9,G,Y,d,A,h,k⟩;unfold bwF at h;split at h
 .rename_i sb c fs hi;let⟨d',hd,h⟩:=YB h;split at h
  .rename_i hp;cases h;let⟨fp,hf,A1⟩:=A.look hi;show#[Z8,Z9,_,_,d,A1,hd,λv G' H' s r=>?_];let⟨s2,no⟩:=Ch A.gh hf s;show k v _ H' s2 (r.less no hp)
  .cases h
 .exact#[Z8,Z9,G,Y,d,A,h,k]⟩
def CN{f:FA}(h:∀Y ds,f Y=U ds->ds.length=n):∀Y ds,iJ i f Y=U ds->ds.length=n:=λY ds e=>by
 unfold iJ at e;split at e
 .obtain⟨ds',hd,e⟩:=YB e;split at e
  .cases e;show h _ _ hd
  .cases e
 .exact h _ _ e
def vw(i:ag){f:FA}(h:DA O X es f):DA O X es (iJ i f):=⟨h.1.imp λL H Q=>by
 rintro⟨Z8,Z9,G,Y,ds,A,h,k⟩;unfold iJ at h;split at h
 .rename_i sb c fs hi;let⟨ds',hd,h⟩:=YB h;split at h
  .rename_i hp;cases h;let⟨fp,hf,A1⟩:=A.look hi;show#[Z8,Z9,_,_,ds,A1,hd,λvs G' H' s r=>?_];let⟨s2,no⟩:=Ch A.gh hf s;show k vs _ H' s2 (r.less no hp)
  .cases h
 .exact#[Z8,Z9,G,Y,ds,A,h,k]⟩
noncomputable def gx(f:aj)(x:Yi):Z (aj×Yi)->Z (aj×Yi)
 |[]=>[]
 |(g,y)::r=>if f=g then (g,x)::r else (g,y)::gx f x r
def Gg{f:aj}{x:Yi}:∀fs:Z (aj×Yi),(gx f x fs).map (·.1)=fs.map (·.1):=by
 intro X7
 induction X7 with
 |nil=>
  show W
 |cons x0 r ih=>
  let⟨g,y⟩:=x0;unfold gx;split
  .rfl
  .rw[qo,qo,ih]
section
variable{f:aj}
def XW.none:∀{vs:Z (aj×V)}{fs:Z (aj×Yi)},vs.map (·.1)=fs.map (·.1)->fs.lookup f=B->vs.lookup f=B
 |[],[],_,_=>rfl
 |[],_::_,h,_=>by cases h
 |_::_,[],h,_=>by cases h
 |(g,v)::vs,(g',y)::fs,h,hl=>by
  rw[qo,qo] at h;let ht:=(eZ h).2;let e:g=g':=(eZ h).1;clear h;subst e;by_cases ef:f=g
  .subst ef;simp[cS] at hl
  .let M:(f==g)=ar:=by simpa using ef
   simp only[cS,M] at hl ⊢;show XW.none ht hl
def XW.app{vs ws:Z V}{fs gs:Z Yi}{ps qs:Z av}(h:XW O K G H vs fs ps)(h':XW O K G H ws gs qs):XW O K G H (vs++ws) (fs++gs) (ps++qs):=by
 induction h with
 |nil=>show h'
 |cons r t ih=>rw[o0];show .cons r ih
def XW.put{y:Yi}(hy:∀{v p},Yz O K G H v y p->∃q,v=.ref q/\p=[q]):∀{vs:Z (aj×V)}{fs:Z (aj×Yi)}{ps:Z av},vs.map (·.1)=fs.map (·.1)->XW O K G H (vs.map (·.2)) (fs.map (·.2)) ps->fs.lookup f=U y->
  ∃q,vs.lookup f=U (.ref q)/\q∈ps/\Yz O K G H (.ref q) y [q]/\(ps.Nodup->∀{o:HO}{y':Yi},Yz O K G (X0 H q o) (.ref q) y' [q]->XW O K G (X0 H q o) (vs.map (·.2)) ((gx f y' fs).map (·.2)) ps):=by
 intro vs
 induction vs with
 |nil=>
  intro fs ps h _ hl;cases fs with
  |nil=>cases hl
  |cons _ _=>cases h
 |cons gv vs ih=>
  intro fs ps h r hl;cases fs with
  |nil=>cases h
  |cons gy fs=>
  let⟨g,v⟩:=gv;let⟨g',y2⟩:=gy;rw[qo,qo] at h;let ht:=(eZ h).2;let e:g=g':=(eZ h).1;clear h;subst e;rw[qo,qo] at r;cases r with
  |cons r1 r2=>
   by_cases ef:f=g
   .subst ef;simp only[cS,beq_self_eq_true] at hl ⊢;cases hl;let⟨q,rfl,rfl⟩:=hy r1;show#[q,W,m6 _ qg,r1,λnd o y' e1=>?_];let hs:gx f y' ((f,y)::fs)=(f,y')::fs:=qY W;rw[hs,qo,qo];show .cons e1 (r2.stay (.refl _) λb M=>aD λz=>?_);subst z;show(dD.mp nd).1 M
   .let M:(f==g)=ar:=by simpa using ef
    simp only[cS,M] at hl ⊢;let⟨q,b1,b2,b3,b6⟩:=ih ht r2 hl;show#[q,b1,qS _ b2,b3,λnd o y' e1=>?_];let hs:gx f y' ((g,y2)::fs)=(g,y2)::gx f y' fs:=qZ ef;rw[hs,qo,qo];let Ř:=nE.mp nd;show .cons (r1.stay (.refl _) λb M=>aD λz=>Ř.2.2 b M q b2 z) (b6 Ř.2.1 e1)
def XW.putK{XJ:Z (XR×D)}{vs:Z (aj×V)}{fs:Z (aj×Yi)}{ps:Z av}(h:vs.map (·.1)=fs.map (·.1))(r:XW O K G H (vs.map (·.2)) (fs.map (·.2)) ps)(hl:fs.lookup f=U (.k XJ)):
  ∃q E,vs.lookup f=U (.ref q)/\q∈ps/\H q=U (.dK E)/\E.map (·.1)=XJ.map (·.1)/\XO O K G (E.map (·.2)) (XJ.map (·.2)) /\
   (ps.Nodup->∀{ġ:Z (XR×V)}{ZM:Z (XR×D)},ġ.map (·.1)=ZM.map (·.1)->XO O K G (ġ.map (·.2)) (ZM.map (·.2))->XW O K G (X0 H q (.dK ġ)) (vs.map (·.2)) ((gx f (.k ZM) fs).map (·.2)) ps):=by
 let⟨q,b1,b2,b3,b4⟩:=XW.put (λr=>by cases r;show#[_,W,W]) h r hl;cases b3 with
 |k a1 a2 a3=>show#[q,_,b1,b2,a1,a2,a3,λnd _ _ e1 e2=>b4 nd (.k bf e1 e2)]
def XW.putT{vs:Z (aj×V)}{fs:Z (aj×Yi)}{ps:Z av}(h:vs.map (·.1)=fs.map (·.1))(r:XW O K G H (vs.map (·.2)) (fs.map (·.2)) ps)(hl:fs.lookup f=U (.t XJ)):
  ∃q E,vs.lookup f=U (.ref q)/\q∈ps/\H q=U (.dT E)/\E.map (·.1)=XJ.map (·.1)/\XO O K G (E.map (·.2)) (XJ.map (·.2)) /\
   (ps.Nodup->∀{ġ:Z (Z XR×V)}{ZM:Z (Z XR×D)},ġ.map (·.1)=ZM.map (·.1)->XO O K G (ġ.map (·.2)) (ZM.map (·.2))->XW O K G (X0 H q (.dT ġ)) (vs.map (·.2)) ((gx f (.t ZM) fs).map (·.2)) ps):=by
 let⟨q,b1,b2,b3,b4⟩:=XW.put (λr=>by cases r;show#[_,W,W]) h r hl;cases b3 with
 |t a1 a2 a3=>show#[q,_,b1,b2,a1,a2,a3,λnd _ _ e1 e2=>b4 nd (.t bf e1 e2)]
end
section
variable{fv:FE}{fl cl:aj}
noncomputable def jP(c f:aj)(i:ag)(fv:FE):FS:=λY=>(fv Y).bind λd=>match Y[i]? with
 |some (U (.fo s c' fs))=>if c'=c/\fs.lookup f=B/\fs.length<100 then U (.nx,Y.set i (U (.fo s c (fs++[(f,.d d)])))) else B
 |_=>B
def ot(i:ag)(hc:CF O X.K cl YO)(hf:fl∈YO)(Zt:DE O X YL fv)(hN:X.N[i]?=U x:=by rfl)(hv:Ġ X.env.scope x:=by ac_nf)(hd:(x==("__debug__":aj))=ar:=by decide)
  (Yp:(x==("__classdict__":aj))=ar:=by decide)(hs:dA YL (U (.Attribute (.Name x vp) fl YQ)) pos.line X.env=bc ar:=by rfl):DS O X (.Assign [.Attribute (.Name x vp) fl YQ] YL pos) (jP cl fl i fv):=⟨(pV (gH hN hv hd Yp) Zt.1 hs).imp λus L H=>by
 rintro⟨Z8,Z9,G,Y,flw,Y',A,h,k⟩;let⟨d,hd,h⟩:=YB h;split at h
 .rename_i sb c' fs hi;split at h
  .rename_i hz;let⟨rfl,á,hz3⟩:=hz;cases h;let⟨XI,q1,q2,q3⟩:=hc.ex;show#[Z8,Z9,G,Y,d,A,hd,λv G1 H1 s1 r1=>?_];let A1:=A.step s1;let⟨w,fp,h1,h2⟩:=A1.get hi;cases h2 with
   |fo gs g1 g2 g3 g4 g5 g6=>
    rename_i a C' dx vs ps;let Zy:=g1;rw[q1] at g1;cases g1;let hl:=XW.none g5 á;let X2:vs.length=fs.length:=by simpa using bM cC g5
    let nd:=dD.mp g3;show#[_,h1,a,XI,dx,vs,W,g4,q2,q3 fl hf,by ext,?_];rw[pZ hl];let g6':XW O X.K G1 (X0 H1 a (.ins XI dx (vs++[(fl,v)]))) ((vs++[(fl,v)]).map (·.2)) ((fs++[(fl,Yi.d d)]).map (·.2)) ps:=by rw[dN,dN];let:=(g6.stay (H':=X0 H1 a (.ins XI dx (vs++[(fl,v)]))) (.refl _) λb M=>aD λz=>nd.1 (by rw[<-z];show M)).app (.cons (.d r1) .nil);simpa using this
    show k L G1 _ s1.gg (A1.ch hi h1 (.fo gs Zy g2 g3 g4 g5 g6) (λb o e M=>?_) (.fo gs Zy g2 g3 bf (by simp[g5]) g6') (λb M=>.inl M) (.refl _) (λb o e=>?_) (λ_ _ _ _ _=>rfl))
    .rw[aD (λz=>M (by rw[z];show qg))];show e
    .rw[aD (bH e (g2 a qg).2)];show A1.gh b o e
  .cases h
 .cases h⟩
noncomputable def fY(c f:aj)(i:ag)(y:Yi):FS:=λY=>match Y[i]? with
 |some (U (.fo s c' fs))=>if c'=c/\fs.lookup f=B/\fs.length<100 then U (.nx,Y.set i (U (.fo s c (fs++[(f,y)])))) else B
 |_=>B
def lA(i:ag)(hc:CF O X.K cl YO)(hf:fl∈YO)(hN:X.N[i]?=U x:=by rfl)(hv:Ġ X.env.scope x:=by ac_nf)(hd:(x==("__debug__":aj))=ar:=by decide)
  (Yp:(x==("__classdict__":aj))=ar:=by decide)(hs:dA (.Dict [] [] dp) (U (.Attribute (.Name x vp) fl YQ)) pos.line X.env=bc ar:=by rfl):DS O X (.Assign [.Attribute (.Name x vp) fl YQ] (.Dict [] [] dp) pos) (fY cl fl i (.k [])):=⟨(pV (gH hN hv hd Yp) vd hs).imp λus L H=>by
 rintro⟨Z8,Z9,G,Y,flw,Y',A,h,k⟩ p hp;unfold fY at h;split at h
 .rename_i sb c' fs hi;split at h
  .rename_i hz;let⟨rfl,á,hz3⟩:=hz;cases h;let⟨XI,q1,q2,q3⟩:=hc.ex;let⟨w,fp,h1,h2⟩:=A.get hi;let ht:=h2.fpt;cases h2 with
   |fo gs g1 g2 g3 g4 g5 g6=>
    rename_i a C' dx vs ps;let Zy:=g1;rw[q1] at g1;cases g1;let hl:=XW.none g5 á;let X2:vs.length=fs.length:=by simpa using bM cC g5
    let nd:=dD.mp g3;let ê:a≠p:=bH g4 hp;let nps:∀b∈a::ps,b≠p:=λb M=>by let⟨_,_,o,e,_⟩:=ht b M;show bH e hp
    let hp0:Z9 p=B:=A.st.hh.free hp;let υ:G p=B:=A.gh.free hp;show#[_,h1,a,XI,dx,vs,W,by rw[aD ê];show g4,q2,q3 fl hf,by ext,?_];rw[pZ hl];let g6':XW O X.K G (X0 (X0 H p (.dK [])) a (.ins XI dx (vs++[(fl,.ref p)]))) ((vs++[(fl,V.ref p)]).map (·.2)) ((fs++[(fl,Yi.k [])]).map (·.2)) (ps++[p]):=by rw[dN,dN];show(g6.stay (.refl _) λb M=>?_).app (.cons (.k (by rw[aD ê.symm,bf]) W .nil) .nil);rw[aD λz=>nd.1 (by rw[<-z];show M),aD (nps b (qh _ M))]
    show k L G _ (.refl _) (A.ch hi h1 (.fo gs Zy g2 g3 g4 g5 g6) (λb o e M=>?_) (.fo gs Zy (λb M=>?_) ?_ bf (by simp[g5]) g6') (λb M=>?_) (.refl _) (λb o e=>?_) (λ_ _ _ _ _=>rfl))
    .rw[aD (λz=>M (by rw[z];show qg)),aD (bH e hp)];show e
    .rw[<-qq] at M;rcases c8.mp M with M|M
     .exact g2 b M
     .rw[bL.mp M];show#[hp0,υ]
    .rw[<-qq];show nE.mpr #[g3,dD.mpr #[(λz=>nomatch z),lN],λb M c hc=>by rw[bL.mp hc];show nps b M]
    .rw[<-qq] at M;rcases c8.mp M with M|M
     .exact .inl M
     .rw[bL.mp M];show .inr hp
    .rw[aD (bH e (g2 a qg).2),aD (bH e υ)];show A.gh b o e
  .cases h
 .cases h⟩
end
section
variable{fv:FE}{fl cl:aj}
def KG(i:ag)(hc:CF O X.K cl YO)(hf:fl∈YO)(hN:X.N[i]?=U x:=by rfl)(hv:Ġ X.env.scope x:=by ac_nf)(hd:(x==("__debug__":aj))=ar:=by decide)
  (Yp:(x==("__classdict__":aj))=ar:=by decide)(hs:dA (.Dict [] [] dp) (U (.Attribute (.Name x vp) fl YQ)) pos.line X.env=bc ar:=by rfl):DS O X (.Assign [.Attribute (.Name x vp) fl YQ] (.Dict [] [] dp) pos) (fY cl fl i (.t [])):=⟨(pV (gH hN hv hd Yp) CT hs).imp λus L H=>by
 rintro⟨Z8,Z9,G,Y,flw,Y',A,h,k⟩ p hp;unfold fY at h;split at h
 .rename_i sb c' fs hi;split at h
  .rename_i hz;let⟨rfl,á,hz3⟩:=hz;cases h;let⟨XI,q1,q2,q3⟩:=hc.ex;let⟨w,fp,h1,h2⟩:=A.get hi;let ht:=h2.fpt;cases h2 with
   |fo gs g1 g2 g3 g4 g5 g6=>
    rename_i a C' dx vs ps;let Zy:=g1;rw[q1] at g1;cases g1;let hl:=XW.none g5 á;let X2:vs.length=fs.length:=by simpa using bM cC g5
    let nd:=dD.mp g3;let ê:a≠p:=bH g4 hp;let nps:∀b∈a::ps,b≠p:=λb M=>by let⟨_,_,o,e,_⟩:=ht b M;show bH e hp
    let hp0:Z9 p=B:=A.st.hh.free hp;let υ:G p=B:=A.gh.free hp;show#[_,h1,a,XI,dx,vs,W,by rw[aD ê];show g4,q2,q3 fl hf,by ext,?_];rw[pZ hl];let g6':XW O X.K G (X0 (X0 H p (.dT [])) a (.ins XI dx (vs++[(fl,.ref p)]))) ((vs++[(fl,V.ref p)]).map (·.2)) ((fs++[(fl,Yi.t [])]).map (·.2)) (ps++[p]):=by rw[dN,dN];show(g6.stay (.refl _) λb M=>?_).app (.cons (.t (by rw[aD ê.symm,bf]) W .nil) .nil);rw[aD λz=>nd.1 (by rw[<-z];show M),aD (nps b (qh _ M))]
    show k L G _ (.refl _) (A.ch hi h1 (.fo gs Zy g2 g3 g4 g5 g6) (λb o e M=>?_) (.fo gs Zy (λb M=>?_) ?_ bf (by simp[g5]) g6') (λb M=>?_) (.refl _) (λb o e=>?_) (λ_ _ _ _ _=>rfl))
    .rw[aD (λz=>M (by rw[z];show qg)),aD (bH e hp)];show e
    .rw[<-qq] at M;rcases c8.mp M with M|M
     .exact g2 b M
     .rw[bL.mp M];show#[hp0,υ]
    .rw[<-qq];show nE.mpr #[g3,dD.mpr #[(λz=>nomatch z),lN],λb M c hc=>by rw[bL.mp hc];show nps b M]
    .rw[<-qq] at M;rcases c8.mp M with M|M
     .exact .inl M
     .rw[bL.mp M];show .inr hp
    .rw[aD (bH e (g2 a qg).2),aD (bH e υ)];show A.gh b o e
  .cases h
 .cases h⟩
def jw(c f:aj)(i:ag)(fk fv:FE):FS:=λY=>(fv Y).bind λd=>(fk Y).bind λkd=>match Y[i]? with
 |some (U (.fo s c' fs))=>if c'=c then match fs.lookup f with
  |some (.k XJ)=>(gG kd).bind λk=>if XJ.length<100000 then U (.nx,Y.set i (U (.fo s c (gx f (.k (ce XJ k d)) fs)))) else B
  |some (.t XJ)=>match kd with
   |.tup t=>(ff t).bind λks=>if XJ.length<100000 then U (.nx,Y.set i (U (.fo s c (gx f (.t (ce XJ ks d)) fs)))) else B
   |_=>B
  |_=>B else B
 |_=>B
def mQ(i:ag)(hu:X.A.units+66<cq)(hc:CF O X.K cl YO)(hf:fl∈YO)(hk:DE O X ke fk)(Zt:DE O X YL fv)(hN:X.N[i]?=U x:=by rfl)(hv:Ġ X.env.scope x:=by ac_nf)(hd:(x==("__debug__":aj))=ar:=by decide)
  (Yp:(x==("__classdict__":aj))=ar:=by decide)(M:gN (.Name x vp) fl X.env (eval (.Name x vp) X.env)=eval (.Name x vp) X.env:=by rfl)(hs:dA YL (U (.Subscript (.Attribute (.Name x vp) fl ap) ke YQ)) pos.line X.env=bc ar:=by rfl):
  DS O X (.Assign [.Subscript (.Attribute (.Name x vp) fl ap) ke YQ] YL pos) (jw cl fl i fk fv):=⟨(zo .(b) (ua (gH hN hv hd Yp) M) hk.1 Zt.1 hs).imp λus L H=>by
 rintro⟨Z8,Z9,G,Y,flw,Y',A,h,k⟩;let⟨d,hd,ha⟩:=YB h;clear h;let⟨kd,ĉ,hq⟩:=YB ha;clear ha;split at hq
 .rename_i sb c' fs hi;split at hq
  .rename_i hz;subst hz;let⟨XI,q1,q2,q3⟩:=hc.ex;show#[Z8,Z9,G,Y,d,A,hd,λv G1 H1 s1 r1=>?_];let A1:=A.step s1;let⟨w,fp,h1,h2⟩:=A1.get hi;cases h2 with
   |fo gs g1 g2 g3 g4 g5 g6=>
    rename_i a C' dx vs ps;let Zy:=g1;rw[q1] at g1;cases g1;let nd:=dD.mp g3;split at hq
    .rename_i XJ hl;let⟨kk,ś,hq⟩:=YB hq;split at hq
     .rename_i hz;cases hq;let⟨p0,_,b1,_⟩:=XW.putK g5 g6 hl;show#[_,h1,a,XI,dx,_,.ref p0,W,g4,q2,q3 fl hf,b1,Z8,Z9,G1,Y,kd,A1,ĉ,λu G2 H2 s2 r2=>?_];let A2:=A1.step s2;let eu:=mv r2 ś;subst eu;let hg:∀b∈a::ps,Z9 b=B/\G2 b=B:=λb M=>by
       rcases cg.mp M with rfl|vk
       .exact#[(g2 _ M).1,(s2.out _ _ g4 W).trans (g2 _ M).2]
       .obtain⟨o,e,ek⟩:=g6.mem b vk;show#[(g2 _ M).1,(s2.out _ _ e ek).trans (g2 _ M).2]
      let ğ:H2 a=U (.ins XI dx vs):=s2.hh _ _ g4;let g62:XW O X.K G2 H2 (vs.map (·.2)) (fs.map (·.2)) ps:=g6.stay s2.gg λb M=>by let⟨o,e,ek⟩:=g6.mem b M;rw[e];show s2.hh _ _ e
      let⟨p,E,c1,c2,c3,c4,c5,c6⟩:=XW.putK g5 g62 hl;rw[b1] at c1;cases c1;let X2:E.length=XJ.length:=by simpa using bM cC c4
      let⟨w1,w2⟩:=oM (r1.mono s2.gg) c4 c5;let ê:a≠p0:=λz=>nd.1 (by rw[z];show c2);show#[p0,_,W,iR.k c3 (by let:=eM;ext),?_];show k L G2 _ (s1.gg.trans s2.gg) (A2.ch hi h1 (.fo gs Zy hg g3 ğ g5 g62) (λb o e M=>?_) (.fo gs Zy hg g3 (by rw[aD ê];show ğ) (by rw[Gg];show g5) (c6 nd.2 w1 w2)) (λb M=>.inl M) (.refl _) (λb o e=>?_) (λ_ _ _ _ _=>rfl))
      .rw[aD (λz=>M (by rw[z];show qh _ c2))];show e
      .rw[aD (bH e (hg p0 (qh _ c2)).2)];show A2.gh b o e
     .cases hq
    .rename_i XJ hl;split at hq
     .rename_i t;let⟨ks,hks,hq⟩:=YB hq;split at hq
      .rename_i hz;cases hq;let⟨p0,_,b1,_⟩:=XW.putT g5 g6 hl;show#[_,h1,a,XI,dx,_,.ref p0,W,g4,q2,q3 fl hf,b1,Z8,Z9,G1,Y,_,A1,ĉ,λu G2 H2 s2 r2=>?_];let A2:=A1.step s2;let⟨bb,us0,rfl,hb0,rb⟩:=r2.tup_inv;let ev:=jY rb hks;subst ev;let hg:∀b∈a::ps,Z9 b=B/\G2 b=B:=λb M=>by
        rcases cg.mp M with rfl|vk
        .exact#[(g2 _ M).1,(s2.out _ _ g4 W).trans (g2 _ M).2]
        .obtain⟨o,e,ek⟩:=g6.mem b vk;show#[(g2 _ M).1,(s2.out _ _ e ek).trans (g2 _ M).2]
       let ğ:H2 a=U (.ins XI dx vs):=s2.hh _ _ g4;let g62:XW O X.K G2 H2 (vs.map (·.2)) (fs.map (·.2)) ps:=g6.stay s2.gg λb M=>by let⟨o,e,ek⟩:=g6.mem b M;rw[e];show s2.hh _ _ e
       let⟨p,E,c1,c2,c3,c4,c5,c6⟩:=XW.putT g5 g62 hl;rw[b1] at c1;cases c1;let X2:E.length=XJ.length:=by simpa using bM cC c4
       let⟨w1,w2⟩:=oM (r1.mono s2.gg) c4 c5;let ê:a≠p0:=λz=>nd.1 (by rw[z];show c2);show#[p0,_,W,iR.t c3 (s2.gh _ _ hb0) (by let:=eM;ext),?_];show k L G2 _ (s1.gg.trans s2.gg) (A2.ch hi h1 (.fo gs Zy hg g3 ğ g5 g62) (λb o e M=>?_) (.fo gs Zy hg g3 (by rw[aD ê];show ğ) (by rw[Gg];show g5) (c6 nd.2 w1 w2)) (λb M=>.inl M) (.refl _) (λb o e=>?_) (λ_ _ _ _ _=>rfl))
       .rw[aD (λz=>M (by rw[z];show qh _ c2))];show e
       .rw[aD (bH e (hg p0 (qh _ c2)).2)];show A2.gh b o e
      .cases hq
     .cases hq
    .cases hq
  .cases hq
 .cases hq⟩
end
abbrev Fo:=Z (aj×Yi)
structure Ų(O:Cn)(K:aS)(c:aj)(G H G' H':Hp)(fp:Z av)(a:av)(fs:Fo):Prop where
 hH:∀b o,H b=U o->b∉fp->H' b=U o
 gg:aY G G'
 gh:aY G' H'
 out:∀b o,H b=U o->b∉fp->ź o=ar->G' b=G b
 ob:∃XI dx vs ps,O.cls c=U XI/\(∀b∈a::ps,G' b=B)/\(a::ps).Nodup/\H' a=U (.ins XI dx vs)/\vs.map (·.1)=fs.map (·.1)/\XW O K G' H' (vs.map (·.2)) (fs.map (·.2)) ps/\∀b∈a::ps,b∈fp\/H b=B
inductive spU(O:Cn)(K:aS)(c:aj)(n:ag)(F:Fo->Z D->au (D×Fo))(vs:Z V)(H:Hp)(Q:VK)(_e3:XK):Prop where
 |mk:∀a XI dx E ps fs ws G ds d À,vs=.ref a::ws->O.cls c=U XI->aY G H->(∀b∈a::ps,G b=B)->(a::ps).Nodup->H a=U (.ins XI dx E)->E.map (·.1)=fs.map (·.1)->XW O K G H (E.map (·.2)) (fs.map (·.2)) ps->XO O K G ws ds->ds.length=n->F fs ds=U (d,À)->(∀v G' H',Ų O K c G H G' H' (a::ps) a À->X9 O K G' v d->Q v H')->spU O K c n F vs H Q _e3
def oN(n:ag)(c:aj)(g:FS):Fo->Z D->au (D×Fo):=λfs ds=>(g (U (.fo ai c fs)::(ds.map (λd=>U (Slot.sh d))++bQ n B))).bind λ(r:Fl×bG)=>match r.2[0]? with
 |some (U (Slot.fo ai c' À))=>if c'=c then match r.1 with
  |.rt d=>U (d,À)
  |.nx=>U (.non,À)
  |_=>B else B
 |_=>B
def Yz.re{O Z3:Cn}{K:aS}{G H:Hp}(hc:Z3.cls=O.cls){v:V}{f:Yi}{p:Z av}(r:Yz O K G H v f p):Yz Z3 K G H v f p:=by
 cases r with
 |d h=>show .d (h.re hc)
 |k a b c=>show .k a b (c.re hc)
 |t a b c=>show .t a b (c.re hc)
def XW.re{O Z3:Cn}{K:aS}{G H:Hp}(hc:Z3.cls=O.cls):∀{vs:Z V}{fs:Z Yi}{ps:Z av},XW O K G H vs fs ps->XW Z3 K G H vs fs ps
 |_,_,_,.nil=>.nil
 |_,_,_,.cons r t=>.cons (r.re hc) (t.re hc)
def XW.to1{fs:Z Yi}{ps:Z av}(x:av)(r:XW O K G H vs fs ps):XW (O.mk1 x) K G H vs fs ps:=XW.re (O:=O) (Z3:=O.mk1 x) W r
def XW.of1{fs:Z Yi}{ps:Z av}{x:av}(r:XW (O.mk1 x) K G H vs fs ps):XW O K G H vs fs ps:=XW.re (O:=O.mk1 x) (Z3:=O) W r
def C2{m:ag}:fj (ds.map (λd=>U (Slot.sh d))++bQ m B):=λi es e=>by
 by_cases hi:i<ds.length
 .rw[qA (by simpa using hi),ql] at e;let⟨d,_,e⟩:=YE e;cases e;show#[_,W]
 .rw[qM (by simpa using hi),vH] at e;split at e<;>cases e
def NI{E:Z (aj×V)}{ps:Z av}{fs:Fo}{m:ag}(gh:aY G H)(hc:O.cls c=U XI)(hg:∀b∈a::ps,G b=B)(nd:(a::ps).Nodup)(ha:H a=U (.ins XI dx E))(hk:E.map (·.1)=fs.map (·.1))(hf:XW O K G H (E.map (·.2)) (fs.map (·.2)) ps)(r:XO O K G ws ds)(hm:m=N.length-(ws.length+1)):
  At (O.mk1 a) K G (ik (a::ps) H) G H (U (.fo ai c fs)::(ds.map (λd=>U (Slot.sh d))++bQ m B)) (dE N (.ref a::ws)):=by
 let gl:aY G (ik (a::ps) H):=λb o e=>by rw[kO λz=>by rw[hg b z] at e;cases e];show gh b o e
 let af:=yA (N:=N.tail) (m:=m) gl r (by rw[Aj];ext);let es:dE N (.ref a::ws)=U (.ref a)::dE N.tail ws:=by
  unfold dE;rw[qo,qq,qi,Aj]
  congr 3
  ext
 let lh:aY (ik (a::ps) H) H:=λb o e=>by
  replace e:(if b∈a::ps then B else H b)=U o:=e
  split at e
  .cases e
  .exact e
 show#[#[lh,.refl _,gh,λ_ _ _ _=>rfl],by rw[es,qi,qi,af.env.len],λ|0=>a::ps|_+1=>[],λj s e=>?_,λj k s t hjk e1 e2=>?_]
 .rw[es];cases j with
  |zero=>cases e;show#[_,W,.fo (λ_=>rfl) hc (λb M=>#[qY M,hg b M]) nd ha hk (hf.to1 a)]
  |succ j=>
   let⟨d,rfl⟩:=C2 j s e;let⟨v,h1,h2⟩:=af.env.sh j d e;show#[v,h1,.sh (h2.to1 a)]
 .cases j with
  |zero=>
   cases k with
   |zero=>show bj W hjk
   |succ k=>intro b _ M;cases M
  |succ j=>intro b M;cases M
def Ĳ.okU{f:av}{k:ag}(F:Ĳ K x qual st f fd)(S:YC N (s0::ps) (aC st))
  (X8:∀(y:av)(X1:aw)(A:cJ)(outer:Z cB)(s:aH)(H:Hp)(us:XK),YK k .(l)->
   Zn (O.mk1 y) .(j).nox (ca st) g):YY P w K mg base ã (k+1) f fd (s0::ps) (spU O K c ps.length (oN (N.length-(ps.length+1)) c g)):=by
 show F.ok S (λvs H Q us h=>?_) (λX1 A outer s H vs Q us hr h=>?_)
 .obtain⟨a,XI,dx,E,qs,fs,ws,G,ds,d,À,rfl,_,_,_,_,_,_,_,r,hl,_⟩:=h;rw[qi,qi,r.length,hl]
 .obtain⟨a,XI,dx,E,qs,fs,ws,G,ds,d,À,rfl,hc,gh,hg,nd,ha,hk,hf,r,hl,hd,k⟩:=h;show#[_,(X8 a X1 A outer s H us hr).1,?_];let⟨⟨fl,Y'⟩,M,hq⟩:=YB hd;clear hd;show#[G,ik (a::qs) H,G,_,fl,Y',NI gh hc hg nd ha hk hf r (by rw[r.length,hl]),M,λZ5 G' H' sm A'=>?_];let post:∀À,Y'[0]?=U (U (.fo ai c À))->Ų O K c G H G' H' (a::qs) a À:=λÀ e0=>by
   let⟨v,fp,e1,e2⟩:=A'.get e0;show#[λb o e M=>A'.st.hh b o (by rw[kO M];show e),A'.st.gg,A'.st.gh,λb o e M=>A'.st.out b o (by rw[kO M];show e),?_];cases e2 with
   |fo gs g1 g2 g3 g4 g5 g6=>
    let ea:=gs W;cases ea;show#[_,_,_,_,g1,λb M=>(g2 b M).2,g3,g4,g5,g6.of1,λb M=>?_];let h0:(if b∈a::qs then B else H b)=B:=(g2 b M).1;split at h0
    .exact .inl (by assumption)
    .exact .inr h0
  split at hq
  .rename_i c' fs1 e0;split at hq
   .rename_i hz;subst hz;cases fl with
    |rt d1=>cases hq;exactλv rv=>k v G' H' (post _ e0) (X9.of1 rv)
    |nx=>cases hq;show k .non G' H' (post _ e0) .non
    |_=>cases hq
   .cases hq
  .cases hq
structure Þ(O:Cn)(P:dy)(w:cA)(K:aS)(mg:aj->au aw)(base:Heap)(c m:aj)(n k:ag)(F:Fo->Z D->au (D×Fo)):Prop where
 ex:∃XI f fd ps,O.cls c=U XI/\Ň K XI/\Ŵ K XI m f/\YY P w K mg base ã k f fd ps (spU O K c n F)/\fK K fd ps []
def Lp{F:Fo->Z D->au (D×Fo)}{Q:VK}{us:XK}(y:av)(h:spU (O.mk1 y) K c n F vs H Q us):spU O K c n F vs H Q us:=by let⟨a,XI,dx,E,ps,fs,ws,G,ds,d,À,h0,h1,h2,h3,h4,h5,h6,h7,h8,h9,h10,k⟩:=h;show#[a,XI,dx,E,ps,fs,ws,G,ds,d,À,h0,h1,h2,h3,h4,h5,h6,h7.of1,h8.of1,h9,h10,λv G' H' u r=>k v G' H' #[u.hH,u.gg,u.gh,u.out,?_] (r.to1 y)];let⟨XI,dx,vs,ps,b1,b2,b3,b4,b5,b6,b7⟩:=u.ob;show#[XI,dx,vs,ps,b1,b2,b3,b4,b5,b6.to1 y,b7]
def Þ.re{k:ag}{F:Fo->Z D->au (D×Fo)}(XI:Þ O P w K mg base c m n k F)(y:av):Þ (O.mk1 y) P w K mg base c m n k F:=by let⟨XI,f,fd,ps,h0,h1,h2,h3,h4⟩:=XI.ex;show#[XI,f,fd,ps,h0,h1,h2,h3.imp λvs H Q us q=>Lp y q,h4]
def XZ.calU{k:ag}(Γ:Yc O K mg c XI)(F:XZ K XI c m qual st)(S:YC N (s0::ps) (aC st))
  (M:∀(kV YV pm:aw)(an:au av)(X1 ct:aw)(E:Z aw),E.length=(s0::ps).length->eX (cX m qual (cY st) (ca st) (aC st) .none kV YV pm an X1 ct) #[E,[]]=bc ((s0::ps).zip E))
  (X8:∀(f y:av)(X1:aw)(A:cJ)(outer:Z cB)(s:aH)(H:Hp)(us:XK),YK k .(l)->
   Zn (O.mk1 y) .(j).nox (ca st) g):Þ O P w K mg base c m ps.length (k+1) (oN (N.length-(ps.length+1)) c g):=by
 let⟨f,fd,h1,h2,h3⟩:=F.ex;show#[XI,f,fd,s0::ps,Γ.cn,Γ.cl,#[h2,h3,h1.kp],h1.okU S (X8 f),h1.binds M]
variable{À:Fo}
section
variable{sb:aJ}{fs:Fo}
def At.upost(A:At O K Z8 Z9 G H Y L){vs:Z (aj×V)}{ps:Z av}(hi:Y[i]?=U (U (.fo sb c fs)))(hv:L[i]?=U (U (.ref a)))(gs:sb=ai->O.self=U a)(g1:O.cls c=U XI)(g2:∀b∈a::ps,Z9 b=B/\G b=B)(g3:(a::ps).Nodup)(g4:H a=U (.ins XI dx vs))(g5:vs.map (·.1)=fs.map (·.1))(g6:XW O K G H (vs.map (·.2)) (fs.map (·.2)) ps)
  (u:Ų O K c G H G' H' (a::ps) a À):At O K Z8 Z9 G' H' (Y.set i (U (.fo sb c À))) L:=by
 let⟨C',dx',vs',ps',b1,b2,b3,b4,b5,b6,b7⟩:=u.ob;show A.ch hi hv (.fo gs g1 g2 g3 g4 g5 g6) u.hH (.fo gs b1 (λb M=>#[?_,b2 b M]) b3 b4 b5 b6) b7 u.gg u.gh u.out;rcases b7 b M with z|z
 .exact(g2 b z).1
 .exact A.st.hh.free z
end
section
variable{y:aj}
noncomputable def kS(c m:aj)(i:ag)(F:Fo->Z D->au (D×Fo))(fr:FA):FS:=λY=>match Y[i]? with
 |some (U (.fo s c' fs))=>if c'=c/\fs.lookup m=B then (fr Y).bind λds=>(F fs ds).bind λz=>U (.nx,Y.set i (U (.fo s c z.2))) else B
 |_=>B
def uF{k:ag}(i:ag){F:Fo->Z D->au (D×Fo)}(XI:Þ O X.prog X.w X.K X.mg X.base c m n k F)(hr:YK j X.A)(hk:k<=j)(ha:DA O X (e::es) fr)(hn:∀Y ds,fr Y=U ds->ds.length=n)(hN:X.N[i]?=U x:=by rfl)(hv:Ġ X.env.scope x:=by ac_nf)(hd:(x==("__debug__":aj))=ar:=by decide)(Yp:(x==("__classdict__":aj))=ar:=by decide)
  (æ:aM (e::es) X.env=(ar,eval e X.env)::aM es X.env:=by rfl)(YR:(bW pos (aM es X.env)).any (·.1)=ar:=by rfl)
  (ht:eval (.Call (.Attribute (.Name x vp) m YN) (e::es) [] pos) X.env=(do
   let ov ←eval (.Name x vp) X.env
   oQ YN.atName
   let (f,first) ←ki [ov] (oU ov m pl)
   vG pos f first (bW pos (aM (e::es) X.env)) (jH pos (jI [] X.env))):=by rfl)
  (hs:dA (.Call (.Attribute (.Name x vp) m YN) (e::es) [] pos) B YQ.line X.env=bc ar:=by rfl):
  DS O X (.Expr (.Call (.Attribute (.Name x vp) m YN) (e::es) [] pos) YQ) (kS c m i F fr):=⟨by
 let⟨Ca,f,fd,ps,h0,h1,h2,h3,h4⟩:=XI.ex;show(wM (BQ (gH hN hv hd Yp) h1 h2 h3 (hr.mono hk) h4 .nil mj ha.1 æ YR ht) hs).imp λus L H=>?_;rintro⟨Z8,Z9,G,Y,fl,Y',A,h,k⟩;unfold kS at h;split at h
 .rename_i sb c' fs hi;split at h
  .rename_i hz;let⟨rfl,á⟩:=hz;let⟨ds,Ċ,h⟩:=YB h;let⟨⟨d,À⟩,hF,h⟩:=YB h;cases h;let⟨w,fp,q1,q2⟩:=A.get hi;cases q2 with
   |fo gs g1 g2 g3 g4 g5 g6=>
    rename_i a C' dx vs qs;let Zy:=g1;rw[h0] at g1;cases g1;show#[_,q1,a,dx,vs,W,g4,XW.none g5 á,Z8,Z9,G,Y,ds,A,Ċ,λws G2 H2 s2 r2=>?_];let A2:=A.step s2;rw[jG];let hg:∀b∈a::qs,Z9 b=B/\G2 b=B:=λb M=>by
     rcases cg.mp M with rfl|vk
     .exact#[(g2 _ M).1,(s2.out _ _ g4 W).trans (g2 _ M).2]
     .obtain⟨o,e,ek⟩:=g6.mem b vk;show#[(g2 _ M).1,(s2.out _ _ e ek).trans (g2 _ M).2]
    let ğ:H2 a=U (.ins Ca dx vs):=s2.hh _ _ g4;let g62:XW O X.K G2 H2 (vs.map (·.2)) (fs.map (·.2)) qs:=g6.stay s2.gg λb M=>by let⟨o,e,ek⟩:=g6.mem b M;rw[e];show s2.hh _ _ e
    show#[a,Ca,dx,vs,qs,fs,ws,G2,ds,d,À,W,Zy,s2.gh,λb M=>(hg b M).2,g3,ğ,g5,g62,r2,hn Y ds Ċ,hF,λv G' H' u r=>k L G' H' (s2.gg.trans u.gg) (A2.upost hi q1 gs Zy hg g3 ğ g5 g62 u)]
  .cases h
 .cases h⟩
end
structure ŵ(O:Cn)(K:aS)(c:aj)(G H G' H':Hp)(x:av)(fs:Fo):Prop where
 hh:aY H H'
 gg:aY G G'
 gh:aY G' H'
 out:∀b o,H b=U o->ź o=ar->G' b=G b
 ob:∃XI dx vs ps,O.cls c=U XI/\(∀b∈x::ps,H b=B/\G' b=B)/\(x::ps).Nodup/\H' x=U (.ins XI dx vs)/\vs.map (·.1)=fs.map (·.1)/\XW O K G' H' (vs.map (·.2)) (fs.map (·.2)) ps
inductive Ŋ(O:Cn)(K:aS)(XI:av)(c:aj)(n:ag)(F:Z D->au Fo)(vs:Z V)(H:Hp)(Q:VK)(_e3:XK):Prop where
 |mk:∀x dx H1 G ds fs E,vs=.ref x::E->H=X0 (X0 H1 dx (.own x)) x (.ins XI dx [])->H1 x=B->H1 dx=B->dx≠x->aY G H1->XO O K G E ds->ds.length=n->F ds=U fs->(∀G' H',ŵ O K c G H1 G' H' x fs->Q .non H')->Ŋ O K XI c n F vs H Q _e3
def gQ(n:ag)(c:aj)(g:FS):Z D->au Fo:=λds=>(g (U (.fo ai c [])::(ds.map (λd=>U (Slot.sh d))++bQ n B))).bind λ(r:Fl×bG)=>match r.1 with
 |.nx=>match r.2[0]? with
  |some (U (Slot.fo ai c' fs))=>if c'=c then U fs else B
  |_=>B
 |_=>B
def L7{x:av}{E:Z V}{m:ag}(gh:aY G H1)(hc:O.cls c=U XI)(hx:H1 x=B)(Ο:H1 dx=B)(r:XO O K G E ds)(hm:m=N.length-(E.length+1)):
  At (O.mk1 x) K G H1 G (X0 (X0 H1 dx (.own x)) x (.ins XI dx [])) (U (.fo ai c [])::(ds.map (λd=>U (Slot.sh d))++bQ m B)) (dE N (.ref x::E)):=by
 let af:=yA (N:=N.tail) (m:=m) gh r (by rw[Aj];ext);let es:dE N (.ref x::E)=U (.ref x)::dE N.tail E:=by
  unfold dE;rw[qo,qq,qi,Aj]
  congr 3
  ext
 let lh:aY H1 (X0 (X0 H1 dx (.own x)) x (.ins XI dx [])):=λb o e=>by rw[aD (bH e hx),aD (bH e Ο)];show e
 show#[#[lh,.refl _,gh.trans lh,λ_ _ _ _=>rfl],by rw[es,qi,qi,af.env.len],λ|0=>[x]|_+1=>[],λj s e=>?_,λj k s t hjk e1 e2=>?_]
 .rw[es];cases j with
  |zero=>cases e;show#[_,W,.fo (λ_=>rfl) hc (λb M=>by rw[bL.mp M];show#[hx,gh.free hx]) (dD.mpr #[(λz=>nomatch z),lN]) bf W .nil]
  |succ j=>
   let⟨d,rfl⟩:=C2 j s e;let⟨v,h1,h2⟩:=af.env.sh j d e;show#[v,h1,.sh (h2.to1 x)]
 .cases j with
  |zero=>
   cases k with
   |zero=>show bj W hjk
   |succ k=>intro b _ M;cases M
  |succ j=>intro b M;cases M
def t8{m:ag}{Q:VK}{us:XK}(hm:N.length-(n+1)=m)(hc:O.cls c=U XI)(h:Ŋ O K XI c n (gQ m c g) vs H Q us):∃y,Ń (O.mk1 y) K g {nx:=λ_ H'=>Q .non H',rt:=Q} (dE N vs) H:=by
 let⟨y,dx,H1,G,ds,fs,E,rfl,rfl,hy,hdy,_,gh,r,hl,hd,k⟩:=h;show#[y,?_];let⟨⟨fl,Y'⟩,M,hq⟩:=YB hd;clear hd;show#[G,H1,G,_,fl,Y',L7 gh hc hy hdy r (by rw[r.length,hl,hm]),M,λZ5 G' H' sm A'=>?_];cases fl with
 |nx=>
  replace hq:(match Y'[0]? with
   |some (U (Slot.fo ai c' fs))=>if c'=c then U fs else B
   |_=>B)=U fs:=hq
  split at hq
  .rename_i c' fs1 e0;split at hq
   .rename_i hz;subst hz;cases hq;let⟨v,fp,e1,e2⟩:=A'.get e0;cases e2 with
    |fo gs g1 g2 g3 g4 g5 g6=>
     let ea:=gs W;cases ea;show k G' H' #[A'.st.hh,A'.st.gg,A'.st.gh,A'.st.out,_,_,_,_,g1,g2,g3,g4,g5,g6.of1]
   .cases hq
  .cases hq
 |_=>cases hq
def sQ{F:Z D->au Fo}{Q:VK}{us:XK}(h:Ŋ O K XI c n F vs H Q us):vs.length=n+1:=by let⟨y,dx,H1,G,ds,fs,E,rfl,_,_,_,_,_,r,hl,_⟩:=h;rw[qi,r.length,hl]
def Ĳ.okIU{f:av}{k:ag}(F:Ĳ K x qual st f fd)(S:YC N (s0::ps) (aC st))(hc:O.cls c=U XI)
  (X8:∀(y:av)(X1:aw)(A:cJ)(outer:Z cB)(s:aH)(H:Hp)(us:XK),YK k .(l)->
   Zn (O.mk1 y) .(j).nox (ca st) g):YY P w K mg base ã (k+1) f fd (s0::ps) (Ŋ O K XI c ps.length (gQ (N.length-(ps.length+1)) c g)):=
 F.ok S (λvs H Q us h=>sQ h) λX1 A outer s H vs Q us hr h=>by let⟨y,q⟩:=t8 rfl hc h;show#[_,(X8 y X1 A outer s H us hr).1,q]
structure Yu(O:Cn)(P:dy)(w:cA)(K:aS)(mg:aj->au aw)(base:Heap)(c:aj)(n k:ag)(dd:Z D)(F:Z D->au Fo):Prop where
 ex:∃XI f fd ps YT ds,O.cls c=U XI/\Mk K XI f/\mg c=U (.ref XI)/\YY P w K mg base ã k f fd ps (Ŋ O K XI c n F)/\fK K fd ps ds/\bi YT ds/\∀G,XO O K G YT dd
def Yu.re{k:ag}{dd:Z D}{F:Z D->au Fo}(XI:Yu O P w K mg base c n k dd F)(y:av):Yu (O.mk1 y) P w K mg base c n k dd F:=by let⟨XI,f,fd,ps,YT,ds,h0,h1,h2,h3,h4,h5,h6⟩:=XI.ex;show#[XI,f,fd,ps,YT,ds,h0,h1,h2,h3.imp λvs H Q us q=>?_,h4,h5,λG=>(h6 G).to1 y];let⟨x,dx,H1,G,ds,fs,E,a1,a2,a3,a4,a5,a6,a7,a8,a9,k⟩:=q;show#[x,dx,H1,G,ds,fs,E,a1,a2,a3,a4,a5,a6,a7.of1,a8,a9,λG' H' u=>k G' H' #[u.hh,u.gg,u.gh,u.out,?_]];let⟨XI,dx,vs,ps,b1,b2,b3,b4,b5,b6⟩:=u.ob;show#[XI,dx,vs,ps,b1,b2,b3,b4,b5,b6.to1 y]
def XZ.calIU{k:ag}(Γ:Yc O K mg c XI)(F:XZ K XI c "__init__" qual st)(S:YC N (s0::ps) (aC st))
  (M:∀(kV YV pm:aw)(an:au av)(X1 ct:aw)(E:Z aw),E.length=(s0::ps).length->eX (cX "__init__" qual (cY st) (ca st) (aC st) .none kV YV pm an X1 ct) #[E,[]]=bc ((s0::ps).zip E))
  (X8:∀(f y:av)(X1:aw)(A:cJ)(outer:Z cB)(s:aH)(H:Hp)(us:XK),YK k .(l)->
   Zn (O.mk1 y) .(j).nox (ca st) g):Yu O P w K mg base c ps.length (k+1) [] (gQ (N.length-(ps.length+1)) c g):=by
 let⟨f,fd,h1,h2,h3⟩:=F.ex;show#[XI,f,fd,s0::ps,[],[],Γ.cn,#[Γ.makes,h2,h3,Γ.kp],Γ.mgC,h1.okIU S Γ.cn (X8 f),h1.binds M,.nil,λ_=>.nil]
section
variable{y:aj}{dd:Z D}
def Qn{x:av}{fs:Fo}(A:At O K Z8 Z9 G H Y L)(u:ŵ O K c G H G' H' x fs):At O K Z8 Z9 G' H' (Y.set j (U (.fo ar c fs))) (L.set j (U (.ref x))):=by let⟨XI,dx,vs,ps,b1,b2,b3,b4,b5,b6⟩:=u.ob;show A.put (.inl W) (λb o e _=>u.hh b o e) (.fo (λz=>by cases z) b1 (λb M=>#[A.st.hh.free (b2 b M).1,(b2 b M).2]) b3 b4 b5 b6) (λb M=>.inr (b2 b M).1) u.gg u.gh (λb o e _=>u.out b o e) (λb M=>by cases M)
def Q8{x:av}{fs:Fo}(gh:aY G H)(u:ŵ O K c G H G' H' x fs):∃G2,Step G H G2 H'/\X9 O K G2 (.ref x) (ō c fs):=by
 let⟨XI,dx,vs,ps,b1,b2,b3,b4,b5,b6⟩:=u.ob;let hn:∀b∈x::ps,G' b=B:=λb M=>(b2 b M).2;let sm:=mG (H:=H') hn;show#[iP (x::ps) H' G',#[u.hh,u.gg.trans sm,λb o e=>?_,λb o e ek=>?_],?_]
 .replace e:(if b∈x::ps then H' b else G' b)=U o:=e
  split at e
  .exact e
  .exact u.gh b o e
 .show(if b∈x::ps then H' b else G' b)=_;rw[qZ λz=>by rw[(b2 b z).1] at e;cases e];show u.out b o e ek
 .refine .ins (show(if x∈x::ps then H' x else G' x)=_ by rw[qY qg];show b4) b1 (by rw[b5,qp];rfl) ?_;let:=b6.frz hn λb M=>qh _ M;rw[qp] at this ⊢;show this
def um(c:aj)(j:ag)(F:Z D->au Fo)(dd:Z D)(fr:FA):FS:=λY=>(fr Y).bind λds=>(F (ds++dd)).bind λfs=>U (.nx,Y.set j (U (.fo ar c fs)))
def MF{m k l:ag}(j:ag){F:Z D->au Fo}(hNd:X.N.Nodup)(XI:Yu O X.prog X.w X.K X.mg X.base c n k dd F)(hr:YK l X.A)(hk:k+1<=l)(hg:Gl X c)(ha:DA O X (e::es) fr)(hn:∀Y ds,fr Y=U ds->ds.length=m)(hm:m+dd.length=n)
  (Ô:(c==("__debug__":aj))=ar:=by decide)(he:aM (e::es) X.env=(ar,eval e X.env)::aM es X.env:=by rfl)(YR:(bW pos (aM es X.env)).any (·.1)=ar:=by rfl)
  (hj:X.N[j]?=U y:=by rfl)(hx:Ŷ X.env.scope y:=by ac_nf)(hs:dA (.Call (.Name c p) (e::es) [] pos) (U (.Name y py)) YQ.line X.env=bc ar:=by rfl)(hf:X.fn y=ai\/X.env.scope.names.lookup y=U .local:=by ac_nf):
  DS O X (.Assign [.Name y py] (.Call (.Name c p) (e::es) [] pos) YQ) (um c j F dd fr):=⟨by
 let⟨Ca,f,fd,ps,YT,dsV,h0,h1,h2,h3,h4,h5,h6⟩:=XI.ex;show(nS hNd hj hx (xn h1 h3 (hr.mono hk) hg h2 h4 h5 mj ha.1 Ô he YR) hs hf).imp λus L H=>?_;rintro⟨Z8,Z9,G,Y,fl,Y',A,h,k⟩;let⟨ds,Ċ,h⟩:=YB h;let⟨fs,hF,h⟩:=YB h;cases h;show#[Z8,Z9,G,Y,ds,A,Ċ,λws G1 H1 s1 r1 x dx hx Ο ne=>?_];let A1:=A.step s1;show#[x,dx,H1,G1,ds++dd,fs,ws++YT,W,W,hx,Ο,ne,s1.gh,r1.append (h6 G1),by rw[qj,hn Y ds Ċ,hm],hF,λG' H' u=>#[W,k _ G' H' (s1.gg.trans u.gg) (Qn A1 u)]]⟩
def SI{m k l:ag}{F:Z D->au Fo}(XI:Yu O X.prog X.w X.K X.mg X.base c n k dd F)(hr:YK l X.A)(hk:k+1<=l)(hg:Gl X c)(ha:DA O X (e::es) fr)(hn:∀Y ds,fr Y=U ds->ds.length=m)(hm:m+dd.length=n)
  (Ô:(c==("__debug__":aj))=ar:=by decide)(he:aM (e::es) X.env=(ar,eval e X.env)::aM es X.env:=by rfl)(YR:(bW pos (aM es X.env)).any (·.1)=ar:=by rfl):
  DE O X (.Call (.Name c p) (e::es) [] pos) (cF (λds=>(F (ds++dd)).map (ō c)) fr):=⟨by
 let⟨Ca,f,fd,ps,YT,dsV,h0,h1,h2,h3,h4,h5,h6⟩:=XI.ex;show(xn h1 h3 (hr.mono hk) hg h2 h4 h5 mj ha.1 Ô he YR).imp λL H Q=>?_;rintro⟨Z8,Z9,G,Y,d,A,h,k⟩;let⟨ds,Ċ,h⟩:=YB h;let⟨fs,hF,rfl⟩:=YE h;show#[Z8,Z9,G,Y,ds,A,Ċ,λws G1 H1 s1 r1 x dx hx Ο ne=>?_];show#[x,dx,H1,G1,ds++dd,fs,ws++YT,W,W,hx,Ο,ne,s1.gh,r1.append (h6 G1),by rw[qj,hn Y ds Ċ,hm],hF,λG' H' u=>#[W,?_]];let⟨G2,s2,r2⟩:=Q8 s1.gh u;show k _ G2 H' (s1.trans s2) r2⟩
end
structure ı(K:aS)(x qual:aj)(st:Stmt)(f:av)(fd:ku)(items:Z aw):Prop where
 ex:∃(oc:aw)(od:au av)(T:av)(kV YV pm:aw)(an:au av)(X1 ct:aw)(Ē:bI (au aw))(to:Obj)(n:ag),
  fd=cX x qual (cY st) (ca st) (aC st) (.ref T) kV YV pm an X1 ct/\K.lookup f=U #[oc,od,.func fd,Ē]/\nj K X1 qual=ai/\K.lookup T=U to/\to.data=.seq items.toArray n
 kp:gr K (.ref f)=ai
variable{items:Z aw}
def ı.ok{f:av}{k:ag}(F:ı K x qual st f fd items)(S:YC N ps (aC st))(len:∀vs H Q us,sp vs H Q us->vs.length=ps.length)
  (X8:∀(X1:aw)(A:cJ)(outer:Z cB)(s:aH)(H:Hp)(vs:Z V)(Q:VK)(us:XK),YK k .(l)->sp vs H Q us->
   ∃t,Ě .(j).nox (ca st) t/\t {nx:=λ_ H'=>Q .non H',rt:=Q} (dE N vs) H):YY P w K mg base ã (k+1) f fd ps sp:=by
 let⟨oc,od,T,kV,YV,pm,an,X1,ct,Ē,to,n,rfl,lk,Yp,_⟩:=F.ex;show Br lk Yp S len λA outer s H vs Q us hr ž=>?_;let⟨t,h,q⟩:=X8 X1 A outer s H vs Q us hr ž;show#[t,h.nox,q]
def ı.binds{f:av}(F:ı K x qual st f fd items)
  (h:∀(T:av)(kV YV pm:aw)(an:au av)(X1 ct:aw)(E:Z aw),(E++items).length=ps.length->∃k,eX (cX x qual (cY st) (ca st) (aC st) (.ref T) kV YV pm an X1 ct) #[E,[]]=nF (.ref T) >>= k/\k (U items.toArray)=bc (ps.zip (E++items))):fK K fd ps items:=by
 let⟨oc,od,T,kV,YV,pm,an,X1,ct,Ē,to,n,rfl,lk,Yp,lT,dT⟩:=F.ex;intro s E Ĕ hl;let⟨k,h1,h2⟩:=h T kV YV pm an X1 ct E hl;show .of_defaults W (Ĕ T to lT) dT h1 h2
structure Yt(K:aS)(XI:av)(c m qual:aj)(st:Stmt)(YT:Z V):Prop where
 ex:∃f fd items,ı K m qual st f fd items/\bi YT items/\cj K (.ref XI) m=U (U (.ref f))/\oT K (.ref f)=ai
def Yt.mk'{f T:av}{kV:aw}{to:Obj}(a:cj K (.ref XI) m=U (U (.ref f)))(i:oT K (.ref f)=ai)
  (l:K.lookup f=U #[oc,od,.func (cX m qual (cY st) (ca st) (aC st) (.ref T) kV YV pm an X1 ct),Ē])(cd:nj K X1 qual=ai)(k:gr K (.ref f)=ai)(lT:K.lookup T=U to)(dT:to.data=.seq items.toArray n)(v:bi YT items):Yt K XI c m qual st YT:=#[f,_,items,#[#[oc,od,T,kV,YV,pm,an,X1,ct,Ē,to,n,W,l,cd,lT,dT],k],v,a,i]
def Yt.calIU{k:ag}{dd:Z D}(Γ:Yc O K mg c XI)(F:Yt K XI c "__init__" qual st YT)(Ō:∀G,XO O K G YT dd)(S:YC N (s0::ps) (aC st))
  (M:∀(T:av)(kV YV pm:aw)(an:au av)(X1 ct:aw)(E items:Z aw),E.length+YT.length=(s0::ps).length->items.length=YT.length->∃k,eX (cX "__init__" qual (cY st) (ca st) (aC st) (.ref T) kV YV pm an X1 ct) #[E,[]]=nF (.ref T) >>= k/\k (U items.toArray)=bc ((s0::ps).zip (E++items)))
  (X8:∀(f y:av)(X1:aw)(A:cJ)(outer:Z cB)(s:aH)(H:Hp)(us:XK),YK k .(l)->
   Zn (O.mk1 y) .(j).nox (ca st) g):Yu O P w K mg base c ps.length (k+1) dd (gQ (N.length-(ps.length+1)) c g):=by
 let⟨f,fd,items,h1,hv,h2,h3⟩:=F.ex;let hl:items.length=YT.length:=hv.length.symm;show#[XI,f,fd,s0::ps,YT,items,Γ.cn,#[Γ.makes,h2,h3,Γ.kp],Γ.mgC,h1.ok S (λvs H Q us h=>sQ h) λX1 A outer s H vs Q us hr h=>?_,h1.binds λT kV YV pm an X1 ct E hu=>M T kV YV pm an X1 ct E items (by rw[<-hl,<-qj];show hu) hl,hv,Ō];let⟨y,q⟩:=t8 rfl Γ.cn h;show#[_,(X8 f y X1 A outer s H us hr).1,q]
section
open PyProof
section
variable{R:lJ->aH->Prop}{P:ag->aw->Prop}{St:ag->Heap->Prop}
def Pt(Ya:kz prog w A.in1 I fp wr n P St)(bt:ag->ag->aJ)(kw:Z (aj×aw))(hc:ph prog w A.in1 .Lt P bt)(S:av)(Zx:S∉fp):∀(m j:ag)(s:aH)(u:aw)(c:ag),n=j+1+m->
  St (j+1) s.heap->P (cr bt j) u->s.heap.get? S=U (om [u,u] c)->
  (∀v h' tk,P (cr bt (j+m)) v->(∀b o,b∉wr->b≠S->s.heap.get? b=U o->h'.get? b=U o)->R (.ok (.ret v)) {s with heap:=h',toks:=tk})->fz (aN prog w) A (.builtin "min.loop" #[[.ref I,.none,.ref S],kw]) R s:=by
 let sw:S∉wr:=λz=>Zx (Ya.sub _ z);let nm:(i9 "min"++i9 ".loop":cD)="min.loop":=by decide
 intro m
 induction m with
 |zero=>
  intro j s u c e st pu so r;show ia Ak (by
   rw[iB lX _];show qx (jK so W ?_);show aL _ A.in1 (kH (hU (.ref I)) _ >>= _) _ _ s;show qx (jL (Ya.done s _ _ (by rw[e];show st) λh' tk kp=>?_));show aL _ A.in1 (Ai S (λ_=>#[]) >>= _) _ _ _;let ď:=kp S _ sw so;show qx ?_;show sI ď W (qx (nD (qB ?_)));show r u _ tk pu λb o M hS z=>(qy _ _ (cL hS)).trans (kp b o M z))
 |succ m ih=>
  intro j s u c e st pu so r;let lt:j+1<n:=by ext
  show ia Ak (by
   rw[iB lX _];show qx (jK so W ?_);show aL _ A.in1 (kH (hU (.ref I)) _ >>= _) _ _ s;show qx (jL (Ya.item (j+1) s _ _ lt st λv h' tk pv Y7 kp=>?_));let ď:=kp S _ sw so;show aL _ A.in1 (kH (ki [v,v] (richCompare .Lt v u >>= _)) _ >>= _) _ _ _;show qx (jL (qV (qx (hc (j+1) (cr bt j) v u _ _ _ pv pu ?_))));show qx (qV (jB ?_));show qx (nD (qB ?_));let ae:j+1+m=j+(m+1):=by ext
   by_cases M:bt (j+1) (cr bt j)=ai
   .let ab:cr bt (j+1)=j+1:=by simp only[cr,M,cx]
    simp only[M,cx];show qx ?_;show sI ď W (qx (nD ?_));rw[nm];show qB #[ib lX _,ih (j+1) _ v _ .(b) (Ya.frame _ _ _ Y7 λb hf o z=>?_) (by rw[ab];show pv) (nC _ ď W) λv' h2 t2 p2 k2=>?_]
    .exact(qy _ _ (λq:S=b=>Zx (by rw[q];show hf))).trans z
    .exact r v' h2 t2 (by rw[<-ae];show p2) λb o hw hS z=>k2 b o hw hS ((qy _ _ (cL hS)).trans (kp b o hw z))
   .let vk:bt (j+1) (cr bt j)=ar:=by simpa using M
    let ab:cr bt (j+1)=cr bt j:=by simp only[cr,vk,qr,cE]
    simp only[vk,qr,cE];show qx (nD ?_);rw[nm];show qB #[ib lX _,ih (j+1) _ u c .(b) Y7 (by rw[ab];show pu) ď λv' h2 t2 p2 k2=>?_];show r v' h2 t2 (by rw[<-ae];show p2) λb o hw hS z=>k2 b o hw hS (kp b o hw z))
def LW(Ya:kz prog w A.in1 I fp wr n P St)(bt:ag->ag->aJ)(kw:Z (aj×aw))(hc:ph prog w A.in1 .Lt P bt)(S:av)(Zx:S∉fp)(hn:0<n){c:ag}(st:St 0 s.heap)(so:s.heap.get? S=U (om [] c))
  (r:∀v h' tk,P (cr bt (n-1)) v->(∀b o,b∉wr->b≠S->s.heap.get? b=U o->h'.get? b=U o)->R (.ok (.ret v)) {s with heap:=h',toks:=tk}):fz (aN prog w) A (.builtin "min.loop" #[[.ref I,.none,.ref S],kw]) R s:=by
 let sw:S∉wr:=λz=>Zx (Ya.sub _ z);let nm:(i9 "min"++i9 ".loop":cD)="min.loop":=by decide
 show ia Ak (by
  rw[iB lX _];show qx (jK so W ?_);show aL _ A.in1 (kH (hU (.ref I)) _ >>= _) _ _ s;show qx (jL (Ya.item 0 s _ _ hn st λv h' tk pv Y7 kp=>?_));let ď:=kp S _ sw so;show aL _ A.in1 (Ai S (λ_=>[v,v].toArray) >>= _) _ _ _;show qx ?_;show sI ď W ?_;rw[nm];show qB #[ib lX _,Pt Ya bt kw hc S Zx (n-1) 0 _ v _ .(b) (Ya.frame _ _ _ Y7 λb hf o z=>?_) pv (nC _ ď W) λv' h2 t2 p2 k2=>?_]
  .exact(qy _ _ (λq:S=b=>Zx (by rw[q];show hf))).trans z
  .exact r v' h2 t2 (by rw[lW] at p2;show p2) λb o hw hS z=>k2 b o hw hS ((qy _ _ (cL hS)).trans (kp b o hw z)))
def Jb(Ya:kz prog w A.in1 I fp wr n P St)(x:aj)(d:aw)(kw:Z (aj×aw))(S:av)(Zx:S∉fp)(hn:n=0){c:ag}(st:St 0 s.heap)(so:s.heap.get? S=U (om [] c))
  (r:∀h' tk,(∀b o,b∉wr->b≠S->s.heap.get? b=U o->h'.get? b=U o)->R (.ok (.ret d)) {s with heap:=h',toks:=tk}):fz (aN prog w) A (.builtin "min.loop" #[[.ref I,.none,.ref S],(x,d)::kw]) R s:=by
 subst hn;show ia Ak (by rw[iB lX _];show qx (jK so W ?_);show aL _ A.in1 (kH (hU (.ref I)) _ >>= _) _ _ s;show qx (jL (Ya.done s _ _ st λh' tk kp=>?_));show qx (Af ?_);show qB (r h' tk λb o M _ z=>kp b o M z))
end
def UO(a v:aw):kI "min" #[[a],[(pf "default",v)]]:=by unfold kI;kernel_rfl
def K7{x d:aw} 
  (h:aL (aN prog w) A.in1 (kj x) (λit t=>∃I fp wr n P St bt,it=.ref I/\kz prog w A.in1 I fp wr n P St/\St 0 t.heap/\(∀b∈fp,b<t.heap.objs.size)/\ph prog w A.in1 .Lt P bt /\
   (n=0->∀h' tk,(∀b o,b∉wr->t.heap.get? b=U o->h'.get? b=U o)->Q d {t with heap:=h',toks:=tk}) /\
   (0<n->∀v h' tk,P (cr bt (n-1)) v->(∀b o,b∉wr->t.heap.get? b=U o->h'.get? b=U o)->Q v {t with heap:=h',toks:=tk})) us s):
  aL (aN prog w) A (call (.builtin "min") [x] [(pf "default",d)]) Q us s:=by
 let nm:(i9 "min"++i9 ".loop":cD)="min.loop":=by decide
 show kmb_tree F.kind_min F.plain_min F.entry_min (UO _ _) ?_;show aL _ A.in1 (V8 "min" ["key","default"] 0 #[[],[(pf "default",d)]] >>= _) _ _ s;show qx (nB (W) ?_);show qx (qB ?_);show qx (YI h λit t q=>?_);let⟨I,fp,wr,n,P,St,bt,rfl,Ya,st,hf,hc,q0,q1⟩:=q;let nf:t.heap.objs.size∉fp:=λz=>fN _ (hf _ z);show qx (iA ?_);rw[nm];by_cases hn:n=0
 .exact qB #[ib lX _,Jb Ya _ d [] t.heap.objs.size nf hn (Ya.frame _ _ _ st λb _ o z=>qu _ z) (qH _ W) λh' tk kp=>q0 hn h' tk λb o M z=>kp b o M (qD (qv z)) (qu _ z)]
 .exact qB #[ib lX _,LW Ya bt _ hc t.heap.objs.size nf .(b) (Ya.frame _ _ _ st λb _ o z=>qu _ z) (qH _ W) λv h' tk pv kp=>q1 .(b) v h' tk pv λb o M z=>kp b o M (qD (qv z)) (qu _ z)]
noncomputable def kY(ns:Z ah)(i j:ag):aJ:=decide (ns.getD i 0<ns.getD j 0)
def jO(ns:Z ah):D:=if ns=[] then .non else .int (ns.getD (cr (kY ns) (ns.length-1)) 0)
def og(ns:Z ah):V:=if ns=[] then .non else .int (ns.getD (cr (kY ns) (ns.length-1)) 0)
def rD:D->au D
 |.lst l=>(fX l).map jO
 |_=>B
def Kv(t:TE):TE:=λL H Q=>t L H λv H1=>∃(a:av)(ns:Z ah),[v]=[.ref a]/\H1 a=U (.lst (ns.map V.int))/\Q (og ns) H1
def Tp{t:TE}{kp:di}(hc:X.calm=ai)(hg:Gl X "min")(hm:X.mg "min"=B)(h:PE X e t)(he:aM [e] X.env=(ar,eval e X.env)::aM [] X.env:=by rfl)(M:bW pos (aM [e] X.env)=(ar,eval e X.env)::bW pos (aM [] X.env):=by rfl)
  (YR:(bW pos (aM [e] X.env)).any (·.1)=ar:=by rfl):
  PE X (.Call (.Name "min" p) [e] [#[U "default",.Constant .none j cp,kp]] pos) (Kv t):=by
 intro Z' s L H Q I q;show rW (jM I hg hm (by rfl) ?_);show callWith_kw (YI (gP h gW he pos Z' s L H (λvs H1=>∃(a:av)(ns:Z ah),vs=[.ref a]/\H1 a=U (.lst (ns.map V.int))/\Q (og ns) H1) I q) λE s1 #[vs,H1,I1,r1,q1]=>?_) M YR;let⟨a,ns,rfl,ha,q2⟩:=q1;let⟨u,rfl,ru⟩:=dY r1;cases ru;show kws_cons (Gq (kws_nil ?_));let⟨XY,rv,pl,_⟩:=I1.list (.inl (.inl ha));let⟨vl,vi⟩:=Fk rv;show K7 (nz pl.isList ?_);let ne:a≠s1.heap.objs.size:=by let⟨o,_,h1,_⟩:=pl;show qD (qv h1)
 let hP:∀(i:ag)v,XY.toArray[i]?=U v->∃t,v=.int (ns.getD i 0) t:=λi v hv=>vi i v (by simpa using hv);let la:a<s1.heap.objs.size:=by let⟨o,_,h1,_⟩:=pl;show qv h1
 let sz:XY.toArray.size=ns.length:=by simp[vl]
 show#[s1.heap.objs.size,_,_,_,_,_,kY ns,W,o7 (show X.A.in1.handled=B from I1.ok.hd hc) s1.heap.objs.size a ne XY.toArray,#[#[_,qH _ W,W,W],pl.isList.at λo q=>qu _ q],λb M=>?_,CmpOf.ints_lt (λi=>ns.getD i 0) hP,λhn h' tk hk=>?_,λhn v h' tk pv hk=>?_]
 .rw[jF];simp only[qN,qL,or_false] at M;rcases M with z|z
  .rw[z];show ng _
  .rw[z];show lQ la
 .let e0:ns=[]:=vQ.mp .(b);show#[.non,H1,I1.kept λb o z=>hk b o ?_ (qu _ z),W,?_]
  .intro z';let:b=s1.heap.objs.size:=by simpa using z'
   show bj (qv z) (by rw[this];show fN _)
  .unfold og at q2;rw[qY e0] at q2;show q2
 .let e0:ns≠[]:=λz=>by rw[sz,z] at hn;show bj hn .(c)
  let⟨t,rfl⟩:=hP _ _ pv;show#[og ns,H1,I1.kept λb o z=>hk b o ?_ (qu _ z),?_,q2]
  .intro z';let:b=s1.heap.objs.size:=by simpa using z'
   show bj (qv z) (by rw[this];show fN _)
  .unfold og;rw[qZ e0,sz];show#[t,W]
def Eo{kp:di}(hc:X.calm=ai)(hg:Gl X "min")(hm:X.mg "min"=B)(h:DE O X e f)(he:aM [e] X.env=(ar,eval e X.env)::aM [] X.env:=by rfl)(M:bW pos (aM [e] X.env)=(ar,eval e X.env)::bW pos (aM [] X.env):=by rfl)
  (YR:(bW pos (aM [e] X.env)).any (·.1)=ar:=by rfl):DE O X (.Call (.Name "min" p) [e] [#[U "default",.Constant .none j cp,kp]] pos) (b1 rD f):=⟨(Tp hc hg hm h.1 he M YR).imp λL H Q=>by
 rintro⟨Z8,Z9,G,Y,z,A,hq,k⟩;let⟨d,hd,hi⟩:=YB hq;show#[Z8,Z9,G,Y,d,A,hd,λv G1 H1 s1 r1=>?_];unfold rD at hi;split at hi
 .obtain⟨ns,hn,rfl⟩:=YE hi;let⟨a,E,rfl,ha,ra⟩:=r1.lst_inv;show#[a,ns,W,by rw[<-nX ra hn];show s1.gh _ _ ha,k _ G1 H1 s1 ?_];unfold og jO;split
  .exact .non
  .exact .int _
 .cases hi⟩
end
section
open PyProof
section
variable{it d:av}{es:bI vN}{od:Obj}
def Il(hs:(d==i7)=ar)(ř:s.heap.get? d=U od)(hx:od.ExactDict)(Ō:od.data=.dict es ep)
  (hQ:∀h',h'=s.heap.push {cls:=.type "dict_keyiterator",data:=.fields [.ref d,.int 0 0,.int es.size 0,.int ep 0].toArray}->Q (.ref s.heap.objs.size) {s with heap:=h'}):
  aL (aN prog w) A (kj (.ref d)) Q us s:=by
 let hT:s.TypeIs (.ref d) "dict":=#[od,ř,hx.1];show Hh hT V' (lL V' hT F.entry_dict_iter ?_ (F.args_dict_iter_1 _));show qx (qx (V7 hT ?_));show qB ?_;show aL _ _ (Wa d >>= _) _ _ s;unfold Wa;rw[qZ (by rw[hs];show qt)];show qx (qB (qx (Wb ř Ō (qx (Wc ř Ō (qx (iA (qB
  #[_,W,"dict_keyiterator",_,#[_,qH _ W,W],Hi.lookup,hQ _ W]))))))))
def Ce{Q:au aw->aH->Prop}(hh:A.handled=B)(Zj:s.heap.IsKeyIter it d i es.size ep)(ř:s.heap.get? d=U od)(Ō:od.data=.dict es ep)
  (hi:∀e h',es[i]?=U e->h'.IsKeyIter it d (i+1) es.size ep->g9 it s.heap h'->Q (U e.key) {s with heap:=h'})
  (he:es[i]?=B->∀h',Wd it s.heap h'->Q B {s with heap:=h'}):aL (aN prog w) A (hU (.ref it)) Q us s:=by
 let⟨o,ho,hc,hd⟩:=id Zj;let hT:=Zj.typeIs;show qx (v5 (zH hT Hi
  (lL Hi hT F.entry_dict_keyiterator_next ?_ (F.args_dict_keyiterator_next_1 _))))
 show qx (qB (qx (qx ?_)));show qx (Hj hT (qB (qx (Hl ho hd ?_))));simp only[show XA "dict_keyiterator"=ar by decide,qr,cE];show aL _ _ (if (cI d==Gk)=ai then _ else _) _ _ s;rw[qZ (show ¬((cI d==Gk)=ai) from qt)];show qx (qB (qx (Wb ř Ō ?_)));rw[qZ (by simp)];show qx (qB (qx (Wc ř Ō ?_)));rw[qZ (by simp)];show qB ?_;simp only[show ¬((i:ah)<0) from by ext,cE,e6];cases hx:es[i]? with
 |some e=>
  show qx (qx (Hj hT (qB (qx (We hT ?_)))));show aL _ _ (setField (.ref it) 1 (jD ((i:ah)+1)) >>= _) _ _ s;show qx (v7 ho hd (by simp) ?_);let Ξ:(s.heap.update it (sJ (·.setIfInBounds 1 (jD ((i:ah)+1))))).IsKeyIter it d (i+1) es.size ep:=
   #[_,nC _ ho (Hm (nG hd _)),(Hn ..).trans hc,by rw[nG hd];simp[jD]]
  show qx (qV (qx (We Ξ.typeIs ?_)));show qB (qB #[_,W,qB (hi _ _ hx Ξ (lU ..))])
 |none=>
  show qx (qx (Hj hT (qB ?_)));show aL _ _ (setField (.ref it) 0 .none >>= _) _ _ s;show qx (v7 ho hd (by simp) ?_);simp only[newExc,newTuple];show qx (qx (iA ?_ (by size_fits)));show qx (nB (by first|rfl|(simp only[Wf];rfl)) ?_);show iA ?_ (by size_fits);simp only[raiseNew];show qx (wpAny_handled ?_);rw[show A.in1.handled=B from hh];show qx (qB (Hf ?_));show qx (v6 #[_,qH _ W,W] Wg ?_);show qB (he hx _ (((lU ..).extBut.push _).push _))
end
end
section
variable{a c i:Expr}
def XO.strs{K:aS}{G:Hp}:∀(ns:Z aj),XO O K G (ns.map V.str) (ns.map D.str)
 |[]=>.nil
 |n::r=>.cons (.str n) (XO.strs r)
end
section
variable{a c i:Expr}
end
def cO.there{h:Heap}{o:HO}(x:cO P w H h a o):∃u,h.get? a=U u:=by
 cases o with
 |lst xs=>let⟨_,_,_,_,e⟩:=x;show#[_,e]
 |tup xs=>let⟨_,_,_,p,e,_⟩:=x;show#[_,e]
 |dK XJ=>let⟨_,_,_,_,o,_,_,e,_⟩:=x;show#[_,e]
 |dT XJ=>let⟨_,_,_,_,o,_,_,e,_⟩:=x;show#[_,e]
 |set S n=>let⟨o,_,_,_,e,_⟩:=x;show#[_,e]
 |ins XI dx fs=>let⟨_,_,_,e,_⟩:=x;show#[_,e]
 |own y=>let⟨_,e⟩:=x;show#[_,e]
 |frz ob u=>let⟨e,_⟩:=x;show#[_,e]
 |tbl ps=>show#[_,(x)]
 |ext φ=>let⟨_,⟨_,e⟩,_⟩:=x;show#[_,e]
def XS.none_of(I:XS X Z' L H s)(h:∀u,s.heap.get? a=U u->False):H a=B:=by
 cases e:H a with
 |none=>rfl
 |some o=>
  let⟨u,hu⟩:=(I.hok a o e).there;show(h u hu).elim
def XS.many(I:XS X Z' L H s)(k:∀b u,s.heap.get? b=U u->h'.get? b=U u)(hs:aY H H')(new:∀b o,H b=B->H' b=U o->(∀u,s.heap.get? b=U u->False)/\cO X.prog X.w H' h' b o):
  XS X Z' L H' {s with heap:=h',toks:=t'}:=by
 show I.un #[λb ob q _ _ _=>k b ob q,λb ob q _ _ _=>#[ob.slots,k b ob q],λb ob q n _=>?_,λb ob q _=>#[ob,k b ob q],λb xs q=>hs _ _ q,λb o u q=>hs _ _ q,λb ps q=>#[#[],by rw[hs _ _ q];simp]] λb o q=>?_
 .cases e:H' b with
  |none=>rfl
  |some o=>show((new b o n e).1 ob q).elim
 .cases e:H b with
  |none=>show(new b o e q).2
  |some o'=>
   let:=hs _ _ e;rw[q] at this;cases this;show(I.hok b o e).stay (λc v _ r=>k c v r) (λc r=>hs _ _ r) λc xs r=>hs _ _ r
variable{p3 p4:di}
section
variable{a c i:Expr}
def Ğ(x y:aj):aJ:=!Ŧ y x
def p5(l:Z aj):Z aj:=l.mergeSort Ğ
def mM{y:aj}:Ğ x y=ai↔x.cps.toList<=y.cps.toList:=by unfold Ğ Ŧ;rw[Ho,Al,List.not_lt]
def FP(x y z:aj)(h1:Ğ x y=ai)(h2:Ğ y z=ai):Ğ x z=ai:=mM.mpr (List.le_trans (mM.mp h1) (mM.mp h2))
def MV(x y:aj):(Ğ x y || Ğ y x)=ai:=by rw[GX];show(List.le_total x.cps.toList y.cps.toList).imp mM.mpr mM.mpr
def S2{y:aj}(h1:Ğ x y=ai)(h2:Ğ y x=ai):x=y:=by let e:=List.le_antisymm (mM.mp h1) (mM.mp h2);cases x;cases y;simp only at e;rw[Array.toList_inj.mp e]
def EH:∀(l:Z aj)(p:aj),risingS p l=ai->(∀a∈l,Ğ p a=ai)/\l.Pairwise λa b=>Ğ a b=ai:=by
 intro X7
 induction X7 with
 |nil=>
  intro _ _;show#[λ_ h=>(nomatch h),Vs]
 |cons x r ih=>
  intro p h;unfold risingS at h;rw[cW,ltCps_eq] at h;let⟨h1,h2⟩:=ih x h.2;let hp:Ğ p x=ai:=h.1;show#[λa ha=>?_,.cons h1 h2];rcases cg.mp ha with rfl|ha
  .exact hp
  .exact FP _ _ _ hp (h1 a ha)
def OP{l:Z aj}(h:sortedS l=ai):l.Pairwise λa b=>Ğ a b=ai:=by
 cases l with
 |nil=>show .nil
 |cons x r=>show .cons (EH r x h).1 (EH r x h).2
def Nt{l l':Z aj}(hp:l'.Perm l)(hs:sortedS l'=ai):l'=p5 l:=
 Wh (λa b _ _ h1 h2=>S2 h1 h2) (OP hs) (Wi FP MV l) (hp.trans (Am l Ğ).symm)
def yH:Z (XR×D)->au (Z aj)
 |[]=>U []
 |(.inr x,_)::r=>(yH r).map (x::·)
 |(.inl _,_)::_=>B
def Dv:∀{XJ:Z (XR×D)}{E:Z (XR×V)}{ss:Z aj},E.map (·.1)=XJ.map (·.1)->yH XJ=U ss->E.map (·.1)=ss.map bZ
 |[],[],ss,_,h=>by cases h;rfl
 |[],_::_,_,e,_=>by cases e
 |_::_,[],_,e,_=>by cases e
 |(k,d)::XJ,(k',v)::E,ss,e,h=>by
  let e1:k'=k:=(eZ e).1;let e2:E.map (·.1)=XJ.map (·.1):=(eZ e).2;subst e1;cases k' with
  |inl i=>cases h
  |inr x=>
   let⟨zs,hz,rfl⟩:=YE (h);rw[qo,qo,Dv e2 hz]
def tq:Z D->au D
 |[.dk XJ]=>(yH XJ).bind λss=>if ss.length<64 then U (.lst ((p5 ss).map D.str)) else B
 |_=>B
def Ey{P:dy}{w:cA}:∀{ss:Z aj}{vs:Z aw}{va:Z (XR×aw)},va.map (·.1)=ss.map bZ->vs.length=ss.length->(∀(j:ag)(v:aw),vs[j]?=U v->∃k x,va[j]?=U (k,x)/\(cG P w).is k v=ai)->vS vs ss
 |[],[],_,_,_,_=>.nil
 |[],_::_,_,_,h,_=>by cases h
 |_::_,[],_,_,h,_=>by cases h
 |s::ss,v::vs,va,e,hl,h=>by
  let⟨k,x,h1,h2⟩:=h 0 v rfl;cases va with
  |nil=>cases e
  |cons w va=>
   cases h1;let e1:k=bZ s:=(eZ e).1;subst e1;let⟨t,rfl⟩:=UU h2;show .cons s t (Ey (eZ e).2 (by simpa using hl) λj u hu=>by let⟨k,x,q1,q2⟩:=h (j+1) u (by simpa using hu);show#[k,x,by simpa using q1,q2])
def Cs:∀{vs:Z aw}{ss:Z aj},vS vs ss->bi (ss.map V.str) vs
 |_,_,.nil=>.nil
 |_,_,.cons x t r=>.cons #[t,W] (Cs r)
def HP(hc:X.calm=ai):dZ X (.builtin "sorted") (λxs H Q=>∃(a:av)(E:Z (XR×V))(ss:Z aj),xs=[.ref a]/\H a=U (.dK E)/\E.map (·.1)=ss.map bZ/\ss.length<64/\∀p,H p=B->Q (.ref p) (X0 H p (.lst ((p5 ss).map V.str)))):=by
 intro Z' s L H xs E Q I r h;let⟨a,ks,ss,rfl,ha,hk,h64,q⟩:=h;let⟨u,rfl,ru⟩:=dY r;cases ru;let⟨z,md,va,qa,da⟩:=BB I.hok ha;let⟨ep,Ĭ⟩:=da.dictAt;let hva:va.map (·.1)=ss.map bZ:=qa.keys.symm.trans hk;let X2:va.length=ss.length:=by simpa using bM cC hva
 let hh:X.A.handled=B:=I.ok.hd hc;let hsl:=eM;show Wj kind_sorted plain_sorted entry_sorted (args_sorted1 _) ?_;show qx (qB ?_);show qx (Wk (Wl md) hh Ĭ .(b) λh' tk XT hkp Yw=>?_);let hl:XT.toList.length=va.length:=by rw[fy];show Yw.1
 show qx (wpAny_newList ?_ (by rw[hl];ext));let hS:vS XT.toList ss:=Ey hva (by rw[hl,X2]) λj v e=>Yw.2 j v (by rw[<-qJ];show e);let Λ:(h'.push (An "list" XT.toList.toArray 0)).get? h'.objs.size=U (An "list" XT.toList.toArray 0):=qH _ W;show qx (qV (lL Wm #[_,Λ,W] Wn (list_sort_treeK strKind_oneLt Λ hS.keysOf (λv₁ v₂ bS e=>keyKind_strs (by rw[<-e];show hS)) (by rw[hl];ext) λY7 a1 a2=>#[_,W,?_]) (Wo _)));let⟨ss',h1,h2,h3⟩:=sorted_out_str hS a1 a2;let es:=Nt h2 h3;subst es;show qB #[_,W,?_];let⟨ee,he⟩:=sortedHeap_at Λ;let hls:(p5 ss).length=ss.length:=(Am ss Ğ).length_eq;let Zi:∀u,s.heap.get? h'.objs.size=U u->False:=λu e=>fN _ (qv (hkp _ _ e));let hn:=I.none_of Zi;show#[.ref h'.objs.size,X0 H h'.objs.size (.lst ((p5 ss).map V.str)),I.many (λb o e=>?_) (λb o e=>by rw[aD (bH e hn)];show e) (λb o e1 e2=>?_),W,q _ hn]
 .let M:b<h'.objs.size:=qv (hkp b o e);rw[Wq (qD M) (by rw[size_push'];show lQ M)];show qu _ (hkp b o e)
 .by_cases M:b=h'.objs.size
  .subst M;rw[bf] at e2;cases e2;show#[Zi,by rw[qf,hls];ext,_,ee,Cs h1,by rw[Hq];show he]
  .rw[aD M,e1] at e2;cases e2
def Lv(hc:X.calm=ai):ß O X "sorted" tq:=#[_,HP hc,λ{G H vs ds z}gh r h Q k=>by
 unfold tq at h;split at h
 .obtain⟨ss,hs,h⟩:=YB h;split at h
  .rename_i h64;cases h;let⟨v,rfl,r1⟩:=r.one;cases r1 with
   |dk h1 h2 h3=>show#[_,_,ss,W,gh _ _ h1,Dv h2 hs,h64,kg gh (XO.strs _) k]
  .cases h
 .cases h]
end
section
variable{a c i:Expr}
def Cb{k:XR}(h:(cG P w).is k u=ai):bF (kV k) u:=by
 rcases iU h with⟨i,t,rfl,rfl⟩|⟨x,t,rfl,rfl⟩
 .exact#[t,W]
 .exact#[t,W]
def xx(k:XR):X9 O K G (kV k) (cU k):=by
 cases k with
 |inl i=>show .int i
 |inr x=>show .str x
noncomputable def zd:D->au D
 |.int i=>U (.int (-i))
 |_=>B
noncomputable def xm:D->au D
 |.lst l=>U (.lst l.reverse)
 |_=>B
def XO.reverse{K:aS}{G:Hp}:∀{vs:Z V}{ds:Z D},XO O K G vs ds->XO O K G vs.reverse ds.reverse
 |_,_,.nil=>.nil
 |_,_,.cons h r=>by rw[zL,zL];show r.reverse.append (.cons h .nil)
def RP{j}(he:DE O X e f):DE O X (.Subscript e (.Slice B B (U (.UnaryOp .USub (.Constant (.int 1) j p3) p4)) p2) pos) (b1 xm f):=⟨λZ' s L H Q I=>by
 rintro⟨Z8,Z9,G,Y,d,A,h,k⟩;let⟨x,hx,h⟩:=YB h;unfold xm at h;split at h
 .rename_i l;cases h;show zI (YI (he.1 Z' s L H (λv H'=>∃G',Step G H G' H'/\X9 O X.K G' v (.lst l)) I #[Z8,Z9,G,Y,_,A,hx,λv G' H' st r=>#[G',st,r]]) λv s1 #[v',H1,I1,r1,G1,st,rp]=>?_);let⟨a,vs,rfl,ha,rv⟩:=rp.lst_inv;cases r1;show wpAny_Slice (qB (qB ?_));show YI ((QF Rj Gb) Z' s1 L H1 (λv H'=>v=.int (-1)/\H'=H1) I1 #[_,W,W,W]) λvk s3 #[vv,H3,I3,r3,e1,e2]=>?_;subst e1 e2;let⟨t,rfl⟩:=r3;let I4:XS X Z' L H3 {s3 with heap:=s3.heap.push {cls:=.type "slice",data:=.fields [.none,.none,.int (-1) t].toArray} }:=I3.kept λb ob q=>qu _ q;let⟨XY,rr,hti,hz⟩:=I4.list (.inl (.inl (st.gh _ _ ha)));show GH hti.isList.typeIs GJ.lookup ?_ (by with_unfolding_all rfl);show Vf hti.isList (Va ..) .none .none (.int _ _) .(c) ?_ (by rw[qC];let:=rr.length;ext);rw[PySem.W.krv_pick];let hn:=I4.fresh;show#[.ref _,_,I4.lnew (bi.reverse rr) (by rw[Hr];show hz),W,kg st.gh rv.reverse (λw G2 H2 s2 r2=>k w G2 H2 (st.trans s2) r2) _ hn]
 .cases h⟩
end
section
variable{c:Expr}
def At.setOdkV(A:At O K Z8 Z9 G H Y L){E:Z (XR×V)}{XJ:Z (XR×D)}(ha:H a=B)(ek:E.map (·.1)=XJ.map (·.1))(rr:XO O K G (E.map (·.2)) (XJ.map (·.2))):At O K Z8 Z9 G (X0 H a (.dK E)) (Y.set i (U (.odk XJ))) (L.set i (U (.ref a))):=by let h0:Z9 a=B:=A.st.hh.free ha;let hg:G a=B:=A.gh.free ha;show A.put (.inl W) (λb o e _=>by rw[aD (bH e ha)];show e) (.odk h0 hg bf ek rr) (λb M=>.inr (by rw[bL.mp M];show ha)) (.refl _) (λb o e=>?_) (λ_ _ _ _ _=>rfl) (λb M=>by cases M);rw[aD (bH e hg)];show A.gh b o e
end
def XS.frz{a:av}{E:Z (XR×V)}{o:Obj}(I:XS X Z' L H s)(e:H a=U (.dK E))(ho:s.heap.get? a=U o):XS X Z' L (X0 H a (.frz o (.dK E))) s:=by
 let ne:∀b u,H b=U u->u≠.dK E->b≠a:=λb u q n z=>by rw[z,e] at q;cases q;show n W
 let st:∀{b:av}{u:HO},cO X.prog X.w H s.heap b u->cO X.prog X.w (X0 H a (.frz o (.dK E))) s.heap b u:=λx=>
  x.stay (λc v _ r=>r) (λc r=>by rw[aD (ne c _ r (by intro z;cases z))];show r) λc xs r=>by rw[aD (ne c _ r (by intro z;cases z))];show r
 show I.un #[λb ob q _ _ _=>q,λb ob q _ _ _=>#[ob.slots,q],λb ob q n _=>?_,λb ob q _=>#[ob,q],λb xs q=>?_,λb o u q=>?_,λb ps q=>#[#[],?_]] λb u q=>?_
 .rw[aD (λz=>by rw[z,e] at n;cases n)];show n
 .rw[aD (ne b _ q (by intro z;cases z))];show q
 .rw[aD (ne b _ q (by intro z;cases z))];show q
 .rw[aD (ne b _ q (by intro z;cases z)),q];simp
 .by_cases M:b=a
  .subst M;rw[bf] at q;cases q;show#[ho,st (I.hok b _ e)]
  .rw[aD M] at q;show st (I.hok b u q)
def XS.unfrz{E:Z (XR×V)}{o:Obj}(I:XS X Z' L H s)(e:H a=U (.frz o (.dK E)))(ŀ:∀o u,X.Z9 a≠U (.frz o u)):XS X Z' L (X0 H a (.dK E)) s:=by
 let ne:∀b u,H b=U u->u≠.frz o (.dK E)->b≠a:=λb u q n z=>by rw[z,e] at q;cases q;show n W
 let nn:∀b,H b=B->X0 H a (.dK E) b=B:=λb n=>by rw[aD (λz=>by rw[z,e] at n;cases n)];show n
 let st:∀{b:av}{u:HO},cO X.prog X.w H s.heap b u->cO X.prog X.w (X0 H a (.dK E)) s.heap b u:=λx=>
  x.stay (λc v _ r=>r) (λc r=>by rw[aD (ne c _ r (by intro z;cases z))];show r) λc xs r=>by rw[aD (ne c _ r (by intro z;cases z))];show r
 show#[I.ok,I.os,I.bare,#[I.base.keep,I.base.slot,λb ob q n hx=>nn b (I.base.free b ob q n hx),I.base.there,λb xs q=>?_,λb ob u q=>?_,λb ps q=>?_],I.loc,I.cell,nn _ I.free,λx c q=>nn _ (I.freeC x c q),λp hp=>?_,λb u q=>?_,I.len]
 .let:=I.base.tups b xs q;rw[aD (ne b _ this (by intro z;cases z))];show this
 .let:=I.base.frzs b ob u q;rw[aD (λz=>ŀ ob u (by rw[<-z];show q))];show this
 .obtain⟨more,hm⟩:=I.base.tbls b ps q;show#[more,by rw[aD (ne b _ hm (by intro z;cases z))];show hm]
 .obtain⟨p1,p2,p3⟩:=I.pin p hp;show#[p1,nn _ p2,p3]
 .by_cases M:b=a
  .subst M;rw[bf] at q;cases q;show st (I.hok b _ e).2
  .rw[aD M] at q;show st (I.hok b u q)
def XS.nofrz{E:Z (XR×V)}(I:XS X Z' L H s)(e:H a=U (.dK E)):∀o u,X.Z9 a≠U (.frz o u):=λo u q=>by let:=I.base.frzs a o u q;rw[e] at this;cases this
def LR:∀{E:Z (XR×V)}{va:Z (XR×aw)}{i:ag}{k:XR}{v:aw},KV E va->va[i]?=U (k,v)->∃kv,E[i]?=U kv/\bF kv.2 v:=by
 intro E va i k v r
 induction r generalizing i with
 |nil=>intro e;simp at e
 |cons h t ih=>
  intro e;cases i with
  |zero=>simp at e;subst e;show#[_,W,h.2]
  |succ j=>
   let⟨p,z1,z2⟩:=ih (by simpa using e);show#[p,by simpa using z1,z2]
namespace Law
noncomputable abbrev oS(d:D):au Slot:=U (.sh d)
end Law
abbrev FQ:=Z D->au D
namespace Law
def dC{k:ag}{F:FQ}(XI:Ţ O X.prog X.w X.K X.mg X.base x n k F)(hr:YK j X.A)(ha:DA O X (e::es) fr)(hn:∀Y ds,fr Y=U ds->ds.length=n)(hk:k<=j:=by decide)(hg:Gl X x:=by show W)(Ô:(x==("__debug__":aj))=ar:=by decide)(he:aM (e::es) X.env=(ar,eval e X.env)::aM es X.env:=by rfl)(YR:(bW pos (aM es X.env)).any (·.1)=ar:=by rfl):DE O X (.Call (.Name x p) (e::es) [] pos) (cF F fr):=uS XI hr hk hg ha hn Ô he YR
def aV{P:Z aj}(a:sc.kind=.function:=by rfl)(b:sc.isCoroutine=ar:=by rfl)(c:sc.isGenerator=ar:=by rfl)(d:N.Nodup:=by decide +kernel)(e:N.take P.length=P:=by rfl)(f:∀x∈P,sc.names.lookup x=U .local∨sc.names.lookup x=U .cell:=by decide +kernel)(g:∀y∈sc.names,y.2≠.free:=by decide +kernel):YC N P sc:=#[a,b,c,d,e,f,g]
end Law
variable{Z6:aH}
section
variable{f:av}{us:XK}
 {Z':Z (av×Obj)}{L:St}{H:Hp}{s:aH}{h1:Heap}{e:av}{cls:aw}{vs:Z aw}
end
section
variable{f:av}{us:XK}
 {R:Hp->Prop}{n:cD}{x:aj}{np YG pos:di}{e₀:Expr}{bS:Z Expr}{fr:FA}{Bn newId initId:cD}{bmB:Z aw}
end
section
open PySem.W Builtin Builtin.ObjectAttr Builtin.Getset_descriptor
end
section
variable{a c i:Expr}
end
section
variable{a:Expr}
def Iq(h:DE O X a fa):DE O X (.UnaryOp .USub a pos) (b1 zd fa):=⟨λZ' s L H Q I=>by
 rintro⟨Z8,Z9,G,Y,d,A,hq,k⟩;let⟨x,hx,hq⟩:=YB hq;show Gr (YI (h.1 Z' s L H (λv H'=>∃G',Step G H G' H'/\X9 O X.K G' v x) I #[Z8,Z9,G,Y,x,A,hx,λv G' H' st r=>#[G',st,r]]) λv s1 #[v',H1,I1,r1,G1,st,rp]=>?_);unfold zd at hq;split at hq
 .cases hq;cases rp.int_inv;let⟨t,rfl⟩:=r1;show XB #[.int _,H1,I1.tok _,#[_,W],k _ G1 H1 st (.int _)]
 .cases hq⟩
end
noncomputable def Ő(G:Hp)(a:av):Hp:=λb=>if b=a then B else G b
def rJ{b:av}(h:b≠a):Ő G a b=G b:=by unfold Ő;rw[qZ h]
def Ts:Ő G a a=B:=by unfold Ő;rw[qY W]
section
open PyProof
def XS.frzT{E:Z (Z XR×V)}{o:Obj}(I:XS X Z' L H s)(e:H a=U (.dT E))(ho:s.heap.get? a=U o):XS X Z' L (X0 H a (.frz o (.dT E))) s:=by
 let ne:∀b u,H b=U u->u≠.dT E->b≠a:=λb u q n z=>by rw[z,e] at q;cases q;show n W
 let st:∀{b:av}{u:HO},cO X.prog X.w H s.heap b u->cO X.prog X.w (X0 H a (.frz o (.dT E))) s.heap b u:=λx=>
  x.stay (λc v _ r=>r) (λc r=>by rw[aD (ne c _ r (by intro z;cases z))];show r) λc xs r=>by rw[aD (ne c _ r (by intro z;cases z))];show r
 show I.un #[λb ob q _ _ _=>q,λb ob q _ _ _=>#[ob.slots,q],λb ob q n _=>?_,λb ob q _=>#[ob,q],λb xs q=>?_,λb o u q=>?_,λb ps q=>#[#[],?_]] λb u q=>?_
 .rw[aD (λz=>by rw[z,e] at n;cases n)];show n
 .rw[aD (ne b _ q (by intro z;cases z))];show q
 .rw[aD (ne b _ q (by intro z;cases z))];show q
 .rw[aD (ne b _ q (by intro z;cases z)),q];simp
 .by_cases M:b=a
  .subst M;rw[bf] at q;cases q;show#[ho,st (I.hok b _ e)]
  .rw[aD M] at q;show st (I.hok b u q)
def XS.unfrzT{E:Z (Z XR×V)}{o:Obj}(I:XS X Z' L H s)(e:H a=U (.frz o (.dT E)))(ŀ:∀o u,X.Z9 a≠U (.frz o u)):XS X Z' L (X0 H a (.dT E)) s:=by
 let ne:∀b u,H b=U u->u≠.frz o (.dT E)->b≠a:=λb u q n z=>by rw[z,e] at q;cases q;show n W
 let nn:∀b,H b=B->X0 H a (.dT E) b=B:=λb n=>by rw[aD (λz=>by rw[z,e] at n;cases n)];show n
 let st:∀{b:av}{u:HO},cO X.prog X.w H s.heap b u->cO X.prog X.w (X0 H a (.dT E)) s.heap b u:=λx=>
  x.stay (λc v _ r=>r) (λc r=>by rw[aD (ne c _ r (by intro z;cases z))];show r) λc xs r=>by rw[aD (ne c _ r (by intro z;cases z))];show r
 show#[I.ok,I.os,I.bare,#[I.base.keep,I.base.slot,λb ob q n hx=>nn b (I.base.free b ob q n hx),I.base.there,λb xs q=>?_,λb ob u q=>?_,λb ps q=>?_],I.loc,I.cell,nn _ I.free,λx c q=>nn _ (I.freeC x c q),λp hp=>?_,λb u q=>?_,I.len]
 .let:=I.base.tups b xs q;rw[aD (ne b _ this (by intro z;cases z))];show this
 .let:=I.base.frzs b ob u q;rw[aD (λz=>ŀ ob u (by rw[<-z];show q))];show this
 .obtain⟨more,hm⟩:=I.base.tbls b ps q;show#[more,by rw[aD (ne b _ hm (by intro z;cases z))];show hm]
 .obtain⟨p1,p2,p3⟩:=I.pin p hp;show#[p1,nn _ p2,p3]
 .by_cases M:b=a
  .subst M;rw[bf] at q;cases q;show st (I.hok b _ e).2
  .rw[aD M] at q;show st (I.hok b u q)
def XS.nofrzT{E:Z (Z XR×V)}(I:XS X Z' L H s)(e:H a=U (.dT E)):∀o u,X.Z9 a≠U (.frz o u):=λo u q=>by let:=I.base.frzs a o u q;rw[e] at this;cases this
def D8{α β:Type}{F:α->β->Prop}:∀{l:Z α}{m:Z β}{i:ag}{y:β},Paired F l m->m[i]?=U y->∃x,l[i]?=U x/\F x y
 |_,_,_,_,.nil,e=>by simp at e
 |_,_,0,_,.cons h _,e=>by simp at e;subst e;show#[_,W,h]
 |_,_,i+1,_,.cons _ t,e=>by let⟨x,h1,h2⟩:=D8 t (by simpa using e);show#[x,by simpa using h1,h2]
def Dg(a:av)(o:Obj)(E:Z (Z XR×V)):It:=
 #[λi H=>H a=U (.frz o (.dT E))/\i<E.length,λi H v H'=>H'=H/\∃kv T,E[i]?=U kv/\v=.ref T/\H T=U (.tup (kv.1.map kV)),λi H=>H a=U (.frz o (.dT E))/\i=E.length]
def EN{h:Heap}{o:Obj}{E:Z (Z XR×V)}{es:bI vN}(ok:Ze P w H h)(e:H a=U (.frz o (.dT E)))(hd:o.data=.dict es ep):
  h.get? a=U o/\es.size=E.length/\∀(i:ag)(en:vN),es[i]?=U en->∃kv T,E[i]?=U kv/\en.key=.ref T/\H T=U (.tup (kv.1.map kV)):=by
 let ho:h.get? a=U o:=(ok a _ e).1;let⟨z,md,xs,kt,o',Yj,Δ,h1,h2,h3,h4,h5,h6⟩:=jv ok (.inr #[o,e]);rw[ho] at h1;cases h1;rw[hd] at h3;cases h3;show#[ho,by rw[size_of_entries h4];show(Paired.length kt).symm,λi en q=>?_];rw[entry_at h4] at q;let⟨x,hx,rfl⟩:=YE q;let⟨kv,k1,k2,k3,k4⟩:=D8 kt hx;show#[kv,x.2.1,k1,W,k3]
def NL(a it:av)(o:Obj)(E:Z (Z XR×V))(es:bI vN)(ep:ag)(Zb:a≠it)(hd:o.data=.dict es ep):
  Ù P w K tg (Dg a o E) [it] it (λi h=>h.IsKeyIter it a i es.size ep) where
 mem:=by simp
 obj:=λi h st b M=>by
  let e:b=it:=by simpa using M
  subst e;let⟨o,e,c,d⟩:=st;show#[o,e,λv z=>by rw[d] at z;cases z]
 keep:=λi h h' st k=>by let⟨o,e,r⟩:=st;show#[o,k it (by simp) o e,r]
 item:=by
  intro X hP hw hK hc i Z' s L H us I hf st hg;subst hP hw hK;let⟨Ŝ,hi⟩:=hg;let⟨f0,f1,f2,f3,f4,f5⟩:=hf it (by simp);let⟨ho,Zw,Ĭ⟩:=EN I.hok Ŝ hd;show Ce (I.ok.hd hc) st ho hd (λen h' hen Y7 hs=>?_) λhx=>?_
  .obtain⟨kv,T,k1,k2,k3⟩:=Ĭ i en hen;let I1:XS X Z' L H {s with heap:=h',toks:=s.toks}:=I.turned (λb o M e=>hs.extBut b o (by simpa using M) e) f0 f1 f3 f4 f5;let⟨oi,e,c,d⟩:=id Y7;show#[_,W,n9 e c d .(c) #[.ref T,H,I1,by rw[k2];rfl,#[W,kv,T,k1,W,k3],Y7,λb M=>(hf b M).1]]
  .rw[Array.getElem?_eq_none_iff] at hx;ext
 done:=by intro X hP hw hK hc i Z' s L H us I hf st hg;subst hP hw hK;let⟨Ŝ,hi⟩:=hg;let⟨f0,f1,f2,f3,f4,f5⟩:=hf it (by simp);let⟨ho,Zw,Ĭ⟩:=EN I.hok Ŝ hd;show Ce (I.ok.hd hc) st ho hd (λen h' hen Y7 hs=>?_) λhx h' hs=>#[W,I.turned (λb o M e=>hs b o (by simpa using M) e) f0 f1 f3 f4 f5];let:=(gu.mp hen).1;ext
 self:=λ_ _ _ _ _ st h=>Wr st h
def Dm:D->au (Z D)
 |.fdt XJ=>U (XJ.map λkv=>.tup (kv.1.map cU))
 |_=>B
def jr(f:FE):FA:=λY=>(f Y).bind Dm
section
variable{c:Expr}
def Ji(he:PE X iter te):PI X tg iter (λL H R=>te L H λx H1=>∃(a:av)(o:Obj)(E:Z (Z XR×V)),x=.ref a/\H1 a=U (.frz o (.dT E))/\R (Dg a o E) H1):=by
 intro Z' s L H R I h;show YI (he Z' s L H _ I h) λv s1 #[x,H1,I1,r1,a,o,E,e,ha,q]=>?_;subst e;cases r1;let ho:s1.heap.get? a=U o:=(I1.hok a _ ha).1;let⟨z,md,xs,kt,o',es,ep,h1,h2,h3,h4,h5,h6⟩:=jv I1.hok (.inr #[o,ha]);rw[ho] at h1;cases h1;show Il md ho h2 h3 λh' e'=>?_;subst e';show#[s1.heap.objs.size,[s1.heap.objs.size],_,_,H1,W,I1.kept λb u e=>qu _ e,NL a s1.heap.objs.size o E es ep (qD (qv ho)) h3,#[_,qH _ W,W,W],λb M=>?_,q];let e:b=s1.heap.objs.size:=by simpa using M
 subst e;show I1.fpOk (qw _) (I1.hok.fresh (qw _))
def N5:∀ks:Z XR,XO O K G (ks.map kV) (ks.map cU):=by
 intro X7
 induction X7 with
 |nil=>
  show .nil
 |cons k ks ih=>
  show .cons (by cases k;show .int _;show .str _) (ih)
def Pw(ks:Z XR):ź (.tup (ks.map kV))=ai:=by show(ks.map kV).all kyV=ai;rw[iu];intro v hv;let⟨k,_,rfl⟩:=bo.mp hv;cases k<;>rfl
def Step.key{T:av}{ks:Z XR}(gh:aY G H)(hT:H T=U (.tup (ks.map kV))):Step G H (X0 G T (.tup (ks.map kV))) H:=by
 show#[.refl _,λb u e=>?_,λb u e=>?_,λb u e k=>?_]
 .by_cases M:b=T
  .subst M;rw[gh _ _ e] at hT;rw[bf,hT]
  .rw[aD M];show e
 .by_cases M:b=T
  .subst M;rw[bf] at e;rw[hT,e]
  .rw[aD M] at e;show gh _ _ e
 .rw[aD];intro z;subst z;rw[hT] at e;cases e;rw[Pw] at k;cases k
def yd(h:DE O X iter f):DI O X tg iter (jr f):=⟨(Ji h.1).imp λL H R=>by
 rintro⟨Z8,Z9,G,Y,ds,A,h,k⟩;let⟨d,hd,h⟩:=YB h;show#[Z8,Z9,G,Y,d,A,hd,λv G' H' s r=>?_];unfold Dm at h;split at h
 .cases h;cases r with
  |fdt h1 h2 h3=>
   rename_i XJ a o E;let Ů:E.length=XJ.length:=by simpa using bM cC h2
   show#[_,_,_,W,s.gh _ _ h1,k _ G' H' s #[λi d G2 H2 hd g1 g2=>?_,λG2 H2 g1 g2=>#[g2 _ _ (g1 _ _ h1),by rw[qf,Ů]]]];rw[ql] at hd;let⟨kd,ĉ,rfl⟩:=YE hd;let hi:i<E.length:=by rw[Ů];show(dM.mp ĉ).1
   show#[#[g2 _ _ (g1 _ _ h1),hi],λx H3 #[e1,kv,T,hkv,ev,hT]=>?_];subst e1 ev;let ek:kv.1=kd.1:=by let:=bM (λl=>l[i]?) h2;simp only[ql,hkv,ĉ,qe,v8] at this;show this
   show#[_,.key g2 hT,.tup bf (by rw[ek];show N5 _)]
 .cases h⟩
end
end
section
open PyProof
def tfD:D->aJ
 |.tup t=>t.all gA
 |_=>ar
def ltf:D->aJ
 |.lst l=>l.all tfD
 |_=>ar
section
variable{c:Expr}
def pQ:∀{vs:Z V}{ds:Z D},XO O K G vs ds->ds.all gA=ai->XO O K G' vs ds
 |_,_,.nil,_=>.nil
 |_,_,.cons r t,h=>by rw[Ws,cW] at h;show .cons (r.flat h.1) (pQ t h.2)
def Bm{a:av}{o:Obj}{u:HO}(ha:G a=U (.frz o u)):∀{vs:Z V}{ds:Z D},XO O K G vs ds->ds.all tfD=ai->XO O K (Ő G a) vs ds
 |_,_,.nil,_=>.nil
 |_,_,.cons r t,h=>by
  rw[Ws,cW] at h;show .cons ?_ (Bm ha t h.2);cases r with
  |tup M rs=>show .tup (by rw[rJ (λz=>by rw[z,ha] at M;cases M)];show M) (pQ rs h.1)
  |_=>cases h.1
def SD{o:Obj}{u:HO}(ha:G a=U (.frz o u))(r:X9 O K G v d)(h:ltf d=ai):X9 O K (Ő G a) v d:=by
 cases r with
 |lst M rs=>show .lst (by rw[rJ (λz=>by rw[z,ha] at M;cases M)];show M) (Bm ha rs h)
 |_=>cases h
def kN:au Slot->au Slot
 |some (.sh d)=>if gA d=ai then U (.sh d) else B
 |_=>B
def n6(i:ag)(f:FE):FE:=λY=>match Y[i]? with
 |some (U (.sh (.dt XJ)))=>if (XJ.map (·.2)).all gA=ai then (f ((Y.map kN).set i (U (.sh (.fdt XJ))))).bind λd=>if ltf d=ai then U d else B else B
 |_=>B
def EJ(i:ag)(h:DE O X c f):DE O X c (n6 i f):=⟨λZ' s L H Q I q=>by
 let⟨Z8,Z9,G,Y,d,A,hq,k⟩:=q;unfold n6 at hq;split at hq
 .rename_i XJ hi;split at hq
  .rename_i hfl;let⟨d',Ö,hq⟩:=YB hq;split at hq
   .rename_i YX;cases hq;let⟨v,h1,h2⟩:=A.env.sh i _ hi;cases h2 with
    |dt g3 q4 q5=>
     rename_i a E;let q3:=A.gh _ _ g3;let ŀ:=I.nofrzT q3;let⟨ob,Ś⟩:=(I.hok a _ q3).there;let I1:=I.frzT q3 Ś;let gh1:aY (X0 (λ_=>B) a (.frz ob (.dT E))) (X0 H a (.frz ob (.dT E))):=λb u e=>by
      by_cases M:b=a
      .subst M;rw[bf] at e ⊢;show e
      .rw[aD M] at e;cases e
     let A1:At O X.K (X0 (λ_=>B) a (.frz ob (.dT E))) (X0 H a (.frz ob (.dT E))) (X0 (λ_=>B) a (.frz ob (.dT E))) (X0 H a (.frz ob (.dT E))) ((Y.map kN).set i (U (.sh (.fdt XJ)))) L:=by
      let key:∀(j:ag)s,((Y.map kN).set i (U (.sh (.fdt XJ))))[j]?=U (U s)->(j=i/\s=.sh (.fdt XJ))\/∃d,s=.sh d/\gA d=ai/\Y[j]?=U (U (.sh d)):=λj s e=>by
       by_cases hj:j=i
       .subst hj;let YX:j<(Y.map kN).length:=by rw[qf];show(dM.mp hi).1
        rw[oP YX] at e;cases e;show .inl #[W,W]
       .rw[qz (cL hj),ql] at e;let⟨o,ho,e⟩:=YE e;unfold kN at e;split at e
        .split at e
         .rename_i hf;cases e;show .inr #[_,W,hf,ho]
         .cases e
        .cases e
      show#[.refl gh1,.ofSh (by rw[List.length_set,qf];show A.env.len) (λj s e=>?_) λj d e=>?_]
      .rcases key j s e with⟨_,z⟩|⟨d,z,_⟩<;>show#[_,z]
      .rcases key j _ e with⟨z1,z2⟩|⟨d,z,z2,z3⟩
       .subst z1;cases z2;show#[_,h1,.fdt bf q4 (pQ q5 hfl)]
       .cases z;let⟨v,y1,y2⟩:=A.env.sh j _ z3;show#[v,y1,y2.flat z2]
     show YI (h.1 Z' s L _ (λx H'=>H' a=U (.frz ob (.dT E))/\Q x (X0 H' a (.dT E))) I1 #[_,_,_,_,_,A1,Ö,λv G' H' s' r=>#[s'.hh _ _ bf,?_]]) λr s1 q=>?_
     .let hH:∀b u,b≠a->H b=U u->H' b=U u:=λb u M e=>s'.hh b u (by rw[aD M];show e);let sm:aY (Ő G' a) (λb=>match G b with|some u=>U u|none=>Ő G' a b):=λb u e=>by
       show(match G b with|some u=>U u|none=>Ő G' a b)=U u;split
       .rename_i u' hu;let M:b≠a:=λz=>by rw[z,Ts] at e;cases e
        rw[rJ M] at e;let:=hH b u' M (A.gh _ _ hu);rw[s'.gh _ _ e] at this;show this.symm
       .exact e
      show k v (λb=>match G b with|some u=>U u|none=>Ő G' a b) _ #[λx u e=>?_,λx u e=>?_,λx u e=>?_,λx u e ek=>?_] ((SD (s'.gg _ _ bf) r YX).mono sm)
      .by_cases hx:x=a
       .subst hx;rw[bf,<-e,q3]
       .rw[aD hx];show hH x u hx e
      .show(match G x with|some u=>U u|none=>Ő G' a x)=U u;rw[e]
      .replace e:(match G x with|some u=>U u|none=>Ő G' a x)=U u:=e
       by_cases hx:x=a
       .subst hx;rw[g3] at e;rw[bf];show e
       .rw[aD hx];split at e
        .rename_i u' hu;cases e;show hH x _ hx (A.gh _ _ hu)
        .rw[rJ hx] at e;show s'.gh x u e
      .show(match G x with|some u=>U u|none=>Ő G' a x)=G x;by_cases hx:x=a
       .subst hx;rw[g3]
       .cases hg:G x with
        |some u'=>rfl
        |none=>
         rw[rJ hx,s'.out x u (by rw[aD hx];show e) ek,aD hx]
     .obtain⟨x,H',I',rv,hx,q⟩:=q;show#[x,_,I'.unfrzT hx ŀ,rv,q]
   .cases hq
  .cases hq
 .cases hq⟩
end
end
section
open PyProof
def CU:∀{xs:Z V}{E:Z aw},xs.length=E.length->(∀(j:ag)x u,xs[j]?=U x->E[j]?=U u->bF x u)->bi xs E
 |[],[],_,_=>.nil
 |[],_::_,e,_=>by cases e
 |_::_,[],e,_=>by cases e
 |x::xs,u::E,e,h=>.cons (h 0 x u W W) (CU (by simpa using e) λj y v h1 h2=>h (j+1) y v h1 h2)
end
section
open PyProof
def xy:FQ
 |[.dk XJ]=>U (.lst (XJ.map λkv=>cU kv.1))
 |_=>B
def HK(hc:X.calm=ai):dZ X (.type "list") (λxs H Q=>∃(a:av)(E:Z (XR×V)),xs=[.ref a]/\Rd H a (.dK E)/\∀p,H p=B->Q (.ref p) (X0 H p (.lst (E.map λkv=>kV kv.1)))):=by
 intro Z' s L H xs vs Q I r h;let⟨a,E,rfl,ha,q⟩:=h;let⟨u,rfl,ru⟩:=dY r;cases ru;let⟨z,md,va,qa,da⟩:=gC I.hok ha;let⟨ep,Ĭ⟩:=da.dictAt;let X2:E.length=va.length:=qa.length;show PySem.W.kdl_call (Wl md) (I.ok.hd hc) Ĭ .(b) λh' tk XT c hk hL Yw=>?_;let Μ:XT.toList.length=va.length:=by rw[fy];show Yw.1
 let Zi:∀u,s.heap.get? s.heap.objs.size=U u->False:=λu e=>fN _ (qv e);let hn:=I.none_of Zi;show#[.ref s.heap.objs.size,X0 H s.heap.objs.size (.lst (E.map λkv=>kV kv.1)),I.many hk (λb o e=>by rw[aD (bH e hn)];show e) (λb o e1 e2=>?_),W,q _ hn];by_cases M:b=s.heap.objs.size
 .subst M;rw[bf] at e2;cases e2;show#[Zi,by rw[qf];show z,XT.toList,c,CU (by rw[qf,Μ,X2]) λj x u h1 h2=>?_,by rw[Hq];show hL];let⟨k,y,g1,g2⟩:=Yw.2 j u (by rw[<-qJ];show h2);rw[ql] at h1;let⟨kv,g3,rfl⟩:=YE h1;let g4:(E.map (·.1))[j]?=(va.map (·.1))[j]?:=by rw[qa.keys]
  rw[ql,ql,g1,g3] at g4;let g5:kv.1=k:=qI g4;rw[g5];show Cb g2
 .rw[aD M,e1] at e2;cases e2
def De{K:aS}{G:Hp}:∀{E:Z (XR×V)}{XJ:Z (XR×D)},E.map (·.1)=XJ.map (·.1)->XO O K G (E.map λkv=>kV kv.1) (XJ.map λkv=>cU kv.1)
 |[],[],_=>.nil
 |[],_::_,e=>by cases e
 |_::_,[],e=>by cases e
 |u::E,k::XJ,e=>by let e1:u.1=k.1:=(eZ e).1;show .cons (show X9 O K G (kV u.1) (cU k.1) by rw[e1];show xx _) (De (eZ e).2)
def Sn(hc:X.calm=ai):TyD O X "list" xy:=#[_,HK hc,λ{G H vs ds z}gh r h Q k=>by
 unfold xy at h;split at h
 .cases h;let⟨v,rfl,r1⟩:=r.one;cases r1 with
  |dk h1 h2 h3=>show#[_,_,W,.inl (gh _ _ h1),kg gh (De h2) k]
 .cases h]
end
section
open PyProof
section
variable{c:Expr}
noncomputable def p9(i:ag)(ft:FT):FT:=λY=>match Y[i]? with
 |some (U (.odt XJ))=>ft (Y.set i (U (.sh (.dt XJ))))
 |_=>B
def IH(i:ag)(h:DT O X c ft):DT O X c (p9 i ft):=⟨h.1.imp λL H Q=>by
 rintro⟨Z8,Z9,G,Y,b,A,h,k⟩;unfold p9 at h;split at h
 .rename_i XJ hi;let⟨G1,sm,A1⟩:=A.frzD hi rfl;show#[Z8,Z9,G1,_,b,A1,h,λG' H' s=>k G H' (s.back A.gh sm)]
 .cases h⟩
end
end
section
open PyProof
def J6(hc:X.calm=ai):dZ X (.builtin "min") (λxs H Q=>∃i j k,xs=[.int i,.int j,.int k]/\Q (.int (if j<i then (if k<j then k else j) else (if k<i then k else i))) H):=by
 intro Z' s L H xs E Q I r h;let⟨i,j,k,rfl,q⟩:=h;cases r with
 |cons r1 r=>
  cases r with
  |cons r2 r=>
   cases r with
   |cons r3 r=>
    cases r;let⟨t,rfl⟩:=r1;let⟨t',rfl⟩:=r2;let⟨t'',rfl⟩:=r3;show min_three_ints (I.ok.hd hc) λh' tk hk=>#[_,H,I.kept hk,?_,q];split
    .split<;>show#[_,W]
    .split<;>show#[_,W]
def wO:FQ
 |[.int i,.int j,.int k]=>U (.int (if j<i then (if k<j then k else j) else (if k<i then k else i)))
 |_=>B
def SS(hc:X.calm=ai):ß O X "min" wO:=#[_,J6 hc,λ{G H vs ds z}gh r h Q k=>by
 unfold wO at h;split at h<;>cases h;cases r with
 |cons r1 r=>
  cases r with
  |cons r2 r=>
   cases r with
   |cons r3 r=>
    cases r;cases r1.int_inv;cases r2.int_inv;cases r3.int_inv;show#[_,_,_,W,k _ G H (.refl gh) (.int _)]]
end
section
open PyProof
def Itk(a:av)(o:Obj)(E:Z (XR×V)):It:=
 #[λi H=>H a=U (.frz o (.dK E))/\i<E.length,λi H v H'=>H'=H/\∃kv,E[i]?=U kv/\v=kV kv.1,λi H=>H a=U (.frz o (.dK E))/\i=E.length]
def DD(a it:av)(o:Obj)(E:Z (XR×V))(va:Z (XR×aw))(ep:ag)(Zb:a≠it)(hd:∀h:Heap,h.get? a=U o->h.DictAt (cG P w) a va ep)(kv:KV E va):
  Ù P w K tg (Itk a o E) [it] it (λi h=>h.IsKeyIter it a i va.length ep) where
 mem:=by simp
 obj:=λi h st b M=>by
  let e:b=it:=by simpa using M
  subst e;let⟨o,e,c,d⟩:=st;show#[o,e,λv z=>by rw[d] at z;cases z]
 keep:=λi h h' st k=>by let⟨o,e,r⟩:=st;show#[o,k it (by simp) o e,r]
 item:=by
  intro X hP hw hK hc i Z' s L H us I hf st hg;subst hP hw hK;let⟨Ŝ,hi⟩:=hg;let⟨f0,f1,f2,f3,f4,f5⟩:=hf it (by simp);let ho:s.heap.get? a=U o:=(I.hok a _ Ŝ).1;show(Wt (I.ok.hd hc) it a Zb va ep).item i s _ _ (by rw[<-kv.length];show hi) #[st,hd _ ho] λv h' tk hv Y7 kk=>?_;let⟨k,x,hk,hr⟩:=hv;let hp:(E.map (·.1))[i]?=(va.map (·.1))[i]?:=by rw[kv.keys]
  rw[ql,ql,hk] at hp;let⟨p,hp1,Ā⟩:=YE hp;let hp3:p.1=k:=Ā;let I1:XS X Z' L H {s with heap:=h',toks:=tk}:=I.turned (λb o M e=>kk b o (by simpa using M) e) f0 f1 f3 f4 f5;let⟨oi,e,c,d⟩:=id Y7.1;show#[v,W,n9 e c d .(c) #[kV p.1,H,I1,by rw[hp3];show Cb hr,#[W,p,hp1,W],Y7.1,λb M=>(hf b M).1]]
 done:=by
  intro X hP hw hK hc i Z' s L H us I hf st hg;subst hP hw hK;let⟨Ŝ,hi⟩:=hg;let⟨f0,f1,f2,f3,f4,f5⟩:=hf it (by simp);let ho:s.heap.get? a=U o:=(I.hok a _ Ŝ).1;let è:i=va.length:=by rw[<-kv.length];show hi
  subst è;show(Wt (I.ok.hd hc) it a Zb va ep).done s _ _ #[st,hd _ ho] λh' tk kk=>#[W,I.turned (λb o M e=>kk b o (by simpa using M) e) f0 f1 f3 f4 f5]
 self:=λ_ _ _ _ _ st h=>Wr st h
section
variable{c:Expr}{g:FG}
def HR(he:PE X iter te):PI X tg iter (λL H R=>te L H λx H1=>∃(a:av)(E:Z (XR×V)),x=.ref a/\H1 a=U (.dK E)/\∀o,(∀o' u,X.Z9 a≠U (.frz o' u))->R (Itk a o E) (X0 H1 a (.frz o (.dK E)))):=by
 intro Z' s L H R I h;show YI (he Z' s L H _ I h) λv s1 #[x,H0,I0,r1,a,E,e,ha0,q0]=>?_;subst e;cases r1;let⟨o,Ś⟩:=(I0.hok a _ ha0).there;let q:=q0 o (I0.nofrz ha0);let I1:=I0.frz ha0 Ś;let ha:X0 H0 a (.frz o (.dK E)) a=U (.frz o (.dK E)):=bf;let⟨z,md,va,qa,da⟩:=gC I1.hok (.inr #[o,ha]);let⟨ep,Ĭ⟩:=da.dictAt;let ho:s1.heap.get? a=U o:=(I1.hok a _ ha).1;show Wu md Ĭ ?_;show#[s1.heap.objs.size,[s1.heap.objs.size],_,_,_,W,I1.kept λb u e=>qu _ e,DD a s1.heap.objs.size o E va ep (qD (qv ho)) (λh' e=>Ĭ.at' λo' e'=>by rw[ho] at e';cases e';show e) qa,#[_,qH _ W,W,W],λb M=>?_,q];let e:b=s1.heap.objs.size:=by simpa using M
 subst e;show I1.fpOk (qw _) (I1.hok.fresh (qw _))
def lfD:D->aJ
 |.lst l=>l.all gA
 |d=>gA d
def lfS:au Slot->au Slot
 |some (.sh d)=>if lfD d=ai then U (.sh d) else B
 |_=>B
def LC(hs:∀b vs,G b=U (.lst vs)->G1 b=U (.lst vs))(r:X9 O K G v d)(h:lfD d=ai):X9 O K G1 v d:=by
 by_cases hf:gA d=ai
 .exact r.flat hf
 .cases r with
  |lst M rs=>show .lst (hs _ _ M) (pQ rs h)
  |_=>first|show bj W hf|cases h
def uw(f:FE)(g:FG)(ft:FT)(fe:FE)(fv:Z (au ag)):FA:=λY=>match f Y with
 |some (.dk XJ)=>if XJ.length<=aK then (b9 g ft fe (XJ.map λkv=>cU kv.1) ((dU fv Y).map lfS)).bind λds=>if ds.all gA=ai then U ds else B else B
 |_=>B
def CG{s:Slot}(e:(Y.map lfS)[j]?=U (U s)):∃d,s=.sh d/\lfD d=ai/\Y[j]?=U (U (.sh d)):=by
 rw[ql] at e;let⟨o,ho,e⟩:=YE e;unfold lfS at e;split at e
 .split at e
  .rename_i hf;cases e;show#[_,W,hf,ho]
  .cases e
 .cases e
def Ia(hc:X.calm=ai)(S:YH X scope)(F:Ý X N' scope fv)(hi:DE O X iter f)(M:DB O X N' scope tg ć Č g ft fe)(hs:∀x,km iter X.env x=bc x:=by intro _;rfl):
  DO O X .(q) (uw f g ft fe fv):=⟨λZ' s L H Q I q=>by
 let⟨Z8,Z9,G,Y,ds,A,h,k⟩:=q;unfold uw at h;split at h
 .rename_i XJ hf;split at h
  .rename_i hz;let⟨ds',hd,h⟩:=YB h;split at h
   .rename_i hfl;cases h;show YI (Ei hc S F (HR hi.1) M.pb hs Z' s L H (λx H2=>∃(a:av)(o:Obj)(E:Z (XR×V)),H2 a=U (.frz o (.dK E))/\(∀o' u,X.Z9 a≠U (.frz o' u))/\Q x (X0 H2 a (.dK E))) I #[Z8,Z9,G,Y,_,A,hf,λv G' H' s r=>?_]) λr s1 q=>?_
    .cases r with
     |dk h1 h2 h3=>
      rename_i a E;let ha:=s.gh _ _ h1;show#[a,E,W,ha,λo ŀ XT Yw=>?_];let Ů:E.length=XJ.length:=by simpa using bM cC h2
      let gh1:aY (X0 G' a (.frz o (.dK E))) (X0 H' a (.frz o (.dK E))):=λb u e=>by
       by_cases M:b=a
       .subst M;rw[bf] at e ⊢;show e
       .rw[aD M] at e ⊢;show s.gh _ _ e
      let⟨A0,no0⟩:=BA (A.step s);let no1:fj ((dU fv Y).map lfS):=λj t e=>by let⟨d,z,_⟩:=CG e;show#[d,z]
      let A1:At O X.K (X0 G' a (.frz o (.dK E))) (X0 H' a (.frz o (.dK E))) (X0 G' a (.frz o (.dK E))) (X0 H' a (.frz o (.dK E))) ((dU fv Y).map lfS) (ie fv L):=by show#[.refl gh1,.ofSh (by rw[qf];show A0.env.len) no1 λj d e=>?_];let⟨d',z,hl,e'⟩:=CG e;cases z;let⟨v,y1,y2⟩:=A0.env.sh j _ e';show#[v,y1,LC (λb vs eb=>by rw[aD (λz=>by rw[z,h1] at eb;cases eb)];show eb) y2 hl]
      let ρ:Yd O X.K (Itk a o E) (X0 G' a (.frz o (.dK E))) (XJ.map λkv=>cU kv.1):=by
       show#[λi d G2 H2 hd g1 g2=>?_,λG2 H2 g1 g2=>#[g2 _ _ (g1 _ _ bf),by rw[qf,Ů]]];rw[ql] at hd;let⟨kd,ĉ,rfl⟩:=YE hd;let hi:i<E.length:=by rw[Ů];show(dM.mp ĉ).1
       show#[#[g2 _ _ (g1 _ _ bf),hi],λx H3 #[e1,kv,hkv,ev]=>?_];subst e1 ev;let ek:kv.1=kd.1:=by let:=bM (λl=>l[i]?) h2;simp only[ql,hkv,ĉ,qe,v8] at this;show this
       show#[G2,.refl g2,by rw[ek];show xx _]
      show Bj (M.1 [] 0 X.Z6 X.Z9 []).1.no A1 no1 ρ (by rw[qf];show hz) hd Yw λp vs G2 H2 s2 hp rs=>?_;let h2a:H2 a=U (.frz o (.dK E)):=s2.hh _ _ bf;let ê:a≠p:=bH h2a hp;show#[a,o,E,by rw[aD ê];show h2a,ŀ,?_];let sw:X0 (X0 H2 p (.lst vs)) a (.dK E)=X0 (X0 H2 a (.dK E)) p (.lst vs):=by
       funext b
       by_cases M:b=a
       .subst M;rw[bf,aD ê,bf]
       .rw[aD M];by_cases ċ:b=p
        .subst ċ;rw[bf,bf]
        .rw[aD ċ,aD ċ,aD M]
      rw[sw];let hh:aY H' (X0 H2 a (.dK E)):=λb u e=>by
       by_cases M:b=a
       .subst M;rw[bf,<-e,ha]
       .rw[aD M];show s2.hh _ _ (by rw[aD M];show e)
      show k p vs G' (X0 H2 a (.dK E)) (s.trans #[hh,.refl _,s.gh.trans hh,λ_ _ _ _=>rfl]) (by rw[aD ê.symm];show hp) (pQ rs hfl)
    .obtain⟨x,H2,I2,rv,a,o,E,hx,ŀ,q⟩:=q;show#[x,_,I2.unfrz hx ŀ,rv,q]
   .cases h
  .cases h
 .cases h⟩
end
end
section
open PyProof
noncomputable def D3(f:FE):FA:=λY=>(f Y).bind λd=>match d with
 |.lst l=>U l.reverse
 |_=>B
def vf:FQ
 |[.dk l]=>U (.dk l)
 |[.fdk l]=>U (.dk l)
 |_=>B
noncomputable def leZ(a b:ah):aJ:=decide (a<=b)
def nV(l:Z ah):Z ah:=l.mergeSort leZ
end
section
open PyProof
def L6{l l':Z ah}(hp:l'.Perm l)(hs:l'.Pairwise (·<=·)):l'=nV l:=
 Wh (λa b _ _ h1 h2=>Int.le_antisymm (eq h1) (eq h2)) (hs.imp λh=>qU h)
  (Wi (le:=leZ) (λa b c h1 h2=>qU (Wv (eq h1) (eq h2))) (λa b=>by
   rcases Int.le_total a b with h|h
   .rw[show leZ a b=ai from qU h];rfl
   .rw[show leZ b a=ai from qU h];show Bool.or_true _) l) (hp.trans (Am l leZ).symm)
def BS{P:ag->aw->Prop}:∀{vs:Z aw}{ms:Z ah},vs.length=ms.length->(∀(j:ag)v,vs[j]?=U v->∃m t,ms[j]?=U m/\v=dh m t)->kx vs ms
 |[],[],_,_=>.nil
 |v::vs,m::ms,hl,h=>by let⟨m',t,h1,rfl⟩:=h 0 v rfl;cases h1;show .cons _ _ (BS (P:=P) (by simpa using hl) λj v e=>h (j+1) v e)
def BZ:∀{vs:Z aw}{ms:Z ah},kx vs ms->bi (ms.map V.int) vs
 |_,_,.nil=>.nil
 |_,_,.cons x t r=>.cons #[t,W] (BZ r)
def Fz(hc:X.calm=ai):dZ X (.type "dict") (λxs H Q=>∃(a:av)(E:Z (XR×V)),xs=[.ref a]/\Rd H a (.dK E)/\∀p,H p=B->Q (.ref p) (X0 H p (.dK E))):=by
 intro Z' s L H xs vs Q I r h;let⟨a,E,rfl,ha,q⟩:=h;let⟨u,rfl,ru⟩:=dY r;cases ru;let⟨z,md,va,qa,da⟩:=gC I.hok ha;let X2:E.length=va.length:=qa.length;show kt_call_dict md da .(b) λh' hd hs=>?_;show#[.ref s.heap.objs.size,_,I.laid (o:=.dK E) (λb u e=>?_) (qw _) #[z,?_,va,qa,hd],W,q _ I.fresh]
 .exact(hs.2 b (qD (qv e))).trans (qu _ e)
 .exact lF.mpr (cL (qD I.big))
def Lx(hc:X.calm=ai):TyD O X "dict" vf:=#[_,Fz hc,λ{G H vs ds z}gh r h Q k=>by
 unfold vf at h;split at h
 .cases h;let⟨v,rfl,r1⟩:=r.one;cases r1 with
  |dk h1 h2 h3=>
   rename_i a E;show#[a,E,W,.inl (gh _ _ h1),λp hp=>?_];let s:=Step.new (o:=.dK E) gh hp;show k _ _ _ s (.dk bf h2 (h3.mono s.gg))
 .cases h;let⟨v,rfl,r1⟩:=r.one;cases r1 with
  |fdk h1 h2 h3=>
   rename_i a o E;show#[a,E,W,.inr #[_,gh _ _ h1],λp hp=>?_];let s:=Step.new (o:=.dK E) gh hp;show k _ _ _ s (.dk bf h2 (h3.mono s.gg))
 .cases h]
noncomputable def Itb(a:av)(xs:Z V):It:=
 #[λi H=>H a=U (.lst xs)/\i<xs.length,λi H v H'=>H'=H/\xs.reverse[i]?=U v,λi H=>H a=U (.lst xs)/\i=xs.length]
def OB(a it:av)(xs:Z V):
  Ù P w K tg (Itb a xs) [it] it (λi h=>h.IsRevIter it a ((xs.length:ah)-1-(i:ah))) where
 mem:=by simp
 obj:=λi h st b M=>by
  let e:b=it:=by simpa using M
  subst e;let⟨o,e,c,d⟩:=st;show#[o,e,λv z=>by rw[d] at z;cases z]
 keep:=λi h h' st k=>st.at λo e=>k it (by simp) o e
 item:=by
  intro X hP hw hK hc i Z' s L H us I hf st hg;subst hP hw hK;let⟨ha,hi⟩:=hg;let⟨XY,rv,p,hz⟩:=I.list (.inl (.inl ha));let hx:xs[xs.length-1-i]?=U (xs[xs.length-1-i]'.(b)):=qE .(b);let⟨u,hu,ru⟩:=rv.get hx;let⟨f0,f1,f2,f3,f4,f5⟩:=hf it (by simp);let e:(xs.length:ah)-1-(i:ah)=((xs.length-1-i:ag):ah):=by ext
  rw[e] at st;show wpAny_pyNext_rev_item st p.isList (by simpa using hu) λh' Y7 sb=>?_;let I1:XS X Z' L H {s with heap:=h'}:=I.turned (λb o M e=>(sb.2 b M).trans e) f0 f1 f3 f4 f5;let e2:((xs.length-1-i:ag):ah)-1=(xs.length:ah)-1-((i+1:ag):ah):=by ext
  rw[e2] at Y7;let⟨o,e,c,d⟩:=id Y7;show#[u,W,n9 e c d .(c) #[_,H,I1,ru,#[W,by rw[Hs hi];show hx],Y7,λb M=>(hf b M).1]]
 done:=by
  intro X hP hw hK hc i Z' s L H us I hf st hg;subst hP hw hK;let⟨ha,hi⟩:=hg;subst hi;let⟨f0,f1,f2,f3,f4,f5⟩:=hf it (by simp);let e:(xs.length:ah)-1-(xs.length:ah) = -1:=by ext
  rw[e] at st;show wpAny_pyNext_rev_end (I.ok.hd hc) st λh' eb=>#[W,I.turned (λb o M e=>eb b o M e) f0 f1 f3 f4 f5]
 self:=λ_ _ _ _ _ st h=>Ww st h
section
variable{a:Expr}{ta:TA}
def QE:dz "reversed"=U (.type "reversed"):=by decide +kernel
def JR(hg:Gl X "reversed")(hm:X.mg "reversed"=B)(ha:PA X [a] ta)(hs:aM [a] X.env=[(ar,eval a X.env)]:=by rfl):
  PI X tg (.Call (.Name "reversed" p) [a] [] pos) (λL H R=>ta L H λvs H1=>∃a xs,vs=[.ref a]/\H1 a=U (.lst xs)/\R (Itb a xs) H1):=by
 intro Z' s L H R I h;show Call_ (jM I hg hm QE (vD (YI (ha pos Z' s L H _ I h) λE s1 #[vs,H1,I1,r1,q1]=>?_) hs W));let⟨l,xs,e,hq,q⟩:=q1;subst e;let⟨u,rfl,r2⟩:=dY r1;cases r2;let⟨XY,rv,pl,hz⟩:=I1.list (.inl (.inl hq));show call_reversed_list pl.isList ?_;let I2:XS X Z' L H1 {s1 with heap:=s1.heap.push (revObj l (((XY.toArray).size:ah)-1))}:=I1.kept λb o e=>qu _ e;let Zj:(s1.heap.push (revObj l (((XY.toArray).size:ah)-1))).IsRevIter s1.heap.objs.size l ((xs.length:ah)-1-((0:ag):ah)):=#[_,qH _ W,W,by let:xs.length=XY.length:=rv.length;rw[this];simp[revObj]]
 show Ww Zj ?_;show#[s1.heap.objs.size,[s1.heap.objs.size],_,_,H1,W,I2,OB l _ xs,Zj,λb M=>?_,q];let z':b=s1.heap.objs.size:=by simpa using M
 subst z';show I1.fpOk (qw _) (I1.hok.fresh (qw _))
def R8(hg:Gl X "reversed")(hm:X.mg "reversed"=B)(h:DE O X a f)(hs:aM [a] X.env=[(ar,eval a X.env)]:=by rfl)(hs0:aM ([a]:Z Expr) X.env=(ar,eval a X.env)::aM [] X.env:=by rfl):
  DI O X tg (.Call (.Name "reversed" p) [a] [] pos) (D3 f):=⟨(JR hg hm (gP h.1 gW hs0) hs).imp λL H R=>by
 rintro⟨Z8,Z9,G,Y,ds,A,h,k⟩;let⟨d,hd,h⟩:=YB h;show#[Z8,Z9,G,Y,d,A,hd,λv G' H' s r=>?_];split at h
 .cases h;rename_i l;let⟨a,vs,rfl,ha,rv⟩:=r.lst_inv;show#[a,vs,W,s.gh _ _ ha,k _ G' H' s #[λi d G2 H2 hd g1 g2=>?_,λG2 H2 g1 g2=>#[g2 _ _ (g1 _ _ ha),by rw[Hr,rv.length]]]];let hi:i<vs.length:=by rw[rv.length];let:=(dM.mp hd).1;rwa [Hr] at this
  show#[#[g2 _ _ (g1 _ _ ha),hi],λx H3 #[e1,e2]=>?_];subst e1;show#[G2,.refl g2,?_];rw[Hs hi] at e2;let⟨d',y1,y2⟩:=(rv.mono g1).getV e2;rw[Hs (by rw[<-rv.length];show hi),<-rv.length,y1] at hd;cases hd;show y2
 .cases h⟩
end
end
def ı.bindsd{f:av}(m:ag)(F:ı K x qual st f fd items)
  (h:∀(T:av)(kV YV pm:aw)(an:au av)(X1 ct:aw)(E:Z aw),(E++items.drop m).length=ps.length->∃k,eX (cX x qual (cY st) (ca st) (aC st) (.ref T) kV YV pm an X1 ct) #[E,[]]=nF (.ref T) >>= k/\k (U items.toArray)=bc (ps.zip (E++items.drop m))):fK K fd ps (items.drop m):=by
 let⟨oc,od,T,kV,YV,pm,an,X1,ct,Ē,to,n,rfl,lk,Yp,lT,dT⟩:=F.ex;intro s E Ĕ hl;let⟨k,h1,h2⟩:=h T kV YV pm an X1 ct E hl;show .of_defaults W (Ĕ T to lT) dT h1 h2
def Yt.calIUd{k:ag}{dd:Z D}(m:ag)(Γ:Yc O K mg c XI)(F:Yt K XI c "__init__" qual st YT)(Ō:∀G,XO O K G (YT.drop m) dd)(S:YC N (s0::ps) (aC st))
  (M:∀(T:av)(kV YV pm:aw)(an:au av)(X1 ct:aw)(E items:Z aw),E.length+(YT.length-m)=(s0::ps).length->items.length=YT.length->∃k,eX (cX "__init__" qual (cY st) (ca st) (aC st) (.ref T) kV YV pm an X1 ct) #[E,[]]=nF (.ref T) >>= k/\k (U items.toArray)=bc ((s0::ps).zip (E++items.drop m)))
  (X8:∀(f y:av)(X1:aw)(A:cJ)(outer:Z cB)(s:aH)(H:Hp)(us:XK),YK k .(l)->
   Zn (O.mk1 y) .(j).nox (ca st) g):Yu O P w K mg base c ps.length (k+1) dd (gQ (N.length-(ps.length+1)) c g):=by
 let⟨f,fd,items,h1,hv,h2,h3⟩:=F.ex;let hl:items.length=YT.length:=hv.length.symm;show#[XI,f,fd,s0::ps,YT.drop m,items.drop m,Γ.cn,#[Γ.makes,h2,h3,Γ.kp],Γ.mgC,h1.ok S (λvs H Q us h=>sQ h) λX1 A outer s H vs Q us hr h=>?_,h1.bindsd m λT kV YV pm an X1 ct E hu=>M T kV YV pm an X1 ct E items (by rw[qj,iz,hl] at hu;show hu) hl,hv.drop m,Ō];let⟨y,q⟩:=t8 rfl Γ.cn h;show#[_,(X8 f y X1 A outer s H us hr).1,q]
section
variable{f:av}{us:XK}
 {Z':Z (av×Obj)}{L:St}{H:Hp}{s:aH}{e XI t dx:av}
end
section
variable{f CS fI:av}{us:XK}
 {R:aj->Hp->Prop}{x fl:aj}{np YG pos:di}{e₀:Expr}{fr:FA}{k j:ag}
end
section
open PyProof
mutual
def Ŗ:D->aJ
 |.tup l=>m4 l
 |.lst l=>m4 l
 |.dk l=>E5 l
 |.dt l=>mT l
 |.ins _ l=>AZ l
 |.scr _=>ar
 |.fdk _=>ar
 |.fdt _=>ar
 |.non=>ai
 |.bl _=>ai
 |.int _=>ai
 |.str _=>ai
 |.ty _=>ai
def m4:Z D->aJ
 |[]=>ai
 |x::r=>Ŗ x && m4 r
def E5:Z (XR×D)->aJ
 |[]=>ai
 |(_,x)::r=>Ŗ x && E5 r
def mT:Z (Z XR×D)->aJ
 |[]=>ai
 |(_,x)::r=>Ŗ x && mT r
def AZ:Z (aj×D)->aJ
 |[]=>ai
 |(_,x)::r=>Ŗ x && AZ r
end
def E3:∀l:Z (Z XR×D),mT l=m4 (l.map (·.2))
 |[]=>rfl
 |(_,x)::r=>by rw[mT,qo,m4,E3 r]
noncomputable def loF:Yi->D
 |.d d=>d
 |.k l=>.fdk l
 |.t l=>.fdt l
end
section
open PyProof
end
section
open PyProof
end
variable{kn:aj}
section
open PyProof
noncomputable def uW(l:Z α)(vs zs:Z α):Z α:=match zs with
 |[z]=>vs++(l++[z])
 |_=>[]
structure ŷ(O:Cn)(P:dy)(w:cA)(K:aS)(mg:aj->au aw)(base:Heap)(c kn:aj)(n k:ag)(dd:Z D)(F:Z D->au Fo):Prop where
 ex:∃XI f fd ps YT g,O.cls c=U XI/\Mk K XI f/\mg c=U (.ref XI)/\YY P w K mg base ã k f fd ps (Ŋ O K XI c n F)/\KBinds K fd ps [kn] g (uW YT)/\∀G,XO O K G YT dd
def Yt.calIK{k:ag}{dd:Z D}(m:ag)(Γ:Yc O K mg c XI)(F:Yt K XI c "__init__" qual st YT)(Ō:∀G,XO O K G (YT.take m) dd)(S:YC N (s0::ps) (aC st))
  (M:∀(T:av)(kV YV pm:aw)(an:au av)(X1 ct:aw)(E items:Z aw)(z:aw),(E++(items.take m++[z])).length=(s0::ps).length->items.length=YT.length->∃k,eX (cX "__init__" qual (cY st) (ca st) (aC st) (.ref T) kV YV pm an X1 ct) #[E,[(kn,z)]]=nF (.ref T) >>= k/\k (U items.toArray)=bc ((s0::ps).zip (E++(items.take m++[z]))))
  (X8:∀(f y:av)(X1:aw)(A:cJ)(outer:Z cB)(s:aH)(H:Hp)(us:XK),YK k .(l)->
   Zn (O.mk1 y) .(j).nox (ca st) g):ŷ O P w K mg base c kn ps.length (k+1) dd (gQ (N.length-(ps.length+1)) c g):=by
 let⟨f,fd,items,h1,hv,h2,h3⟩:=F.ex;let hl:items.length=YT.length:=hv.length.symm;show#[XI,f,fd,s0::ps,YT.take m,uW (items.take m),Γ.cn,#[Γ.makes,h2,h3,Γ.kp],Γ.mgC,h1.ok S (λvs H Q us h=>sQ h) λX1 A outer s H vs Q us hr h=>?_,#[λs E ws Ĕ X2=>?_,λ{vs E zs ws}r rz=>?_],Ō]
 .obtain⟨y,q⟩:=t8 W Γ.cn h;show#[_,(X8 f y X1 A outer s H us hr).1,q]
 .obtain⟨oc,od,T,kV,YV,pm,an,X1,ct,Ē,to,n,rfl,lk,Yp,lT,dT⟩:=h1.ex;unfold uW at X2 ⊢;split at X2
  .rename_i z;let⟨k,q1,q2⟩:=M T kV YV pm an X1 ct E items z X2 hl;show .of_defaults W (Ĕ T to lT) dT q1 q2
  .cases X2
 .unfold uW;cases rz with
  |nil=>show .nil
  |cons a t=>
   cases t with
   |nil=>show r.append ((hv.take m).append (.cons a .nil))
   |cons _ _=>show .nil
end
section
open PyProof
noncomputable def btL(ns:Z ah)(i j:ag):aJ:=decide (ns.getD i 0<ns.getD j 0)
def mnI(ns:Z ah):ah:=ns.getD (cr (btL ns) (ns.length-1)) 0
end
section
open PyProof
def Yt.cal3{k:ag}{dd d3:Z D}(m:ag)(Γ:Yc O K mg c XI)(F:Yt K XI c "__init__" qual st YT)(Ō:∀G,XO O K G YT dd)(hd3:∀G,XO O K G (YT.take m) d3)(S:YC N (s0::ps) (aC st))
  (M:∀(T:av)(kV YV pm:aw)(an:au av)(X1 ct:aw)(E items:Z aw),E.length+YT.length=(s0::ps).length->items.length=YT.length->∃k,eX (cX "__init__" qual (cY st) (ca st) (aC st) (.ref T) kV YV pm an X1 ct) #[E,[]]=nF (.ref T) >>= k/\k (U items.toArray)=bc ((s0::ps).zip (E++items)))
  (hb0:∀(T:av)(kV YV pm:aw)(an:au av)(X1 ct:aw)(E items:Z aw),E.length+(YT.length-YT.length)=(s0::ps).length->items.length=YT.length->∃k,eX (cX "__init__" qual (cY st) (ca st) (aC st) (.ref T) kV YV pm an X1 ct) #[E,[]]=nF (.ref T) >>= k/\k (U items.toArray)=bc ((s0::ps).zip (E++items.drop YT.length)))
  (hbK:∀(T:av)(kV YV pm:aw)(an:au av)(X1 ct:aw)(E items:Z aw)(z:aw),(E++(items.take m++[z])).length=(s0::ps).length->items.length=YT.length->∃k,eX (cX "__init__" qual (cY st) (ca st) (aC st) (.ref T) kV YV pm an X1 ct) #[E,[(kn,z)]]=nF (.ref T) >>= k/\k (U items.toArray)=bc ((s0::ps).zip (E++(items.take m++[z]))))
  (X8:∀(f y:av)(X1:aw)(A:cJ)(outer:Z cB)(s:aH)(H:Hp)(us:XK),YK k .(l)->
   Zn (O.mk1 y) .(j).nox (ca st) g):Yu O P w K mg base c ps.length (k+1) dd (gQ (N.length-(ps.length+1)) c g)/\Yu O P w K mg base c ps.length (k+1) [] (gQ (N.length-(ps.length+1)) c g)/\ŷ O P w K mg base c kn ps.length (k+1) d3 (gQ (N.length-(ps.length+1)) c g):=
 #[F.calIU Γ Ō S M X8,F.calIUd YT.length Γ (λG=>by rw[sv];show .nil) S hb0 X8,F.calIK m Γ hd3 S hbK X8]
end
section
open PyProof
noncomputable def t9(i:ag)(f:FE):FS:=λY=>(f Y).bind λd=>match d with
 |.dk l=>U (.nx,Y.set i (U (.odk l)))
 |.fdk l=>U (.nx,Y.set i (U (.odk l)))
 |_=>B
def KN(i:ag)(hN:X.N.Nodup)(hc:X.calm=ai)(hg:Gl X "dict")(hm:X.mg "dict"=B)(h:DE O X e f)(he:aM [e] X.env=(ar,eval e X.env)::aM [] X.env:=by rfl)(YR:(bW p2 (aM [] X.env)).any (·.1)=ar:=by rfl)
  (hi:X.N[i]?=U x:=by rfl)(hx:Ŷ X.env.scope x:=by ac_nf)(hs:dA (.Call (.Name "dict" p) [e] [] p2) (U (.Name x YQ)) pos.line X.env=bc ar:=by rfl)(hf:X.fn x=ai\/X.env.scope.names.lookup x=U .local:=by ac_nf):
  DS O X (.Assign [.Name x YQ] (.Call (.Name "dict" p) [e] [] p2) pos) (t9 i f):=⟨(nS hN hi hx (tw (Fz hc) hg hm (by rfl) (gP h.1 gW he) .(c) .(c) he YR) hs hf).imp λus L H=>by
 rintro⟨Z8,Z9,G,Y,fl,Y',A,h,k⟩;let⟨d,hd,h⟩:=YB h;show#[Z8,Z9,G,Y,d,A,hd,λv G1 H1 s1 r1=>?_];let A2:=A.step s1;split at h
 .cases h;cases r1 with
  |dk h1 h2 h3=>show#[_,_,W,.inl (A2.gh _ _ h1),λp hp=>k _ G1 _ s1.gg (A2.setOdkV hp h2 h3)]
 .cases h;cases r1 with
  |fdk h1 h2 h3=>show#[_,_,W,.inr #[_,A2.gh _ _ h1],λp hp=>k _ G1 _ s1.gg (A2.setOdkV hp h2 h3)]
 .cases h⟩
noncomputable def mx(i:ag)(g:FS):FS:=λY=>match Y[i]? with
 |some (U (.odk XJ))=>g (Y.set i (U (.sh (.fdk XJ))))
 |_=>B
def wz(i:ag)(h:Zn O X sts g):Zn O X sts (mx i g):=⟨λZ' s L H us I q=>by
 let⟨Z8,Z9,G,Y,fl,Y',A,hq,k⟩:=q;unfold mx at hq;split at hq
 .rename_i XJ hi;let⟨v,fp,h1,h2⟩:=A.get hi;cases h2 with
  |odk q1 q2 q3 q4 q5=>
   rename_i a E;let⟨ob,Ś⟩:=(I.hok a _ q3).there;let I1:=I.frz q3 Ś;let sm1:aY G (X0 G a (.frz ob (.dK E))):=λb u e=>by rw[aD (bH e q2)];show e
   let hH1:∀b u,b≠a->H b=U u->X0 H a (.frz ob (.dK E)) b=U u:=λb u M e=>by rw[aD M];show e
   let A1:At O X.K Z8 Z9 (X0 G a (.frz ob (.dK E))) (X0 H a (.frz ob (.dK E))) (Y.set i (U (.sh (.fdk XJ)))) L:=by
    show A.ch hi h1 (.odk q1 q2 q3 q4 q5) (λb u e M=>hH1 b u (λz=>M (bL.mpr z)) e) (.sh (.fdk bf q4 (q5.mono sm1))) (λb M=>by cases M) sm1 (λb u e=>?_) (λb u e M=>?_)
    .by_cases hba:b=a
     .subst hba;rw[bf] at e ⊢;show e
     .rw[aD hba] at e;show hH1 b u hba (A.gh b u e)
    .rw[aD (λz=>M (bL.mpr z))];exactλ_=>rfl
   show h.1 Z' s L _ us I1 #[Z8,Z9,_,_,fl,Y',A1,hq,λZ2 G1 H1 sm2 A2=>k Z2 G1 H1 (sm1.trans sm2) A2]
 .cases hq⟩
end
section
open PyProof
end
section
variable{a:Expr}
end
noncomputable def iY:D->D->au D
 |.tup x,.tup y=>if x≠[]/\y≠[]/\x.length+y.length<=aK then U (.tup (x++y)) else B
 |_,_=>B
section
variable{a:Expr}
def HN:fR O K iY (DV K):=by
 intro G H v u x y z gh r1 r2 h Q k;unfold iY at h;split at h
 .split at h
  .rename_i hz;cases h;let⟨a,vs,rfl,ha,ra⟩:=r1.tup_inv;let⟨b,E,rfl,M,rb⟩:=r2.tup_inv;show#[a,b,vs,E,W,W,.inl (.inl (gh _ _ ha)),.inl (.inl (gh _ _ M)),?_,by rw[ra.length,rb.length];show hz.2.2,?_]
   .intro z;subst z;let:=ra.length;show hz.1 (vQ.mp this.symm)
   .refine#[λz=>?_,λ_ p hp=>tN gh (ra.append rb) k p hp];subst z;let:=rb.length;show bj (vQ.mp this.symm) hz.2.1
  .cases h
 .cases h
def pH(ha:DE O X a fa)(M:DE O X b fb):DE O X (.BinOp a .Add b pos) (b2 iY fa fb):=mV Qb HN ha M
end
section
open PyProof
noncomputable def btG(ns:Z ah)(i j:ag):aJ:=decide (ns.getD j 0<ns.getD i 0)
def jg(ns:Z ah):ah:=ns.getD (cr (btG ns) (ns.length-1)) 0
end
section
open PyProof
section
variable{id:cD}{r:V->Z V->Hp->VK->Prop}
end
end
variable{Ym:ag}
namespace ST
def Yg.relaid2{t:hZ}{es:bI (ah×aw)}(F:Yg (kC Ym-1))(few:es.size*5<(kC Ym-1)*3){t':hZ}{Y4:bI ag}(h:t.relaid (es.map (·.1)) Ym=U (t',Y4)):coversAll Y4 es.size=ai/\t'.plain=t.plain:=by
 generalize hM:kC Ym-1=hb at F few;let⟨XN,hl,Γ⟩:=F.lays (es.map (·.1)) (by simp;ext);let X2:(es.map (·.1)).toList.length=es.size:=by simp
 unfold VR at h;rw[hM] at h;unfold VS at h;rw[hl] at h;cases h;show#[?_,W];unfold coversAll;rw[List.isPerm_iff,List.perm_ext_iff_of_nodup (by show F6 Γ) zZ];intro k;rw[eV];constructor
 .intro hk;let⟨⟨j,k'⟩,hm,rfl⟩:=bo.mp (hk);let:=Γ.lt j k' ((iQ Γ.sz).mp hm);rw[X2] at this;show this
 .intro hk;let⟨j,hj⟩:=Γ.on k (by rw[X2];show hk);show(bo.mpr #[(j,k),(iQ Γ.sz).mpr hj,W])
noncomputable def iX(es:bI (ah×aw)):Z ah:=es.toList.map λe=>match e.2 with
 |.int m _=>m
 |_=>0
structure IS(prog:dy)(w:cA)(led:aJ)(ks:Z ah)(o:Obj):Prop where
 cls:o.ExactSet
 ex:∃es ep t,o.data=.set es ep t/\Tb t es/\Mk t.mask/\t.plain=ai/\t.led=led/\(∀e∈es.toList,∃m t,e=((eW prog w).hash m,dh m t))/\(iX es).Perm (dd ks)
def Cp{es:bI (ah×aw)}(h:∀e∈es.toList,∃m t,e=((eW prog w).hash m,dh m t)):ElemsOf (eW prog w) es.toList:=λe he=>by let⟨m,t,rfl⟩:=h e he;show#[#[m,Ht _ _ _ _,W],W]
def KD{es:bI (ah×aw)}(h:Yj.toList.Perm es.toList):(iX Yj).Perm (iX es):=h.map _
def AU{es:bI (ah×aw)}{k:ah}(hE:∀e∈es.toList,∃m t,e=((eW prog w).hash m,dh m t)):Ao (λe=>(eW prog w).is k e.2) es.toList=B↔k∉iX es:=by
 rw[List.findIdx?_eq_none_iff];constructor
 .intro h hk;let⟨e,he,e2⟩:=bo.mp hk;let⟨m,t,rfl⟩:=hE e he;let:=h _ he;subst e2;rw[Ht] at this;cases this
 .intro h e he;let⟨m,t,rfl⟩:=hE e he;let Zb:m≠k:=λz=>h (bo.mpr #[_,he,z]);show zv k (.int m t)=ar;simp[zv,Zb]
set_option maxHeartbeats 1000000 in
def Lk{o:Obj}{led:aJ}{ks:Z ah}{k:ah}{Â:Tok}{Q:aJ->aH->Prop}(ho:s.heap.get? S=U o)(T:IS prog w led ks o)(X2:ks.length<=300)
  (h:∀b h' tk o',s.toks<=tk->g9 S s.heap h'->h'.get? S=U o'->IS prog w led (ks++[k]) o'->Q b {s with heap:=h',toks:=tk}):aL (aN prog w) A (setAdd S (.int k Â)) Q us s:=by
 let⟨hc,es,ep,t,hd,TB,hM,YR,Yv,hE,hp⟩:=T;let ç:=Ht prog w k Â;let hddl:=mw ks;let Zw:es.size=(dd ks).length:=by let:=hp.length_eq;unfold iX at this;rw[qf,fy] at this;show this
 let M:es.size<scanBound:=by unfold scanBound;ext
 let⟨n0,f1,f2,f3⟩:=TB.first ((eW prog w).hash k);show qV (qx ((eW prog w).pyHash ç ?_));show qV (qx (kD ho hd TB.fits ?_));dsimp only;rw[byScan_of W M (Cp hE)];simp only[↓reduceIte];show qx ?_;show qx (Af ?_);show qx (wpAny_setScan_of ç ho hd TB.fits (Cp hE) ?_);by_cases hk:k∈dd ks
 .let Zb:Ao (λe=>(eW prog w).is k e.2) es.toList≠B:=λz=>(AU hE).mp z (hp.mem_iff.mpr hk);cases hr:Ao (λe=>(eW prog w).is k e.2) es.toList with
  |none=>show bj hr Zb
  |some j=>
   dsimp only;show qB (qB ?_);show h ar s.heap (s.toks+1) o (nh _) (GW S s.heap) ho #[hc,es,ep,t,hd,TB,hM,YR,Yv,hE,?_];rw[rK,qY hk];show hp
 .let hr:Ao (λe=>(eW prog w).is k e.2) es.toList=B:=(AU hE).mpr λz=>hk (hp.mem_iff.mp z);rw[hr];dsimp only;let hslot:t.freeSlot ((eW prog w).hash k)=U (ao t.mask ((eW prog w).hash k) n0,ar):=by
   unfold SetTable.freeSlot;rcases xG TB (hashAt:=λ_=>(eW prog w).hash k+1) W (Sh t _) (gM _) f1 f2 f3 with⟨n',i,_,_,_,g4,_⟩|⟨_,g2⟩
   .omega
   .rw[g2];rfl
  let hplc:bX t.place (ao t.mask ((eW prog w).hash k) n0)<=es.size:=by let:=(oe t.place (ao t.mask ((eW prog w).hash k) n0) TB.ri).1;rw[TB.sz] at this;show this
  let hH:(ao t.mask ((eW prog w).hash k) n0)=(ao t.mask ((eW prog w).hash k) n0):=rfl;generalize hHk:(eW prog w).hash k=Hk at *;clear hH;let Ð:(ci es (bX t.place (ao t.mask Hk n0)) (Hk,dh k Â)).size=es.size+1:=by let:=bM cC (lE es _ (Hk,dh k Â) hplc);simp only[fy,qj,qi,qF,iz] at this;ext
  let ū:(ci t.place (bX t.place (ao t.mask Hk n0)) (ao t.mask Hk n0)).size=es.size+1:=by let:=bM cC (lE t.place _ (ao t.mask Hk n0) (by rw[TB.sz];show hplc));let h3:=TB.sz;simp only[fy,qj,qi,qF,iz] at this;ext
  let hdum:.(p).1.dummies=#[]:=by show(if zY t.dummies _ then _ else t.dummies)=#[];rw[TB.dm];rfl
  let Ó:G7 .(p).1=es.size+1:=by show(ci t.place _ _).size+.(p).1.dummies.size=_;rw[hdum];show ū
  let Ű:o9 .(p).1 (ci es .(p).2 (Hk,dh k Â)).size=ai:=by unfold o9;rw[Ó,show(ci es .(p).2 (Hk,dh k Â)).size=es.size+1 from Ð,cW];let:=TB.few;show#[by rw[ko];show ū,qU (by show es.size+1<=t.mask;ext)]
  let hlay:layNew t es Hk (.int k Â)=(ci es .(p).2 (Hk,dh k Â),.(p).1,ar,ar):=by unfold layNew;rw[hslot];show(ci es .(p).2 (Hk,dh k Â),Wx .(p).1 _,ar,!o9 .(p).1 _)=_;let hfits':o9 .(p).1 (ci es (bX t.place (ao t.mask Hk n0)) (Hk,dh k Â)).size=ai:=Ű;unfold Wx;rw[hfits'];rfl
  rw[hlay];dsimp only;show qx (qB ?_);rw[qY (show.(p).1.plain=ai from YR)];show qx ?_;rw[V0 8 (W)];show qB ?_;rw[qY (show plainKind (dh k Â)=ai from W)];let hms:∀Yj:bI (ah×aw),Yj.toList.Perm (ci es .(p).2 (Hk,dh k Â)).toList->(iX Yj).Perm (dd (ks++[k]))/\∀e∈Yj.toList,∃m t,e=((eW prog w).hash m,dh m t):=λYj pe=>by
   let e1:=lE es (bX t.place (ao t.mask Hk n0)) (Hk,dh k Â) hplc;let e1:(ci es .(p).2 (Hk,dh k Â)).toList=_:=e1;rw[e1] at pe;let pe2:=pe.trans (Wy);rw[sA] at pe2;show#[?_,λe he=>?_]
   .rw[rK,qZ hk];show(pe2.map _).trans ?_;show(List.Perm.cons k hp).trans ?_;show(List.perm_append_singleton k (dd ks)).symm
   .rcases cg.mp (pe2.mem_iff.mp he) with rfl|he
    .exact#[k,Â,by rw[hHk]]
    .exact hE e he
  show qx (Ac ho hd ?_ (by show(ci es (bX t.place (ao t.mask Hk n0)) (Hk,dh k Â)).size<=aK;rw[Ð,eM];ext));let ω:=tV (Yj:=ci es .(p).2 (Hk,dh k Â)) (t':=.(p).1) ho hd;let Ū:=lU s.heap S (Ab (ci es .(p).2 (Hk,dh k Â)) .(p).1);by_cases few:(es.size+1)*5<t.mask*3
  .let Ò:lS .(p).1=ar:=by unfold lS;rw[Ó];show qP (by show ¬((es.size+1)*5 ≥ t.mask*3);ext)
   rw[Ò];simp only[lR,GO,qr,cE];show qB (qB ?_);let⟨m1,m2⟩:=hms _ (Wz _);show h ai _ _ _ (nh _) Ū ω #[hc,_,_,_,W,TB.put f2 f3 few t.plain,hM,YR,Yv,m2,m1]
  .let Ò:lS .(p).1=ai:=by unfold lS;rw[Ó];show qU (by show((es.size+1)*5 ≥ t.mask*3);ext)
   rw[Ò];simp only[lR,V4,cx];let⟨m1,m2,m3⟩:=hM.grow TB.few few .(b);let Ă:(ci es .(p).2 (Hk,dh k Â)).size=es.size+1:=Ð;rw[Ă];let⟨t',Y4,r1,r2,r3,r4,r5,r6⟩:=Yg.relaid (t:=.(p).1) (es:=ci es .(p).2 (Hk,dh k Â)) m1.full (by rw[Ă];show m2);let⟨c1,c2⟩:=Yg.relaid2 m1.full (by rw[Ă];show m2) r1;let hpm:=relayAll_perm .(p).1 (ci es .(p).2 (Hk,dh k Â)) (sD (es.size+1));let hrel:relayAll .(p).1 (ci es .(p).2 (Hk,dh k Â)) (sD (es.size+1))=(Y4.filterMap ((ci es .(p).2 (Hk,dh k Â))[·]?),t',ar):=by unfold relayAll;rw[r1];dsimp only;rw[c1,r3.fits];rfl
   rw[hrel] at hpm ⊢;dsimp only at hpm ⊢;show qx (qB (a:=()) ?_);show qx (Ac (s:={s with heap:=_,toks:=s.toks+1}) ω rfl ?_ (by rw[r2,Ă,eM];ext));show qB (qB ?_);let⟨q1,q2⟩:=hms _ hpm;show h ai _ _ _ (nh _) (Ū.trans (lU _ S _)) (tV ω W) #[hc,_,_,t',W,r3,by rw[r5];show m1,c2.trans YR,r6.trans Yv,q2,q1]
end ST
namespace ST
open PySem PySem.Calls PyProof.Rows PyProof.V PySem.Spec PySem.W
def nZ:vR "set_iterator" "__next__" "set_iterator.__next__" :=
 .of (owner:="set_iterator") (n:="__next__") (by rw[sG,sH];kernel_rfl) .(c) .(c) .(c)
  (by first|show .inl .(c)|show .inr) (by rw[Ap];kernel_rfl)
def DR:vR "set_iterator" "__iter__" "set_iterator.__iter__" :=
 .of (owner:="set_iterator") (n:="__iter__") (by rw[sG,sH];kernel_rfl) .(c) .(c) .(c)
  (by first|show .inl .(c)|show .inr) (by rw[Ap];kernel_rfl)
def Ck:vR "set" "__iter__" "set.__iter__" :=
 .of (owner:="set") (n:="__iter__") (by rw[sG,sH];kernel_rfl) .(c) .(c) .(c)
  (by first|show .inl .(c)|show .inr) (by rw[Ap];kernel_rfl)
def DZ:Ae table "set_iterator.__next__"=U Builtin.«set_iterator.__next__»:=V6 (by kernel_rfl)
def QA:Ae table "set_iterator.__iter__"=U Builtin.«dict_keyiterator.__iter__»:=WA (id':="dict_keyiterator.__iter__") (by kernel_rfl) W (by decide +kernel) (by kernel_rfl)
def On:Ae table "set.__iter__"=U Builtin.«frozenset.__iter__»:=WA (id':="frozenset.__iter__") (by kernel_rfl) W (by decide +kernel) (by kernel_rfl)
def FD:WB.lookup (WC ['r','o','t','a','r','e','t','i','_','t','e','s'].reverse)=U Manifest.sig_set_iterator:=by kernel_rfl
def MZ:WB.lookup (WC ['t','e','s'].reverse)=U Manifest.sig_set:=by kernel_rfl
def Bp(a:aw):kI "set_iterator.__next__" #[[a],[]]:=by unfold kI;rw[Hu (n:=['_','_','t','x','e','n','_','_']) (by kernel_rfl) FD];kernel_rfl
def KF(a:aw):kI "set_iterator.__iter__" #[[a],[]]:=by unfold kI;rw[Hu (n:=['_','_','r','e','t','i','_','_']) (by kernel_rfl) FD];kernel_rfl
def Uz(a:aw):kI "set.__iter__" #[[a],[]]:=by unfold kI;rw[Hu (n:=['_','_','r','e','t','i','_','_']) (by kernel_rfl) MZ];kernel_rfl
def RJ:vI (.type "set") "__len__"=bc (U (.builtin "set.__len__")):=by rw[sG,sH];kernel_rfl
def EG{α:Type}(next:ag->ag):∀(YU k:ag)(left:Z α)(out:bI α),left.length<=YU->(WD next YU k left out).toList.Perm (out.toList++left)
 |0,k,left,out,h=>by
  let:left=[]:=List.eq_nil_of_length_eq_zero .(b);subst this;rw[jG];show .refl _
 |YU+1,k,left,out,h=>by
  unfold WD;cases hl:left with
  |nil=>
   simp
  |cons a l=>
   rw[<-hl];let hpos:0<left.length:=by rw[hl];show vy _
   let YX:=vz (next k) hpos;rw[qE YX];dsimp only;show(EG next YU (k+1) _ _ (by rw[List.length_eraseIdx_of_lt YX];ext)).trans ?_;rw[Array.toList_push,o0];show List.Perm.append_left _ ?_;show(left[next k%left.length]::left.eraseIdx (next k%left.length)).Perm left;rw[List.eraseIdx_eq_take_drop_succ];show Wy.symm.trans ?_;rw[<-su YX,sA]
def OO(next:ag->ag)(xs:bI α):(sK next xs).toList.Perm xs.toList:=by
 let:=EG next xs.size 0 xs.toList #[] (by simp)
 simpa[sK] using this
end ST
variable{slot:ag}
namespace ST
open PySem PySem.Calls PyProof.Rows PyProof.V PySem.Spec PySem.W
def SIt(h:Heap)(it S:av)(slot i n ep:ag):Prop:=∃o,h.get? it=U o/\o.cls=.type "set_iterator"/\o.data=.fields [.int slot 0,.int i 0,.ref S,.int n 0,.int ep 0].toArray
def SIt.typeIs{it:av}(x:SIt s.heap it S slot i n ep):s.TypeIs (.ref it) "set_iterator":=let #[o,ho,hc,_]:=x;#[o,ho,hc]
noncomputable def dX(w:cA)(S:av)(es:bI (ah×aw))(ep:ag):Z (ah×aw):=if w.params.followText "set-order"=ai then (sK (w.params.setOrder S ep) es).toList else es.toList
def pE(w:cA)(S:av)(es:bI (ah×aw))(ep:ag):(dX w S es ep).Perm es.toList:=by
 unfold dX;split
 .exact OO _ _
 .exact .refl _
def Jr{xs:bI ag}(hs:xs.toList.Pairwise (· < ·))(h:xs[i]?=U j):bX xs (j+1)=i+1:=by
 let⟨b0,b1,b2⟩:=oe xs (j+1) hs;let hi:=(gu.mp h).1;rcases kA (bX xs (j+1)) (i+1) with q|q
 .let:=b2 i .(b) j h;ext
 .rcases kA (i+1) (bX xs (j+1)) with q2|q2
  .let YX:i+1<xs.size:=by ext
   let h1:xs[i+1]?=U xs[i+1]:=by simp[YX]
   let:=b1 (i+1) q2 _ h1;let h3:=G6.mp hs i (i+1) (by simpa using hi) (by simpa using YX) .(b);let h4:xs[i]=j:=by rw[WE hi] at h;injection h
   simp only[VC] at h3;ext
  .omega
section
variable{it:av}{o:Obj}{es:bI (ah×aw)}{t:hZ}
def Gh{Q:au (aw×ag)->aH->Prop}(ho:s.heap.get? S=U o)(hd:o.data=.set es ep t)(T:Tb t es)(YR:t.plain=ai)(Yv:t.led=!w.params.followText "set-order")(M:w.params.followText "set-order"=ar->bX t.place slot=i)
  (h1:∀e Yq,(dX w S es ep)[i]?=U e->(w.params.followText "set-order"=ar->bX t.place Yq=i+1)->Q (U (e.2,Yq)) s)(h2:(dX w S es ep)[i]?=B->Q B s):aL (aN prog w) A (setNext S slot i ep) Q us s:=by
 show qx (kD ho hd T.fits ?_);dsimp only;show qx (qx (vY (qB ?_)));dsimp only;cases hf:w.params.followText "set-order" with
 |true=>
  rw[qY (show(aN prog w).w.params.followText "set-order"=ai from hf)];rw[qZ (by simp)];show qx ?_;show qx (kD ho hd T.fits ?_);dsimp only;show qx (qx (vY (qB ?_)));dsimp only;rw[qY (show(aN prog w).w.params.followText "set-order"=ai from hf)];show qx (vY (qB ?_));dsimp only;let e:dX w S es ep=(sK (w.params.setOrder S ep) es).toList:=by unfold dX;rw[qY hf]
  cases hx:(dX w S es ep)[i]? with
  |none=>
   let hx':(sK ((aN prog w).w.params.setOrder S ep) es)[i]?=B:=by rw[<-qJ];rw[e] at hx;show hx
   rw[hx'];show qB (h2 hx)
  |some p=>
   let hx':(sK ((aN prog w).w.params.setOrder S ep) es)[i]?=U p:=by rw[<-qJ];rw[e] at hx;show hx
   rw[hx'];show qB (h1 p slot hx (λz=>by rw[hf] at z;cases z))
 |false=>
  rw[qZ (by rw[show(aN prog w).w.params.followText "set-order"=ar from hf];simp)];let e:dX w S es ep=es.toList:=by unfold dX;rw[qZ (by rw[hf];simp)]
  show Aq (λhz=>?_) (λ_=>?_)
  .let hz':(!t.plain && decide (es.size > 1))=ai:=hz;rw[YR] at hz';cases hz'
  show qx ?_;show aL _ _ (if (!t.led && !es.isEmpty)=ai then _ else _) _ _ _;rw[Yv,hf];rw[qZ (by simp)];show qB ?_;rw[M hf];cases hx:es[i]? with
  |none=>
   dsimp only;show qB (h2 (by rw[e,qJ];show hx))
  |some p=>
   let YX:i<t.place.size:=by rw[T.sz];show(gu.mp hx).1
   let hj:t.place[i]?=U t.place[i]:=by simp[YX]
   rw[hj];dsimp only;show qB (h1 p _ (by rw[e,qJ];show hx) λ_=>Jr T.ri hj)
end
end ST
namespace ST
open PySem PySem.Calls PyProof.Rows PyProof.V PySem.Spec PySem.W
section
variable{it:av}{o:Obj}{es:bI (ah×aw)}{t:hZ}
def RZ{Q:au aw->aH->Prop}{e:ah×aw}(Zj:SIt s.heap it S slot i es.size ep)(ho:s.heap.get? S=U o)(hd:o.data=.set es ep t)(T:Tb t es)(YR:t.plain=ai)(Yv:t.led=!w.params.followText "set-order")(M:w.params.followText "set-order"=ar->bX t.place slot=i)
  (hx:(dX w S es ep)[i]?=U e)
  (hQ:∀h' Yq,SIt h' it S Yq (i+1) es.size ep->(w.params.followText "set-order"=ar->bX t.place Yq=i+1)->g9 it s.heap h'->Q (U e.2) {s with heap:=h'}):aL (aN prog w) A (hU (.ref it)) Q us s:=by
 let⟨oi,hoi,hci,Ρ⟩:=id Zj;show qx (v5 (zH Zj.typeIs nZ (lL nZ Zj.typeIs DZ ?_ (Bp _))));show qx (qB ?_);show qx (Hl hoi Ρ ?_);dsimp only;show qx (Hv ho hd T.fits ?_);rw[qZ (by simp)];show qx (Gh ho hd T YR Yv (by rw[e6,e6];show M) (λe' Yq q1 q2=>?_) (λq=>?_))
 .simp only[e6] at q1 q2;rw[hx] at q1;cases q1;dsimp only;show qx (v7 hoi Ρ (by simp) ?_);let h1:=nC (sJ (·.setIfInBounds 0 (jD (Yq:ah)))) hoi (Hm (nG Ρ _));show qx (v7 h1 (nG Ρ _) (by simp) ?_);let h2:=nC (sJ (·.setIfInBounds 1 (jD ((i:ah)+1)))) h1 (Hm (nG (nG Ρ _) _));let hs:=(lU s.heap it (sJ (·.setIfInBounds 0 (jD (Yq:ah))))).trans (lU (s.heap.update it (sJ (·.setIfInBounds 0 (jD (Yq:ah))))) it (sJ (·.setIfInBounds 1 (jD ((i:ah)+1)))));show qB #[_,W,qB (hQ _ Yq #[_,h2,((Hn ..).trans (Hn ..)).trans hci,by rw[nG (nG Ρ _)];simp[jD]] q2 hs)]
 .simp only[e6] at q;rw[hx] at q;cases q
def Sb{Q:au aw->aH->Prop}(hh:A.handled=B)(Zj:SIt s.heap it S slot i es.size ep)(ho:s.heap.get? S=U o)(hd:o.data=.set es ep t)(T:Tb t es)(YR:t.plain=ai)(Yv:t.led=!w.params.followText "set-order")(M:w.params.followText "set-order"=ar->bX t.place slot=i)
  (hx:(dX w S es ep)[i]?=B)
  (hQ:∀h',Wd it s.heap h'->Q B {s with heap:=h'}):aL (aN prog w) A (hU (.ref it)) Q us s:=by
 let⟨oi,hoi,hci,Ρ⟩:=id Zj;show qx (v5 (zH Zj.typeIs nZ (lL nZ Zj.typeIs DZ ?_ (Bp _))));show qx (qB ?_);show qx (Hl hoi Ρ ?_);dsimp only;show qx (Hv ho hd T.fits ?_);rw[qZ (by simp)];show qx (Gh ho hd T YR Yv (by rw[e6,e6];show M) (λe' Yq q1 q2=>?_) (λq=>?_))
 .simp only[e6] at q1;rw[hx] at q1;cases q1
 .dsimp only;show qx (v7 hoi Ρ (by simp) ?_);show qx ?_;simp only[newExc,newTuple];show qx (iA ?_ (by size_fits));show qx (nB (by first|rfl|(simp only[Wf];rfl)) ?_);show iA ?_ (by size_fits);simp only[raiseNew];show qx (wpAny_handled ?_);rw[show A.in1.handled=B from hh];show qx (qB (Hf ?_));show qx (v6 #[_,qH _ W,W] Wg ?_);show qB (hQ _ (((lU ..).extBut.push _).push _))
def Mf(Zj:SIt s.heap it S slot i n ep)(h:Q (.ref it) s):aL (aN prog w) A (kj (.ref it)) Q us s:=by show Hh Zj.typeIs DR (lL DR Zj.typeIs QA ?_ (KF _));show qB #[_,W,"set_iterator",_,Zj.typeIs,nZ.lookup,h]
def Oi(ho:s.heap.get? S=U o)(hc:o.ExactSet)(hd:o.data=.set es ep t)(T:Tb t es)(YR:t.plain=ai)
  (hQ:Q (.ref s.heap.objs.size) {s with heap:=s.heap.push {cls:=.type "set_iterator",data:=.fields [.int 0 0,.int 0 0,.ref S,.int es.size 0,.int ep 0].toArray} }):aL (aN prog w) A (kj (.ref S)) Q us s:=by
 let hT:s.TypeIs (.ref S) "set":=#[o,ho,hc.1];show Hh hT Ck (lL Ck hT On ?_ (Uz _));show qx ?_;show qx (qB ?_);show qB ?_;show qx ?_;show qx (Hv ho hd T.fits (qB ?_));show qx ?_;show qx (kD ho hd T.fits ?_);dsimp only;show qx (qx (vY (qB ?_)));show qB ?_;show Aq (λhz=>?_) (λ_=>?_)
 .let hz':(!w.params.followText "set-order" && (!t.plain && decide (es.size > 1)))=ai:=hz;rw[YR] at hz';simp at hz'
 show qx (qB ?_);show qx ?_;show qx (kD ho hd T.fits (qB ?_));show qx ?_;show iA (qB #[_,W,"set_iterator",_,#[_,qH _ W,W],nZ.lookup,?_]);show hQ
def Pv(hh:A.handled=B)(I S:av)(Zb:S≠I)(o:Obj)(hd:o.data=.set es ep t)(T:Tb t es)(YR:t.plain=ai)(Yv:t.led=!w.params.followText "set-order"):
  kz prog w A I [I,S] [I] es.size (λi v=>∃e,(dX w S es ep)[i]?=U e/\v=e.2) (λi h=>h.get? S=U o/\∃slot,SIt h I S slot i es.size ep/\(w.params.followText "set-order"=ar->bX t.place slot=i)) where
 sub:=λb M=>by simp at M;simp[M]
 frame:=λ_ _ _ st hk=>by let⟨h1,slot,⟨oi,h2,h3⟩,h4⟩:=st;show#[hk S (by simp) o h1,slot,#[oi,hk I (by simp) oi h2,h3],h4]
 item:=λi s Q us hi st hQ=>by let⟨h1,slot,h2,h4⟩:=st;let hl:(dX w S es ep).length=es.size:=(pE w S es ep).length_eq.trans (fy);let hx:(dX w S es ep)[i]?=U ((dX w S es ep)[i]'.(b)):=qE _;show RZ h2 h1 hd T YR Yv h4 hx λh' Yq q1 q2 q3=>?_;show hQ _ h' s.toks #[_,hx,W] #[(q3.extBut S o Zb h1),Yq,q1,q2] λb o M e=>q3.extBut b o (λh=>M (by simp[h])) e
 done:=λs Q us st hQ=>by let⟨h1,slot,h2,h4⟩:=st;let hl:(dX w S es ep).length=es.size:=(pE w S es ep).length_eq.trans (fy);show Sb hh h2 h1 hd T YR Yv h4 (vO .(b)) λh' he'=>hQ h' s.toks λb o M e=>he' b o (λh=>M (by simp[h])) e
 self:=λ_ _ _ _ st hQ=>by let⟨h1,slot,h2,h4⟩:=st;show Mf h2 hQ
def Oy{r:av}{Q:aJ->aH->Prop}(hT:s.TypeIs (.ref r) "set")(h:Q ar s):aL (aN prog w) A (XC (.ref r)) Q us s:=by
 show qx (GP hT RJ ?_);generalize hid:("set.__len__":cD)=id0
 wp_delta
 rw[show splitId id0=U ("set","__len__") from by subst hid;decide +kernel];subst hid;show qx (v6 (b:=ai) hT (by rw[Ap];kernel_rfl) ?_);show Aq (λé=>bj é .(c)) (λ_=>?_);show Aq (λ_=>?_) (λé=>bj .(c) é);show qx (rZ hT ?_);show qB h
def src(S:av)(o:Obj)(hc:o.ExactSet)(hd:o.data=.set es ep t)(T:Tb t es)(YR:t.plain=ai)(Yv:t.led=!w.params.followText "set-order"):
  KdlSrc prog w "set" S S es.size (λi v=>∃e,(dX w S es ep)[i]?=U e/\v=e.2) (λh=>h.get? S=U o) where
 type:=λs h=>#[o,h,hc.1]
 there:=λh ho=>#[qv ho,qv ho]
 keep:=λ_ _ h hk=>hk S (.inl W) o h
 notList:=by decide
 notTuple:=by decide
 hint:=λ_ _ _ _ h hq=>Oy #[o,h,hc.1] hq
 iter:=λA s hh h=>#[_,_,(λ_ _ hq=>Oi h hc hd T YR hq),Pv hh _ S (qD (qv h)) o hd T YR Yv,#[qu _ h,0,#[_,qH _ W,W,W],λ_=>by
  let⟨b0,b1,b2⟩:=oe t.place 0 T.ri;rcases Nat.eq_zero_or_pos (bX t.place 0) with q|q
  .exact q
  .let YX:0<t.place.size:=by ext
   let:=b1 0 q _ (WE YX);ext]]
end
end ST
section
open ST
noncomputable def yn(P:dy)(w:cA)(p:av)(ns:Z ah):HO:=.ext λh=>∃o,h.get? p=U o/\IS P w (!w.params.followText "set-order") ns o
def Ul(hc:X.calm=ai):dZ X (.type "set") (λxs H Q=>∃(a:av)(ns:Z ah),xs=[.ref a]/\H a=U (.lst (ns.map V.int))/\ns.length<=300/\∀p,H p=B->Q (.ref p) (X0 H p (yn X.prog X.w p ns))):=by
 intro Z' s L H xs E Q I r h;let⟨a,ns,rfl,ha,hl,q⟩:=h;let⟨u,rfl,ru⟩:=dY r;cases ru;let⟨XY,rv,pl,hz⟩:=I.list (.inl (.inl ha));let hkl:ns.length=XY.length:=by let:=rv.length;rwa [qf] at this
 show yC (I.ok.hd hc) pl.isList (λi o=>IS X.prog X.w (!X.w.params.followText "set-order") (ns.take i) o) ?_ (λA' hA' i v sh o Q' E' hi hv ho hJ hB hQ=>?_) λh' tk o ho hJ hk=>?_
 .refine#[#[W,W,W],#[],0,kF 0 0 (!X.w.params.followText "set-order"),W,?_,.inl W,W,W,λe he=>by simp at he,?_]
  .exact#[wR,W,W,by simp[kF],by simp[kF],by simp[kF],λi j h x hp=>by simp[kF] at hp]
  .simp[iX,dd]
 .let è:i<ns.length:=by rw[qC] at hi;ext
  let⟨u2,Η,Ε⟩:=rv.get (i:=i) (x:=V.int ns[i]) (by simp[è]);let ev:v=u2:=by
   let Zt:XY[i]?=U v:=by simpa using hv
   rw[Η] at Zt;show(qI Zt).symm
  subst ev;let⟨t0,rfl⟩:=Ε;let Ĉ:ns.take (i+1)=ns.take i++[ns[i]]:=by rw[i8,qE è];rfl
  show Lk ho hJ (by rw[qF];ext) λbb h' tk o' h1 h2 h3 h4=>hQ bb h' tk o' h1 h2 h3 (by show IS _ _ _ (sC (i+1) ns) o';rw[Ĉ];show h4)
 .let e:ns.take XY.toArray.size=ns:=by rw[qC,<-hkl];show eN
  rw[e] at hJ;show#[.ref s.heap.objs.size,_,I.laid (λb u e=>hk b u (qv e) e) (qw _) ?_,W,q _ I.fresh];show#[#[o,ho,hJ],#[o,ho],λh1 h2 hp ψ=>?_];let⟨o1,q1,q2⟩:=hp;show#[o1,ψ o1 q1,q2]
def Ky(hc:X.calm=ai):dZ X (.builtin "sorted") (λxs H Q=>∃(a:av)(ns:Z ah),xs=[.ref a]/\H a=U (yn X.prog X.w a ns)/\ns.length<64/\∀p,H p=B->Q (.ref p) (X0 H p (.lst ((nV (dd ns)).map V.int)))):=by
 intro Z' s L H xs E Q I r h;let⟨a,ns,rfl,ha,h64,q⟩:=h;let⟨u,rfl,ru⟩:=dY r;cases ru;let⟨⟨o,ho,hex,es,ep,t,hd,T,hM,YR,Yv,hE,hp⟩,_,_⟩:=I.hok a _ ha;let hh:X.A.handled=B:=I.ok.hd hc;let hsl:=eM;let hdl:=mw ns;let Zw:es.size=(dd ns).length:=by let:=hp.length_eq;unfold iX at this;rw[qf,fy] at this;show this
 show Wj kind_sorted plain_sorted entry_sorted (args_sorted1 _) ?_;show qx (qB ?_);show qx (Wk (src a o hex hd T YR Yv) hh ho .(b) λh' tk XT hkp Yw=>?_);let hl:XT.toList.length=es.size:=by rw[fy];show Yw.1
 show qx (wpAny_newList ?_ (by rw[hl];ext));let hol:(dX X.w a es ep).length=es.size:=(pE X.w a es ep).length_eq.trans (fy);let hS:kx XT.toList (iX (dX X.w a es ep).toArray):=BS (P:=λ_ _=>True) (by rw[hl];simp[iX,hol]) λj v e=>by let⟨e2,q1,rfl⟩:=Yw.2 j v (by rw[<-qJ];show e);let⟨m,t,he⟩:=hE e2 ((pE X.w a es ep).mem_iff.mp (qR q1));show#[m,t,?_,by rw[he]];unfold iX;rw[ql,show(dX X.w a es ep).toArray.toList=dX X.w a es ep from W,q1,he];rfl
 let Λ:(h'.push (An "list" XT.toList.toArray 0)).get? h'.objs.size=U (An "list" XT.toList.toArray 0):=qH _ W;show qx (qV (lL Wm #[_,Λ,W] Wn (list_sort_tree Λ hS (by rw[hl];ext) λout ns' a1 a2 a3=>#[_,W,?_]) (Wo _)));let Κ:ns'.Perm (dd ns):=a2.trans ((KD (pE X.w a es ep)).trans hp);let Yj:=L6 Κ a3;subst Yj;show qB #[_,W,?_];let⟨ee,he⟩:=sortedHeap_at Λ;let hls:(nV (dd ns)).length=(dd ns).length:=(Am (dd ns) leZ).length_eq;let Zi:∀u,s.heap.get? h'.objs.size=U u->False:=λu e=>fN _ (qv (hkp _ _ e));let hn:=I.none_of Zi;show#[.ref h'.objs.size,X0 H h'.objs.size (.lst ((nV (dd ns)).map V.int)),I.many (λb o e=>?_) (λb o e=>by rw[aD (bH e hn)];show e) (λb o e1 e2=>?_),W,q _ hn]
 .let M:b<h'.objs.size:=qv (hkp b o e);rw[Wq (qD M) (by rw[size_push'];show lQ M)];show qu _ (hkp b o e)
 .by_cases M:b=h'.objs.size
  .subst M;rw[bf] at e2;cases e2;show#[Zi,by rw[qf,hls];ext,_,ee,BZ a1,by rw[Hq];show he]
  .rw[aD M,e1] at e2;cases e2
def wJ:D->au D
 |.lst l=>if l.length<64 then (fX l).map λns=>.lst ((nV (dd ns)).map D.int) else B
 |_=>B
def PJ(hc:X.calm=ai)(hgl:Gl X "sorted")(hml:X.mg "sorted"=B)(hgs:Gl X "set")(hms:X.mg "set"=B)(h:DE O X e f)
  (h1:aM ([.Call (.Name "set" p2) [e] [] đ]:Z Expr) X.env=(ar,eval (.Call (.Name "set" p2) [e] [] đ) X.env)::aM [] X.env:=by rfl)(h2:(bW pos (aM [] X.env)).any (·.1)=ar:=by rfl)
  (h3:aM ([e]:Z Expr) X.env=(ar,eval e X.env)::aM [] X.env:=by rfl)(h4:(bW đ (aM [] X.env)).any (·.1)=ar:=by rfl):
  DE O X (.Call (.Name "sorted" p) [.Call (.Name "set" p2) [e] [] đ] [] pos) (b1 wJ f):=⟨by
 show(vn (Ky hc) hgl hml (by rfl) (gP (tw (Ul hc) hgs hms (by rfl) (gP h.1 gW h3) .(c) .(c) h3 h4) gW h1) .(c) .(c) h1 h2).imp λL H Q=>?_;rintro⟨Z8,Z9,G,Y,d,A,hq,k⟩;let⟨x,hx,hl⟩:=YB hq;clear hq;show#[Z8,Z9,G,Y,x,A,hx,λv G1 H1 s1 r1=>?_];unfold wJ at hl;split at hl
 .rename_i l;split at hl
  .rename_i hz;let⟨ns,hn,rfl⟩:=YE hl;let⟨a,vs,rfl,ha,ra⟩:=r1.lst_inv;let ev:=nX ra hn;subst ev;let Ů:ns.length=l.length:=by let:=ra.length;rwa [qf] at this
   show#[a,ns,W,s1.gh _ _ ha,by ext,λp hp=>#[p,ns,W,bf,by ext,λq hq=>?_]];let s2:=s1.trans (Step.newOwn (o:=yn X.prog X.w p ns) s1.gh hp);show kg s2.gh (XO.ints _) (λw G' H' st r=>k w G' H' (s2.trans st) r) q hq
  .cases hl
 .cases hl⟩
end
section
open PyProof
noncomputable def btS(ss:Z aj)(i j:ag):aJ:=decide ((ss.getD i jE).cps.toList<(ss.getD j jE).cps.toList)
def mnS(ss:Z aj):aj:=ss.getD (cr (btS ss) (ss.length-1)) jE
def xI:FQ
 |[.lst l]=>(jy l).bind λss=>if ss=[] then B else U (.str (mnS ss))
 |_=>B
def M7{P:ag->aw->Prop}(ss:Z aj)(hval:∀i v,P i v->∃t,v=.str (ss.getD i jE) t):ph prog w A .Lt P (btS ss):=λi j vi vj s Q us hi hj h=>by let⟨t,rfl⟩:=hval i vi hi;let⟨u,rfl⟩:=hval j vj hj;show richCompare_gives (vK s _ t) (vK s _ u) F.slot_str_lt F.entry_str_lt (F.args_str_lt_2 _ _) (gives_str_lt _ _ t u) (λx=>nomatch x) h
def yW:∀{vs:Z aw}{ss:Z aj},vS vs ss->∀(i:ag)v,vs[i]?=U v->∃t,v=.str (ss.getD i jE) t
 |_,_,.cons x t r,0,v,e=>by cases e;show#[t,W]
 |_,_,.cons x t r,i+1,v,e=>by let⟨t,h⟩:=yW r i v e;show#[t,h]
def T4(hc:X.calm=ai):dZ X (.builtin "min") (λxs H Q=>∃(a:av)(ss:Z aj),xs=[.ref a]/\H a=U (.lst (ss.map V.str))/\ss≠[]/\Q (.str (mnS ss)) H):=by
 intro Z' s L H xs E Q I r h;let⟨a,ss,rfl,ha,e0,q2⟩:=h;let⟨u,rfl,ru⟩:=dY r;cases ru;let⟨XY,rv,pl,_⟩:=I.list (.inl (.inl ha));let hS:=D5 rv;let vl:XY.length=ss.length:=by let:=rv.length;simpa using this.symm
 show call_min_walk (nz pl.isList ?_);let la:a<s.heap.objs.size:=by let⟨o,_,h1,_⟩:=pl;show qv h1
 let hP:∀(i:ag)v,XY.toArray[i]?=U v->∃t,v=.str (ss.getD i jE) t:=λi v hv=>yW hS i v (by simpa using hv);let sz:XY.toArray.size=ss.length:=by simp[vl]
 show#[s.heap.objs.size,_,_,_,_,_,btS ss,W,o7 (show X.A.in1.handled=B from I.ok.hd hc) s.heap.objs.size a (qD la) XY.toArray,#[#[_,qH _ W,W,W],pl.isList.at λo q=>qu _ q],λb M=>?_,?_,M7 ss hP,λv h' tk pv hk=>?_]
 .rw[jF];simp only[qN,qL,or_false] at M;rcases M with z|z
  .rw[z];show ng _
  .rw[z];show lQ la
 .rw[sz];show Ar.mpr e0
 .obtain⟨t,rfl⟩:=hP _ _ pv;show#[.str (mnS ss),H,I.kept λb o z=>hk b o ?_ (qu _ z),?_,q2]
  .intro z';let:b=s.heap.objs.size:=by simpa using z'
   show bj (qv z) (by rw[this];show fN _)
  .unfold mnS;rw[sz];show#[t,W]
def T2(hc:X.calm=ai):ß O X "min" xI:=#[_,T4 hc,λ{G H vs ds z}gh r h Q k=>by
 unfold xI at h;split at h
 .obtain⟨ns,hn,h⟩:=YB h;split at h
  .cases h
  .rename_i Zb;cases h;let⟨v,rfl,r1⟩:=r.one;let⟨a,E,rfl,ha,ra⟩:=r1.lst_inv;show#[a,ns,W,by rw[<-yN ra hn];show gh _ _ ha,Zb,k _ G H (.refl gh) (.str _)]
 .cases h]
end
section
open PyProof
def RN:PE X (.Dict [] [] pos) (λL H Q=>∀p o,H p=B->Q (.ref p) (X0 H p (.frz o (.dK [])))):=by intro Z' s L H Q I h;show YI (vd Z' s L H (λv H'=>∃p,v=.ref p/\H p=B/\H'=X0 H p (.dK [])) I λp hp=>#[p,W,hp,W]) λv s1 #[x,H1,I1,r1,p,e1,hp,e2]=>?_;subst e1 e2;let⟨o,ho⟩:=(I1.hok p _ bf).there;let I2:=I1.frz bf ho;rw[RW] at I2;show#[.ref p,_,I2,r1,h p o hp]
def Me:DE O X (.Dict [] [] pos) (vC (.fdk [])):=⟨RN.imp λL H Q=>by rintro⟨Z8,Z9,G,Y,d,A,h,k⟩;cases h;intro p o hp;let s:=Step.new (o:=.frz o (.dK [])) A.gh hp;show k _ _ _ s (.fdk bf W .nil)⟩
end
section
open PyProof
def fzD(c:aj)(fs:Z (aj×Yi)):D:=.ins c (fs.map λz=>(z.1,loF z.2))
def pM(u:HO):Prop:=(∃E,u=.dK E)\/∃E,u=.dT E
section
variable{sb:aJ}{fs:Z (aj×Yi)}
def Pp(I:XS X Z' L H s):∀ps:Z av,ps.Nodup->(∀b∈ps,∃u,H b=U u/\pM u)->∃H1,XS X Z' L H1 s/\(∀b,b∉ps->H1 b=H b)/\∀b∈ps,∃o u,H b=U u/\pM u/\H1 b=U (.frz o u):=by
 intro X7
 induction X7 with
 |nil=>
  intro _ _;show#[H,I,λ_ _=>rfl,λb M=>by cases M]
 |cons p ps ih=>
  intro nd h;let Ř:=dD.mp nd;let⟨H1,I1,h1,h2⟩:=ih Ř.2 λb M=>h b (qh _ M);let⟨u,e,k⟩:=h p qg;let e1:H1 p=U u:=(h1 p Ř.1).trans e;let⟨ob,Ś⟩:=(I1.hok p _ e1).there;let Yy:XS X Z' L (X0 H1 p (.frz ob u)) s:=by
   rcases k with⟨E,rfl⟩|⟨E,rfl⟩
   .exact I1.frz e1 Ś
   .exact I1.frzT e1 Ś
  show#[_,Yy,λb M=>?_,λb M=>?_]
  .rw[aD (λz=>M (by rw[z];show qg))];show h1 b λz=>M (qh _ z)
  .by_cases hz:b=p
   .subst hz;show#[ob,u,e,k,bf]
   .rw[aD hz];show h2 b ((cg.mp M).resolve_left hz)
def KR(I:XS X Z' L H' s):∀ps:Z av,ps.Nodup->(∀b∈ps,∃o u,H b=U u/\pM u/\H' b=U (.frz o u)/\∀o u,X.Z9 b≠U (.frz o u))->∃H2,XS X Z' L H2 s/\(∀b,b∉ps->H2 b=H' b)/\∀b∈ps,H2 b=H b:=by
 intro X7
 induction X7 with
 |nil=>
  intro _ _;show#[H',I,λ_ _=>rfl,λb M=>by cases M]
 |cons p ps ih=>
  intro nd h;let Ř:=dD.mp nd;let⟨H2,I1,h1,h2⟩:=ih Ř.2 λb M=>h b (qh _ M);let⟨ob,u,e,k,e',hn⟩:=h p qg;let Yy:XS X Z' L (X0 H2 p u) s:=by
   rcases k with⟨E,rfl⟩|⟨E,rfl⟩
   .exact I1.unfrz ((h1 p Ř.1).trans e') hn
   .exact I1.unfrzT ((h1 p Ř.1).trans e') hn
  show#[_,Yy,λb M=>?_,λb M=>?_]
  .rw[aD (λz=>M (by rw[z];show qg))];show h1 b λz=>M (qh _ z)
  .by_cases hz:b=p
   .subst hz;rw[bf,e]
   .rw[aD hz];show h2 b ((cg.mp M).resolve_left hz)
def XW.fzD{K:aS}{qs:Z av}(gg:aY G G1)(hq:∀b∈qs,∃o u,H b=U u/\G1 b=U (.frz o u)):∀{vs:Z V}{fs:Z Yi}{ps:Z av},XW O K G H vs fs ps->(∀b∈ps,b∈qs)->XO O K G1 vs (fs.map loF)
 |_,_,_,.nil,_=>.nil
 |_,_,_,.cons r t,hm=>by
  show .cons ?_ (t.fzD gg hq λb M=>hm b (qS _ M));cases r with
  |d h=>show h.mono gg
  |k h a c=>
   let⟨o,u,e1,e2⟩:=hq _ (hm _ (m6 _ qg));rw[h] at e1;cases e1;show .fdk e2 a (c.mono gg)
  |t h a c=>
   let⟨o,u,e1,e2⟩:=hq _ (hm _ (m6 _ qg));rw[h] at e1;cases e1;show .fdt e2 a (c.mono gg)
inductive ĳ(X:Cx)(a:av)(ps:Z av)(G H G1 H1:Hp):Prop where
 |mk:ps.Nodup->a∉ps->G a=B->(∃XI dx vs,H a=U (.ins XI dx vs)/\G1 a=U (.ins XI dx vs))->(∀b∈ps,G b=B/\∃o u,H b=U u/\pM u/\H1 b=U (.frz o u)/\G1 b=U (.frz o u)/\∀o u,X.Z9 b≠U (.frz o u))->
  (∀b,b∉ps->H1 b=H b)->(∀b,b∉a::ps->G1 b=G b)->ĳ X a ps G H G1 H1
def Tn(I:XS X Z' L H s)(A:At O X.K Z8 Z9 G H Y L)(hi:Y[i]?=U (U (.fo sb c fs))):
  ∃a ps G1 H1,ĳ X a ps G H G1 H1/\XS X Z' L H1 s/\At O X.K Z8 Z9 G1 H1 (Y.set i (U (.sh (fzD c fs)))) L:=by
 let⟨v,fp,h1,h2⟩:=A.get hi;cases h2 with
 |fo gs g1 g2 g3 g4 g5 g6=>
  rename_i a XI dx vs ps;let nd:=dD.mp g3;let kk:∀b∈ps,∃u,H b=U u/\pM u:=λb M=>by
   rcases g6.kinds b M with⟨E,e⟩|⟨E,e⟩
   .exact#[_,e,.inl #[_,W]]
   .exact#[_,e,.inr #[_,W]]
  let⟨H1,I1,e1,e2⟩:=Pp I ps nd.2 kk;let hn:∀b∈a::ps,G b=B:=λb M=>(g2 b M).2;let sm:aY G (iP (a::ps) H1 G):=mG hn;let p1:∀b∈a::ps,iP (a::ps) H1 G b=H1 b:=λb M=>qY M;let n1:∀b,b∉a::ps->iP (a::ps) H1 G b=G b:=λb M=>qZ M;let ga:iP (a::ps) H1 G a=U (.ins XI dx vs):=(p1 a qg).trans ((e1 a nd.1).trans g4);show#[a,ps,iP (a::ps) H1 G,H1,#[nd.2,nd.1,hn a qg,#[XI,dx,vs,g4,ga],λb M=>?_,e1,n1],I1,A.ch hi h1 (.fo gs g1 g2 g3 g4 g5 g6) (λb o e M=>?_) (.sh (.ins ga g1 (by rw[g5,qp];rfl) ?_)) (λb M=>by cases M) sm (λb o e=>?_) (λb o e M _=>n1 b M)]
  .obtain⟨o,u,q1,qk,q2⟩:=e2 b M;show#[hn b (qh _ M),o,u,q1,qk,q2,(p1 b (qh _ M)).trans q2,?_];rcases qk with⟨E,rfl⟩|⟨E,rfl⟩
   .exact I.nofrz q1
   .exact I.nofrzT q1
  .rw[e1 b λz=>M (qh _ z)];show e
  .let:=g6.fzD sm (λb M=>by let⟨o,u,q1,_,q2⟩:=e2 b M;show#[o,u,q1,(p1 b (qh _ M)).trans q2]) λb M=>M
   rw[qp] at this ⊢;show this
  .by_cases M:b∈a::ps
   .rw[p1 b M] at e;show e
   .rw[n1 b M] at e;rw[e1 b λz=>M (qh _ z)];show A.gh b o e
def IK{ps:Z av}(gh:aY G H)(l:ĳ X a ps G H G1 H1)(s:Step G1 H1 G' H')(m1:∀b,b∉ps->H2 b=H' b)(m2:∀b∈ps,H2 b=H b):
  Step G H (ik (a::ps) G') H2/\∀b∈a::ps,∀vs,G' b≠U (.lst vs)/\G' b≠U (.tup vs):=by
 let⟨nd,na,ga,⟨XI,dx,ws,ha,ha1⟩,hp,ho,hg⟩:=l;let gn:∀b∈a::ps,G b=B:=λb M=>by
  rcases cg.mp M with rfl|M
  .exact ga
  .exact(hp b M).1
 show#[#[λb o e=>?_,λb o e=>?_,λb o e=>?_,λb o e ek=>?_],λb M vs=>?_]
 .by_cases M:b∈ps
  .rw[m2 b M];show e
  .rw[m1 b M];show s.hh b o ((ho b M).trans e)
 .let M:b∉a::ps:=λz=>by rw[gn b z] at e;cases e
  show(kO M).trans (s.gg b o ((hg b M).trans e))
 .by_cases M:b∈a::ps
  .rw[show ik (a::ps) G' b=B from qY M] at e;cases e
  .rw[kO M] at e;rw[m1 b λz=>M (qh _ z)];show s.gh b o e
 .by_cases M:b∈a::ps
  .rw[show ik (a::ps) G' b=B from qY M,gn b M]
  .rw[kO M,s.out b o ((ho b λz=>M (qh _ z)).trans e) ek,hg b M]
 .rcases cg.mp M with rfl|M
  .rw[s.gg _ _ ha1];show#[(λz=>by cases z),(λz=>by cases z)]
  .obtain⟨_,o,u,_,_,_,e,_⟩:=hp b M;rw[s.gg _ _ e];show#[(λz=>by cases z),(λz=>by cases z)]
end
section
variable{c:Expr}
def rH(i:ag)(f:FE):FE:=λY=>match Y[i]? with
 |some (U (.fo _ c fs))=>(f (Y.set i (U (.sh (fzD c fs))))).bind λd=>if œ d=ai then U d else B
 |_=>B
def Ur(i:ag)(h:DE O X c f):DE O X c (rH i f):=⟨λZ' s L H Q I q=>by
 let⟨Z8,Z9,G,Y,d,A,hq,k⟩:=q;unfold rH at hq;split at hq
 .rename_i sb cc fs hi;let⟨d',Ö,hq⟩:=YB hq;split at hq
  .rename_i hf;cases hq;let⟨a,ps,G1,H1,l,I1,A1⟩:=Tn I A hi;show YI (h.1 Z' s L H1 (λx H'=>(∀b∈ps,H' b=H1 b)/\∀H2,(∀b,b∉ps->H2 b=H' b)->(∀b∈ps,H2 b=H b)->Q x H2) I1 #[Z8,Z9,G1,_,_,A1,Ö,λv G' H' s' r=>#[λb M=>?_,λH2 m1 m2=>?_]]) λr s1 q=>?_
   .obtain⟨_,_,_,_,hp,_⟩:=l;let⟨_,o,u,_,_,e,_⟩:=hp b M;rw[e];show s'.hh b _ e
   .obtain⟨st,no⟩:=IK A.gh l s' m1 m2;show k v _ H2 st (r.less no hf)
   .obtain⟨x,H',I',rv,hx,q⟩:=q;let⟨nd,_,_,_,hp,_⟩:=l;let⟨H2,I2,m1,m2⟩:=KR I' ps nd λb M=>by let⟨_,o,u,e1,ek,e2,_,e3⟩:=hp b M;show#[o,u,e1,ek,(hx b M).trans e2,e3]
    show#[x,H2,I2,rv,q H2 m1 m2]
  .cases hq
 .cases hq⟩
end
end
section
open PyProof
def C9:D->au (Z D)
 |.fdk XJ=>U (XJ.map λkv=>cU kv.1)
 |_=>B
def Ž(f:FE):FA:=λY=>(f Y).bind C9
section
variable{c:Expr}
def QN(he:PE X iter te):PI X tg iter (λL H R=>te L H λx H1=>∃(a:av)(o:Obj)(E:Z (XR×V)),x=.ref a/\H1 a=U (.frz o (.dK E))/\R (Itk a o E) H1):=by
 intro Z' s L H R I h;show YI (he Z' s L H _ I h) λv s1 #[x,H1,I1,r1,a,o,E,e,ha,q]=>?_;subst e;cases r1;let⟨z,md,va,qa,da⟩:=gC I1.hok (.inr #[o,ha]);let⟨ep,Ĭ⟩:=da.dictAt;let ho:s1.heap.get? a=U o:=(I1.hok a _ ha).1;show Wu md Ĭ ?_;show#[s1.heap.objs.size,[s1.heap.objs.size],_,_,H1,W,I1.kept λb u e=>qu _ e,DD a s1.heap.objs.size o E va ep (qD (qv ho)) (λh' e=>Ĭ.at' λo' e'=>by rw[ho] at e';cases e';show e) qa,#[_,qH _ W,W,W],λb M=>?_,q];let e:b=s1.heap.objs.size:=by simpa using M
 subst e;show I1.fpOk (qw _) (I1.hok.fresh (qw _))
def pR(h:DE O X iter f):DI O X tg iter (Ž f):=⟨(QN h.1).imp λL H R=>by
 rintro⟨Z8,Z9,G,Y,ds,A,h,k⟩;let⟨d,hd,h⟩:=YB h;show#[Z8,Z9,G,Y,d,A,hd,λv G' H' s r=>?_];unfold C9 at h;split at h
 .cases h;cases r with
  |fdk h1 h2 h3=>
   rename_i XJ a o E;let Ů:E.length=XJ.length:=by simpa using bM cC h2
   show#[_,_,_,W,s.gh _ _ h1,k _ G' H' s #[λi d G2 H2 hd g1 g2=>?_,λG2 H2 g1 g2=>#[g2 _ _ (g1 _ _ h1),by rw[qf,Ů]]]];rw[ql] at hd;let⟨kd,ĉ,rfl⟩:=YE hd;let hi:i<E.length:=by rw[Ů];show(dM.mp ĉ).1
   show#[#[g2 _ _ (g1 _ _ h1),hi],λx H3 #[e1,kv,hkv,ev]=>?_];subst e1 ev;let ek:kv.1=kd.1:=by let:=bM (λl=>l[i]?) h2;simp only[ql,hkv,ĉ,qe,v8] at this;show this
   show#[G2,.refl g2,by rw[ek];show xx _]
 .cases h⟩
end
end
section
open PyProof
end
section
open PyProof
section
variable{id:cD}{r:V->Z V->Hp->VK->Prop}
def TN(slot:vR "dict" name id)(hty:typeOf (.builtin id)=bc (.type "method_descriptor"))(hm:MtR X id r)(ho:PE X o to)
  (Ys:gN o name X.env (eval o X.env)=eval o X.env:=by rfl)(Yr:(YN.endLine==YG.line)=ai:=by rfl):PE X (.Call (.Attribute o name YN) [] [] YG) (λL H Q=>to L H λx H1=>∃a,x=.ref a/\IsD H1 a/\r x [] H1 Q):=by
 intro Z' s L H Q I h;show wpAny_Call_method0_late Ys Yr (YI (ho Z' s L H _ I h) λv s1 #[x,H1,I1,r1,a,ex,d,q1]=>?_);subst ex;obtain rfl:v=cI a:=r1;let⟨t1,t2,_⟩:=xA I1 d;show#["dict",id,GQ,slot,hty,t1,t2,zK W (PySem.evalArgs_none (hm Z' s1 L H1 (.ref a) [] (.ref a) [] Q I1 W .nil q1))]
def Et:V->Z V->Hp->VK->Prop:=λv vs H Q=>∃(d:av)(E:Z (XR×V)),v=.ref d/\vs=[]/\Rd H d (.dK E)/\∀q,H q=B->Q (.ref q) (X0 H q (.ext λh=>h.IsValuesView q d))
def PZ:MtR X "dict.values" Et:=by intro Z' s L H x xs v E Q I rx rs h;let⟨d,E,rfl,rfl,hd,q⟩:=h;cases rx;cases rs;let⟨z,md,va,qa,da⟩:=gC I.hok hd;show vM WF da.typeIs PySem.F.entry_dict_values (PySem.F.args_dict_values_1 _) (meets_dict_values (cG X.prog X.w) d md) #[#[va,da],?_];show#[.ref s.heap.objs.size,_,I.laid (t':=s.toks) (o:=.ext λh=>h.IsValuesView s.heap.objs.size d) (λb u e=>qu _ e) (qw _) #[#[_,qH _ W,W,W],#[_,qH _ W],λh1 h2 q k=>?_],W,q _ I.fresh];let⟨ob,e,r⟩:=q;show#[ob,k ob e,r]
def Ni(ho:PE X o to)(Ys:gN o "values" X.env (eval o X.env)=eval o X.env:=by rfl)(Yr:(YN.endLine==YG.line)=ai:=by rfl):PE X (.Call (.Attribute o "values" YN) [] [] YG) (λL H Q=>to L H λx H1=>∃a,x=.ref a/\IsD H1 a/\Et x [] H1 Q):=TN WF PySem.F.type_dict_values PZ ho Ys Yr
end
def tR:D->au D
 |.fdk XJ=>(fX (XJ.map (·.2))).bind λns=>if ns=[] then B else U (.int (jg ns))
 |_=>B
def Rb(hc:X.calm=ai):dZ X (.builtin "max") (λxs H Q=>∃(q d:av)(E:Z (XR×V))(ns:Z ah),xs=[.ref q]/\H q=U (.ext λh=>h.IsValuesView q d)/\Rd H d (.dK E)/\E.map (·.2)=ns.map V.int/\ns≠[]/\Q (.int (jg ns)) H):=by
 intro Z' s L H xs vs Q I r h;let⟨q,d,E,ns,rfl,hq,hd,ei,e0,q2⟩:=h;let⟨u,rfl,ru⟩:=dY r;cases ru;let⟨z,md,va,qa,da⟩:=gC I.hok hd;let⟨ep,Ĭ⟩:=da.dictAt;let hview:s.heap.IsValuesView q d:=(I.hok q _ hq).1;show call_max_walk (wpAny_pyIter_values hview Ĭ ?_);let⟨od,_,_,ř,_⟩:=id da;let ne:d≠s.heap.objs.size:=qD (qv ř);let Ů:E.length=ns.length:=by simpa using bM cC ei
 let hlv:va.length=ns.length:=by rw[<-qa.length,Ů]
 let hP:∀(i:ag)v,(∃k,va[i]?=U (k,v))->∃t,v=.int (ns.getD i 0) t:=λi v #[k,hv]=>by
  let⟨kv,h1,h2⟩:=LR qa hv;let h3:(E.map (·.2))[i]?=U kv.2:=by rw[ql,h1];rfl
  rw[ei,ql] at h3;let⟨n,h4,h5⟩:=YE h3;rw[<-h5] at h2;rw[kJ,h4];show h2
 show#[s.heap.objs.size,_,_,_,_,_,btG ns,W,Walks.dictValues (knd:=cG X.prog X.w) (A:=X.A.in1) (show X.A.in1.handled=B from I.ok.hd hc) s.heap.objs.size d ne va ep,#[#[_,qH _ W,W,W],Ĭ.at' λo q=>qu _ q],λb M=>?_,?_,V9 (λi=>ns.getD i 0) hP,λv h' tk pv hk=>?_]
 .rw[jF];simp only[qN,qL,or_false] at M;rcases M with z|z
  .rw[z];show ng _
  .rw[z];show lQ (qv ř)
 .rw[hlv];show Ar.mpr e0
 .obtain⟨t,rfl⟩:=hP _ _ pv;show#[.int (jg ns),H,I.kept λb o z=>hk b o ?_ (qu _ z),?_,q2]
  .intro z';let:b=s.heap.objs.size:=by simpa using z'
   show bj (qv z) (by rw[this];show fN _)
  .unfold jg;rw[hlv];show#[t,W]
def Nc(hc:X.calm=ai)(hg:Gl X "max")(hm:X.mg "max"=B)(ho:DE O X o fo)(Ys:gN o "values" X.env (eval o X.env)=eval o X.env:=by rfl)(Yr:(YN.endLine==YG.line)=ai:=by rfl)
  (he:aM [.Call (.Attribute o "values" YN) [] [] YG] X.env=(ar,eval (.Call (.Attribute o "values" YN) [] [] YG) X.env)::aM [] X.env:=by rfl)(YR:(bW pos (aM [] X.env)).any (·.1)=ar:=by rfl):
  DE O X (.Call (.Name "max" p) [.Call (.Attribute o "values" YN) [] [] YG] [] pos) (b1 tR fo):=⟨(vn (Rb hc) hg hm (by rfl) (gP (Ni ho.1 Ys Yr) gW he) .(c) .(c) he YR).imp λL H Q=>by
 rintro⟨Z8,Z9,G,Y,d,A,h,k⟩;unfold b1 at h;let⟨x,hx,h⟩:=YB h;show#[Z8,Z9,G,Y,x,A,hx,λv G1 H1 s1 r1=>?_];unfold tR at h;split at h
 .obtain⟨ns,hn,h⟩:=YB h;split at h
  .cases h
  .rename_i Zb;cases h;cases r1 with
   |fdk h1 h2 h3=>
    rename_i XJ ad oo E;show#[_,W,.inl #[_,.inr #[_,s1.gh _ _ h1]],_,_,W,W,.inr #[_,s1.gh _ _ h1],λq hq=>?_];let s2:=Step.newOwn (o:=.ext λh=>h.IsValuesView q ad) s1.gh hq;show#[q,ad,E,ns,W,bf,.inr #[_,s2.hh _ _ (s1.gh _ _ h1)],nX h3 hn,Zb,k _ _ _ (s1.trans s2) (.int _)]
 .cases h⟩
end
def Ow(E:Z aw):E=(cw E.length).map λi=>E.getD i .none:=by
 apply WG
 .simp
 .intro i h1 h2;simp[kJ,qE h1]
def bn{F:aw->aw->aw->au av->aw->aw->ku}(h:∀a b c d e f(v:ag->aw),eX (F a b c d e f) #[(cw ps.length).map v,[]]=bc (ps.zip ((cw ps.length).map v)))(a b c:aw)(d:au av)(e f:aw)(E:Z aw)(hl:E.length=ps.length):
  eX (F a b c d e f) #[E,[]]=bc (ps.zip E):=by
 let:=h a b c d e f λi=>E.getD i .none;rw[<-hl,<-Ow E] at this;show this
section
open PyProof
def rq:FQ
 |[.lst l]=>(fX l).map λns=>.int ns.sum
 |_=>B
def Sk(hc:X.calm=ai):dZ X (.builtin "sum") (λxs H Q=>∃(a:av)(ns:Z ah),xs=[.ref a]/\H a=U (.lst (ns.map V.int))/\Q (.int ns.sum) H):=by
 intro Z' s L H xs E Q I r h;let⟨a,ns,rfl,ha,q2⟩:=h;let⟨u,rfl,ru⟩:=dY r;cases ru;let⟨XY,rv,pl,_⟩:=I.list (.inl (.inl ha));let hi:kx XY ns:=QU rv;let⟨xs,e⟩:=hi.allInts.items;let hl:=pl.isList;rw[e] at hl;show sum_intListG (I.ok.hd hc) hl λh' tk t' hk=>?_;let en:preSum (numAt xs) xs.size=ns.sum:=by rw[preSum_eq,lO (by simp),<-nums_intItems,<-e,show XY.toArray.toList=XY from W,hi.numsOf]
 rw[en];show#[.int ns.sum,H,I.kept λb o z=>hk b o z,#[t',W],q2]
def D1(hc:X.calm=ai):ß O X "sum" rq:=#[_,Sk hc,λ{G H vs ds z}gh r h Q k=>by
 unfold rq at h;split at h
 .obtain⟨ns,hn,h⟩:=YE h;cases h;let⟨v,rfl,r1⟩:=r.one;let⟨a,E,rfl,ha,ra⟩:=r1.lst_inv;show#[a,ns,W,by rw[<-nX ra hn];show gh _ _ ha,k _ G H (.refl gh) (.int _)]
 .cases h]
end
variable{r Y':bG}{body:FS}{sn:Z aj}{br:Z (ah×ah)}{R:Fl×bG->Prop}{x2 x4 x5 x6:au Slot}{cs:Z ah}{Rt:D->Prop}{lm nw:ah}{kd hd d1:D}{Γ af kl:Z (XR×D)}{T:Z (Z XR×D)}
namespace Law
noncomputable def XU(i:ag):Stmt:=XD.main.body.getD i (.Pass #[0,0,0,0])
noncomputable def eG:Z aj:=["grounds","open_benches","firsts","lasts","put_pairs","notes"]
noncomputable def yT:Z aj:=["told_shop","kept_plan","kept_most","lengths","job_names","early_moments","end_marks","breaks","known_gaps"]
noncomputable def Ep:Z aj:=["benches","steps","jobs","setups","links","stocks","horizon","bench_by_name","step_by_name","setup_by_names","job_by_step"]
noncomputable def Gam(C_Facts C_Grounds C_Shop:av):Cn:=#[λc=>if c="Facts" then U C_Facts else if c="Grounds" then U C_Grounds else if c="Shop" then U C_Shop else B,B]
def fQ:FQ:=aO 0
  (ay (YJ (XX (b2 Zr (C 1) (cF cb (J (C 0) aq)))) (aE (b2 XV (C 0) (C 1))) aZ) (aE .(f)))
def bO:FQ:=aO 3
  (ay (YJ (XX (b2 geD (C 0) (b2 lj (vC (.int 10)) (vC (.int 18))))) (ay (aP 3 (C 0)) (ay (bN (ä e9 .(r)) (aA 4) (aP 3 (b2 mi (C 3) (b2 lj (vC (.int 10)) (vC (.int 7)))))) (YJ (XX (b2 ű (C 3) .(f))) (aE (b2 eQ (b2 eQ (C 3) (b2 lj (vC (.int 10)) (vC (.int 7)))) (C 2))) aZ))) aZ) (ay (aP 5 (b2 eQ (b2 cR (b2 aX (b2 aX (b2 aX (b2 eQ (C 0) (vC (.int 2147483647))) (b2 cR (b2 cR (vC (.int 7919)) (C 1)) (C 1))) (b2 cR (vC (.int 31)) (C 1))) .(e)) (vC (.int 48271))) (vC (.int 2147483647)))) (ay (aP 5 (b2 eQ (b2 aX (b2 aX (b2 cR (C 5) (C 5)) (b2 cR (vC (.int 69621)) (C 1))) (vC (.int 7))) (vC (.int 2147483629)))) (aE (b2 eQ (b2 eQ (b2 cR (C 5) (C 5)) (vC (.int 2147483587))) (C 2))))))
def lx:FQ:=aO 0
  (ay (YJ (XX (b2 â (cF bO (J (C 0) (J (C 1) (J (vC (.int 4)) aq)))) .(f))) (aE (cF bO (J (C 0) (J (b2 aX (C 1) .(e)) (J (b2 aX (C 2) .(e)) aq))))) aZ) (aE (cF bO (J (C 0) (J (b2 aX (C 1) .(e)) (J (b2 aX (cF j8 (J (C 2) (J (vC (.int 12)) aq))) .(e)) aq))))))
def tE:FQ:=aO 5
  (ay (eL 3 (X5 aq)) (ay (aP 4 .(f)) (ay (bN (ä e9 (J (cF bO (J (C 0) (J (C 1) (J (vC (.int 4)) aq)))) aq)) (aA 5) (ay (aP 6 (b2 aX (C 4) (cF lx (J (C 0) (J (b2 aX (b2 aX (C 1) .(e)) (b2 cR (vC (.int 4)) (C 5))) (J (C 2) aq)))))) (ay (aP 7 (b2 aX (b2 aX (C 6) .(e)) (cF bO (J (C 0) (J (b2 aX (b2 aX (C 1) (vC (.int 3))) (b2 cR (vC (.int 4)) (C 5))) (J (vC (.int 4)) aq)))))) (YJ (XX (b2 Y0 (C 7) (C 2))) (ay (fL 3 (ba (X5 (J (C 6) (J (C 7) aq))))) (aP 4 (b2 aX (C 7) .(e)))) aZ)))) (eO 3 (aE (C 3))))))
def xM:FQ:=aO 5
  (ay (aP 2 (vC (.str "abcdefghijklmnopqrstuvwxyz"))) (ay (aP 3 (mF pp (vC (.str "")) (J (aR (aW (ä e9 (J (cF bO (J (C 0) (J .(f) (J (vC (.int 7)) aq)))) aq)) (aA 0) tT (b2 XV (C 1) (cF bO (J (C 2) (J (b2 aX (vC (.int 3)) (C 0)) (J (vC (.int 26)) aq))))) [B,U 2,U 0])) aq))) (ay (aP 4 (cF bO (J (C 0) (J .(e) (J (b2 aX (cF cb (J (C 3) aq)) .(e)) aq))))) (ay (eL 5 (X5 aq)) (ay (bN (ä e9 .(r)) (aA 6) (fL 5 (b2 aX (b2 aX (b2 aX (Zg (C 3) pN (pS (C 4))) (b2 XV (C 2) (b2 eQ (b2 cR (C 6) (vC (.int 7))) (vC (.int 26))))) (b2 XV (aR (X5 (J (vC (.str "")) (J (vC (.str "q")) aq)))) (b2 mi (C 6) (vC (.int 26))))) (Zg (C 3) (pS (C 4)) pN)))) (eO 5 (aE (C 5))))))))
def wG:FQ:=aO 7
  (ay (aP 4 (b2 XV (aR (X5 (J (vC (.str "cut")) (J (vC (.str "glue")) (J (vC (.str "paint")) aq))))) (cF bO (J (C 0) (J .(f) (J (vC (.int 3)) aq)))))) (ay (aP 5 (cF bO (J (C 0) (J .(e) (J (cF cb (J (C 2) aq)) aq))))) (ay (aP 6 (Zg (b2 aX (Zg (C 2) (pS (C 5)) pN) (Zg (C 2) pN (pS (C 5)))) pN (pS (b2 aX .(e) (b2 cR (cF bO (J (C 0) (J (vC (.int 2)) (J (vC (.int 2)) aq)))) (cF bO (J (C 0) (J (vC (.int 3)) (J (vC (.int 4)) aq))))))))) (ay (eL 7 (X5 aq)) (ay (bN (ς (C 6)) (bT 2 (aQ (aA 8) (aQ (aA 9) bV))) (ay (aP 10 (b2 XV (aR (X5 (J (C 3) (J (cF j8 (J (vC (.int 5)) (J (C 3) aq))) aq)))) (cF bO (J (C 0) (J (vC (.int 13)) (J (vC (.int 2)) aq)))))) (fL 7 (ba (X5 (J (b2 XV (C 9) .(f)) (J (cF ij (J .(e) (J (cF lx (J (C 0) (J (b2 aX (vC (.int 4)) (b2 cR (vC (.int 2)) (C 8))) (J (C 10) aq)))) aq))) aq))))))) (eO 7 (aE (ba (X5 (J (C 1) (J (C 4) (J (C 7) aq))))))))))))
def wS:FQ:=aO 4
  (ay (ut 3) (ay (bN (ä e9 (J (cF bO (J (C 0) (J (C 1) (J (vC (.int 6)) aq)))) aq)) (aA 4) (ay (aP 5 (b2 XV (b2 XV (C 2) (cF bO (J (C 0) (J (b2 aX (b2 aX (C 1) .(e)) (b2 cR (vC (.int 3)) (C 4))) (J (cF cb (J (C 2) aq)) aq))))) .(f))) (ay (aP 6 (b2 XV (b2 XV (C 2) (cF bO (J (C 0) (J (b2 aX (b2 aX (C 1) (vC (.int 2))) (b2 cR (vC (.int 3)) (C 4))) (J (cF cb (J (C 2) aq)) aq))))) .(f))) (YJ (p9 3 (gT (XX (b2 Ļ (C 5) (C 6))) (XX (b2 mq (ba (X5 (J (C 5) (J (C 6) aq)))) (C 3))))) (fE 3 (ba (X5 (J (C 5) (J (C 6) aq)))) (cF bO (J (C 0) (J (b2 aX (b2 aX (C 1) (vC (.int 3))) (b2 cR (vC (.int 3)) (C 4))) (J (vC (.int 5)) aq))))) aZ)))) (n3 3 (aE (C 3)))))
def xp:FQ:=aO 4
  (ay (aP 3 (aR (X5 (J (vC (.str "cut")) (J (vC (.str "glue")) (J (vC (.str "paint")) (J (vC (.str "rest")) aq))))))) (ay (ut 4) (ay (bN (ä e9 (J (cF bO (J (C 0) (J .(f) (J (vC (.int 12)) aq)))) aq)) (aA 5) (ay (aP 6 (ba (X5 (J (b2 XV (b2 XV (C 1) (cF bO (J (C 0) (J (b2 aX .(e) (b2 cR (vC (.int 4)) (C 5))) (J (cF cb .(r)) aq))))) .(f)) (J (b2 XV (C 3) (cF bO (J (C 0) (J (b2 aX (vC (.int 2)) (b2 cR (vC (.int 4)) (C 5))) (J (vC (.int 4)) aq))))) aq))))) (ay (aP 6 (b2 iY (C 6) (ba (X5 (J (b2 XV (C 3) (cF bO (J (C 0) (J (b2 aX (vC (.int 3)) (b2 cR (vC (.int 4)) (C 5))) (J (vC (.int 4)) aq))))) aq))))) (fE 4 (C 6) (b2 aX .(e) (cF bO (J (C 0) (J (b2 aX (vC (.int 4)) (b2 cR (vC (.int 4)) (C 5))) (J (cF j8 (J (C 2) (J (vC (.int 4)) aq))) aq))))))))) (n3 4 (aE (n6 4 (aR (aW (jr (C 4)) (aA 0) tT (b2 iY (C 0) (ba (X5 (J (b2 aT (C 1) (C 0)) aq)))) [B,U 4]))))))))
def yS:FQ:=aO 5
  (ay (eL 2 (X5 aq)) (ay (bN (ä e9 (J (cF bO (J (C 0) (J .(f) (J (vC (.int 3)) aq)))) aq)) (aA 3) (ay (aP 4 (cF bO (J (C 0) (J (b2 aX .(e) (C 3)) (J (vC (.int 9)) aq))))) (ay (aP 5 (aR (aW (ς (C 1)) .(n) (XX (b2 â (cF bO (J (C 2) (J (b2 aX (vC (.int 4)) (C 3)) (J (vC (.int 7)) aq)))) (b2 eQ (C 0) (vC (.int 7))))) (ba (X5 (J (b2 XV (C 1) .(f)) (J (b2 aX .(e) (b2 eQ (C 0) (vC (.int 3)))) aq)))) [B,B,U 0,U 3]))) (ay (aP 6 (aR (aW (ς (C 1)) .(n) (XX (b2 â (cF bO (J (C 2) (J (b2 aX (vC (.int 8)) (C 3)) (J (vC (.int 7)) aq)))) (b2 eQ (C 0) (vC (.int 7))))) (ba (X5 (J (b2 XV (C 1) .(f)) (J (b2 aX .(e) (b2 eQ (C 0) (vC (.int 2)))) aq)))) [B,B,U 0,U 3]))) (fL 2 (ba (X5 (J (b2 aX (vC (.str "s")) (b2 XV (vC (.str "ab")) (C 3))) (J (cF bO (J (C 0) (J (b2 aX (vC (.int 12)) (C 3)) (J (b2 aX (C 4) .(e)) aq)))) (J (C 4) (J (C 5) (J (C 6) aq)))))))))))) (eO 2 (aE (C 2)))))
def uj:FQ:=aO 5
  (ay (eL 4 (X5 aq)) (ay (bN (ä e9 (J (vC (.int 3)) aq)) (aA 5) (ay (aP 6 (aR (aW (ä e9 (J (cF cb (J (C 2) aq)) aq)) (aA 0) (XX (b2 Ŏ (cF bO (J (b2 XV (C 3) (b2 eQ (C 0) (cF cb (J (C 3) aq)))) (J (vC (.int 12)) (J (vC (.int 4)) aq)))) (C 2))) (b2 XV (b2 XV (C 1) (C 0)) .(f)) [B,U 2,U 5,U 1]))) (ay (YJ (XX (b2 â (cF bO (J (C 0) (J (b2 aX (vC (.int 20)) (C 5)) (J (vC (.int 3)) aq)))) .(e))) (aP 6 (b1 xm (C 6))) aZ) (ay (aP 7 (cF lx (J (C 0) (J (b2 aX (vC (.int 24)) (b2 cR (vC (.int 4)) (C 5))) (J (b2 mi (C 3) (vC (.int 2))) aq))))) (ay (aP 8 (b2 XV (aR (X5 (J (C 3) (J (cF bO (J (C 0) (J (b2 aX (vC (.int 37)) (C 5)) (J (b2 aX (C 3) .(e)) aq)))) aq)))) (b2 mi (cF bO (J (C 0) (J (b2 aX (vC (.int 40)) (C 5)) (J (vC (.int 3)) aq)))) (vC (.int 2))))) (YJ (XX (b2 Ļ (C 6) (aR (X5 aq)))) (fL 4 (ba (X5 (J (b2 aX (vC (.str "j")) (b2 XV (vC (.str "abc")) (C 5))) (J (C 7) (J (C 8) (J (b2 â (cF bO (J (C 0) (J (b2 aX (vC (.int 44)) (C 5)) (J (vC (.int 2)) aq)))) .(f)) (J (C 6) aq)))))))) aZ)))))) (eO 4 (aE (C 4)))))
def uy:FQ:=aO 10
  (ay (aP 3 (cF fQ (J (C 0) (J .(f) aq)))) (ay (aP 4 (b2 aX (Zg (C 0) (pS (vC (.int 4))) (pS (b2 aX (vC (.int 4)) (C 1)))) (aR (X5 (J (cF fQ (J (C 0) (J (vC (.int 3)) aq))) aq))))) (ay (aP 5 (cF j8 (J (cF ij (J .(e) (J (b2 f8 (cF cb (J (C 0) aq)) (vC (.int 4))) aq))) .(r)))) (ay (eL 6 (X5 aq)) (ay (bN (ä e9 (J (b2 aX .(e) (cF bO (J (C 3) (J .(f) (J (b2 XV (aR (X5 (J (vC (.int 2)) (J (vC (.int 3)) (J (vC (.int 8)) aq))))) (cF bO (J (C 3) (J .(e) (J (vC (.int 3)) aq))))) aq))))) aq)) (aA 7) (fL 6 (ba (X5 (J (b2 aX (vC (.str "be")) (b2 XV (vC (.str "abcdefgh")) (C 7))) (J (cF tE (J (b2 aX (cF fQ (J (C 0) (J .(e) aq))) (b2 cR (vC (.int 2)) (C 7))) (J .(f) (J (C 2) aq)))) aq)))))) (ay (aP 8 (cF xM (J (cF fQ (J (C 0) (J (vC (.int 2)) aq))) (J (C 5) aq)))) (eO 6 (ay (aP 9 (aR (aW (ä e9 (J (C 5) aq)) (aA 0) tT (cF wG (J (b2 XV (C 3) (C 0)) (J (b2 XV (C 4) (C 0)) (J (C 1) (J (C 2) aq))))) [B,U 6,U 2,U 4,U 8]))) (ay (aP 10 (cF wS (J (C 3) (J (vC (.int 50)) (J (C 9) aq))))) (ay (aP 11 (cF xp (J (cF fQ (J (C 0) (J (vC (.int 3)) aq))) (J (C 6) (J (C 2) aq))))) (ay (aP 10 (n6 10 (aR (aW (jr (C 10)) (aA 0) tT (b2 iY (C 0) (ba (X5 (J (cF j8 (J (b2 aT (C 2) (C 0)) .(r))) aq)))) [B,U 2,U 10])))) (ay (aP 12 (aR (X5 aq))) (ay (YJ (XX (b2 â (cF bO (J (C 3) (J (vC (.int 70)) (J (vC (.int 3)) aq)))) .(e))) (aP 12 (cF yS (J (cF fQ (J (C 0) (J .(e) aq))) (J (C 9) aq)))) aZ) (aE (ba (X5 (J (C 6) (J (C 9) (J (cF uj (J (C 3) (J (C 4) (J (C 9) (J (C 2) aq))))) (J (C 11) (J (C 10) (J (C 12) (J (C 2) aq)))))))))))))))))))))))
def pT:FQ:=aO 4
  (ay (aP 1 (cF j8 (J (cF ij (J .(e) (J (b2 f8 (cF cb (J (C 0) aq)) (vC (.int 4))) aq))) (J (vC (.int 3)) aq)))) (ay (aP 2 (b2 aX (vC (.int 2)) (cF bO (J (cF fQ (J (C 0) (J .(f) aq))) (J (vC (.int 80)) (J (b2 XV (aR (X5 (J (vC (.int 7)) (J (vC (.int 5)) (J (vC (.int 3)) aq))))) (b2 f8 (C 1) .(e))) aq)))))) (ay (aP 3 (cF uy (J (C 0) (J (vC (.int 3)) (J (C 2) aq))))) (ay (aP 4 (aR (aW (X6 (b2 XV (C 3) .(e))) (bT 3 (aQ (aA 0) (aQ (aA 1) (aQ (aA 2) bV)))) tT (ba (X5 (J (C 0) (J (C 1) (J (Zg (C 2) pN (pS (b2 aX .(e) (cF bO (J (cF fQ (J (C 3) (J (vC (.int 3)) aq))) (J (vC (.int 20)) (J (vC (.int 2)) aq))))))) aq))))) [B,B,B,U 0]))) (aE (b2 iY (b2 iY (Zg (C 3) pN (pS .(e))) (ba (X5 (J (C 4) aq)))) (Zg (C 3) (pS (vC (.int 2))) pN)))))))
def tI:FQ:=aO 0
  (aE (cm (cF dQ (J (C 0) (J (vC (.ty "int")) aq))) (wL (cF dQ (J (C 0) (J (vC (.ty "bool")) aq))))))
def gJ:FQ:=aO 0
  (aE (cm (cF tI (J (C 0) aq)) (ą Y0 Y0 (C 1) (C 0) (C 2))))
def fU:FQ:=aO 0
  (aE (cm (cF dQ (J (C 0) (J (vC (.ty "tuple")) aq))) (b2 â (cF cb (J (C 0) aq)) (C 1))))
def uA:FQ:=aO 0
  (ay (YJ (Yh (bA (XX (cF fU (J (C 0) (J (vC (.int 2)) aq))))) (Yh (bA (XX (cF gJ (J .(o) (J .(f) .(r)))))) (bA (XX (cF gJ (J (b2 XV (C 0) .(e)) (J .(f) .(r)))))))) (aE (vC (.bl ar))) aZ) (aE (b2 Zr .(o) (b2 XV (C 0) .(e)))))
def gY:FQ:=aO 0
  (aE (cm (cF dQ (J (C 0) (J (vC (.ty "list")) aq))) (ą Y0 Y0 (C 1) (cF cb (J (C 0) aq)) (C 2))))
def xZ:FQ:=aO 0
  (ay (YJ (Yh (bA (XX (cF gY (J (C 0) (J .(f) (J (vC (.int 10)) aq)))))) (bA (XX (cF er (J (aR (aW (X6 (C 0)) (aA 0) tT (cF uA (J (C 0) .(r))) [B,U 1])) aq))))) (aE (vC (.bl ar))) aZ) (aE (cF er (J (aR (aW (ä mZ (J .(e) (J (cF cb (J (C 0) aq)) aq))) (aA 0) tT (b2 Zr (b2 XV (b2 XV (C 1) (b2 f8 (C 0) .(e))) .(e)) (b2 XV (b2 XV (C 1) (C 0)) .(f))) [B,U 0])) aq))))
def jh:FQ:=aO 0
  (ay (YJ (Yh (bA (XX (cF dQ (J (C 0) (J (vC (.ty "str")) aq))))) (bA (XX (ą Y0 Y0 .(e) (cF cb (J (C 0) aq)) (vC (.int 8)))))) (aE (vC (.bl ar))) aZ) (aE (cF er (J (aR (aW (itS (C 0)) (aA 0) tT (ą Y0 Y0 (vC (.str "a")) (C 0) (vC (.str "z"))) [B])) aq))))
def sU:FQ:=aO 0
  (aE (cm (cF fU (J (C 0) (J (vC (.int 2)) aq))) (cm (cF jh (J .(o) aq)) (cF xZ (J (b2 XV (C 0) .(e)) .(r))))))
def fA:FQ:=aO 0
  (aE (b2 â (b1 nN (C 0)) (cF cb (J (C 0) aq))))
def wp:FQ:=aO 0
  (ay (YJ (Yh (bA (XX (cF gY (J (C 0) (J .(e) (J (vC (.int 8)) aq)))))) (bA (XX (cF er (J (aR (aW (X6 (C 0)) (aA 0) tT (cF sU (J (C 0) .(r))) [B,U 1])) aq))))) (aE (vC (.bl ar))) aZ) (aE (cF fA (J (aR (aW (X6 (C 0)) (aA 0) tT .(o) [B])) aq))))
def ka:FQ:=aO 0
  (aE (cm (cF jh (J (C 0) aq)) (b2 l9 (C 0) (C 1))))
def uY:FQ:=aO 0
  (aE (cm (cF fU (J (C 0) (J (vC (.int 2)) aq))) (cm (cF ka (J .(o) .(r))) (cF gJ (J (b2 XV (C 0) .(e)) (J .(e) (J (C 2) aq)))))))
def wv:FQ:=aO 0
  (ay (YJ (Yh (bA (XX (cF gY (J (C 0) (J .(e) (J (vC (.int 4)) aq)))))) (bA (XX (cF er (J (aR (aW (X6 (C 0)) (aA 0) tT (cF uY (J (C 0) (J (C 1) (J (C 2) aq)))) [B,U 1,U 2])) aq))))) (aE (vC (.bl ar))) aZ) (aE (cF fA (J (aR (aW (X6 (C 0)) (aA 0) tT .(o) [B])) aq))))
def tZ:FQ:=aO 0
  (ay (YJ (Yh (bA (XX (cF fU (J (C 0) (J (vC (.int 3)) aq))))) (Yh (bA (XX (cF jh (J .(o) aq)))) (bA (XX (cF jh (J (b2 XV (C 0) .(e)) aq)))))) (aE (vC (.bl ar))) aZ) (aE (cF wv (J (b2 XV (C 0) (vC (.int 2))) (J (C 1) (J (C 2) aq))))))
def wf:FQ:=aO 0
  (ay (YJ (Yh (bA (XX (cF gY (J (C 0) (J .(e) (J (vC (.int 40)) aq)))))) (bA (XX (cF er (J (aR (aW (X6 (C 0)) (aA 0) tT (cF tZ (J (C 0) (J (C 1) (J (C 2) aq)))) [B,U 1,U 2])) aq))))) (aE (vC (.bl ar))) aZ) (aE (cF fA (J (aR (aW (X6 (C 0)) (aA 0) tT .(o) [B])) aq))))
def yz:FQ:=aO 0
  (ay (YJ (Yh (bA (XX (cF fU (J (C 0) (J (vC (.int 5)) aq))))) (Yh (bA (XX (cF jh (J .(o) aq)))) (bA (XX (cF dQ (J (b2 XV (C 0) (vC (.int 3))) (J (vC (.ty "bool")) aq))))))) (aE (vC (.bl ar))) aZ) (ay (YJ (Yh (bA (XX (cF gJ (J (b2 XV (C 0) .(e)) (J .(f) (J (C 2) aq)))))) (bA (XX (cF gJ (J (b2 XV (C 0) (vC (.int 2))) (J .(f) (J (C 2) aq))))))) (aE (vC (.bl ar))) aZ) (aE (cm (cF gY (J (b2 XV (C 0) (vC (.int 4))) (J .(e) (J (cF cb .(r)) aq)))) (cF er (J (aR (aW (X6 (b2 XV (C 0) (vC (.int 4)))) (aA 0) tT (cF ka (J (C 0) .(r))) [B,U 1])) aq))))))
def yB:FQ:=aO 2
  (ay (YJ (Yh (bA (XX (cF gY (J (C 0) (J .(f) (J (vC (.int 40)) aq)))))) (bA (XX (cF er (J (aR (aW (X6 (C 0)) (aA 0) tT (cF yz (J (C 0) (J (C 1) (J (C 2) aq)))) [B,U 1,U 2])) aq))))) (aE (vC (.bl ar))) aZ) (ay (eL 3 (X5 aq)) (ay (bN (X6 (C 0)) (aA 4) (gR 3 (b2 XV (C 4) (vC (.int 4))))) (eO 3 (aE (cm (cF fA (J (aR (aW (X6 (C 0)) (aA 0) tT .(o) [B])) aq)) (cF fA (J (C 3) aq))))))))
def sX:FQ:=aO 0
  (ay (YJ (Yh (bA (XX (cF fU (J (C 0) (J (vC (.int 4)) aq))))) (bA (XX (cF ka (J .(o) .(r)))))) (aE (vC (.bl ar))) aZ) (aE (cm (cF jh (J (b2 XV (C 0) .(e)) aq)) (cm (cF jh (J (b2 XV (C 0) (vC (.int 2))) aq)) (cF gJ (J (b2 XV (C 0) (vC (.int 3))) (J .(e) (J (C 2) aq))))))))
def yO:FQ:=aO 0
  (ay (YJ (Yh (bA (XX (cF gY (J (C 0) (J .(f) (J (vC (.int 100)) aq)))))) (bA (XX (cF er (J (aR (aW (X6 (C 0)) (aA 0) tT (cF sX (J (C 0) (J (C 1) (J (C 2) aq)))) [B,U 1,U 2])) aq))))) (aE (vC (.bl ar))) aZ) (aE (cF fA (J (aR (aW (X6 (C 0)) (aA 0) tT (Zg (C 0) pN (pS (vC (.int 3)))) [B])) aq))))
def uG:FQ:=aO 0
  (ay (YJ (Yh (bA (XX (cF fU (J (C 0) (J (vC (.int 3)) aq))))) (Yh (bA (XX (cF ka (J .(o) .(r))))) (bA (XX (cF ka (J (b2 XV (C 0) .(e)) .(r))))))) (aE (vC (.bl ar))) aZ) (aE (cm (b2 Ļ .(o) (b2 XV (C 0) .(e))) (cF gJ (J (b2 XV (C 0) (vC (.int 2))) (J .(f) (J (C 2) aq)))))))
def zg:FQ:=aO 0
  (ay (YJ (Yh (bA (XX (cF gY (J (C 0) (J .(f) (J (vC (.int 100)) aq)))))) (bA (XX (cF er (J (aR (aW (X6 (C 0)) (aA 0) tT (cF uG (J (C 0) (J (C 1) (J (C 2) aq)))) [B,U 1,U 2])) aq))))) (aE (vC (.bl ar))) aZ) (aE (cF fA (J (aR (aW (X6 (C 0)) (aA 0) tT (Zg (C 0) pN (pS (vC (.int 2)))) [B])) aq))))
def uV:FQ:=aO 0
  (aE (cm (cF fU (J (C 0) (J (vC (.int 2)) aq))) (cm (cF ka (J .(o) .(r))) (cF gJ (J (b2 XV (C 0) .(e)) (J .(e) (J (vC (.int 1000000)) aq)))))))
def vx:FQ:=aO 0
  (ay (YJ (Yh (bA (XX (cF gY (J (C 0) (J .(f) (J (cF cb .(r)) aq)))))) (bA (XX (cF er (J (aR (aW (X6 (C 0)) (aA 0) tT (cF uV (J (C 0) .(r))) [B,U 1])) aq))))) (aE (vC (.bl ar))) aZ) (aE (cF fA (J (aR (aW (X6 (C 0)) (aA 0) tT .(o) [B])) aq))))
def uZ:FQ:=aO 0
  (ay (YJ (Yh (bA (XX (cF fU (J (C 0) (J (vC (.int 5)) aq))))) (bA (XX (cF jh (J .(o) aq))))) (aE (vC (.bl ar))) aZ) (ay (YJ (Yh (bA (XX (cF gJ (J (b2 XV (C 0) (vC (.int 2))) (J .(f) (J (vC (.int 1000000)) aq)))))) (bA (XX (cF gJ (J (b2 XV (C 0) .(e)) (J .(f) (J (b2 XV (C 0) (vC (.int 2))) aq))))))) (aE (vC (.bl ar))) aZ) (aE (cm (cF vx (J (b2 XV (C 0) (vC (.int 3))) .(r))) (cF vx (J (b2 XV (C 0) (vC (.int 4))) .(r)))))))
def we:FQ:=aO 0
  (ay (YJ (Yh (bA (XX (cF gY (J (C 0) (J .(f) (J (vC (.int 6)) aq)))))) (bA (XX (cF er (J (aR (aW (X6 (C 0)) (aA 0) tT (cF uZ (J (C 0) .(r))) [B,U 1])) aq))))) (aE (vC (.bl ar))) aZ) (aE (cF fA (J (aR (aW (X6 (C 0)) (aA 0) tT .(o) [B])) aq))))
def yJ:FQ:=aO 2
  (ay (YJ (bA (XX (cF gJ (J (C 6) (J .(e) (J (vC (.int 1000000)) aq)))))) (aE (vC (.str "horizon"))) aZ) (ay (YJ (bA (XX (cF wp (J (C 0) (J (C 6) aq))))) (aE (vC (.str "benches"))) aZ) (ay (aP 7 (aR (aW (X6 (C 0)) (aA 0) tT .(o) [B]))) (ay (YJ (bA (XX (cF wf (J (C 1) (J (C 7) (J (C 6) aq)))))) (aE (vC (.str "steps"))) aZ) (ay (aP 8 (aR (aW (X6 (C 1)) (aA 0) tT .(o) [B]))) (ay (YJ (bA (XX (cF yB (J (C 2) (J (C 8) (J (C 6) aq)))))) (aE (vC (.str "jobs"))) aZ) (ay (YJ (bA (XX (cF yO (J (C 3) (J (C 7) (J (C 6) aq)))))) (aE (vC (.str "setups"))) aZ) (ay (YJ (bA (XX (cF zg (J (C 4) (J (C 8) (J (C 6) aq)))))) (aE (vC (.str "links"))) aZ) (ay (YJ (bA (XX (cF we (J (C 5) (J (C 8) aq))))) (aE (vC (.str "stocks"))) aZ) (aE (vC .non)))))))))))
def oj(eh:FQ):FQ:=aO 0
  (ay (YJ (XX (cF dQ (J (C 0) (J (vC (.ty "list")) aq)))) (aE (aR (aW (X6 (C 0)) (aA 0) tT (cF eh (J (C 0) aq)) [B]))) aZ) (ay (YJ (XX (cF dQ (J (C 0) (J (vC (.ty "tuple")) aq)))) (aE (cF zb (J (aR (aW (X6 (C 0)) (aA 0) tT (cF eh (J (C 0) aq)) [B])) aq))) aZ) (aE (C 0))))
def jd:ag->FQ
 |0=>λ_=>B
 |n+1=>oj (jd n)
def eh:FQ:=jd 8
def ze:FQ:=u0 3 "Shop"
  (ay (aP 8 (cF yJ (J (C 1) (J (C 2) (J (C 3) (J (C 4) (J (C 5) (J (C 6) (J (C 7) aq))))))))) (ay (YJ (XX (b2 jc (C 8) (vC .non))) sNo aZ) (ay (gS "Shop" "benches" 0 (cF eh .(r))) (ay (gS "Shop" "steps" 0 (cF eh (J (C 2) aq))) (ay (gS "Shop" "jobs" 0 (cF eh (J (C 3) aq))) (ay (gS "Shop" "setups" 0 (cF eh (J (C 4) aq))) (ay (gS "Shop" "links" 0 (cF eh (J (C 5) aq))) (ay (gS "Shop" "stocks" 0 (cF eh (J (C 6) aq))) (ay (gS "Shop" "horizon" 0 (C 7)) (ay (gS "Shop" "bench_by_name" 0 (cF iL (J (aR (aW (X6 (jb "Shop" "benches" 0)) (aA 0) tT (ba (X5 (J .(o) (J (C 0) aq)))) [B])) aq))) (ay (gS "Shop" "step_by_name" 0 (cF iL (J (aR (aW (X6 (jb "Shop" "steps" 0)) (aA 0) tT (ba (X5 (J .(o) (J (C 0) aq)))) [B])) aq))) (ay (gS "Shop" "setup_by_names" 0 (cF nO (J (aR (aW (X6 (jb "Shop" "setups" 0)) (aA 0) tT (ba (X5 (J (Zg (C 0) pN (pS (vC (.int 3)))) (J (b2 XV (C 0) (vC (.int 3))) aq)))) [B])) aq))) (ay (nU "Shop" "job_by_step" 0) (bN (X6 (jb "Shop" "jobs" 0)) (aA 9) (bN (X6 (b2 XV (C 9) (vC (.int 4)))) (aA 10) (mN "Shop" "job_by_step" 0 (C 10) (C 9)))))))))))))))))
def yM:FQ:=aO 0
  (aE (cF ze (J .(o) (J (b2 XV (C 0) .(e)) (J (b2 XV (C 0) (vC (.int 2))) (J (b2 XV (C 0) (vC (.int 3))) (J (b2 XV (C 0) (vC (.int 4))) (J (b2 XV (C 0) (vC (.int 5))) (J (b2 XV (C 0) (vC (.int 6))) aq)))))))))
def iH:FQ:=aO 0
  (aE (aR (aW (X6 (bh "Shop" "steps" (C 0))) (aA 0) tT .(o) [B])))
def sW:FQ:=aO 0
  (aE (cF eh (J (b2 XV (b2 aT (bh "Shop" "step_by_name" (C 0)) (C 1)) (vC (.int 2))) aq)))
def uJ:FQ:=aO 0
  (aE (cF eh (J (b2 xg (bh "Shop" "job_by_step" (C 0)) (C 1)) aq)))
def oC:FQ:=aO 0
  (aE (bh "Shop" "horizon" (C 0)))
def zl:FQ:=aO 0
  (aE (cF eh (J (bh "Shop" "benches" (C 0)) aq)))
def pF:FQ:=aO 0
  (aE (cF eh (J (bh "Shop" "jobs" (C 0)) aq)))
def kX:FQ:=aO 3
  (ay (eL 1 (X5 aq)) (ay (bN (ς (C 0)) (bT 2 (aQ (aA 2) (aQ (aA 3) bV))) (gR 1 (aR (aW (X6 (Zg (C 0) (pS (b2 aX (C 2) .(e))) pN)) (aA 0) tT (ba (X5 (J (C 1) (J (C 0) aq)))) [B,U 3])))) (eO 1 (aE (C 1)))))
def pz:FQ:=aO 0
  (aE (cF eh (J (bh "Shop" "links" (C 0)) aq)))
def yV:FQ:=aO 6
  (ay (ut 1) (ay (bN (X6 (bp "Shop" "job_rows" pF (C 0) aq)) (aA 2) (YJ (XX (b2 XV (C 2) (vC (.int 3)))) (bN (X6 (cF kX (J (b2 XV (C 2) (vC (.int 4))) aq))) (aA 3) (fE 1 (C 3) .(f))) aZ)) (ay (bN (X6 (bp "Shop" "link_rows" pz (C 0) aq)) (bT 3 (aQ (aA 4) (aQ (aA 5) (aQ (aA 6) bV)))) (fE 1 (ba (X5 (J (C 4) (J (C 5) aq)))) (C 6))) (n3 1 (aE (C 1))))))
def xN:FQ:=aO 4
  (ay (aP 1 (bp "Shop" "step_names" iH (C 0) aq)) (ay (aP 2 (cF yV (J (C 0) aq))) (ay (eL 3 (X5 aq)) (ay (bN (X6 (C 1)) (aA 4) (gR 3 (aR (aW (X6 (C 1)) (aA 0) (XX (b2 k0 (ba (X5 (J (C 1) (J (C 0) aq)))) (C 2))) (ba (X5 (J (C 1) (J (C 0) (J (b2 aT (C 2) (ba (X5 (J (C 1) (J (C 0) aq))))) aq))))) [B,U 4,U 2])))) (eO 3 (aE (C 3)))))))
def uz:Z D->au Fo:=gQ 3 "Grounds"
  (ay (jP "Grounds" "told_shop" 0 (C 1)) (ay (jP "Grounds" "kept_plan" 0 (ĩ (XX (b2 Zz (C 3) (vC .non))) (vC .non) (cF vf (J (C 3) aq)))) (ay (jP "Grounds" "kept_most" 0 (C 4)) (ay (fY "Grounds" "lengths" 0 (.k [])) (ay (fY "Grounds" "job_names" 0 (.k [])) (ay (fY "Grounds" "early_moments" 0 (.k [])) (ay (fY "Grounds" "end_marks" 0 (.k [])) (ay (bN (X6 (bp "Shop" "step_names" iH (C 1) aq)) (aA 5) (ay (jw "Grounds" "lengths" 0 (C 5) (cF iL (J (bp "Shop" "ways_of" sW (C 1) (J (C 5) aq)) aq))) (ay (aP 6 (bp "Shop" "job_of" uJ (C 1) (J (C 5) aq))) (ay (jw "Grounds" "job_names" 0 (C 5) (ĩ (XX (b2 Zz (C 6) (vC .non))) (vC .non) (b2 XV (C 6) .(f)))) (ay (jw "Grounds" "early_moments" 0 (C 5) (ĩ (XX (b2 Zz (C 6) (vC .non))) .(f) (b2 XV (C 6) .(e)))) (ay (aP 7 (ĩ (XX (b2 Zz (C 6) (vC .non))) (bp "Shop" "last_moment" oC (C 1) aq) (b2 XV (C 6) (vC (.int 2))))) (jw "Grounds" "end_marks" 0 (C 5) (cF wO (J (C 2) (J (bp "Shop" "last_moment" oC (C 1) aq) (J (C 7) aq))))))))))) (ay (jP "Grounds" "breaks" 0 (cF iL (J (bp "Shop" "bench_rows" zl (C 1) aq) aq))) (jP "Grounds" "known_gaps" 0 (cF nO (J (aR (aW (X6 (cF xN .(r))) (bT 3 (aQ (aA 0) (aQ (aA 1) (aQ (aA 2) bV)))) tT (ba (X5 (J (ba (X5 (J (C 0) .(r)))) (J (C 2) aq)))) [B,B,B])) aq))))))))))))
def uN:(Fo->Z D->au (D×Fo)):=oN 0 "Facts"
  (jw "Facts" "open_benches" 0 (C 1) (bwF 0 (aR (uw (b2 aT (bh "Grounds" "lengths" (bh "Facts" "grounds" (C 0))) (C 1)) (aA 0) (XX (b2 l9 (C 0) (C 1))) (C 0) [B,U 2]))))
def ui:(Fo->Z D->au (D×Fo)):=oN 0 "Facts"
  (ay (jw "Facts" "firsts" 0 (C 1) (C 2)) (jw "Facts" "lasts" 0 (C 1) (C 3)))
def pL:FQ:=aO 0
  (aE (b2 aT (bh "Grounds" "end_marks" (bh "Facts" "grounds" (C 0))) (C 1)))
def yq:FQ:=aO 1
  (ay (aP 2 (b2 aT (bh "Grounds" "lengths" (bh "Facts" "grounds" (C 0))) (C 1))) (aE (aR (aW (X6 (b2 aT (bh "Facts" "open_benches" (C 0)) (C 1))) (aA 0) tT (b2 aT (C 1) (C 0)) [B,U 2]))))
def uR:FQ:=aO 0
  (aE (b1 rD (bp "Facts" "open_lengths" yq (C 0) .(r))))
def oF:Z D->au Fo:=gQ 3 "Facts"
  (ay (jP "Facts" "grounds" 0 (cF (λds=>(uz (ds++[])).map (ō "Grounds")) (J (C 1) (J (C 2) (J (C 4) (J (C 5) aq)))))) (ay (fY "Facts" "open_benches" 0 (.k [])) (ay (fY "Facts" "firsts" 0 (.k [])) (ay (fY "Facts" "lasts" 0 (.k [])) (ay (fY "Facts" "put_pairs" 0 (.t [])) (ay (fY "Facts" "notes" 0 (.k [])) (bN (X6 (bp "Shop" "step_names" iH (C 1) aq)) (aA 7) (ay (aP 8 (bwF 0 (b2 aT (bh "Grounds" "early_moments" (bh "Facts" "grounds" (C 0))) (C 7)))) (YJ (gT (XX (b2 jc (C 3) (vC .non))) (XX (b2 k0 (C 7) (C 3)))) (ay (aP 9 (b2 XV (b2 aT (C 3) (C 7)) .(e))) (ay (kS "Facts" "set_open" 0 uN (J (C 7) (J (aR (X5 (J (b2 XV (b2 aT (C 3) (C 7)) .(f)) aq))) aq))) (kS "Facts" "set_window" 0 ui (J (C 7) (J (cF ij (J (C 9) (J (C 8) aq))) (J (C 9) aq)))))) (ay (kS "Facts" "set_open" 0 uN (iJ 0 (J (C 7) (J (cF xy (J (b2 aT (bh "Grounds" "lengths" (bh "Facts" "grounds" (C 0))) (C 7)) aq)) aq)))) (kS "Facts" "set_window" 0 ui (iJ 0 (J (C 7) (J (cF ij (J (C 6) (J (C 8) aq))) (J (b2 f8 (bp "Facts" "end_mark" pL (C 0) (J (C 7) aq)) (bp "Facts" "least_of" uR (C 0) (J (C 7) aq))) aq)))))))))))))))
def rj:FQ:=aO 2
  (ay (bN (X6 (C 0)) (bT 2 (aQ (aA 3) (aQ (aA 4) bV))) (YJ (gT (XX (b2 Zr (C 2) (C 4))) (XX (b2 Zr (C 3) (b2 aX (C 2) (C 1))))) (aP 2 (C 4)) aZ)) (aE (C 2)))
def lu:FQ:=aO 0
  (aE (b2 jc (bh "Grounds" "kept_plan" (bh "Facts" "grounds" (C 0))) (vC .non)))
def pr:FQ:=aO 0
  (aE (ĩ (XX (bp "Facts" "has_kept" lu (C 0) aq)) (b2 xg (bh "Grounds" "kept_plan" (bh "Facts" "grounds" (C 0))) (C 1)) (vC .non)))
def tf:FQ:=aO 0
  (aE (cm (b2 k0 (C 1) (bh "Facts" "notes" (C 0))) (b2 Ŏ (bp "Facts" "kept_place" pr (C 0) .(r)) (ba (X5 (J (C 2) (J (C 3) aq)))))))
def yj:FQ:=aO 3
  (ay (aP 3 (b2 aT (bh "Grounds" "breaks" (bh "Facts" "grounds" (C 0))) (C 2))) (ay (aP 4 (b2 aT (b2 aT (bh "Grounds" "lengths" (bh "Facts" "grounds" (C 0))) (C 1)) (C 2))) (ay (aP 5 (cF rj (J (C 3) (J (C 4) (J (b2 aT (bh "Facts" "firsts" (C 0)) (C 1)) aq))))) (ay (YJ (XX (bp "Facts" "is_barred" tf (C 0) (J (C 1) (J (C 2) (J (C 5) aq))))) (aP 5 (cF rj (J (C 3) (J (C 4) (J (b2 aX (C 5) .(e)) aq))))) aZ) (aE (C 5))))))
def kM:FQ:=aO 0
  (ay (YJ (Yh (XX (b2 jR (C 2) (b2 aT (bh "Facts" "open_benches" (C 0)) (C 1)))) (bA (XX (ą Y0 Y0 (b2 aT (bh "Facts" "firsts" (C 0)) (C 1)) (C 3) (b2 aT (bh "Facts" "lasts" (C 0)) (C 1)))))) (aE (vC (.bl ar))) aZ) (aE (b2 Y0 (b2 aX (C 3) (b2 aT (b2 aT (bh "Grounds" "lengths" (bh "Facts" "grounds" (C 0))) (C 1)) (C 2))) (bp "Facts" "end_mark" pL (C 0) .(r)))))
def mY:FQ:=aO 1
  (ay (aP 2 (aR (aW (X6 (b2 aT (bh "Facts" "open_benches" (C 0)) (C 1))) (aA 0) tT (ba (X5 (J (C 0) (J (bp "Facts" "least_on" yj (C 2) (J (C 1) (J (C 0) aq))) aq)))) [B,U 1,U 0]))) (aE (b1 rD (aR (aW (X6 (C 2)) .(n) (XX (bp "Facts" "is_in_window" kM (C 3) (J (C 2) (J (C 0) .(r))))) (C 1) [B,B,U 1,U 0])))))
def pw:FQ:=aO 2
  (ay (bN (D3 (C 0)) (bT 2 (aQ (aA 3) (aQ (aA 4) bV))) (YJ (gT (XX (b2 Zr (C 2) (C 4))) (XX (b2 Zr (C 3) (b2 aX (C 2) (C 1))))) (aP 2 (b2 f8 (C 3) (C 1))) aZ)) (aE (C 2)))
def wF:FQ:=aO 3
  (ay (aP 3 (b2 aT (bh "Grounds" "breaks" (bh "Facts" "grounds" (C 0))) (C 2))) (ay (aP 4 (b2 aT (b2 aT (bh "Grounds" "lengths" (bh "Facts" "grounds" (C 0))) (C 1)) (C 2))) (ay (aP 5 (cF pw (J (C 3) (J (C 4) (J (cF j8 (J (b2 aT (bh "Facts" "lasts" (C 0)) (C 1)) (J (b2 f8 (bp "Facts" "end_mark" pL (C 0) .(r)) (C 4)) aq))) aq))))) (ay (YJ (XX (bp "Facts" "is_barred" tf (C 0) (J (C 1) (J (C 2) (J (C 5) aq))))) (aP 5 (cF pw (J (C 3) (J (C 4) (J (b2 f8 (C 5) .(e)) aq))))) aZ) (aE (C 5))))))
def mr:FQ:=aO 1
  (ay (aP 2 (aR (aW (X6 (b2 aT (bh "Facts" "open_benches" (C 0)) (C 1))) (aA 0) tT (ba (X5 (J (C 0) (J (bp "Facts" "greatest_on" wF (C 2) (J (C 1) (J (C 0) aq))) aq)))) [B,U 1,U 0]))) (aE (b1 uh (aR (aW (X6 (C 2)) .(n) (XX (bp "Facts" "is_in_window" kM (C 3) (J (C 2) (J (C 0) .(r))))) (C 1) [B,B,U 1,U 0])))))
def ti:FQ:=aO 10
  (ay (aP 2 (aR (X5 (J (vC (.fdk [])) aq)))) (ay (bN (X6 (C 0)) (bT 3 (aQ (aA 3) (aQ (aA 4) (aQ (aA 5) bV)))) (ay (eL 6 (X5 aq)) (ay (bN (X6 (C 2)) (aA 7) (bN (X6 (C 5)) (bT 2 (aQ (aA 8) (aQ (aA 9) bV))) (bN (ä e9 (J (b2 aX (b2 f8 (C 1) (C 9)) .(e)) aq)) (aA 10) (ay (t9 11 (C 7)) (ay (fE 11 (C 3) (ba (X5 (J (C 8) (J (C 10) aq))))) (mx 11 (fL 6 (C 11)))))))) (eO 6 (aP 2 (C 6)))))) (aE (C 2))))
def pU:FQ:=aO 2
  (ay (bN (X6 (bp "Shop" "ways_of" sW (C 0) .(r))) (bT 2 (aQ (aA 3) (aQ (aA 4) bV))) (YJ (XX (b2 Ŏ (C 3) (C 2))) (aE (C 4)) aZ)) (aE (vC .non)))
def pq:FQ:=aO 3
  (ay (yb 2) (ay (bN (X6 (bp "Shop" "step_names" iH (C 0) aq)) (aA 3) (ay (aP 4 (b2 aT (C 1) (C 3))) (fE 2 (C 3) (b2 aX (b2 XV (C 4) .(e)) (cF pU (J (C 0) (J (C 3) (J (b2 XV (C 4) .(f)) aq)))))))) (mx 2 (aE (C 2)))))
def xW:FQ:=aO 3
  (ay (aP 2 (bp "Shop" "step_names" iH (C 0) aq)) (ay (bN (X6 (C 2)) (aA 3) (YJ (XX (b2 mq (C 3) (C 1))) (aE (ba (X5 (J (vC (.str "step")) (J (C 3) aq))))) aZ)) (ay (aP 4 (aR (aW (Ž (C 1)) (aA 0) (XX (b2 jR (C 0) (C 1))) (C 0) [B,U 2]))) (ay (YJ (XX (b2 ű (cF cb (J (C 4) aq)) .(f))) (aE (ba (X5 (J (vC (.str "step")) (J (cF xI (J (C 4) aq)) aq))))) aZ) (aE (vC .non))))))
def xV:FQ:=aO 3
  (ay (bN (X6 (bp "Shop" "step_names" iH (C 0) aq)) (aA 2) (ay (aP 3 (b2 XV (b2 aT (C 1) (C 2)) .(e))) (ay (aP 4 (cF pU (J (C 0) (J (C 2) (J (b2 XV (b2 aT (C 1) (C 2)) .(f)) aq))))) (YJ (Yh (XX (b2 Zz (C 4) (vC .non))) (Yh (XX (b2 Zr (C 3) .(f))) (XX (b2 ű (b2 aX (C 3) (C 4)) (bp "Shop" "last_moment" oC (C 0) aq))))) (aE (ba (X5 (J (vC (.str "way")) (J (C 2) aq))))) aZ)))) (aE (vC .non)))
def xR:FQ:=aO 2
  (ay (bN (X6 (bp "Shop" "step_names" iH (C 0) aq)) (aA 3) (ay (aP 4 (bp "Shop" "job_of" uJ (C 0) (J (C 3) aq))) (YJ (gT (XX (b2 jc (C 4) (vC .non))) (Yh (XX (b2 Zr (b2 XV (b2 aT (C 1) (C 3)) .(e)) (b2 XV (C 4) .(e)))) (XX (b2 ű (b2 aT (C 2) (C 3)) (b2 XV (C 4) (vC (.int 2))))))) (aE (ba (X5 (J (vC (.str "job")) (J (C 3) aq))))) aZ))) (aE (vC .non)))
def xz:FQ:=aO 0
  (aE (cF eh (J (b2 XV (b2 aT (bh "Shop" "bench_by_name" (C 0)) (C 1)) .(e)) aq)))
def wj:FQ:=aO 3
  (ay (bN (X6 (bp "Shop" "step_names" iH (C 0) aq)) (aA 3) (ay (aP 4 (b2 XV (b2 aT (C 1) (C 3)) .(e))) (ay (aP 5 (bp "Shop" "breaks_of" xz (C 0) (J (b2 XV (b2 aT (C 1) (C 3)) .(f)) aq))) (YJ (XX (cF zf (J (aR (aW (X6 (C 5)) .(n) tT (cm (b2 Zr (C 2) (C 1)) (b2 Zr (C 0) (b2 aT (C 3) (C 4)))) [B,B,U 4,U 2,U 3])) aq))) (aE (ba (X5 (J (vC (.str "break")) (J (C 3) aq))))) aZ)))) (aE (vC .non)))
def ve:FQ:=aO 0
  (aE (b3 tO (bh "Shop" "setup_by_names" (C 0)) (ba (X5 (J (C 1) (J (C 2) (J (C 3) aq))))) .(f)))
def oK:FQ:=aO 0
  (aE (b2 XV (b2 aT (bh "Shop" "step_by_name" (C 0)) (C 1)) .(e)))
def xC:FQ:=aO 3
  (ay (aP 5 (C 3)) (ay (aP 6 (C 4)) (ay (YJ (XX (b2 Zr (b2 XV (b2 aT (C 1) (C 4)) .(e)) (b2 XV (b2 aT (C 1) (C 3)) .(e)))) (ay (aP 5 (C 4)) (aP 6 (C 3))) aZ) (ay (aP 7 (bp "Shop" "setup_of" ve (C 0) (J (b2 XV (b2 aT (C 1) (C 3)) .(f)) (J (bp "Shop" "kind_of" oK (C 0) (J (C 5) aq)) (J (bp "Shop" "kind_of" oK (C 0) (J (C 6) aq)) aq))))) (aE (b2 Zr (b2 XV (b2 aT (C 1) (C 6)) .(e)) (b2 aX (b2 aT (C 2) (C 5)) (C 7))))))))
def yL:FQ:=aO 2
  (ay (bN (X6 (cF kX (J (bp "Shop" "step_names" iH (C 0) aq) aq))) (bT 2 (aQ (aA 3) (aQ (aA 4) bV))) (YJ (gT (XX (b2 Ŏ (b2 XV (b2 aT (C 1) (C 3)) .(f)) (b2 XV (b2 aT (C 1) (C 4)) .(f)))) (XX (cF xC (J (C 0) (J (C 1) (J (C 2) (J (C 3) (J (C 4) aq)))))))) (aE (ba (X5 (J (vC (.str "bench")) (J (C 3) (J (C 4) aq)))))) aZ)) (aE (vC .non)))
def yt:FQ:=aO 5
  (ay (bN (X6 (bp "Shop" "job_rows" pF (C 0) aq)) (aA 3) (bN (X6 (cF kX (J (b2 XV (C 3) (vC (.int 4))) aq))) (bT 2 (aQ (aA 4) (aQ (aA 5) bV))) (ay (aP 6 (b2 geD (b2 XV (b2 aT (C 1) (C 5)) .(e)) (b2 aT (C 2) (C 4)))) (ay (aP 7 (b2 geD (b2 XV (b2 aT (C 1) (C 4)) .(e)) (b2 aT (C 2) (C 5)))) (YJ (gT (bA (XX (C 6))) (Yh (XX (b2 XV (C 3) (vC (.int 3)))) (bA (XX (C 7))))) (aE (ba (X5 (J (vC (.str "apart")) (J (C 4) (J (C 5) aq)))))) aZ))))) (aE (vC .non)))
def xP:FQ:=aO 3
  (ay (bN (X6 (bp "Shop" "link_rows" pz (C 0) aq)) (bT 3 (aQ (aA 3) (aQ (aA 4) (aQ (aA 5) bV)))) (YJ (XX (b2 Zr (b2 XV (b2 aT (C 1) (C 4)) .(e)) (b2 aX (b2 aT (C 2) (C 3)) (C 5)))) (aE (ba (X5 (J (vC (.str "link")) (J (C 3) (J (C 4) aq)))))) aZ)) (aE (vC .non)))
def yK:FQ:=aO 0
  (aE (cF eh (J (bh "Shop" "stocks" (C 0)) aq)))
def wu:FQ:=aO 2
  (ay (aP 4 (cF rq (J (aR (aW (X6 (b2 XV (C 0) (vC (.int 3)))) .(n) (XX (b2 Y0 (b2 XV (b2 aT (C 3) (C 0)) .(e)) (C 2))) (C 1) [B,B,U 3,U 1])) aq))) (ay (aP 5 (cF rq (J (aR (aW (X6 (b2 XV (C 0) (vC (.int 4)))) .(n) (XX (b2 Y0 (b2 aT (C 3) (C 0)) (C 2))) (C 1) [B,B,U 3,U 2])) aq))) (aE (b2 aX (b2 f8 (b2 XV (C 0) .(e)) (C 4)) (C 5)))))
def yh:FQ:=aO 3
  (ay (bN (X6 (bp "Shop" "stock_rows" yK (C 0) aq)) (aA 3) (ay (eL 4 (aW (X6 (b2 XV (C 3) (vC (.int 3)))) (aA 0) tT (b2 XV (b2 aT (C 1) .(o)) .(e)) [B,U 1])) (ay (gR 4 (aR (aW (X6 (b2 XV (C 3) (vC (.int 4)))) (aA 0) tT (b2 aT (C 1) .(o)) [B,U 2]))) (eO 4 (bN (X6 (b1 wJ (C 4))) (aA 5) (YJ (bA (XX (ą Y0 Y0 .(f) (cF wu (J (C 3) (J (C 1) (J (C 2) (J (C 5) aq))))) (b2 XV (C 3) (vC (.int 2)))))) (aE (ba (X5 (J (vC (.str "stock")) (J (b2 XV (C 3) .(f)) (J (C 5) aq)))))) aZ)))))) (aE (vC .non)))
def mm:FQ:=aO 2
  (ay (aP 2 (cF xW (J (C 0) .(r)))) (ay (YJ (XX (b2 Zz (C 2) (vC .non))) (aP 2 (cF xV (J (C 0) .(r)))) aZ) (ay (YJ (XX (b2 jc (C 2) (vC .non))) (aE (C 2)) aZ) (ay (aP 3 (cF pq (J (C 0) .(r)))) (ay (aP 2 (cF xR (J (C 0) (J (C 1) (J (C 3) aq))))) (ay (YJ (XX (b2 Zz (C 2) (vC .non))) (aP 2 (cF wj (J (C 0) (J (C 1) (J (C 3) aq))))) aZ) (ay (YJ (XX (b2 Zz (C 2) (vC .non))) (aP 2 (cF yL (J (C 0) (J (C 1) (J (C 3) aq))))) aZ) (ay (YJ (XX (b2 Zz (C 2) (vC .non))) (aP 2 (cF yt (J (C 0) (J (C 1) (J (C 3) aq))))) aZ) (ay (YJ (XX (b2 Zz (C 2) (vC .non))) (aP 2 (cF xP (J (C 0) (J (C 1) (J (C 3) aq))))) aZ) (ay (YJ (XX (b2 Zz (C 2) (vC .non))) (aP 2 (cF yh (J (C 0) (J (C 1) (J (C 3) aq))))) aZ) (aE (C 2))))))))))))
def tK:FQ:=aO 1
  (ay (YJ (Yh (XX (b2 jc (cF mm (J (C 0) .(r))) (vC .non))) (XX (b2 ű (b1 tR (cF pq (J (C 0) .(r)))) (C 2)))) (aE (vC (.bl ar))) aZ) (ay (bN (Ž (C 1)) (aA 5) (YJ (XX (b2 k0 (C 5) (C 3))) (YJ (XX (b2 Ļ (b2 aT (C 1) (C 5)) (b2 aT (C 3) (C 5)))) (aE (vC (.bl ar))) aZ) (YJ (XX (b2 Zr (b2 XV (b2 aT (C 1) (C 5)) .(e)) (C 4))) (aE (vC (.bl ar))) aZ))) (aE (vC (.bl ai)))))
def ux:FQ:=aO 0
  (aE (cm (b2 â (cF cb (J (b2 aT (bh "Facts" "open_benches" (C 0)) (C 1)) aq)) .(e)) (b2 Ŏ (b2 aT (bh "Facts" "open_benches" (C 0)) (C 1)) (b2 aT (bh "Facts" "open_benches" (C 0)) (C 2)))))
def t6:FQ:=aO 0
  (aE (bh "Grounds" "told_shop" (bh "Facts" "grounds" (C 0))))
def yy:FQ:=aO 2
  (ay (aP 3 (b3 tO (bh "Grounds" "known_gaps" (bh "Facts" "grounds" (C 0))) (ba (X5 (J (C 1) (J (C 2) aq)))) .(f))) (ay (YJ (bA (XX (bp "Facts" "have_one_bench" ux (C 0) (J (C 1) (J (C 2) aq))))) (aE (C 3)) aZ) (ay (aP 4 (bp "Facts" "shop" t6 (C 0) aq)) (aE (cF ij (J (C 3) (J (bp "Shop" "setup_of" ve (C 4) (J (b2 XV (b2 aT (bh "Facts" "open_benches" (C 0)) (C 1)) .(f)) (J (bp "Shop" "kind_of" oK (C 4) .(r)) (J (bp "Shop" "kind_of" oK (C 4) (J (C 2) aq)) aq)))) aq)))))))
def u5:FQ:=aO 1
  (ay (aP 4 (b2 aX (b2 XV (b2 aT (C 1) (C 2)) .(e)) (b2 aT (b2 aT (bh "Grounds" "lengths" (bh "Facts" "grounds" (C 0))) (C 2)) (b2 XV (b2 aT (C 1) (C 2)) .(f))))) (aE (b2 geD (b2 XV (b2 aT (C 1) (C 3)) .(e)) (b2 aX (C 4) (bp "Facts" "gap_of" yy (C 0) (J (C 2) (J (C 3) aq)))))))
def vt:FQ:=aO 0
  (aE (ĩ (XX (bp "Facts" "has_kept" lu (C 0) aq)) (cF tq (J (bh "Grounds" "kept_plan" (bh "Facts" "grounds" (C 0))) aq)) (aR (X5 aq))))
def AY:FQ:=aO 0
  (aE (bh "Grounds" "kept_most" (bh "Facts" "grounds" (C 0))))
def uX:FQ:=aO 1
  (ay (aP 2 (aR (aW (X6 (bp "Facts" "kept_names" vt (C 0) aq)) (aA 0) (XX (b2 Ļ (b2 aT (C 1) (C 0)) (bp "Facts" "kept_place" pr (C 2) (J (C 0) aq)))) (C 0) [B,U 1,U 0]))) (ay (YJ (gT (XX (bp "Facts" "has_kept" lu (C 0) aq)) (XX (b2 ű (cF cb (J (C 2) aq)) (bp "Facts" "most_moved" AY (C 0) aq)))) (aE (vC (.bl ar))) aZ) (aE (cF er (J (aR (aW (Ž (bh "Facts" "notes" (C 0))) (aA 0) tT (b2 Ļ (b2 aT (C 1) (C 0)) (bp "Facts" "kept_place" pr (C 2) (J (C 0) aq))) [B,U 1,U 0])) aq)))))
def vm:FQ:=aO 1
  (ay (bN (Ž (bh "Facts" "firsts" (C 0))) (aA 2) (YJ (Yh (XX (b2 mq (C 2) (C 1))) (bA (XX (bp "Facts" "is_in_window" kM (C 0) (J (C 2) (J (b2 XV (b2 aT (C 1) (C 2)) .(f)) (J (b2 XV (b2 aT (C 1) (C 2)) .(e)) aq))))))) (aE (vC (.bl ar))) aZ)) (ay (YJ (bA (XX (cF er (J (aR (aW (jr (bh "Facts" "put_pairs" (C 0))) .(n) tT (bp "Facts" "keeps_order" u5 (C 3) (J (C 2) (J (C 0) .(r)))) [B,B,U 1,U 0])) aq)))) (aE (vC (.bl ar))) aZ) (aE (cm (bp "Facts" "keeps_enough" uX (C 0) .(r)) (b2 Zz (cF mm (J (bp "Facts" "shop" t6 (C 0) aq) .(r))) (vC .non))))))
abbrev zi:FS:=
  (ay (aP 1 (cF pT (J (C 0) aq))) (ay (aP 2 (cF yM .(r))) (ay (aP 3 (cF fQ (J (C 0) (J (vC (.int 3)) aq)))) (ay (aP 4 (cF ij (J .(f) (J (b2 f8 (b2 XV (C 1) (vC (.int 6))) (cF bO (J (C 3) (J (vC (.int 84)) (J (vC (.int 4)) aq))))) aq)))) (ay (yb 5) (ay (aP 6 .(f)) (ay (YJ (XX (b2 â (cF bO (J (C 3) (J (vC (.int 85)) (J (vC (.int 2)) aq)))) .(e))) (ay (aP 6 (cF bO (J (C 3) (J (vC (.int 86)) (J (vC (.int 3)) aq))))) (ay (u6 (bT 3 (aQ (aA 7) (aQ (aA 8) (aQ (aA 9) bV)))) (b2 XV (b2 XV (C 1) .(e)) (cF bO (J (C 3) (J (vC (.int 87)) (J (cF cb (J (b2 XV (C 1) .(e)) aq)) aq)))))) (fE 5 (C 7) (ba (X5 (J (b2 XV (b2 XV (C 9) (b1 zd .(e))) .(f)) (J (cF bO (J (C 3) (J (vC (.int 88)) (J (b2 aX (b2 XV (C 1) (vC (.int 6))) .(e)) aq)))) aq))))))) aZ) (mx 5 (ay (um "Facts" 10 oF [] (J (C 2) (J (C 4) (J (C 5) (J (vC .non) (J .(f) (J (C 6) aq))))))) (ay (aP 11 (cF iL (iJ 10 (J (aR (aW (X6 (b2 XV (C 1) .(e))) (bT 3 (aQ (aA 0) (aQ (aA 1) (aQ (aA 2) bV)))) tT (ba (X5 (J (C 0) (J (bp "Facts" "least_start" mY (C 3) (J (C 0) aq)) aq)))) [B,B,B,U 10])) aq)))) (ay (aP 12 (cF iL (iJ 10 (J (aR (aW (X6 (b2 XV (C 1) .(e))) (bT 3 (aQ (aA 0) (aQ (aA 1) (aQ (aA 2) bV)))) tT (ba (X5 (J (C 0) (J (bp "Facts" "greatest_start" mr (C 3) (J (C 0) aq)) aq)))) [B,B,B,U 10])) aq)))) (ay (bN (X6 (cF ti (J (b2 XV (C 1) .(e)) (J (b2 XV (C 1) (vC (.int 6))) aq)))) (aA 13) (ay (aP 14 (cF tK (J (C 2) (J (C 13) (J (C 4) (J (C 5) (J (C 6) aq))))))) (ay (aP 15 (rH 10 (bp "Facts" "goes" vm (C 10) (J (C 13) aq)))) (ay (YJ (Yh (bA (XX (cF dQ (J (C 15) (J (vC (.ty "bool")) aq))))) (XX (b2 Ļ (C 15) (C 14)))) (aE (vC (.bl ar))) aZ) (YJ (XX (C 14)) (bN (Ž (C 13)) (aA 7) (ay (aP 16 (b2 aT (C 11) (C 7))) (ay (aP 17 (b2 aT (C 12) (C 7))) (YJ (Yh (XX (b2 Zz (C 16) (vC .non))) (Yh (XX (b2 Zz (C 17) (vC .non))) (Yh (XX (b2 Zr (b2 XV (b2 aT (C 13) (C 7)) .(e)) (C 16))) (XX (b2 ű (b2 XV (b2 aT (C 13) (C 7)) .(e)) (C 17)))))) (aE (vC (.bl ar))) aZ)))) aZ))))) (aE (vC (.bl ai)))))))))))))))
def yf:FQ:=aO 17 zi
def i2:fT "int" "int"=U ai:=rfl
def i3:fT "int" "bool"=U ar:=rfl
def i5:fT "bool" "bool"=U ai:=rfl
def j1:fT "str" "str"=U ai:=rfl
def k1:fT "list" "list"=U ai:=rfl
def k2:fT "tuple" "list"=U ar:=rfl
def k3:fT "tuple" "tuple"=U ai:=rfl
def k4:fT "str" "list"=U ar:=rfl
def k5:fT "str" "tuple"=U ar:=rfl
def k6:fT "int" "list"=U ar:=rfl
def k7:fT "int" "tuple"=U ar:=rfl
def k8:fT "bool" "list"=U ar:=rfl
def k9:fT "bool" "tuple"=U ar:=rfl
def k10:fT "NoneType" "list"=U ar:=rfl
def k11:fT "NoneType" "tuple"=U ar:=rfl
def sz2:(1+1<=aK)=True:=by simp[aK]
def sz3:(1+1+1<=aK)=True:=by simp[aK]
section
variable{x0 x1 x2 x3 x4:D}{r:Z D}
def jt(l:Z α)(n:ag):atI l (n:ah)=l[n]?:=by
 unfold atI ż;rw[qY .(b)];by_cases h:n<l.length
 .rw[qY .(b)];simp
 .rw[qZ .(b)];simp;ext
def dR:XV (.tup (x0::r)) (.int 0)=U x0:=jt _ 0
def gb:XV (.tup (x0::x1::r)) (.int 1)=U x1:=jt _ 1
def j5:XV (.tup (x0::x1::x2::r)) (.int 2)=U x2:=jt _ 2
def sV:XV (.tup (x0::x1::x2::x3::r)) (.int 3)=U x3:=jt _ 3
def oJ:XV (.tup (x0::x1::x2::x3::x4::r)) (.int 4)=U x4:=jt _ 4
end
def wd{fe:FE}{r:bG}{f:D->D}:∀{xs:Z D}{a:au Slot},(∀x∈xs,fe (oS x::r)=U (f x))->b9 (aA 0) tT fe xs (a::r)=U (xs.map f)
 |[],_,_=>rfl
 |x::xs,a,h=>by let h1:=h x qg;let ih:=wd (a:=oS x) λy hy=>h y (qh _ hy);simp only[b9,aA,nI,qb,tT,cx,h1,ih,qe,qo]
def Cv{fe:FE}{ft:FT}{r:bG}{f:D->D}{p:D->aJ}:∀{xs:Z D}{a:au Slot},(∀x∈xs,ft (oS x::r)=U (p x)/\(p x=ai->fe (oS x::r)=U (f x)))->b9 (aA 0) ft fe xs (a::r)=U ((xs.filter p).map f)
 |[],_,_=>rfl
 |x::xs,a,h=>by
  let h1:=h x qg;let ih:=Cv (a:=oS x) λy hy=>h y (qh _ hy);simp only[b9,aA,nI,qb,h1.1,ih,sL];cases e:p x
  .simp
  .simp[h1.2 e]
def Eh:∀{l:Z D},(∀x∈l,x=.bl ai)->∃bs:Z aJ,je l=U bs/\bs.all id=ai
 |[],_=>#[[],W,W]
 |x::r,h=>by let⟨bs,h1,h2⟩:=Eh λy hy=>h y (qh _ hy);let hx:=h x qg;subst hx;show#[ai::bs,by simp[je,h1],by simpa using h2]
def ii{a:au Slot}{xs:Z D}(h1:fi Y=U xs)(h2:xs.length<=aK)(h3:dU fv Y=a::r)(h:∀x∈xs,fe (oS x::r)=U (.bl ai)):
  cF er (J (aR (aW fi (aA 0) tT fe fv)) aq) Y=U (.bl ai):=by
 let c:=wd (a:=a) h;let⟨bs,e1,e2⟩:=Eh (l:=xs.map λ_=>D.bl ai) (by simp);simp only[cF,J,aq,aR,aW,h1,qb,qY h2,h3,c,qe,er,e1];simpa using e2
def jZ{a:au Slot}{xs:Z D}{f:D->D}(h1:fi Y=U xs)(h2:xs.length<=aK)(h3:dU fv Y=a::r)(h:∀x∈xs,fe (oS x::r)=U (f x)):
  aR (aW fi (aA 0) tT fe fv) Y=U (.lst (xs.map f)):=by
 simp only[aR,aW,h1,qb,qY h2,h3,wd h,qe]
def ro{xs:Z D}(I:ag->bG->Prop)(h0:I 0 Y)(hs:∀i x Y,xs[i]?=U x->I i Y->∃Y1 Y2,gg x Y=U Y1/\body Y1=U (.nx,Y2)/\I (i+1) Y2):
  ∃Y',eU gg body xs Y=U (.nx,Y')/\I xs.length Y':=by
 let key:∀(ys:Z D)(k:ag)(Y:bG),xs.drop k=ys->I k Y->∃Y',eU gg body ys Y=U (.nx,Y')/\I (k+ys.length) Y':=by
  intro ys
  induction ys with
  |nil=>intro k Y _ hk;show#[Y,W,hk]
  |cons y r ih=>
   intro k Y hd hk;let hy:xs[k]?=U y:=by
    let:(xs.drop k)[0]?=U y:=by rw[hd];rfl
    simpa using this
   let⟨Y1,Y2,h1,h2,h3⟩:=hs k y Y hy hk;let Ö:xs.drop (k+1)=r:=by rw[<-List.drop_drop,hd];rfl
   let⟨Y',h4,h5⟩:=ih (k+1) Y2 Ö h3;show#[Y',?_,by rw[qi];rwa [show k+1+r.length=k+(r.length+1) by ext] at h5];simp only[eU,h1,qb,h2,h4]
 let⟨Y',h1,h2⟩:=key xs 0 Y rfl h0;show#[Y',h1,by rwa [lW] at h2]
def Fv:(2:ah) ^ 62=4611686018427387904:=by decide +kernel
def KO{i j:ah}(h:0<=i/\i<=1000000/\0<=j/\j<=1000000):mZ [.int i,.int j]=U ((cw (j-i).toNat).map λk:ag=>D.int (i+k)):=by unfold mZ;rw[Fv];show qY #[by ext,by ext,by ext,by ext]
def ue{j:ah}(h:0<=j/\j<=1000000):e9 [.int j]=U ((cw j.toNat).map λi:ag=>D.int (0+i)):=by unfold e9;rw[Fv];show qY #[by ext,by ext]
def uT{g:Z D->au (Z D)}{r:Z D}(h1:fr Y=U ds)(h2:g ds=U r):ä g fr Y=U r:=by unfold ä;rw[h1];show h2
def aB{g:D->D->au D}{x y:D}(h1:fa Y=U x)(h2:fb Y=U y)(h3:g x y=U z):b2 g fa fb Y=U z:=by unfold b2;rw[h1,qb,h2,qb];show h3
def aU{g:FQ}(h1:fr Y=U ds)(h2:g ds=U z):cF g fr Y=U z:=by unfold cF;rw[h1];show h2
def ax(h1:f Y=U d)(h2:fr Y=U ds):J f fr Y=U (d::ds):=by unfold J;rw[h1,qb,h2];rfl
def aF:aq Y=U []:=rfl
def zr(h:g (ds.map (λd=>U (Slot.sh d))++bQ n B)=U (.rt d,Y')):aO n g ds=U d:=by unfold aO;rw[h];rfl
def bR(Y:bG)(e:ds.map (λd=>U (Slot.sh d))++bQ n B=Y)(h:g Y=U (.rt d,Y')):aO n g ds=U d:=by subst e;show zr h
def bP(h:f Y=U d):aE f Y=U (.rt d,Y):=by unfold aE;rw[h];rfl
def bD{b:aJ}(h:f Y=U (.bl b)):XX f Y=U b:=by unfold XX;rw[h];rfl
def mX{A:FE}{X us:FS}(hA:A Y=U (.bl ai)):ay (YJ (bA (XX A)) X aZ) us Y=us Y:=by simp only[ay,YJ,bA,bD hA,qe,qb,ic,qr,cE,aZ]
def iK{A af:FE}{X us:FS}(hA:A Y=U (.bl ai))(hB:af Y=U (.bl ai)):ay (YJ (Yh (bA (XX A)) (bA (XX af))) X aZ) us Y=us Y:=by simp only[ay,YJ,Yh,bA,bD hA,bD hB,qe,qb,ic,qr,cE,aZ]
def Kt{A af XI:FE}{X us:FS}(hA:A Y=U (.bl ai))(hB:af Y=U (.bl ai))(hC:XI Y=U (.bl ai)):ay (YJ (Yh (bA (XX A)) (Yh (bA (XX af)) (bA (XX XI)))) X aZ) us Y=us Y:=by simp only[ay,YJ,Yh,bA,bD hA,bD hB,bD hC,qe,qb,ic,qr,cE,aZ]
def Fn{A af:FE}(hA:A Y=U (.bl ai))(hB:af Y=U (.bl ai)):cm A af Y=U (.bl ai):=by simp only[cm,hA,hB,qb]
def e7(h:f Y=U d):ay (aP i f) g Y=g (Y.set i (oS d)):=by simp only[ay,aP,h,qe,qb]
def Rp(i:ah):tI [.int i]=U (.bl ai):=by simp only[tI,aO,aE,cm,wL,cF,J,aq,C,vC,dQ,ĵ,qo,qQ,qq,qT,bQ,qc,qb,qe,lR,i2,i3]
def iI(i a b:ah)(h:a<=i/\i<=b):gJ [.int i,.int a,.int b]=U (.bl ai):=by simp only[gJ,Rp,aO,aE,cm,cF,J,aq,C,ą,Y0,qo,qQ,qq,qT,bQ,qc,qd,qb,qe,qU h.1,qU h.2]
def jx(l:Z D)(a b:ah)(h:a<=l.length/\(l.length:ah)<=b):gY [.lst l,.int a,.int b]=U (.bl ai):=by simp only[gY,aO,aE,cm,cF,J,aq,C,vC,ą,dQ,ĵ,cb,Y0,qo,qQ,qq,qT,bQ,qc,qd,qb,qe,k1,qU h.1,qU h.2]
def uO(l:Z D)(n:ah)(h:(l.length:ah)=n):fU [.tup l,.int n]=U (.bl ai):=by simp only[fU,aO,aE,cm,cF,J,aq,C,vC,b2,dQ,ĵ,cb,â,Β,qo,qQ,qq,qT,bQ,qc,qd,qb,qe,k3,qU h]
section
variable{a b c e:D}
def uP:fU [.tup [a,b],.int 2]=U (.bl ai):=uO _ _ W
def D2:fU [.tup [a,b,c],.int 3]=U (.bl ai):=uO _ _ W
def HH:fU [.tup [a,b,c,d],.int 4]=U (.bl ai):=uO _ _ W
def DC:fU [.tup [a,b,c,d,e],.int 5]=U (.bl ai):=uO _ _ W
end
noncomputable def Y8(p:ah×ah):D:=.tup [.int p.1,.int p.2]
def QC(p:ah×ah)(h:ah)(h1:0<=p.1)(h2:p.1<p.2)(h3:p.2<=h):uA [Y8 p,.int h]=U (.bl ai):=by simp only[uA,Y8,aO,ay,YJ,aE,aZ,Yh,bA,XX,cF,J,aq,C,vC,b2,Zr,dR,gb,qo,qQ,qq,qT,bQ,qc,qd,qb,qe,cE,ic,qr,uP,iI p.1 0 h #[h1,by ext],iI p.2 0 h #[by ext,h3],qU h2]
def az(c:ag):aJ:=!Ŧ ⟨#[c]⟩ "a" && !Ŧ "z" ⟨#[c]⟩
def Pc{c:ag}(h:az c=ai):c<=122:=by
 let z:("z":aj)=⟨#[122]⟩:=by decide +kernel
 unfold az Ŧ at h;rw[z] at h;simp only[cW,Ho,Al] at h;let h2:=h.2;rcases kA 122 c with q|q
 .exact bj (List.Lex.rel q) h2
 .exact q
def JS(c:ag)(r:bG):ą Y0 Y0 (vC (.str "a")) (C 0) (vC (.str "z")) (oS (.str ⟨#[c]⟩)::r)=U (.bl (az c)):=by simp only[ą,vC,C,qc,qb,Y0,az];cases Ŧ ⟨#[c]⟩ "a"<;>simp
def bz(x:aj):aJ:=decide (1<=x.length) && decide (x.length<=8) && x.cps.toList.all az
def NM(h:bz x=ai):1<=x.length/\x.length<=8:=by unfold bz at h;simp only[cW,gw] at h;show h.1
def BE(h:bz x=ai):∀c∈x.cps.toList,az c=ai:=by unfold bz at h;simp only[cW,iu] at h;show h.2
def lv(h:bz x=ai):jh [.str x]=U (.bl ai):=by
 let⟨h1,h2⟩:=NM h;let hz:x.length<=aK:=by unfold aK;ext
 let hl:(x.cps.toList.map λc=>D.str ⟨#[c]⟩).length<=aK:=by simpa[sd] using hz
 let e1:decide ((1:ah)<=(x.length:ag))=ai:=qU .(b);let e2:decide (((x.length:ag):ah)<=8)=ai:=qU .(b);let ha:=ii (fi:=itS (C 0)) (fe:=ą Y0 Y0 (vC (.str "a")) (C 0) (vC (.str "z"))) (fv:=[B]) (Y:=[oS (.str x)])
  (by simp[itS,C,xr]) hl W (λy hy=>by let⟨c,hc,rfl⟩:=bo.mp hy;rw[JS,BE h c hc])
 show zr ((iK ?_ ?_).trans (bP ha))
 .rfl
 .show ą Y0 Y0 .(e) (cF cb (J (C 0) aq)) (vC (.int 8)) [oS (.str x)]=_;simp only[cF,J,aq,C,vC,ą,cb,Y0,qc,qb,qe,qY hz,e1,e2]
def tu(h:bz x=ai):WH x=ai:=by unfold WH;rw[Array.all_eq_true'];intro c hc;let:=Pc (BE h c (by simpa using hc));show qU .(b)
def uQ:∀(ns:Z aj),iD (ns.map D.str)=U (ns.map ja):=by
 intro X7
 induction X7 with
 |nil=>
  simp[iD]
 |cons x r ih=>
  simp[iD,Zh,ih]
def xT:∀{ns:Z aj},(∀x∈ns,bz x=ai)->o8 (ns.map ja)=ai:=by
 intro X7
 induction X7 with
 |nil=>
  intro _;simp[o8]
 |cons x r ih=>
  intro h;simp only[qo,o8,sM,tu (h x qg),vZ];show ih λy hy=>h y (qh _ hy)
def F9(x:aj):∀(ns:Z aj),((ns.map ja).any λz=>jJ z (.str x))=decide (x∈ns):=by
 intro X7
 induction X7 with
 |nil=>
  simp
 |cons y r ih=>
  rw[qo,ky,ih];simp only[jJ];by_cases e:y=x
  .subst e;simp
  .let:x≠y:=λz=>e z.symm;simp[e,this]
def Du{ns:Z aj}(hx:bz x=ai)(hn:∀y∈ns,bz y=ai):l9 (.str x) (.lst (ns.map D.str))=U (.bl (decide (x∈ns))):=by
 let sh:fP (.str x)=ai:=by simp[fP,sM,tu hx,sN]
 simp only[l9,inX,Zh,uQ,qe,qb,sh,xT hn,v9,cx,F9]
def ox{ns:Z aj}(hx:x∈ns)(hn:∀y∈ns,bz y=ai):ka [.str x,.lst (ns.map D.str)]=U (.bl ai):=by simp only[ka,aO,aE,cm,cF,J,aq,C,b2,qo,qQ,qq,qT,bQ,qc,qd,qb,qe,lv (hn x hx),Du (hn x hx) hn,qU hx]
def AO[dJ κ]{l:Z κ}(h:l.Nodup):ST.dd l=l:=by
 let key:∀(l a:Z κ),(a++l).Nodup->l.foldl (λa k=>if k∈a then a else a++[k]) a=a++l:=by
  intro l
  induction l with
  |nil=>intro a _;simp
  |cons x r ih=>
   intro a hn;let hx:x∉a:=by intro z;rw[nE] at hn;show hn.2.2 x z x qg W
   rw[fO,qZ hx,ih (a++[x]) (by simpa using hn)];simp
 simpa[ST.dd] using key l [] (by simpa using h)
def oG:∀(ns:Z aj),ff (ns.map D.str)=U (ns.map bZ):=by
 intro X7
 induction X7 with
 |nil=>
  simp[ff]
 |cons x r ih=>
  simp[ff,gG,ih]
def mD{ns:Z aj}(h:ns.Nodup)(hl:ns.length<=300):fA [.lst (ns.map D.str)]=U (.bl ai):=by let hd:(ns.map (bZ:aj->XR)).Nodup:=wa _ (λa b é z=>é (i6 z)) h;simp only[fA,aO,aE,cF,J,aq,C,b1,b2,cb,â,Β,qo,qQ,qq,qT,bQ,qc,qb,qe,nN,qf,qY hl,oG,AO hd];simp
def K9:∀(ts:Z (Z aj)),oh (ts.map λt=>.tup (t.map D.str))=U (ts.map λt=>t.map bZ):=by
 intro X7
 induction X7 with
 |nil=>
  simp[oh]
 |cons t r ih=>
  simp[oh,oG,ih]
def B8{ts:Z (Z aj)}(h:ts.Nodup)(hl:ts.length<=300):fA [.lst (ts.map λt=>.tup (t.map D.str))]=U (.bl ai):=by
 let inj:∀a b:Z aj,a.map (bZ:aj->XR)=b.map bZ->a=b:=λa b z=>(Hw (λx y q=>i6 q)).mp z;let hd:(ts.map λt=>t.map (bZ:aj->XR)).Nodup:=wa _ (λa b é z=>é (inj a b z)) h;cases ts with
 |nil=>simp only[fA,aO,aE,cF,J,aq,C,b1,b2,cb,â,Β,qo,qQ,qq,qT,bQ,qc,qb,qe,qm,nN,ff,ST.dd];simp
 |cons t r=>
  let e:ff ((t::r).map λt=>D.tup (t.map D.str))=B:=by simp[ff,gG]
  simp only[fA,aO,aE,b2,b1,C,qo,qQ,qq,qT,bQ,qc,qb,nN,cF,J,aq,cb,qe];rw[qY (by simpa using hl)];let e':=e;rw[qo] at e';rw[e'];let t':=K9 (t::r);rw[qo] at t';rw[t'];rw[qe,AO hd];simp[â,Β]
structure XQ where
 nm:aj
 br:Z (ah×ah)
structure XM where
 nm:aj
 kd:aj
 ws:Z (aj×ah)
structure X4 where
 nm:aj
 ea:ah
 du:ah
 od:aJ
 ms:Z aj
structure YZ where
 b:aj
 p:aj
 q:aj
 n:ah
structure YA where
 a:aj
 b:aj
 g:ah
structure YD where
 nm:aj
 lo:ah
 hi:ah
 tk:Z (aj×ah)
 pt:Z (aj×ah)
noncomputable def dW(w:aj×ah):D:=.tup [.str w.1,.int w.2]
def bY(b:XQ):D:=.tup [.str b.nm,.lst (b.br.map Y8)]
def bC(s:XM):D:=.tup [.str s.nm,.str s.kd,.lst (s.ws.map dW)]
noncomputable def bx(j:X4):D:=.tup [.str j.nm,.int j.ea,.int j.du,.bl j.od,.lst (j.ms.map D.str)]
noncomputable def dv(u:YZ):D:=.tup [.str u.b,.str u.p,.str u.q,.int u.n]
noncomputable def df(l:YA):D:=.tup [.str l.a,.str l.b,.int l.g]
def c7(k:YD):D:=.tup [.str k.nm,.int k.lo,.int k.hi,.lst (k.tk.map dW),.lst (k.pt.map dW)]
structure ĝ(h:ah)(b:XQ):Prop where
 nm:bz b.nm=ai
 len:b.br.length<=10
 iv:∀p∈b.br,0<=p.1/\p.1<p.2/\p.2<=h
 gap:∀(i:ag)p q,b.br[i]?=U p->b.br[i+1]?=U q->p.2<q.1
structure Û(bn:Z aj)(h:ah)(s:XM):Prop where
 nm:bz s.nm=ai
 kd:bz s.kd=ai
 l1:1<=s.ws.length
 l4:s.ws.length<=4
 ws:∀w∈s.ws,w.1∈bn/\1<=w.2/\w.2<=h
 nd:(s.ws.map (·.1)).Nodup
structure Ü(sn:Z aj)(h:ah)(j:X4):Prop where
 nm:bz j.nm=ai
 ea:0<=j.ea/\j.ea<=h
 du:0<=j.du/\j.du<=h
 l1:1<=j.ms.length
 ln:j.ms.length<=sn.length
 ms:∀m∈j.ms,m∈sn
structure ń(bn:Z aj)(h:ah)(u:YZ):Prop where
 b:u.b∈bn
 p:bz u.p=ai
 q:bz u.q=ai
 n:1<=u.n/\u.n<=h
structure Ņ(sn:Z aj)(h:ah)(l:YA):Prop where
 a:l.a∈sn
 b:l.b∈sn
 ne:l.a≠l.b
 g:0<=l.g/\l.g<=h
structure ņ(sn:Z aj)(am:Z (aj×ah)):Prop where
 ln:am.length<=sn.length
 ws:∀w∈am,w.1∈sn/\1<=w.2/\w.2<=1000000
 nd:(am.map (·.1)).Nodup
structure Zm(sn:Z aj)(k:YD):Prop where
 nm:bz k.nm=ai
 lo:0<=k.lo/\k.lo<=k.hi
 hi:0<=k.hi/\k.hi<=1000000
 tk:ņ sn k.tk
 pt:ņ sn k.pt
structure X3(bs:Z XQ)(ss:Z XM)(js:Z X4)(E:Z YZ)(ls:Z YA)(ks:Z YD)(hz:ah):Prop where
 hh:1<=hz/\hz<=1000000
 bl:1<=bs.length/\bs.length<=8
 b:∀x∈bs,ĝ hz x
 bn:(bs.map (·.nm)).Nodup
 sl:1<=ss.length/\ss.length<=40
 s:∀x∈ss,Û (bs.map (·.nm)) hz x
 sn:(ss.map (·.nm)).Nodup
 jl:js.length<=40
 j:∀x∈js,Ü (ss.map (·.nm)) hz x
 jn:(js.map (·.nm)).Nodup
 jm:(js.flatMap (·.ms)).Nodup
 ul:E.length<=100
 u:∀x∈E,ń (bs.map (·.nm)) hz x
 un:(E.map λu=>[u.b,u.p,u.q]).Nodup
 ll:ls.length<=100
 l:∀x∈ls,Ņ (ss.map (·.nm)) hz x
 ln:(ls.map λl=>[l.a,l.b]).Nodup
 kl:ks.length<=6
 k:∀x∈ks,Zm (ss.map (·.nm)) x
 kn:(ks.map (·.nm)).Nodup
def π(l:Z D)(n:ag):XV (.lst l) (.int (n:ah))=l[n]?:=jt l n
def Zo{k:ag}(h:n<=k)(hk:k<=1000):n<=aK:=by unfold aK;ext
variable{ss:Z XM}
section
variable{bn:Z aj}
def Qj(len:br.length<=10)(gap:∀(i:ag)p q,br[i]?=U p->br[i+1]?=U q->p.2<q.1):
  cF er (J (aR (aW (ä mZ (J .(e) (J (cF cb (J (C 0) aq)) aq))) (aA 0) tT (b2 Zr (b2 XV (b2 XV (C 1) (b2 f8 (C 0) .(e))) .(e)) (b2 XV (b2 XV (C 1) (C 0)) .(f))) [B,U 0])) aq) [oS (.lst (br.map Y8)),oS (.int h)]=U (.bl ai):=by
 let e0:ä mZ (J .(e) (J (cF cb (J (C 0) aq)) aq)) [oS (.lst (br.map Y8)),oS (.int h)]=U ((cw (((br.map Y8).length:ah)-1).toNat).map λk:ag=>D.int (1+k)):=by show uT W (KO (by rw[qf];ext))
 show ii (r:=[oS (.lst (br.map Y8))]) e0 ?_ W λx hx=>?_
 .simp only[qf,qW];show Zo (k:=10) .(b) .(c)
 .obtain⟨k,hk,rfl⟩:=bo.mp hx;rw[eV,qf] at hk;let hk1:k<br.length:=by ext
  let ψ:k+1<br.length:=by ext
  let e1:br[k]?=U br[k]:=by simp[hk1]
  let e2:br[k+1]?=U br[k+1]:=by simp[ψ]
  let g:=gap k _ _ e1 e2;let a1:XV (.lst (br.map Y8)) (.int (1+(k:ah)-1))=U (Y8 br[k]):=by
   let:(1+(k:ah)-1)=((k:ag):ah):=by ext
   rw[this,π,ql,e1];rfl
  let a2:XV (.lst (br.map Y8)) (.int (1+(k:ah)))=U (Y8 br[k+1]):=by
   let:(1+(k:ah))=((k+1:ag):ah):=by ext
   rw[this,π,ql,e2];rfl
  simp only[C,vC,b2,Zr,f8,qc,qd,qb,a1,a2];simp only[Y8,dR,gb,qb,qU g]
def RS(len:br.length<=10)(iv:∀p∈br,0<=p.1/\p.1<p.2/\p.2<=h)(gap:∀(i:ag)p q,br[i]?=U p->br[i+1]?=U q->p.2<q.1):
  xZ [.lst (br.map Y8),.int h]=U (.bl ai):=by
 show bR _ W ((iK ?_ (ii W (by rw[qf];show Zo len .(c)) W λx hx=>?_)).trans (bP (Qj len gap)))
 .exact jx _ 0 10 #[by ext,by rw[qf];ext]
 .obtain⟨p,hp,rfl⟩:=bo.mp hx;let⟨h1,h2,h3⟩:=iv p hp;show QC p h h1 h2 h3
def UB{b:XQ}(g:ĝ h b):sU [bY b,.int h]=U (.bl ai):=by simp only[sU,bY,aO,aE,cm,cF,J,aq,C,vC,b2,dR,gb,qo,qQ,qq,qT,bQ,qc,qd,qb,qe,uP,lv g.nm,RS g.len g.iv g.gap]
def kP{f:α->D}{nm:α->aj}{xs:Z α}(hf:∀x,∃r,f x=.tup (.str (nm x)::r))(h1:C i Y=U (.lst (xs.map f)))(h2:xs.length<=aK)(h3:dU fv Y=[B]):
  aR (aW (X6 (C i)) (aA 0) tT .(o) fv) Y=U (.lst ((xs.map nm).map D.str)):=by
 let hc:=jZ (fi:=X6 (C i)) (fe:=b2 XV (C 0) .(f)) (f:=λd=>match d with|.tup (x::_)=>x|_=>.non) (by unfold X6;rw[h1];rfl) (by rw[qf];show h2) h3 (λx hx=>by let⟨y,_,rfl⟩:=bo.mp hx;let⟨r,e⟩:=hf y;simp only[b2,C,vC,qc,qb,e,dR])
 rw[hc]
 congr 2
 rw[qp,qp];show iC λx _=>?_;let⟨r,e⟩:=hf x;simp[e]
def PY{bs:Z XQ}(l1:1<=bs.length)(l8:bs.length<=8)(g:∀x∈bs,ĝ h x)(nd:(bs.map (·.nm)).Nodup):wp [.lst (bs.map bY),.int h]=U (.bl ai):=by
 show bR [oS (.lst (bs.map bY)),oS (.int h)] W ((iK ?_ (ii W (by rw[qf];show Zo l8 .(c)) W λx hx=>?_)).trans (bP ?_))
 .exact jx _ 1 8 #[by rw[qf];ext,by rw[qf];ext]
 .obtain⟨p,hp,rfl⟩:=bo.mp hx;show UB (g p hp)
 .let:=kP (i:=0) (fv:=[B]) (Y:=[oS (.lst (bs.map bY)),oS (.int h)]) (λx=>#[_,W]) W (Zo l8 .(c)) W;simp only[cF,J,aq,this,qb,qe];show mD nd (by rw[qf];ext)
def Qd{w:aj×ah}(M:∀y∈bn,bz y=ai)(g:w.1∈bn/\1<=w.2/\w.2<=h):uY [dW w,.lst (bn.map D.str),.int h]=U (.bl ai):=by simp only[uY,dW,aO,aE,cm,cF,J,aq,C,vC,b2,dR,gb,qo,qQ,qq,qT,bQ,qc,qd,qb,qe,uP,ox g.1 M,iI w.2 1 h g.2]
def OW{ws:Z (aj×ah)}(M:∀y∈bn,bz y=ai)(l1:1<=ws.length)(l4:ws.length<=4)(g:∀w∈ws,w.1∈bn/\1<=w.2/\w.2<=h)(nd:(ws.map (·.1)).Nodup):wv [.lst (ws.map dW),.lst (bn.map D.str),.int h]=U (.bl ai):=by
 show bR [oS (.lst (ws.map dW)),oS (.lst (bn.map D.str)),oS (.int h)] W ((iK ?_ (ii W (by rw[qf];show Zo l4 .(c)) W λx hx=>?_)).trans (bP ?_))
 .exact jx _ 1 4 #[by rw[qf];ext,by rw[qf];ext]
 .obtain⟨p,hp,rfl⟩:=bo.mp hx;show Qd M (g p hp)
 .let:=kP (i:=0) (fv:=[B]) (Y:=[oS (.lst (ws.map dW)),oS (.lst (bn.map D.str)),oS (.int h)]) (λx=>#[_,W]) W (Zo l4 .(c)) W;simp only[cF,J,aq,this,qb,qe];show mD nd (by rw[qf];ext)
def SJ{s:XM}(M:∀y∈bn,bz y=ai)(g:Û bn h s):tZ [bC s,.lst (bn.map D.str),.int h]=U (.bl ai):=by simp only[tZ,bC,aO,ay,YJ,aE,aZ,Yh,bA,XX,cF,J,aq,C,vC,b2,dR,gb,j5,qo,qQ,qq,qT,bQ,qc,qd,qb,qe,cE,ic,qr,D2,lv g.nm,lv g.kd,OW M g.l1 g.l4 g.ws g.nd]
def NF(M:∀y∈bn,bz y=ai)(l1:1<=ss.length)(l4:ss.length<=40)(g:∀s∈ss,Û bn h s)(nd:(ss.map (·.nm)).Nodup):wf [.lst (ss.map bC),.lst (bn.map D.str),.int h]=U (.bl ai):=by
 show bR [oS (.lst (ss.map bC)),oS (.lst (bn.map D.str)),oS (.int h)] W ((iK ?_ (ii W (by rw[qf];show Zo l4 .(c)) W λx hx=>?_)).trans (bP ?_))
 .exact jx _ 1 40 #[by rw[qf];ext,by rw[qf];ext]
 .obtain⟨p,hp,rfl⟩:=bo.mp hx;show SJ M (g p hp)
 .let:=kP (i:=0) (fv:=[B]) (Y:=[oS (.lst (ss.map bC)),oS (.lst (bn.map D.str)),oS (.int h)]) (λx=>#[_,W]) W (Zo l4 .(c)) W;simp only[cF,J,aq,this,qb,qe];show mD nd (by rw[qf];ext)
end
def Bb(a b:aj):Ļ (.str a) (.str b)=U (.bl (!decide (a=b))):=rfl
def E4(a b:aj):Ŏ (.str a) (.str b)=U (.bl (decide (a=b))):=rfl
def F0{a b c:D}:li B (U 3) (.tup [a,b,c,d])=U (.tup [a,b,c]):=rfl
def Pz{a b c:D}:li B (U 2) (.tup [a,b,c])=U (.tup [a,b]):=rfl
def wK{α β:Type}{f:α->Z β}{m:ag}:∀{l:Z α},(∀x∈l,(f x).length<=m)->(l.flatMap f).length<=l.length*m
 |[],_=>by simp
 |x::r,h=>by let h1:=h x qg;let h2:=wK λy hy=>h y (qh _ hy);rw[sO,qj,qi,o3];ext
variable{js:Z X4}{E:Z YZ}{ls:Z YA}{ks:Z YD}
section
variable{bn:Z aj}
def RD{j:X4}(hs:∀y∈sn,bz y=ai)(hl:sn.length<=40)(g:Ü sn h j):yz [bx j,.lst (sn.map D.str),.int h]=U (.bl ai):=by
 show bR [oS (bx j),oS (.lst (sn.map D.str)),oS (.int h)] W ((Kt ?_ ?_ ?_).trans ((iK ?_ ?_).trans (bP (Fn ?_ (ii (r:=[oS (.lst (sn.map D.str))]) (xs:=j.ms.map D.str) ?_ ?_ W λx hx=>?_)))))
 .exact DC
 .simp only[bx,cF,J,aq,C,vC,b2,dR,qc,qb,qe,lv g.nm]
 .simp only[bx,cF,J,aq,C,vC,b2,dQ,ĵ,sV,qc,qb,qe,i5]
 .simp only[bx,cF,J,aq,C,vC,b2,gb,qc,qd,qb,qe,iI _ 0 h g.ea]
 .simp only[bx,cF,J,aq,C,vC,b2,j5,qc,qd,qb,qe,iI _ 0 h g.du]
 .simp only[bx,cF,J,aq,C,vC,b2,cb,oJ,qc,qd,qb,qe];show jx _ _ _ #[by rw[qf];let:=g.l1;ext,by rw[qf,qf];let:=g.ln;ext]
 .simp only[bx,C,vC,b2,X6,p8,oJ,qc,qb]
 .rw[qf];show Zo (qO g.ln hl) .(c)
 .obtain⟨m,hm,rfl⟩:=bo.mp hx;simp only[cF,J,aq,C,qc,qd,qb,qe,ox (g.ms m hm) hs]
def Pb{S H:au Slot}(hl:js.length<=40)(g:∀j∈js,j.ms.length<=40):
  ∃z,eU (aA 4) (gR 3 (b2 XV (C 4) (vC (.int 4)))) (js.map bx) [oS (.lst (js.map bx)),S,H,U (.own []),B]=U (.nx,[oS (.lst (js.map bx)),S,H,U (.own ((js.flatMap (·.ms)).map D.str)),z]):=by
 let⟨Y',h1,z,h2⟩:=ro (gg:=aA 4) (body:=gR 3 (b2 XV (C 4) (vC (.int 4)))) (xs:=js.map bx) (Y:=[oS (.lst (js.map bx)),S,H,U (.own []),B])
  (λi Y=>∃z,Y=[oS (.lst (js.map bx)),S,H,U (.own (((js.take i).flatMap (·.ms)).map D.str)),z]) #[B,by simp] (λi x Y hx hI=>by
   let⟨z,rfl⟩:=hI;rw[ql] at hx;let⟨j,hj,rfl⟩:=YE hx;let hm:j∈js:=qR hj;let t1:((js.take i).flatMap (·.ms)).length<=(js.take i).length*40:=wK λy hy=>g y (pc hy);let t2:(js.take i).length<=40:=by rw[qF];ext
   let t3:=g j hm;let tk:js.take (i+1)=js.take i++[j]:=by rw[wb,hj];rfl
   let sz:(((js.take i).flatMap (·.ms)).map D.str).length+(j.ms.map D.str).length<=aK:=by rw[qf,qf];unfold aK;ext
   show#[_,[oS (.lst (js.map bx)),S,H,U (.own (((js.take (i+1)).flatMap (·.ms)).map D.str)),oS (bx j)],W,?_,_,W];let e:b2 XV (C 4) (vC (.int 4)) [oS (.lst (js.map bx)),S,H,U (.own (((js.take i).flatMap (·.ms)).map D.str)),oS (bx j)]=U (.lst (j.ms.map D.str)):=by simp only[bx,C,vC,b2,oJ,qc,qd,qb]
   simp only[gR,nI,Hx,qc,qd,e,qb,qY sz,tk];simp)
 show#[z,?_];rw[h1,h2,qf,eN]
def T3(hs:∀y∈sn,bz y=ai)(hl:sn.length<=40)(l4:js.length<=40)(g:∀j∈js,Ü sn h j)(nd:(js.map (·.nm)).Nodup)(nm:(js.flatMap (·.ms)).Nodup)(ml:(js.flatMap (·.ms)).length<=300):yB [.lst (js.map bx),.lst (sn.map D.str),.int h]=U (.bl ai):=by
 let⟨z,hz⟩:=Pb l4 λj hj=>qO (g j hj).ln hl;show bR [oS (.lst (js.map bx)),oS (.lst (sn.map D.str)),oS (.int h),B,B] (Y':=[oS (.lst (js.map bx)),oS (.lst (sn.map D.str)),oS (.int h),oS (.lst ((js.flatMap (·.ms)).map D.str)),z]) W ((iK ?_ (ii (r:=[oS (.lst (sn.map D.str)),oS (.int h)]) W (by rw[qf];show Zo l4 .(c)) W λx hx=>?_)).trans ?_)
 .exact jx _ 0 40 #[by ext,by rw[qf];ext]
 .obtain⟨p,hp,rfl⟩:=bo.mp hx;simp only[cF,J,aq,C,qc,qd,qb,qe,RD hs hl (g p hp)]
 .let nn:=kP (i:=0) (fv:=[B]) (Y:=[oS (.lst (js.map bx)),oS (.lst (sn.map D.str)),oS (.int h),oS (.lst ((js.flatMap (·.ms)).map D.str)),z]) (f:=bx) (nm:=(·.nm)) (xs:=js) (λx=>#[_,W]) W (Zo l4 .(c)) W;let u1:cF fA (J (aR (aW (X6 (C 0)) (aA 0) tT .(o) [B])) aq) [oS (.lst (js.map bx)),oS (.lst (sn.map D.str)),oS (.int h),oS (.lst ((js.flatMap (·.ms)).map D.str)),z]=U (.bl ai):=
   aU (ax nn aF) (mD nd (by rw[qf];ext))
  let u2:cF fA (J (C 3) aq) [oS (.lst (js.map bx)),oS (.lst (sn.map D.str)),oS (.int h),oS (.lst ((js.flatMap (·.ms)).map D.str)),z]=U (.bl ai):=
   aU (ax W aF) (mD nm ml)
  let r:=bP (Fn u1 u2);let z0:(0<=aK)=True:=by simp
  simp only[ay,eL,X5,aq,qb,qe,qm,z0,cx,nI,Hx,bN,X6,C,qc,p8];rw[hz];simp only[qb,eO,qc,qd,nI,Hx];show r
def OQ{u:YZ}(M:∀y∈bn,bz y=ai)(g:ń bn h u):sX [dv u,.lst (bn.map D.str),.int h]=U (.bl ai):=by simp only[sX,dv,aO,ay,YJ,aE,aZ,cm,Yh,bA,XX,cF,J,aq,C,vC,b2,dR,gb,j5,sV,qo,qQ,qq,qT,bQ,qc,qd,qb,qe,cE,ic,qr,HH,ox g.b M,lv g.p,lv g.q,iI _ 1 h g.n]
def N9(M:∀y∈bn,bz y=ai)(l4:E.length<=100)(g:∀u∈E,ń bn h u)(nd:(E.map λu=>[u.b,u.p,u.q]).Nodup):yO [.lst (E.map dv),.lst (bn.map D.str),.int h]=U (.bl ai):=by
 show bR _ W ((iK ?_ (ii (r:=[oS (.lst (bn.map D.str)),oS (.int h)]) W (by rw[qf];show Zo l4 .(c)) W λx hx=>?_)).trans (bP (aU (ax (jZ (f:=λd=>match d with|.tup [a,b,c,d]=>.tup [a,b,c]|_=>.non) W (by rw[qf];show Zo l4 .(c)) W λx hx=>?_) aF) ?_)))
 .exact jx _ 0 100 #[by ext,by rw[qf];ext]
 .obtain⟨p,hp,rfl⟩:=bo.mp hx;simp only[cF,J,aq,C,qc,qd,qb,qe,OQ M (g p hp)]
 .obtain⟨p,hp,rfl⟩:=bo.mp hx;simp only[C,vC,Zg,pN,pS,qc,qb,dv,F0]
 .let:=B8 nd (by rw[qf];ext);rw[qp] at this ⊢;show this
def LK{l:YA}(hs:∀y∈sn,bz y=ai)(g:Ņ sn h l):uG [df l,.lst (sn.map D.str),.int h]=U (.bl ai):=by simp only[uG,df,aO,ay,YJ,aE,aZ,cm,Yh,bA,XX,cF,J,aq,C,vC,b2,dR,gb,j5,qo,qQ,qq,qT,bQ,qc,qd,qb,qe,cE,ic,lR,qr,D2,ox g.a hs,ox g.b hs,Bb,qP g.ne,iI _ 0 h g.g]
def Sc(hs:∀y∈sn,bz y=ai)(l4:ls.length<=100)(g:∀l∈ls,Ņ sn h l)(nd:(ls.map λl=>[l.a,l.b]).Nodup):zg [.lst (ls.map df),.lst (sn.map D.str),.int h]=U (.bl ai):=by
 show bR _ W ((iK ?_ (ii (r:=[oS (.lst (sn.map D.str)),oS (.int h)]) W (by rw[qf];show Zo l4 .(c)) W λx hx=>?_)).trans (bP (aU (ax (jZ (f:=λd=>match d with|.tup [a,b,c]=>.tup [a,b]|_=>.non) W (by rw[qf];show Zo l4 .(c)) W λx hx=>?_) aF) ?_)))
 .exact jx _ 0 100 #[by ext,by rw[qf];ext]
 .obtain⟨p,hp,rfl⟩:=bo.mp hx;simp only[cF,J,aq,C,qc,qd,qb,qe,LK hs (g p hp)]
 .obtain⟨p,hp,rfl⟩:=bo.mp hx;simp only[C,vC,Zg,pN,pS,qc,qb,df,Pz]
 .let:=B8 nd (by rw[qf];ext);rw[qp] at this ⊢;show this
def QS{w:aj×ah}(hs:∀y∈sn,bz y=ai)(g:w.1∈sn/\1<=w.2/\w.2<=1000000):uV [dW w,.lst (sn.map D.str)]=U (.bl ai):=by simp only[uV,dW,aO,aE,cm,cF,J,aq,C,vC,b2,dR,gb,qo,qQ,qq,qT,bQ,qc,qd,qb,qe,uP,ox g.1 hs,iI w.2 1 1000000 g.2]
def BW{ws:Z (aj×ah)}(hs:∀y∈sn,bz y=ai)(hl:sn.length<=40)(g:ņ sn ws):vx [.lst (ws.map dW),.lst (sn.map D.str)]=U (.bl ai):=by
 let l4:ws.length<=40:=qO g.ln hl;show bR _ W ((iK ?_ (ii (r:=[oS (.lst (sn.map D.str))]) W (by rw[qf];show Zo l4 .(c)) W λx hx=>?_)).trans (bP ?_))
 .let e:=jx (ws.map dW) 0 ((sn.map D.str).length:ag) #[by ext,by rw[qf,qf];let:=g.ln;ext];simp only[cF,J,aq,C,vC,cb,qc,qd,qb,qe];show e
 .obtain⟨p,hp,rfl⟩:=bo.mp hx;simp only[cF,J,aq,C,qc,qd,qb,qe,QS hs (g.ws p hp)]
 .let:=kP (i:=0) (fv:=[B]) (Y:=[oS (.lst (ws.map dW)),oS (.lst (sn.map D.str))]) (λx=>#[_,W]) W (Zo l4 .(c)) W;show aU (ax this aF) (mD g.nd (by rw[qf];ext))
def Ln{k:YD}(hs:∀y∈sn,bz y=ai)(hl:sn.length<=40)(g:Zm sn k):uZ [c7 k,.lst (sn.map D.str)]=U (.bl ai):=by simp only[uZ,c7,aO,ay,YJ,aE,aZ,cm,Yh,bA,XX,cF,J,aq,C,vC,b2,dR,gb,j5,sV,oJ,qo,qQ,qq,qT,bQ,qc,qd,qb,qe,cE,ic,qr,DC,lv g.nm,iI _ 0 1000000 g.hi,iI _ 0 _ g.lo,BW hs hl g.tk,BW hs hl g.pt]
def IQ(hs:∀y∈sn,bz y=ai)(hl:sn.length<=40)(l4:ks.length<=6)(g:∀k∈ks,Zm sn k)(nd:(ks.map (·.nm)).Nodup):we [.lst (ks.map c7),.lst (sn.map D.str)]=U (.bl ai):=by
 show bR _ W ((iK ?_ (ii (r:=[oS (.lst (sn.map D.str))]) W (by rw[qf];show Zo l4 .(c)) W λx hx=>?_)).trans (bP ?_))
 .exact jx _ 0 6 #[by ext,by rw[qf];ext]
 .obtain⟨p,hp,rfl⟩:=bo.mp hx;simp only[cF,J,aq,C,qc,qd,qb,qe,Ln hs hl (g p hp)]
 .let:=kP (i:=0) (fv:=[B]) (Y:=[oS (.lst (ks.map c7)),oS (.lst (sn.map D.str))]) (λx=>#[_,W]) W (Zo l4 .(c)) W;show aU (ax this aF) (mD nd (by rw[qf];ext))
end
section
variable{bs:Z XQ}
def X3.bnn(g:X3 bs ss js E ls ks h):∀y∈bs.map (·.nm),bz y=ai:=λy hy=>by let⟨b,M,rfl⟩:=bo.mp hy;show(g.b b M).nm
def X3.snn(g:X3 bs ss js E ls ks h):∀y∈ss.map (·.nm),bz y=ai:=λy hy=>by let⟨b,M,rfl⟩:=bo.mp hy;show(g.s b M).nm
def Py(g:X3 bs ss js E ls ks h)(ml:(js.flatMap (·.ms)).length<=300):yJ [.lst (bs.map bY),.lst (ss.map bC),.lst (js.map bx),.lst (E.map dv),.lst (ls.map df),.lst (ks.map c7),.int h]=U .non:=by
 let M:=g.bnn;let hs:=g.snn;let hl:(ss.map (·.nm)).length<=40:=by rw[qf];show g.sl.2
 let n1:∀z:au Slot,aR (aW (X6 (C 0)) (aA 0) tT .(o) [B]) [oS (.lst (bs.map bY)),oS (.lst (ss.map bC)),oS (.lst (js.map bx)),oS (.lst (E.map dv)),oS (.lst (ls.map df)),oS (.lst (ks.map c7)),oS (.int h),B,B]=U (.lst ((bs.map (·.nm)).map D.str)):=λz=>
  kP (λx=>#[_,W]) W (Zo g.bl.2 .(c)) W
 let n2:aR (aW (X6 (C 1)) (aA 0) tT .(o) [B]) [oS (.lst (bs.map bY)),oS (.lst (ss.map bC)),oS (.lst (js.map bx)),oS (.lst (E.map dv)),oS (.lst (ls.map df)),oS (.lst (ks.map c7)),oS (.int h),oS (.lst ((bs.map (·.nm)).map D.str)),B]=U (.lst ((ss.map (·.nm)).map D.str)):=
  kP (λx=>#[_,W]) W (Zo g.sl.2 .(c)) W
 show bR _ W ((mX ?_).trans ((mX ?_).trans ((e7 (n1 B)).trans ((mX ?_).trans ((e7 n2).trans ((mX ?_).trans ((mX ?_).trans ((mX ?_).trans ((mX ?_).trans (bP W))))))))))
 .exact iI h 1 1000000 g.hh
 .exact PY g.bl.1 g.bl.2 g.b g.bn
 .exact NF M g.sl.1 g.sl.2 g.s g.sn
 .exact T3 hs hl g.jl g.j g.jn g.jm ml
 .exact N9 M g.ul g.u g.un
 .exact Sc hs g.ll g.l g.ln
 .exact IQ hs hl g.kl g.k g.kn
end
noncomputable def Pl:ag->D->Prop
 |0,_=>False
 |n+1,.lst l=>l.length<=aK/\∀x∈l,Pl n x
 |n+1,.tup l=>l.length<=aK/\∀x∈l,Pl n x
 |_+1,.non=>True
 |_+1,.bl _=>True
 |_+1,.int _=>True
 |_+1,.str _=>True
 |_+1,_=>False
def f9{X us:FS}(h:ft Y=U ar):ay (YJ ft X aZ) us Y=us Y:=by simp only[ay,YJ,h,qb,qr,cE,aZ]
def uB{A af us:FS}(h:ft Y=U ai)(h2:A Y=U (.rt d,Y')):ay (YJ ft A af) us Y=U (.rt d,Y'):=by simp only[ay,YJ,h,qb,cx,h2]
def w9:∀(n:ag)(d:D),Pl n d->jd n [d]=U d
 |0,_,h=>h.elim
 |n+1,.lst l,h=>by
  show bR [oS (.lst l)] W (uB (bD ?_) (bP ?_))
  .simp only[cF,J,aq,C,vC,dQ,ĵ,qc,qb,qe,k1]
  .let:=jZ (fi:=X6 (C 0)) (fe:=cF (jd n) (J (C 0) aq)) (fv:=[B]) (Y:=[oS (.lst l)]) (f:=λx=>x) W h.1 W (λx hx=>by simp only[cF,J,aq,C,qc,qb,qe,w9 n x (h.2 x hx)]);rw[WI] at this;show this
 |n+1,.tup l,h=>by
  show bR [oS (.tup l)] W ((f9 (bD (b:=ar) ?_)).trans (uB (bD (b:=ai) ?_) (bP (aU (ax (d:=.lst l) ?_ aF) W))))
  .simp only[cF,J,aq,C,vC,dQ,ĵ,qc,qb,qe,k2]
  .simp only[cF,J,aq,C,vC,dQ,ĵ,qc,qb,qe,k3]
  .let:=jZ (fi:=X6 (C 0)) (fe:=cF (jd n) (J (C 0) aq)) (fv:=[B]) (Y:=[oS (.tup l)]) (r:=[]) (a:=B) (xs:=l) (f:=λx=>x) W h.1 W (λx hx=>by simp only[cF,J,aq,C,qc,qb,qe,w9 n x (h.2 x hx)]);rw[WI] at this;show this
 |n+1,.non,h=>by
  show oj (jd n) [.non]=U .non;show bR [oS .non] W ((f9 (bD (b:=ar) ?_)).trans ((f9 (bD (b:=ar) ?_)).trans (bP (f:=C 0) W)))<;>simp only[cF,J,aq,C,vC,dQ,ĵ,qc,qb,qe,k10,k11]
 |n+1,.bl b,h=>by
  show oj (jd n) [.bl b]=U (.bl b);show bR [oS (.bl b)] W ((f9 (bD (b:=ar) ?_)).trans ((f9 (bD (b:=ar) ?_)).trans (bP (f:=C 0) W)))<;>simp only[cF,J,aq,C,vC,dQ,ĵ,qc,qb,qe,k8,k9]
 |n+1,.int b,h=>by
  show oj (jd n) [.int b]=U (.int b);show bR [oS (.int b)] W ((f9 (bD (b:=ar) ?_)).trans ((f9 (bD (b:=ar) ?_)).trans (bP (f:=C 0) W)))<;>simp only[cF,J,aq,C,vC,dQ,ĵ,qc,qb,qe,k6,k7]
 |n+1,.str b,h=>by show oj (jd n) [.str b]=U (.str b);show bR [oS (.str b)] W ((f9 (bD (b:=ar) ?_)).trans ((f9 (bD (b:=ar) ?_)).trans (bP (f:=C 0) W)))<;>simp only[cF,J,aq,C,vC,dQ,ĵ,qc,qb,qe,k4,k4,k5]
def g8(h:Pl 8 d):eh [d]=U d:=w9 8 d h
def gE{f:α->D}{xs:Z α}(hl:xs.length<=1000)(h:∀x∈xs,Pl n (f x)):Pl (n+1) (.lst (xs.map f)):=
 #[by rw[qf];show Zo hl .(c),λx hx=>by let⟨y,hy,rfl⟩:=bo.mp hx;show h y hy]
def IG{xs:Z aj}(hl:xs.length<=1000):Pl (n+2) (.lst (xs.map D.str)):=gE hl λx _=>(trivial:Pl (n+1) (.str x))
def uK{xs:Z (aj×ah)}(hl:xs.length<=1000):Pl (n+3) (.lst (xs.map dW)):=gE hl λx _=>#[by simp[aK],by intro y hy;simp only[qN,qL,or_false] at hy;rcases hy with rfl|rfl<;>trivial]
def CP{b:XQ}(g:ĝ h b):Pl (n+4) (bY b):=#[by simp[aK],by
 intro y hy;simp only[qN,qL,or_false] at hy;rcases hy with rfl|rfl
 .trivial
 .exact gE (by let:=g.len;ext) λx _=>#[by simp[aK],by intro y hy;simp only[qN,qL,or_false] at hy;rcases hy with rfl|rfl<;>trivial]]
def R5{bn:Z aj}{s:XM}(g:Û bn h s):Pl (n+4) (bC s):=#[by simp[aK],by
 intro y hy;simp only[qN,qL,or_false] at hy;rcases hy with rfl|rfl|rfl
 .trivial
 .trivial
 .exact uK (by let:=g.l4;ext)]
def zt{j:X4}(hl:sn.length<=40)(g:Ü sn h j):Pl (n+3) (bx j):=#[by simp[aK],by
 intro y hy;simp only[qN,qL,or_false] at hy;rcases hy with rfl|rfl|rfl|rfl|rfl
 .trivial
 .trivial
 .trivial
 .trivial
 .exact IG (by let:=g.ln;ext)]
def Lf{u:YZ}:Pl (n+2) (dv u):=#[by simp[aK],by intro y hy;simp only[qN,qL,or_false] at hy;rcases hy with rfl|rfl|rfl|rfl<;>trivial]
def Fw{u:YA}:Pl (n+2) (df u):=#[by simp[aK],by intro y hy;simp only[qN,qL,or_false] at hy;rcases hy with rfl|rfl|rfl<;>trivial]
def Ge{k:YD}(hl:sn.length<=40)(g:Zm sn k):Pl (n+4) (c7 k):=#[by simp[aK],by
 intro y hy;simp only[qN,qL,or_false] at hy;rcases hy with rfl|rfl|rfl|rfl|rfl
 .trivial
 .trivial
 .trivial
 .exact uK (by let:=g.tk.ln;ext)
 .exact uK (by let:=g.pt.ln;ext)]
def DJ{nm:α->aj}{f:α->D}:∀(xs:Z α),nR (xs.map λx=>.tup [.str (nm x),f x])=U (xs.map λx=>(.inr (nm x),f x)):=by
 intro X7
 induction X7 with
 |nil=>
  show W
 |cons x r ih=>
  simp only[qo,nR,gG,qb,ih,qe]
def CM{t:α->Z aj}{f:α->D}:∀(xs:Z α),lY (xs.map λx=>.tup [.tup ((t x).map D.str),f x])=U (xs.map λx=>((t x).map bZ,f x)):=by
 intro X7
 induction X7 with
 |nil=>
  show W
 |cons x r ih=>
  simp only[qo,lY,oG,qb,ih,qe]
def xO[dJ κ]{ps:Z (κ×D)}(h:(ps.map (·.1)).Nodup):pI ps=ps:=by
 let key:∀(l a:Z (κ×D)),((a++l).map (·.1)).Nodup->l.foldl (λXT kv=>ce XT kv.1 kv.2) a=a++l:=by
  intro l
  induction l with
  |nil=>intro a _;simp
  |cons x r ih=>
   intro a hn;let hx:(a.any λkv=>decide (kv.1=x.1))=ar:=by rw[Gu];intro y hy z;rw[dN,nE] at hn;show hn.2.2 y.1 (qX hy) x.1 (by simp) (eq z)
   rw[fO];let e:ce a x.1 x.2=a++[x]:=by unfold ce;rw[hx];rfl
   rw[e,ih (a++[x]) (by simpa using hn)];simp
 simpa[pI] using key ps [] (by simpa using h)
def mE{β:Type}:∀{fs:Z (aj×β)}{i:ag}{k:aj}{d:β},(fs.map (·.1)).Nodup->fs[i]?=U (k,d)->fs.lookup k=U d
 |[],i,k,d,_,h=>by simp at h
 |(a,b)::r,0,k,d,_,h=>by
  simp only[qc,v8,WJ] at h;let⟨rfl,rfl⟩:=h;simp[cS]
 |(a,b)::r,i+1,k,d,nd,h=>by
  rw[qd] at h;rw[qo,dD] at nd;let ne:k≠a:=by intro z;subst z;show nd.1 (qX (f:=(·.1)) (qR h))
  let M:(k==a)=ar:=by simpa using ne
  simp only[cS,M];show mE nd.2 h
def ly:∀{fs:Z (aj×β)}{k:aj},k∉fs.map (·.1)->fs.lookup k=B:=by
 intro X7
 induction X7 with
 |nil=>
  intro _ _;show W
 |cons x0 r ih=>
  let⟨a,b⟩:=x0;intro k h;rw[qo,qN,sF] at h;let M:(k==a)=ar:=by simpa using h.1
  simp only[cS,M];show ih h.2
def gZ(j:X4)(XT:Z (XR×D))(m:aj):Z (XR×D):=ce XT (.inr m) (bx j)
def Ż(js:Z X4):Z (XR×D):=js.foldl (λXT j=>j.ms.foldl (gZ j) XT) []
def tt[dJ κ](XJ:Z (κ×D))(k:κ)(v:D):(ce XJ k v).length<=XJ.length+1:=by
 unfold ce;split
 .rw[qf];ext
 .rw[qj];simp
def Cc(j:X4):∀(ms:Z aj)(XT:Z (XR×D)),(ms.foldl (gZ j) XT).length<=XT.length+ms.length:=by
 intro X7
 induction X7 with
 |nil=>
  intro XT;simp
 |cons m r ih=>
  intro XT;rw[fO];let h1:=ih (gZ j XT m);let h2:(gZ j XT m).length<=XT.length+1:=tt _ _ _;rw[qi];ext
def EZ{m:ag}:∀{js:Z X4}(XT:Z (XR×D)),(∀j∈js,j.ms.length<=m)->(js.foldl (λXT j=>j.ms.foldl (gZ j) XT) XT).length<=XT.length+js.length*m
 |[],XT,_=>by simp
 |j::r,XT,h=>by rw[fO];let h1:=EZ (j.ms.foldl (gZ j) XT) λy hy=>h y (qh _ hy);let h2:=Cc j j.ms XT;let h3:=h j qg;rw[qi,o3];ext
def iN(bs:Z XQ)(ss:Z XM)(js:Z X4)(E:Z YZ)(ls:Z YA)(ks:Z YD)(h:ah):Z (aj×D):=
 [("benches",.lst (bs.map bY)),("steps",.lst (ss.map bC)),("jobs",.lst (js.map bx)),("setups",.lst (E.map dv)),("links",.lst (ls.map df)),("stocks",.lst (ks.map c7)),("horizon",.int h),
 ("bench_by_name",.dk (bs.map λb=>(.inr b.nm,bY b))),("step_by_name",.dk (ss.map λs=>(.inr s.nm,bC s))),("setup_by_names",.dt (E.map λu=>([u.b,u.p,u.q].map bZ,.int u.n)))]
def oB(bs:Z XQ)(ss:Z XM)(js:Z X4)(E:Z YZ)(ls:Z YA)(ks:Z YD)(h:ah):Z (aj×D):=iN bs ss js E ls ks h++[(("job_by_step":aj),D.dk (Ż js))]
def bd(bs:Z XQ)(ss:Z XM)(js:Z X4)(E:Z YZ)(ls:Z YA)(ks:Z YD)(h:ah):D:=.ins "Shop" (oB bs ss js E ls ks h)
noncomputable def lb:Z aj:=["benches","steps","jobs","setups","links","stocks","horizon","bench_by_name","step_by_name","setup_by_names","job_by_step"]
def tM:lb.Nodup:=by decide +kernel
def xh{l:Z α}(h:l.Nodup)(n:ag):(l.take n).Nodup:=pi (lK n l) h
section
variable{fs:Z (aj×D)}{f:aj}{fv:FE}
def ji(n:ag)(hk:lb[n]?=U f)(hf:fs.map (·.1)=lb.take n)(h:fv (U (.obj "Shop" fs)::r)=U d):ay (gS "Shop" f 0 fv) g (U (.obj "Shop" fs)::r)=g (U (.obj "Shop" (fs++[(f,d)]))::r):=by
 let Zi:fs.lookup f=B:=ly (by
  rw[hf];intro z;let⟨i,hi⟩:=Hy z;let Ĕ:i<n:=by
   rcases kA i n with q|q
   .exact q
   .rw[vO (by rw[qF];ext)] at hi;cases hi
  rw[zE Ĕ] at hi;let:=(List.getElem?_inj (dM.mp hi).1 tM).mp (hi.trans hk.symm);ext)
 let X2:fs.length<100:=by let:=bM cC hf;rw[qf,qF] at this;let k:lb.length=11:=rfl;ext
 simp only[ay,gS,h,qb,qc,Zi,X2,v9,cx,nI]
def yw(n i:ag)(hf:fs.map (·.1)=lb.take n)(h:fs[i]?=U (f,d)):jb "Shop" f 0 (U (.obj "Shop" fs)::r)=U d:=by let e:fs.lookup f=U d:=mE (by rw[hf];show xh tM n) h;show(if U ("Shop":aj)=U ("Shop":aj) then fs.lookup f else B)=U d;rw[qY W,e]
end
def DN{f:α->D}{nm:α->aj}{xs:Z α}(hf:∀x,∃r,f x=.tup (.str (nm x)::r))(h1:fo Y=U (.lst (xs.map f)))(h2:xs.length<=1000)(nd:(xs.map nm).Nodup):
  cF iL (J (aR (aW (X6 fo) (aA 0) tT (ba (X5 (J .(o) (J (C 0) aq)))) [B])) aq) Y=U (.dk (xs.map λx=>(.inr (nm x),f x))):=by
 let hc:=jZ (fi:=X6 fo) (fe:=ba (X5 (J .(o) (J (C 0) aq)))) (fv:=[B]) (f:=λd=>.tup [match d with|.tup (x::_)=>x|_=>.non,d]) (by unfold X6;rw[h1];rfl) (by rw[qf];show Zo h2 .(c)) W (λx hx=>by let⟨y,_,rfl⟩:=bo.mp hx;let⟨r,e⟩:=hf y;simp only[J,aq,C,vC,b2,ba,X5,dR,qc,qb,qe,cx,qi,qm,lW,sz2,e])
 let e:(xs.map f).map (λd=>D.tup [match d with|.tup (x::_)=>x|_=>.non,d])=xs.map λx=>.tup [.str (nm x),f x]:=by rw[qp];show iC λx _=>?_;let⟨r,e⟩:=hf x;simp[e]
 rw[e] at hc;let kn:((xs.map λx=>((.inr (nm x):XR),f x)).map (·.1)).Nodup:=by rw[qp];let:=wa (S:=λa b:XR=>a≠b) (bZ:aj->XR) (λa b é z=>é (i6 z)) nd;rw[qp] at this;show this
 show aU (ax hc aF) ?_;show(if _ then _ else _)=_;rw[qY (by rw[qf];show h2),DJ,qe,xO kn]
def Uk(h1:fo Y=U (.lst (E.map dv)))(h2:E.length<=1000)(nd:(E.map λu=>[u.b,u.p,u.q]).Nodup):
  cF nO (J (aR (aW (X6 fo) (aA 0) tT (ba (X5 (J (Zg (C 0) pN (pS (vC (.int 3)))) (J (b2 XV (C 0) (vC (.int 3))) aq)))) [B])) aq) Y=U (.dt (E.map λu=>([u.b,u.p,u.q].map bZ,.int u.n))):=by
 let hc:=jZ (fi:=X6 fo) (fe:=ba (X5 (J (Zg (C 0) pN (pS (vC (.int 3)))) (J (b2 XV (C 0) (vC (.int 3))) aq)))) (fv:=[B]) (f:=λd=>match d with|.tup [a,b,c,d]=>.tup [.tup [a,b,c],d]|_=>.non) (by unfold X6;rw[h1];rfl) (by rw[qf];show Zo h2 .(c)) W (λx hx=>by let⟨y,_,rfl⟩:=bo.mp hx;simp only[J,aq,C,vC,b2,ba,X5,Zg,pN,pS,sV,qc,qb,qe,cx,qi,qm,lW,sz2,dv,F0])
 rw[qp] at hc;let kn:((E.map λu=>([u.b,u.p,u.q].map (bZ:aj->XR),D.int u.n)).map (·.1)).Nodup:=by rw[qp];let inj:∀a b:Z aj,a.map (bZ:aj->XR)=b.map bZ->a=b:=λa b z=>(Hw (λx y q=>i6 q)).mp z;let:=wa (S:=λa b:Z XR=>a≠b) (List.map (bZ:aj->XR)) (λa b é z=>é (inj a b z)) nd;rw[qp] at this;show this
 show aU (ax hc aF) ?_;show(if _ then _ else _)=_;let e:=CM (t:=λu:YZ=>[u.b,u.p,u.q]) (f:=λu=>.int u.n) E;rw[qY (by rw[qf];ext)];let e2:lY (E.map ((λd=>match d with|.tup [a,b,c,d]=>D.tup [.tup [a,b,c],d]|_=>.non) ∘ dv))=U (E.map λu=>([u.b,u.p,u.q].map bZ,.int u.n)):=e;rw[e2,qe,xO kn]
section
variable{bs:Z XQ}
def xw:(iN bs ss js E ls ks h).map (·.1)=lb.take 10:=rfl
def Bv:(oB bs ss js E ls ks h).map (·.1)=lb:=rfl
abbrev r9(bs:Z XQ)(ss:Z XM)(js:Z X4)(E:Z YZ)(ls:Z YA)(ks:Z YD)(h:ah)(a b:au Slot):bG:=[oS (.lst (bs.map bY)),oS (.lst (ss.map bC)),oS (.lst (js.map bx)),oS (.lst (E.map dv)),oS (.lst (ls.map df)),oS (.lst (ks.map c7)),oS (.int h),oS .non,a,b]
abbrev ob(bs:Z XQ)(ss:Z XM)(js:Z X4)(E:Z YZ)(ls:Z YA)(ks:Z YD)(h:ah)(XJ:Z (XR×D)):au Slot:=U (.objd "Shop" (iN bs ss js E ls ks h) "job_by_step" XJ)
def Tw{j:X4}{XJ:Z (XR×D)}(hl:XJ.length<100000):mN "Shop" "job_by_step" 0 (C 10) (C 9) (ob bs ss js E ls ks h XJ::r9 bs ss js E ls ks h (oS (bx j)) (oS (.str m)))=U (.nx,ob bs ss js E ls ks h (gZ j XJ m)::r9 bs ss js E ls ks h (oS (bx j)) (oS (.str m))):=by let Zi:(iN bs ss js E ls ks h).lookup ("job_by_step":aj)=B:=ly (by rw[xw];decide +kernel);simp only[mN,C,qc,qd,qb,gG,Zi,hl,v9,cx,nI,gZ]
def Od{j:X4}{XT:Z (XR×D)}{z:au Slot}(hl:XT.length+j.ms.length<100000):∃z',bN (X6 (b2 XV (C 9) (vC (.int 4)))) (aA 10) (mN "Shop" "job_by_step" 0 (C 10) (C 9)) (ob bs ss js E ls ks h XT::r9 bs ss js E ls ks h (oS (bx j)) z)=U (.nx,ob bs ss js E ls ks h (j.ms.foldl (gZ j) XT)::r9 bs ss js E ls ks h (oS (bx j)) z'):=by
 let⟨Y',h1,z',h2⟩:=ro (gg:=aA 10) (xs:=j.ms.map D.str) (Y:=ob bs ss js E ls ks h XT::r9 bs ss js E ls ks h (oS (bx j)) z)
  (λi Y=>∃z,Y=ob bs ss js E ls ks h ((j.ms.take i).foldl (gZ j) XT)::r9 bs ss js E ls ks h (oS (bx j)) z) #[z,by simp] (λi x Y hx hI=>by
   let⟨z,rfl⟩:=hI;rw[ql] at hx;let⟨m,hm,rfl⟩:=YE hx;let tk:j.ms.take (i+1)=j.ms.take i++[m]:=by rw[wb,hm];rfl
   let X2:=Cc j (j.ms.take i) XT;rw[qF] at X2;show#[_,_,W,Tw .(b),oS (.str m),?_];rw[tk,Aa];rfl)
 show#[z',?_];let e:X6 (b2 XV (C 9) (vC (.int 4))) (ob bs ss js E ls ks h XT::r9 bs ss js E ls ks h (oS (bx j)) z)=U (j.ms.map D.str):=by simp only[C,vC,b2,X6,p8,oJ,qc,qd,qb,bx]
 unfold bN;rw[e,qb,h1,h2,qf,eN]
def PM(hj:js.length<=40)(hm:∀j∈js,j.ms.length<=40):∃z z',eU (aA 9) (bN (X6 (b2 XV (C 9) (vC (.int 4)))) (aA 10) (mN "Shop" "job_by_step" 0 (C 10) (C 9))) (js.map bx) (ob bs ss js E ls ks h []::r9 bs ss js E ls ks h B B)=U (.nx,ob bs ss js E ls ks h (Ż js)::r9 bs ss js E ls ks h z z'):=by
 let⟨Y',h1,z,z',h2⟩:=ro (gg:=aA 9) (Y:=ob bs ss js E ls ks h []::r9 bs ss js E ls ks h B B)
  (λi Y=>∃z z',Y=ob bs ss js E ls ks h (Ż (js.take i))::r9 bs ss js E ls ks h z z') #[B,B,by simp[Ż]] (λi x Y hx hI=>by
   let⟨z,z',rfl⟩:=hI;rw[ql] at hx;let⟨j,hjm,rfl⟩:=YE hx;let tk:js.take (i+1)=js.take i++[j]:=by rw[wb,hjm];rfl
   let X2:=EZ (js:=js.take i) [] λy hy=>hm y (pc hy);rw[qF,qm] at X2;let h4:=hm j (qR hjm);let⟨w,hw⟩:=Od (h:=h) (j:=j) (XT:=Ż (js.take i)) (z:=z') (by unfold Ż;ext);show#[_,_,W,hw,oS (bx j),w,?_];rw[tk];unfold Ż;rw[Aa];rfl)
 show#[z,z',?_];rw[h1,h2,qf,eN]
def KU(g:X3 bs ss js E ls ks h)(ml:(js.flatMap (·.ms)).length<=300):ze [.lst (bs.map bY),.lst (ss.map bC),.lst (js.map bx),.lst (E.map dv),.lst (ls.map df),.lst (ks.map c7),.int h]=U .(g):=by
 let hl:(ss.map (·.nm)).length<=40:=by rw[qf];show g.sl.2
 let f1:=g8 (gE (by let:=g.bl.2;ext) λx hx=>CP (g.b x hx));let f2:=g8 (gE (by let:=g.sl.2;ext) λx hx=>R5 (g.s x hx));let f3:=g8 (gE (by let:=g.jl;ext) λx hx=>zt hl (g.j x hx));let f4:=g8 (d:=.lst (E.map dv)) (gE (by let:=g.ul;ext) λx hx=>Lf);let f5:=g8 (d:=.lst (ls.map df)) (gE (by let:=g.ll;ext) λx hx=>Fw);let f6:=g8 (gE (by let:=g.kl;ext) λx hx=>Ge hl (g.k x hx));let⟨z,z',ho⟩:=PM g.jl λj hj=>qO (g.j j hj).ln hl;let key:∀(G:FS)(Y':bG),G (U (.obj "Shop" [])::[oS (.lst (bs.map bY)),oS (.lst (ss.map bC)),oS (.lst (js.map bx)),oS (.lst (E.map dv)),oS (.lst (ls.map df)),oS (.lst (ks.map c7)),oS (.int h),B,B,B])=U (.nx,ob bs ss js E ls ks h (Ż js)::Y')->
   u0 3 "Shop" G [.lst (bs.map bY),.lst (ss.map bC),.lst (js.map bx),.lst (E.map dv),.lst (ls.map df),.lst (ks.map c7),.int h]=U .(g):=λG Y' e=>by
  show(G (U (.obj "Shop" [])::[oS (.lst (bs.map bY)),oS (.lst (ss.map bC)),oS (.lst (js.map bx)),oS (.lst (E.map dv)),oS (.lst (ls.map df)),oS (.lst (ks.map c7)),oS (.int h),B,B,B])).bind _=_;rw[e];rfl
 show key _ (r9 bs ss js E ls ks h z z') ((e7 (aU W (Py g ml))).trans ?_);show(f9 (bD W)).trans ?_;show(ji 0 W W (aU W f1)).trans ?_;show(ji 1 W W (aU W f2)).trans ?_;show(ji 2 W W (aU W f3)).trans ?_;show(ji 3 W W (aU W f4)).trans ?_;show(ji 4 W W (aU W f5)).trans ?_;show(ji 5 W W (aU W f6)).trans ?_;show(ji 6 W W W).trans ?_;show(ji 7 W W (DN (λx=>#[_,W]) (yw 7 0 W W) (by let:=g.bl.2;ext) g.bn)).trans ?_;show(ji 8 W W (DN (λx=>#[_,W]) (yw 8 1 W W) (by let:=g.sl.2;ext) g.sn)).trans ?_;show(ji 9 W W (Uk (E:=E) (yw 9 3 W W) (by let:=g.ul;ext) g.un)).trans ?_;let Zi:(iN bs ss js E ls ks h).lookup ("job_by_step":aj)=B:=ly (by rw[xw];decide +kernel);let hle:(iN bs ss js E ls ks h).length<100:=by simp[iN]
 let e1:nU "Shop" "job_by_step" 0 (U (.obj "Shop" (iN bs ss js E ls ks h))::r9 bs ss js E ls ks h B B)=U (.nx,ob bs ss js E ls ks h []::r9 bs ss js E ls ks h B B):=by simp only[nU,qc,Zi,hle,v9,cx,nI]
 let e2:X6 (jb "Shop" "jobs" 0) (ob bs ss js E ls ks h []::r9 bs ss js E ls ks h B B)=U (js.map bx):=by
  let lk:(iN bs ss js E ls ks h).lookup ("jobs":aj)=U (.lst (js.map bx)):=mE (i:=2) (by rw[xw];show xh tM 10) W;let n1:("jobs":aj)≠"job_by_step":=by decide +kernel
  let e:jb "Shop" "jobs" 0 (ob bs ss js E ls ks h []::r9 bs ss js E ls ks h B B)=U (.lst (js.map bx)):=by show(if U ("Shop":aj)=U ("Shop":aj) then (if ("jobs":aj)="job_by_step" then B else (iN bs ss js E ls ks h).lookup ("jobs":aj)) else B)=_;rw[qY W,qZ n1,lk]
  unfold X6;rw[e];rfl
 show ay (nU "Shop" "job_by_step" 0) (bN (X6 (jb "Shop" "jobs" 0)) (aA 9) (bN (X6 (b2 XV (C 9) (vC (.int 4)))) (aA 10) (mN "Shop" "job_by_step" 0 (C 10) (C 9)))) (U (.obj "Shop" (iN bs ss js E ls ks h))::r9 bs ss js E ls ks h B B)=_;unfold ay;rw[e1,qb];unfold bN;rw[e2,qb];show ho
end
def Wp(o:au α)(P:α->Prop):Prop:=∃a,o=U a/\P a
section
variable{o:au α}{P Q:α->Prop}
def Wp.imp(h:Wp o P)(k:∀a,P a->Q a):Wp o Q:=let #[a,e,p]:=h;#[a,e,k a p]
def eB{f:α->au β}{P:β->Prop}(h:Wp o λa=>Wp (f a) P):Wp (o.bind f) P:=by let⟨a,rfl,b,e,p⟩:=h;show#[b,e,p]
def oA{f:α->β}{P:β->Prop}(h:Wp o λa=>P (f a)):Wp (o.map f) P:=by let⟨a,rfl,p⟩:=h;show#[_,W,p]
def aG{a:α}(e:o=U a)(p:P a):Wp o P:=#[a,e,p]
def Yf{G:D->D->au D}{P:D->Prop}(h:Wp (fa Y) λx=>Wp (fb Y) λy=>Wp (G x y) P):Wp (b2 G fa fb Y) P:=eB (h.imp λ_ k=>eB k)
def w_1{G:D->au D}{P:D->Prop}(h:Wp (fa Y) λx=>Wp (G x) P):Wp (b1 G fa Y) P:=eB h
def Y6{P:D->Prop}(p:P d):Wp (vC d Y) P:=#[d,W,p]
def bu{P:D->Prop}(h:Y[i]?=U (oS d))(p:P d):Wp (C i Y) P:=#[d,by unfold C;rw[h],p]
def bq{P:Z D->Prop}(h:Wp (fa Y) λx=>Wp (fr Y) λl=>P (x::l)):Wp (J fa fr Y) P:=eB (h.imp λ_ k=>oA k)
def cy{P:Z D->Prop}(p:P []):Wp (aq Y) P:=#[_,W,p]
def DQ{P:Z D->Prop}(h:Wp (fr Y) λl=>l.length<=1000/\P l):Wp (X5 fr Y) P:=eB (h.imp λl k=>#[l,qY (by unfold aK;ext),k.2])
def fC{P:D->Prop}(h:Wp (fr Y) λl=>l.length<=1000/\P (.tup l)):Wp (ba (X5 fr) Y) P:=oA (DQ h)
def Ek{P:D->Prop}(h:Wp (fr Y) λl=>l.length<=1000/\P (.lst l)):Wp (aR (X5 fr) Y) P:=oA (DQ h)
def gO{F:FQ}{P:D->Prop}(h:Wp (fr Y) λl=>Wp (F l) P):Wp (cF F fr Y) P:=eB h
def gz{a b:ah}{P:D->Prop}(p:P (.int (a+b))):Wp (aX (.int a) (.int b)) P:=#[_,W,p]
def mO{a b:ah}{P:D->Prop}(h:0<b)(p:∀n,0<=n->n<b->n=a%b->P (.int n)):Wp (eQ (.int a) (.int b)) P:=#[_,qY h,p _ (Int.emod_nonneg _ .(b)) (Int.emod_lt_of_pos _ h) W]
def Ed{a b:ah}{P:D->Prop}(h:0<b/\b<1073741824)(p:P (.int (a / b))):Wp (mi (.int a) (.int b)) P:=#[_,qY h,p]
def jk{P:aJ->Prop}(h:Wp (f Y) λd=>∃b,d=.bl b/\P b):Wp (XX f Y) P:=eB (h.imp λd #[b,e,p]=>by subst e;show#[b,W,p])
def OG{a b:ah}{P:D->Prop}(p:P (.bl (decide (a<=b)))):Wp (Y0 (.int a) (.int b)) P:=#[_,W,p]
def PC{a b:ah}{P:D->Prop}(p:P (.bl (decide (a<b)))):Wp (Zr (.int a) (.int b)) P:=#[_,W,p]
def SW{a b:ah}{P:D->Prop}(p:P (.bl (decide (b<a)))):Wp (ű (.int a) (.int b)) P:=#[_,W,p]
def Ir{a b:ah}{P:D->Prop}(p:P (.bl (decide (b<=a)))):Wp (geD (.int a) (.int b)) P:=#[_,W,p]
def tJ{a b:ah}{P:D->Prop}(p:∀c:aJ,(c=ai↔a=b)->P (.bl c)):Wp (â (.int a) (.int b)) P:=#[_,W,p _ (by simp)]
def Lz{P:aJ->Prop}(h:Wp (ft Y) λb=>if b=ai then Wp (gt Y) P else P ar):Wp (gT ft gt Y) P:=eB (h.imp λb k=>by
 cases b with
 |true=>show k
 |false=>show#[_,W,k])
def dO(h:Wp (g Y) λr=>r.1=.nx/\Wp (g' r.2) R):Wp (ay g g' Y) R:=eB (h.imp λ#[fl,Y'] #[e,k]=>by subst e;show k)
def jq(h:Wp (f Y) λd=>R (.nx,Y.set j (oS d))):Wp (aP j f Y) R:=oA h
def bB(h:Wp (f Y) λd=>Wp (g (Y.set j (oS d))) R):Wp (ay (aP j f) g Y) R:=dO (jq (h.imp λ_ k=>#[W,k]))
def QB(h:Wp (fr Y) λd=>R (.nx,Y.set j (U (.own d)))):Wp (eL j fr Y) R:=oA h
def Ct(h:Wp (fr Y) λd=>Wp (g (Y.set j (U (.own d)))) R):Wp (ay (eL j fr) g Y) R:=dO (QB (h.imp λ_ k=>#[W,k]))
def my(h:Wp (g (Y.set j (U (.own [])))) R):Wp (ay (eL j (X5 aq)) g Y) R:=Ct #[[],W,h]
def Fs(hs:Y[j]?=U (U (.own ds)))(hl:ds.length<=1000)(h:Wp (f Y) λd=>R (.nx,Y.set j (U (.own (ds++[d]))))):Wp (fL j f Y) R:=by unfold fL;rw[hs];show eB (h.imp λd k=>#[_,qY (by unfold aK;ext),k])
def lg(hs:Y[j]?=U (U (.own ds)))(h:Wp (g (Y.set j (oS (.lst ds)))) R):Wp (eO j g Y) R:=by unfold eO;rw[hs];show h
def fV(h:Wp (f Y) λd=>R (.rt d,Y)):Wp (aE f Y) R:=oA h
def gF(h:R (.nx,Y)):Wp (aZ Y) R:=#[_,W,h]
def il(I:ag->bG->Prop)(h:Wp (fi Y) λxs=>I 0 Y/\(∀i x Y,xs[i]?=U x->I i Y->Wp (gg x Y) λY1=>Wp (g Y1) λr=>r.1=.nx/\I (i+1) r.2)/\∀Y,I xs.length Y->R (.nx,Y)):Wp (bN fi gg g Y) R:=eB (h.imp λxs #[h0,hs,he]=>by
 let key:∀(n i:ag)(Y:bG),i+n=xs.length->I i Y->Wp (eU gg g (xs.drop i) Y) λr=>r.1=.nx/\I xs.length r.2:=by
  intro n
  induction n with
  |zero=>
   intro i Y hi hI;let e:i=xs.length:=by ext
   subst e;rw[sv];show#[_,W,W,hI]
  |succ n ih=>
   intro i Y hi hI;let YX:i<xs.length:=by ext
   rw[su YX];show eB ((hs i xs[i] Y (by simp[YX]) hI).imp λY1 k=>eB (k.imp λ#[fl,Y2] #[e,hI2]=>?_));subst e;show ih (i+1) Y2 .(b) hI2
 let:=key xs.length 0 Y .(b) h0;rw[sq] at this;show this.imp λ#[fl,Y'] #[e,k]=>by subst e;show he Y' k)
def gf{P:D->Prop}(h:Wp (g (ds.map (λd=>U (Slot.sh d))++bQ n B)) λr=>∃d,r.1=.rt d/\P d):Wp (aO n g ds) P:=eB (h.imp λ#[fl,Y'] #[d,e,p]=>by subst e;show#[d,W,p])
def kU{P:Z D->Prop}(h:Wp (fr Y) λl=>∃n:ah,l=[.int n]/\0<=n/\n<=1000/\P ((cw n.toNat).map λi:ag=>D.int (0+i))):Wp (ä e9 fr Y) P:=by show eB (h.imp λl #[n,e,h0,h1,k]=>#[_,by rw[e];show ue #[h0,by ext],k])
def lr{x:D}(h:((cw n).map λi:ag=>D.int (0+(i:ah)))[i]?=U x):i<n/\x=.int i:=by rw[ql] at h;let⟨k,hk,rfl⟩:=YE h;let⟨YX,e⟩:=dM.mp hk;rw[WK] at e;rw[qW] at YX;subst e;show#[YX,by rw[As]]
end
def CI(h:Wp (ft Y) λb=>if b=ai then Wp (f Y) λd=>R (.rt d,Y) else Wp (g' Y) R):Wp (ay (YJ ft (aE f) aZ) g' Y) R:=by
 let⟨b,e,k⟩:=h;unfold ay YJ;rw[e];cases b with
 |true=>
  let⟨d,e2,k⟩:=k;show#[(.rt d,Y),?_,k];unfold aE;rw[e2];rfl
 |false=>show k
def l0{a b:ah}{P:D->Prop}(h:(-(2 ^ 64)<a/\a<2 ^ 64)\/(-(2 ^ 64)<b/\b<2 ^ 64))(p:P (.int (a*b))):Wp (cR (.int a) (.int b)) P:=#[_,qY h,p]
def L9{P:D->Prop}(p:P (.int ns.length)):Wp (cb [.scr ns]) P:=#[_,W,p]
def lz:(2:ah) ^ 64=18446744073709551616:=by decide +kernel
def QD{n:ah}{P:D->Prop}(h0:0<=n)(h1:n<ns.length)(p:∀m,P (.int m)):Wp (XV (.scr ns) (.int n)) P:=by
 let⟨k,rfl⟩:=pj h0;show#[.int (ns.getD k 0),?_,p _];show(atI ns (k:ah)).map D.int=_;rw[jt];let:k<ns.length:=by ext
 simp[sr,this]
def Cr{a:ah}{P:D->Prop}(h:n<=1000000)(h2:a.natAbs<2 ^ 64)(p:P (.int (a ^ n))):Wp (lj (.int a) (.int n)) P:=#[_,by show(if 0<=(n:ah)/\(n:ah)<=1000000/\a.natAbs<2 ^ 64 then U (D.int (a ^ (n:ah).toNat)) else B)=_;rw[qY #[by ext,by ext,h2],e6],p]
def eS(h:Wp (ft Y) λb=>(b=ai->Wp (g Y) R)/\(b=ar->Wp (g' Y) R)):Wp (YJ ft g g' Y) R:=eB (h.imp λb k=>by
 cases b with
 |true=>show k.1 W
 |false=>show k.2 W)
def Dp{m:α->D}{xs:Z α}(x:α)(hs:Y[j]?=U (U (.own (xs.map m))))(hl:xs.length<=1000)(h:Wp (f Y) λd=>d=m x/\R (.nx,Y.set j (U (.own ((xs++[x]).map m))))):Wp (fL j f Y) R:=
 Fs hs (by rw[qf];show hl) (h.imp λd #[e,k]=>by subst e;rw[dN] at k;show k)
structure Ĝ(h f:ah)(br:Z (ah×ah)):Prop where
 iv:∀p∈br,0<=p.1/\p.1<p.2/\p.2<=h/\p.2<f
 gap:∀(i:ag)p q,br[i]?=U p->br[i+1]?=U q->p.2<q.1
def Ĝ.snoc{f b e:ah}(g:Ĝ h f br)(h0:0<=f)(h1:f<=b)(h2:b<e)(h3:e<=h):Ĝ h (e+1) (br++[(b,e)]):=by
 show#[λp hp=>?_,λi p q hp hq=>?_]
 .rcases c8.mp hp with hp|hp
  .let:=g.iv p hp;show#[this.1,this.2.1,this.2.2.1,by ext]
  .rw[bL.mp hp];show#[by show 0<=b;ext,h2,h3,by show e<e+1;ext]
 .by_cases hi:i+1<br.length
  .rw[qA .(b)] at hp;rw[qA hi] at hq;show g.gap i p q hp hq
  .by_cases hi2:i+1=br.length
   .rw[qA .(b)] at hp;rw[qM .(b),show i+1-br.length=0 by ext] at hq;cases hq;let:=(g.iv p (qR hp)).2.2.2;ext
   .rw[vO (by simp;ext)] at hq;cases hq
noncomputable def bnm(bs:Z XQ)(i:ag):aj:=(bs.map (·.nm)).getD i ⟨#[]⟩
def SH{bs:Z XQ}(h:i<bs.length):bnm bs i∈bs.map (·.nm):=by unfold bnm;rw[kJ,ql,qE h];show qX (lP h)
def Do{m:α->D}{nm:α->aj}(hm:∀x,∃r,m x=.tup (.str (nm x)::r)){xs:Z α}{g:FE}{P:D->Prop}(hf:f Y=U (.lst (xs.map m)))(hg:Wp (g Y) λd=>∃n:ah,d=.int n/\0<=n/\n<xs.length/\P (.str ((xs.map nm).getD n.toNat ⟨#[]⟩))):Wp (b2 XV (b2 XV f g) .(f) Y) P:=by
 let⟨_,e0,n,rfl,h0,h1,p⟩:=hg;let⟨k,rfl⟩:=pj h0;let hk:k<xs.length:=by ext
 let⟨r,e⟩:=hm xs[k];show#[.str (nm xs[k]),?_,?_]
 .unfold b2;rw[hf,e0];show(((XV (.lst (xs.map m)) (.int (k:ah))).bind λx=>(vC (.int 0) Y).bind λy=>XV x y))=_;rw[π,ql,qE hk];show XV (m xs[k]) (.int 0)=_;rw[e];show dR
 .rw[e6,kJ,ql,qE hk] at p;show p
def Nr{bs:Z XQ}{g:FE}{P:D->Prop}(hf:f Y=U (.lst (bs.map bY)))(hg:Wp (g Y) λd=>∃n:ah,d=.int n/\0<=n/\n<bs.length/\P (.str (bnm bs n.toNat))):Wp (b2 XV (b2 XV f g) .(f) Y) P:=Do (λx=>#[[.lst (x.br.map Y8)],W]) hf hg
def yW{l:Z aj}{x:D}(h:(l.map D.str)[i]?=U x):∃s,l[i]?=U s/\x=.str s:=by rw[ql] at h;let⟨s,hs,rfl⟩:=YE h;show#[s,hs,W]
def B9{l:Z α}{x:α}(f:α->β)(h:l[i]?=U x):(l.take (i+1)).map f=(l.take i).map f++[f x]:=by rw[i8,h,dN];rfl
noncomputable def ģ(ss:Z XM)(i:ag):aj:=(ss.map (·.nm)).getD i ⟨#[]⟩
def zp{g:FE}{P:D->Prop}(hf:f Y=U (.lst (ss.map bC)))(hg:Wp (g Y) λd=>∃n:ah,d=.int n/\0<=n/\n<ss.length/\P (.str (ģ ss n.toNat))):Wp (b2 XV (b2 XV f g) .(f) Y) P:=Do (λx=>#[_,W]) hf hg
def SG:∀(ns:Z aj),wc (ns.map ja)=0:=by
 intro X7
 induction X7 with
 |nil=>
  simp[wc]
 |cons x r ih=>
  simp[wc,sN,ih]
def za{ns:Z aj}(h:∀x∈ns,bz x=ai):fP (.list (ns.map ja))=ai:=by simp[fP,sM,xT h,sN,SG]
def Tc{ns:Z aj}(h:∀x∈ns,bz x=ai):Ļ (.lst (ns.map D.str)) (.lst [])=U (.bl (!ns.isEmpty)):=by
 let e0:Ļ (.lst (ns.map D.str)) (.lst [])=nQ (.lst (ns.map D.str)) (.lst []):=rfl;let s1:=za h;let s2:fP (.list [])=ai:=by simp[fP,sM,o8,sN,wc]
 let p1:Zh (.lst (ns.map D.str))=U (.list (ns.map ja)):=by simp[Zh,uQ]
 let p2:Zh (.lst [])=U (.list []):=by simp[Zh,iD]
 let q:jJ (.list (ns.map ja)) (.list [])=ns.isEmpty:=by cases ns<;>simp[jJ,nJ]
 rw[e0];unfold nQ eqX;rw[p1,p2,qb,qb,qY #[s1,s2],q];rfl
def Cm:∀(a b:Z aj),nJ (a.map ja) (b.map ja)=decide (a=b)
 |[],[]=>by simp[nJ]
 |[],_::_=>by simp[nJ]
 |_::_,[]=>by simp[nJ]
 |x::r,y::t=>by
  simp only[qo,nJ,jJ,Cm r t];by_cases e:x=y
  .subst e;simp
  .simp[e]
def Cy(h:i<ss.length):ģ ss i∈ss.map (·.nm):=by unfold ģ;rw[kJ,ql,qE h];show qX (lP h)
def tY{l:Z D}{n:ah}{P:D->Prop}(h0:0<=n)(h1:n<l.length)(p:∀d∈l,P d):Wp (XV (.lst l) (.int n)) P:=by
 let⟨k,rfl⟩:=pj h0;let hk:k<l.length:=by ext
 show#[l[k],by rw[π,qE hk],p _ (lP hk)]
def Cw{a b:D}{P:D->Prop}(h1:P a)(h2:P b):∀d∈[a,b],P d:=by
 intro d hd;simp only[qN,qL,or_false] at hd;rcases hd with rfl|rfl
 .exact h1
 .exact h2
def Mo{a b c:D}{P:D->Prop}(h1:P a)(h2:P b)(h3:P c):∀d∈[a,b,c],P d:=by
 intro d hd;simp only[qN,qL,or_false] at hd;rcases hd with rfl|rfl|rfl
 .exact h1
 .exact h2
 .exact h3
def uU{m:α->D}{xs:Z α}(hs:Y[j]?=U (U (.own (xs.map m))))(hl:xs.length<=1000)(h:Wp (f Y) λd=>∃x,d=m x/\R (.nx,Y.set j (U (.own ((xs++[x]).map m))))):Wp (fL j f Y) R:=
 Fs hs (by rw[qf];show hl) (h.imp λd #[x,e,k]=>by subst e;rw[dN] at k;show k)
def AQ(Q:bG->Prop)(h2:∀Y,Q Y->Wp (g' Y) R)(h:Wp (g Y) λr=>(r.1=.nx/\Q r.2)\/(∃d,r.1=.rt d)/\R r):Wp (ay g g' Y) R:=by
 let⟨⟨fl,Y'⟩,e,k⟩:=h;unfold ay;rw[e];rcases k with⟨e2,k⟩|⟨⟨d,e2⟩,k⟩
 .let e2:fl=.nx:=e2;subst e2;show h2 _ k
 .let e2:fl=.rt d:=e2;subst e2;show#[_,W,k]
def p18{P:D->Prop}(p:P (.int (10 ^ 18))):Wp (b2 lj (vC (.int 10)) (vC (.int 18)) Y) P:=Yf (Y6 (Y6 (Cr (n:=18) .(c) .(c) p)))
def p7{P:D->Prop}(p:P (.int 10000000)):Wp (b2 lj (vC (.int 10)) (vC (.int 7)) Y) P:=Yf (Y6 (Y6 (Cr (n:=7) .(c) .(c) p)))
abbrev drE(c k m:ah)(a b e:au Slot):bG:=[oS (.int c),oS (.int k),oS (.int m),a,b,e]
def HL(c:ah){k m:ah}(h0:0<=k)(h1:k<=1000)(hm:0<m):Wp (bO [.int c,.int k,.int m]) λd=>∃n,d=.int n/\0<=n/\n<m:=by
 unfold bO;show gf (AQ (λY=>∃a b,Y=drE c k m a b B) ?_ ?_)
 .rintro _ ⟨a,b,rfl⟩;show bB (Yf (Yf (Yf (Yf (Yf (Yf (bu W (Y6 (mO .(c) λr _ _ _=>Yf (Yf (Y6 (bu W (l0 (.inl (by rw[lz];ext)) (bu W (l0 (.inr (by rw[lz];ext)) (gz (Yf (Y6 (bu W (l0 (.inl (by rw[lz];ext)) (gz (Y6 (gz (Y6 (l0 (.inr (by rw[lz];ext)) (Y6 (mO .(c) λx x0 x1 _=>?_)))))))))))))))))))))))))));show bB (Yf (Yf (Yf (Yf (bu W (bu W (l0 (.inl (by rw[lz];ext)) (Yf (Y6 (bu W (l0 (.inl (by rw[lz];ext)) (gz (Y6 (gz (Y6 (mO .(c) λy y0 y1 _=>?_))))))))))))))));show fV (Yf (Yf (Yf (bu W (bu W (l0 (.inl (by rw[lz];ext)) (Y6 (mO .(c) λz _ _ _=>bu W (mO hm λn n0 n1 _=>#[_,W,n,W,n0,n1])))))))))
 .refine eS (jk (Yf (bu W (p18 (Ir #[_,W,λ_=>?_,λ_=>?_])))))
  .refine bB (bu W (dO (il (λ_ Y=>∃x b,Y=drE c k m (oS (.int x)) b B) (kU (bq (bu W (cy #[k,W,h0,h1,#[c,B,W],?_,?_])))))))
   .rintro i x Y hx ⟨x,b,rfl⟩;let⟨_,rfl⟩:=lr hx;show aG W (jq (Yf (bu W (p7 (Ed .(c) #[W,_,_,W])))))
   .rintro Y ⟨x,b,rfl⟩;show#[W,eS (jk (Yf (bu W (Y6 (SW #[_,W,λ_=>?_,λ_=>?_]))))) ]
    .exact fV (Yf (Yf (bu W (p7 (mO .(c) λz _ _ _=>bu W (mO hm λn n0 n1 _=>.inr #[#[_,W],_,W,n,W,n0,n1]))))))
    .exact gF (.inl #[W,_,_,W])
  .exact gF (.inl #[W,_,_,W])
def Yk(c k m:ah):ah:=match bO [.int c,.int k,.int m] with
 |some (.int n)=>n
 |_=>0
def fg(c:ah){k m:ah}(h0:0<=k)(h1:k<=1000)(hm:0<m):bO [.int c,.int k,.int m]=U (.int (Yk c k m))/\0<=Yk c k m/\Yk c k m<m:=by let⟨_,e,n,rfl,h⟩:=HL c h0 h1 hm;unfold Yk;rw[e];show#[W,h]
def ig{a b:ah}(h : -(2 ^ 64)<a/\a<2 ^ 64:=by decide):cR (.int a) (.int b)=U (.int (a*b)):=qY (.inl h)
def Jk{a b:ah}(h : -(2 ^ 64)<b/\b<2 ^ 64:=by decide):cR (.int a) (.int b)=U (.int (a*b)):=qY (.inr h)
def cQ{c k m:ah}{P:D->Prop}(ha:fa Y=U (.int c))(eb:fb Y=U (.int k))(ec:fc Y=U (.int m))(h0:0<=k)(h1:k<=1000)(hm:0<m)(p:0<=Yk c k m->Yk c k m<m->P (.int (Yk c k m))):Wp (cF bO (J fa (J fb (J fc aq))) Y) P:=by let⟨e,q0,q1⟩:=fg c h0 h1 hm;show gO (bq (aG ha (bq (aG eb (bq (aG ec (cy (aG e (p q0 q1)))))))))
def t4(ns:Z ah)(k:ag):Wp (fQ [.scr ns,.int k]) λd=>∃n,d=.int n:=by
 unfold fQ;show gf (CI (jk (Yf (bu W (gO (bq (bu W (cy (L9 (PC #[_,W,?_]))))))))));by_cases hk:(k:ah)<ns.length
 .rw[qY (qU hk)];show Yf (bu W (bu W (QD .(b) hk λm=>#[_,W,m,W])))
 .rw[qZ (by rw[qP hk];show qt)];show fV (Y6 #[_,W,_,W])
def nK{k:ag}{P:D->Prop}(hf:f Y=U (.scr ns))(p:∀n,P (.int n)):Wp (cF fQ (J f (J (vC (.int k)) aq)) Y) P:=
 gO (bq (aG hf (bq (Y6 (cy ((t4 ns k).imp λd #[n,e]=>by subst e;show p n))))))
def Fg{a b:ah}:(if b<a then b else a)<=a/\(if b<a then b else a)<=b/\((if b<a then b else a)=a\/(if b<a then b else a)=b):=by split<;>ext
def NB(c:ah){k m:ah}(h0:0<=k)(h1:k<=900)(hm:0<=m):Wp (lx [.int c,.int k,.int m]) λd=>∃n,d=.int n/\0<=n/\n<=m:=by
 unfold lx;show gf (CI (jk (Yf (cQ (k:=k) (m:=4) W W W h0 .(b) .(c) λ_ _=>Y6 (tJ λb _=>#[b,W,?_])))));cases b with
 |true=>show cQ (k:=k+1) (m:=m+1) W W W .(b) .(b) .(b) λq0 q1=>#[_,W,_,W,q0,by ext]
 |false=>
  let e:=Fg (a:=m) (b:=12);show fV (cQ (k:=k+1) (m:=(if 12<m then 12 else m)+1) W W W .(b) .(b) .(b) λq0 q1=>#[_,W,_,W,q0,by ext])
def zc{c k m:ah}{P:D->Prop}(ha:fa Y=U (.int c))(eb:fb Y=U (.int k))(ec:fc Y=U (.int m))(h0:0<=k)(h1:k<=900)(hm:0<=m)(p:∀n,0<=n->n<=m->P (.int n)):Wp (cF lx (J fa (J fb (J fc aq))) Y) P:=by show gO (bq (aG ha (bq (aG eb (bq (aG ec (cy ((NB c h0 h1 hm).imp λd #[n,e,q0,q1]=>by subst e;show p n q0 q1))))))))
abbrev kE(n k h:ah)(br:Z (ah×ah))(f:ah)(a b c:au Slot):bG:=[oS (.int n),oS (.int k),oS (.int h),U (.own (br.map Y8)),oS (.int f),a,b,c]
def Rm(n:ah)(hh:0<=h):Wp (tE [.int n,.int 0,.int h]) λd=>∃br:Z (ah×ah),d=.lst (br.map Y8)/\br.length<=3/\∃f,Ĝ h f br:=by
 unfold tE;show gf (my (bB (Y6 (dO (il (λi Y=>∃(br:Z (ah×ah))(f:ah)(a b c:au Slot),Y=kE n 0 h br f a b c/\br.length<=i/\0<=f/\Ĝ h f br) (kU (bq (cQ (k:=0) (m:=4) W W W .(c) .(c) .(c) λq0 q1=>cy #[_,W,q0,by ext,?_,?_,?_]))))))))
 .exact#[[],0,B,B,B,W,qw _,kK _,#[(λ_ z=>nomatch z),λ_ _ _ z=>by simp at z]]
 .rintro i x Y hx ⟨br,f,a,b,c,rfl,hl,f0,g⟩;let⟨hi,rfl⟩:=lr hx;show aG W (bB (Yf (bu W (zc (k:=0+1+4*(i:ah)) (m:=h) W (aB W (aB W W ig) W) W .(b) .(b) hh λx x0 x1=>gz (bB (Yf (Yf (bu W (Y6 (gz (cQ (k:=0+3+4*(i:ah)) (m:=4) W (aB W (aB W W ig) W) W .(b) .(b) .(c) λy0 y1=>gz (eS (jk (Yf (bu W (bu W (OG #[_,W,λhc=>?_,λhc=>?_])))))))))))))))))
  .let hc:=eq hc;show dO (Dp (m:=Y8) (xs:=br) (f+x,f+x+1+Yk n (0+3+4*(i:ah)) 4) W .(b) (fC (bq (bu W (bq (bu W (cy #[by simp,W,W,?_])))))));show jq (Yf (bu W (Y6 (gz #[W,br++[(f+x,f+x+1+Yk n (0+3+4*(i:ah)) 4)],_,_,_,_,W,by rw[qj];simp;ext,by ext,g.snoc f0 .(b) .(b) hc]))))
  .exact gF #[W,br,_,_,_,_,W,by ext,f0,g]
 .rintro Y ⟨br,f,a,b,c,rfl,hl,f0,g⟩;show#[W,lg (ds:=br.map Y8) W (fV (bu W #[_,W,br,W,by simp at hl;ext,f,g]))]
def oa(h:g Y=U (.nx,Y1)):ay g g' Y=g' Y1:=by unfold ay;rw[h];rfl
def Mt(h1:Y[i]?=U (U (.own ds)))(h2:f Y=U d)(h3:ds.length<aK):fL i f Y=U (.nx,Y.set i (U (.own (ds++[d])))):=by unfold fL;rw[h1];show(f Y).bind _=_;rw[h2,qb,qY h3]
def CL:ay (eL i (X5 aq)) g Y=g (Y.set i (U (.own []))):=by
 let z0:(0<=aK)=True:=by simp
 simp only[ay,eL,X5,aq,qb,qe,qm,z0,cx]
def D0(h1:Y[i]?=U (U (.own ds))):eO i g Y=g (Y.set i (oS (.lst ds))):=by unfold eO;rw[h1]
def pP{xs:Z D}(h:fi Y=U xs):bN fi gg body Y=eU gg body xs Y:=by unfold bN;rw[h];rfl
def EQ{xs:Z D}(h:(xs.mapIdx λi d=>D.tup [.int i,d])[i]?=U d):∃x,xs[i]?=U x/\d=.tup [.int i,x]:=by rw[Vy] at h;let⟨x,hx,rfl⟩:=YE h;show#[x,hx,W]
def lB{g:FE}{x y:D}(h1:f Y=U x)(h2:g Y=U y):ba (X5 (J f (J g aq))) Y=U (.tup [x,y]):=by simp only[ba,X5,J,aq,h1,h2,qb,qe,qi,qm,lW,sz2,cx]
def AS{g e:FE}{x y:D}(h1:f Y=U x)(h2:g Y=U y)(h3:e Y=U z):ba (X5 (J f (J g (J e aq)))) Y=U (.tup [x,y,z]):=by simp only[ba,X5,J,aq,h1,h2,h3,qb,qe,qi,qm,lW,sz3,cx]
def Jf{xs:Z D}{d:ah}(h:0<=d):li B (U d) (.lst xs)=U (.lst (xs.take d.toNat)):=by
 show U (D.lst (dw xs B (U d)))=_;unfold dw HT.sIx;simp only;rw[qZ .(b),sq,WL]
 congr 2
 rw[Au];split
 .rfl
 .rw[lO (qw _),lO .(b)]
def Om{xs:Z D}{d:ah}(h:0<=d):li (U d) B (.lst xs)=U (.lst (xs.drop d.toNat)):=by
 show U (D.lst (dw xs (U d) B))=_;unfold dw HT.sIx;simp only;rw[qZ .(b)]
 congr 2
 rw[Au];split
 .rw[lO (by rw[iz];ext)]
 .rw[Av (qw _),Av .(b)];simp
def yr{g:FE}{xs:Z D}{d:ah}(h1:f Y=U (.lst xs))(h2:g Y=U (.int d))(h:0<=d):Zg f pN (pS g) Y=U (.lst (xs.take d.toNat)):=by unfold Zg pN pS;rw[h1,h2];show Jf h
def FI{g:FE}{xs:Z D}{d:ah}(h1:f Y=U (.lst xs))(h2:g Y=U (.int d))(h:0<=d):Zg f (pS g) pN Y=U (.lst (xs.drop d.toNat)):=by unfold Zg pN pS;rw[h1,h2];show Om h
section
variable{bs:Z XQ}
def mW(bs:Z XQ)(ss:Z XM)(js:Z X4)(E:Z YZ)(ls:Z YA)(ks:Z YD)(h:ah):D:=.tup [.lst (bs.map bY),.lst (ss.map bC),.lst (js.map bx),.lst (E.map dv),.lst (ls.map df),.lst (ks.map c7),.int h]
def ē(l:Z D)(n:ag):XV (.tup l) (.int (n:ah))=l[n]?:=jt l n
def Nq(g:X3 bs ss js E ls ks h)(ml:(js.flatMap (·.ms)).length<=300):yM [mW bs ss js E ls ks h]=U .(g):=
 bR _ W (bP (aU (ax (aB W W (ē _ 0)) (ax (aB W W (ē _ 1)) (ax (aB W W (ē _ 2)) (ax (aB W W (ē _ 3)) (ax (aB W W (ē _ 4)) (ax (aB W W (ē _ 5)) (ax (aB W W (ē _ 6)) aF))))))) (KU g ml)))
def iW{f:aj}(i:ag)(h1:fo Y=U .(g))(h2:(oB bs ss js E ls ks h)[i]?=U (f,d)):bh "Shop" f fo Y=U d:=by unfold bh;rw[h1];show(if ("Shop":aj)="Shop" then (oB bs ss js E ls ks h).lookup f else B)=U d;rw[qY W];show mE (by rw[Bv];show tM) h2
def cM{F:FQ}(hm:m∉lb)(h1:fo Y=U .(g))(h2:fr Y=U ds)(h3:F (bd bs ss js E ls ks h::ds)=U d):bp "Shop" m F fo fr Y=U d:=by let Zi:(oB bs ss js E ls ks h).lookup m=B:=ly (by rw[Bv];show hm);unfold bp;rw[h1];show(if ("Shop":aj)="Shop"/\(oB bs ss js E ls ks h).lookup m=B then (fr Y).bind λds=>F (bd bs ss js E ls ks h::ds) else B)=_;rw[qY #[W,Zi],h2];show h3
def R9{f:α->D}{nm:α->aj}{xs:Z α}(hf:∀x,∃r,f x=.tup (.str (nm x)::r))(h1:fo Y=U (.lst (xs.map f)))(h2:xs.length<=aK)(h3:dU fv Y=[B]):
  aR (aW (X6 fo) (aA 0) tT .(o) fv) Y=U (.lst ((xs.map nm).map D.str)):=by
 let hc:=jZ (fi:=X6 fo) (fe:=b2 XV (C 0) .(f)) (f:=λd=>match d with|.tup (x::_)=>x|_=>.non) (by unfold X6;rw[h1];rfl) (by rw[qf];show h2) h3 (λx hx=>by let⟨y,_,rfl⟩:=bo.mp hx;let⟨r,e⟩:=hf y;simp only[b2,C,vC,qc,qb,e,dR])
 rw[hc]
 congr 2
 rw[qp,qp];show iC λx _=>?_;let⟨r,e⟩:=hf x;simp[e]
def jX(hl:ss.length<=40):iH [bd bs ss js E ls ks h]=U (.lst ((ss.map (·.nm)).map D.str)):=
 bR _ W (bP (R9 (λx=>#[_,W]) (iW 1 W W) (Zo hl .(c)) W))
def rG[dJ κ](XJ:Z (κ×D))(k k':κ)(v:D):bw (ce XJ k v) k'=if k'=k then U v else bw XJ k':=by
 unfold ce;split
 .rename_i ĭ;by_cases e:k'=k
  .subst e;rw[qY W];unfold bw
   induction XJ with
   |nil=>simp at ĭ
   |cons x r ih=>
    rw[qo,eY];by_cases ex:x.1=k'
    .simp[ex]
    .simp only[qZ ex,qP ex];rw[ky,qP ex,zN] at ĭ;show ih ĭ
  .rw[qZ e];unfold bw
   induction XJ with
   |nil=>rfl
   |cons x r ih=>
    rw[qo,eY,eY];by_cases ex:x.1=k
    .let:¬x.1=k':=λz=>e (z.symm.trans ex);simp only[qY ex,qP this];by_cases ha:(r.any λkv=>decide (kv.1=k))=ai
     .exact ih ha
     .let hmap:r.map (λkv=>if kv.1=k then (kv.1,v) else kv)=r:=by
       conv=>rhs;rw[<-WM r]
       show iC λy hy=>?_;let:¬y.1=k:=λz=>ha (o6.mpr #[y,hy,qU z]);simp[this]
      rw[hmap]
    .simp only[qZ ex];by_cases ex':x.1=k'
     .simp[ex']
     .simp only[qP ex'];rw[ky,qP ex,zN] at ĭ;show ih ĭ
 .rename_i ĭ;let Zi:∀x∈XJ,¬x.1=k:=λx hx z=>ĭ (o6.mpr #[x,hx,qU z]);unfold bw;rw[WN];by_cases e:k'=k
  .subst e;rw[qY W];let:XJ.find? (λkv=>decide (kv.1=k'))=B:=by rw[z6];intro x hx z;show Zi x hx (eq z)
   rw[this];simp
  .rw[qZ e];let:¬k=k':=λz=>e z.symm;simp[this]
noncomputable def Đ:Z XM->Z (XM×XM)
 |[]=>[]
 |s::r=>r.map (λt=>(s,t))++Đ r
noncomputable def dP(p:XM×XM):D:=.tup [.str p.1.nm,.str p.2.nm]
def Fu:∀{ss:Z XM}{p:XM×XM},p∈Đ ss->p.1∈ss/\p.2∈ss:=by
 intro X7
 induction X7 with
 |nil=>
  intro _ h;cases h
 |cons s r ih=>
  intro p h;rcases c8.mp h with q|q
  .obtain⟨t,ht,rfl⟩:=bo.mp q;show#[qg,qh _ ht]
  .obtain⟨h1,h2⟩:=ih q;show#[qh _ h1,qh _ h2]
def yi:∀{ss:Z XM}{n:ag},ss.length<=n->(Đ ss).length<=ss.length*n
 |[],_,_=>by simp[Đ]
 |s::r,n,h=>by rw[qi] at h;let:=yi (ss:=r) (n:=n) .(b);show(r.map (λt=>(s,t))++Đ r).length<=_;rw[qj,qf,qi,o3];ext
def xJ{g:α->D}{xs ys:Z α}(h1:Y[i]?=U (U (.own (xs.map g))))(h2:f Y=U (.lst (ys.map g)))(h3:xs.length+ys.length<=10000):gR i f Y=U (.nx,Y.set i (U (.own ((xs++ys).map g)))):=by unfold gR;rw[h1];show(f Y).bind _=_;rw[h2,qb];show(if _ then _ else _)=_;rw[qY (by rw[qf,qf];unfold aK;ext),dN]
def Kn{l:Z α}{x:α}(h:l[i]?=U x):l.drop i=x::l.drop (i+1):=by let⟨h1,h2⟩:=dM.mp h;rw[su h1,h2]
abbrev prE(ss:Z XM)(ps:Z (XM×XM))(a b:au Slot):bG:=[oS (.lst ((ss.map (·.nm)).map D.str)),U (.own (ps.map dP)),a,b]
def EF(ss:Z XM)(hl:ss.length<=40):kX [.lst ((ss.map (·.nm)).map D.str)]=U (.lst ((Đ ss).map dP)):=by
 let YR:=yi hl;let⟨Y',h1,ps,a,b,h2,h3⟩:=ro (gg:=bT 2 (aQ (aA 2) (aQ (aA 3) bV))) (body:=(gR 1 (aR (aW (X6 (Zg (C 0) (pS (b2 aX (C 2) .(e))) pN)) (aA 0) tT (ba (X5 (J (C 1) (J (C 0) aq)))) [B,U 3])))) (xs:=((ss.map (·.nm)).map D.str).mapIdx λi d=>D.tup [.int i,d])
  (λi Y=>∃ps a b,Y=prE ss ps a b/\ps++Đ (ss.drop i)=Đ ss) #[[],B,B,W,W] (λi x Y hx hI=>by
   let⟨ps,a,b,rfl,hps⟩:=hI;let⟨y,hy,rfl⟩:=EQ hx;rw[qp,ql] at hy;let⟨s,hsi,rfl⟩:=YE hy;let hdr:=Kn hsi;let X2:ps.length+(ss.drop (i+1)).length<=10000:=by let:=bM cC hps;rw[qj] at this;rw[iz];ext
   let e:aR (aW (X6 (Zg (C 0) (pS (b2 aX (C 2) .(e))) pN)) (aA 0) tT (ba (X5 (J (C 1) (J (C 0) aq)))) [B,U 3]) (prE ss ps (oS (.int i)) (oS (.str s.nm)))=U (.lst (((ss.drop (i+1)).map λt=>(s,t)).map dP)):=by
    let e0:X6 (Zg (C 0) (pS (b2 aX (C 2) .(e))) pN) (prE ss ps (oS (.int i)) (oS (.str s.nm)))=U ((ss.drop (i+1)).map λt=>D.str t.nm):=by let:=FI (f:=C 0) (g:=b2 aX (C 2) .(e)) (Y:=prE ss ps (oS (.int i)) (oS (.str s.nm))) (d:=(i:ah)+1) W (aB W W W) .(b);unfold X6;rw[this];rw[show((i:ah)+1).toNat=i+1 by ext,qp,WO];rfl
    show(jZ (r:=[oS (.str s.nm)]) (a:=B) (f:=λd=>.tup [.str s.nm,d]) e0 (by rw[qf,iz];show Zo (k:=40) .(b) .(c)) W λx hx=>lB W W).trans ?_;rw[qp,qp];rfl
   show#[_,_,W,xJ W e (by rw[qf];show X2),ps++(ss.drop (i+1)).map (λt=>(s,t)),_,_,W,?_];rw[<-hps,hdr,o0];rfl)
 rw[zU,qf,qf,sv] at h3;let h4:ps=Đ ss:=by rw[<-h3];simp[Đ]
 rw[h4] at h2;show bR _ W (CL.trans ((oa ((pP (xs:=((ss.map (·.nm)).map D.str).mapIdx λi d=>D.tup [.int i,d]) W).trans (h1.trans (by rw[h2])))).trans ((D0 W).trans (bP (f:=C 1) W))))
end
noncomputable def uC(ls:Z YA)(a b:aj):au YA:=ls.find? λl=>decide (l.a=a/\l.b=b)
noncomputable def ţ(m:aj):XM:=#[m,m,[]]
def u7(ms:Z aj)(a b:aj):aJ:=(Đ (ms.map ţ)).any λp=>decide (p.1.nm=a/\p.2.nm=b)
def dq(js:Z X4)(ls:Z YA)(a b:aj):au ah:=match uC ls a b with
 |some l=>U l.g
 |none=>if (js.any λj=>j.od && u7 j.ms a b)=ai then U 0 else B
def xq{x:D}{xs:Z D}{Y2:bG}{R:au (Fl×bG)}(h1:gg x Y=U Y1)(h2:body Y1=U (.nx,Y2))(h3:eU gg body xs Y2=R):eU gg body (x::xs) Y=R:=by rw[<-h3];unfold eU;rw[h1,qb,h2,qb];cases xs<;>rfl
noncomputable abbrev kk(a b:aj):Z XR:=[.inr a,.inr b]
def ou{a b d:aj}:kk a b=kk c d↔a=c/\b=d:=by simp[kk]
def jo(XT:Z (Z XR×D))(p:XM×XM):Z (Z XR×D):=ce XT (kk p.1.nm p.2.nm) (.int 0)
def iq(XT:Z (Z XR×D))(j:X4):Z (Z XR×D):=if j.od=ai then (Đ (j.ms.map ţ)).foldl jo XT else XT
def oz(XT:Z (Z XR×D))(l:YA):Z (Z XR×D):=ce XT (kk l.a l.b) (.int l.g)
def JG:∀(ps:Z (XM×XM))(XT:Z (Z XR×D)),(ps.foldl jo XT).length<=XT.length+ps.length:=by
 intro X7
 induction X7 with
 |nil=>
  intro XT;show qw _
 |cons p r ih=>
  intro XT;let:=ih (jo XT p);let:=tt XT (kk p.1.nm p.2.nm) (.int 0);rw[fO,qi];unfold jo at *;ext
def vP(a b:aj):∀(ps:Z (XM×XM))(XT:Z (Z XR×D)),bw (ps.foldl jo XT) (kk a b)=if (ps.any λp=>decide (p.1.nm=a/\p.2.nm=b))=ai then U (.int 0) else bw XT (kk a b):=by
 intro X7
 induction X7 with
 |nil=>
  intro XT;show W
 |cons p r ih=>
  intro XT;rw[fO,ih,ky];unfold jo;rw[rG];by_cases h:p.1.nm=a/\p.2.nm=b
  .rw[qY (ou.mpr #[h.1.symm,h.2.symm]),qU h];split<;>rfl
  .rw[qZ (λz=>h #[(ou.mp z).1.symm,(ou.mp z).2.symm]),qP h];rfl
def vJ(a b:aj):∀(js:Z X4)(XT:Z (Z XR×D)),bw (js.foldl iq XT) (kk a b)=if (js.any λj=>j.od && u7 j.ms a b)=ai then U (.int 0) else bw XT (kk a b):=by
 intro X7
 induction X7 with
 |nil=>
  intro XT;show W
 |cons j r ih=>
  intro XT;rw[fO,ih,ky];unfold iq u7;by_cases h:j.od=ai
  .rw[qY h,vP,h,vZ];cases((Đ (j.ms.map ţ)).any λp=>decide (p.1.nm=a/\p.2.nm=b))
   .rfl
   .show(if _ then _ else U (D.int 0))=U (D.int 0);split<;>rfl
  .let h':j.od=ar:=by simpa using h
   rw[qZ h,h'];rfl
def vL(a b:aj):∀(ls:Z YA)(XT:Z (Z XR×D)),(ls.map λl=>[l.a,l.b]).Nodup->bw (ls.foldl oz XT) (kk a b)=match uC ls a b with|some l=>U (.int l.g)|none=>bw XT (kk a b):=by
 intro X7
 induction X7 with
 |nil=>
  intro XT _;show W
 |cons l r ih=>
  intro XT nd;rw[qo,dD] at nd;rw[fO,ih _ nd.2];unfold oz uC;rw[rG,eY];by_cases h:l.a=a/\l.b=b
  .rw[qY (ou.mpr #[h.1.symm,h.2.symm]),qU h];let:r.find? (λl=>decide (l.a=a/\l.b=b))=B:=by rw[z6];intro x hx z;let z:=eq z;show nd.1 (bo.mpr #[x,hx,by rw[z.1,z.2,h.1,h.2]])
   rw[this]
  .rw[qZ (λz=>h #[(ou.mp z).1.symm,(ou.mp z).2.symm]),qP h]
section
variable{bs:Z XQ}
def Er(g:X3 bs ss js E ls ks h):pF [bd bs ss js E ls ks h]=U (.lst (js.map bx)):=by
 let hl:(ss.map (·.nm)).length<=40:=by rw[qf];show g.sl.2
 let hp:Pl 8 (.lst (js.map bx)):=gE (by let:=g.jl;ext) λx hx=>zt hl (g.j x hx);show bR _ W (bP (aU (ax (iW 2 W W) aF) (g8 hp)))
def Bq(g:X3 bs ss js E ls ks h):pz [bd bs ss js E ls ks h]=U (.lst (ls.map df)):=by let hp:Pl 8 (.lst (ls.map df)):=gE (by let:=g.ll;ext) λx hx=>Fw;show bR _ W (bP (aU (ax (iW 4 W W) aF) (g8 hp)))
def T7(ms:Z aj):(ms.map ţ).map (·.nm)=ms:=by rw[qp];show WM _
def AJ(ms:Z aj)(hl:ms.length<=40):kX [.lst (ms.map D.str)]=U (.lst ((Đ (ms.map ţ)).map dP)):=by let:=EF (ms.map ţ) (by rw[qf];show hl);rw[T7] at this;show this
def Ip{S:au Slot}{XT:Z (Z XR×D)}{p:XM×XM}(hl:XT.length<100000):fE 1 (C 3) .(f) [S,U (.odt XT),x2,oS (dP p),x4,x5,x6]=U (.nx,[S,U (.odt (jo XT p)),x2,oS (dP p),x4,x5,x6]):=qY hl
def F4{S x2 x4 x5 x6:au Slot}:∀(ps:Z (XM×XM))(XT:Z (Z XR×D))(z:au Slot),XT.length+ps.length<100000->∃z',eU (aA 3) (fE 1 (C 3) .(f)) (ps.map dP) [S,U (.odt XT),x2,z,x4,x5,x6]=U (.nx,[S,U (.odt (ps.foldl jo XT)),x2,z',x4,x5,x6])
 |[],XT,z,_=>#[z,W]
 |p::r,XT,z,hl=>by rw[qi] at hl;let h1:=tt XT (kk p.1.nm p.2.nm) (.int 0);let⟨z',hz⟩:=F4 r (jo XT p) (oS (dP p)) (by unfold jo;ext);show#[z',xq W (Ip .(b)) hz]
def gjB:FS:=YJ (XX (b2 XV (C 2) (vC (.int 3)))) (bN (X6 (cF kX (J (b2 XV (C 2) (vC (.int 4))) aq))) (aA 3) (fE 1 (C 3) .(f))) aZ
def Oe{A af:FS}(h:ft Y=U ar):YJ ft A af Y=af Y:=by unfold YJ;rw[h,qb,qZ qt]
def Sa{A af:FS}(h:ft Y=U ai):YJ ft A af Y=A Y:=by unfold YJ;rw[h,qb,qY W]
def C0{a b c e:D}:XV (.tup [a,b,c,d,e]) (.int 3)=U d:=rfl
def BN{S x4 x5 x6:au Slot}:∀(js:Z X4)(XT:Z (Z XR×D))(y z:au Slot),(∀j∈js,j.ms.length<=40)->XT.length+js.length*1600<90000->∃y' z',eU (aA 2) gjB (js.map bx) [S,U (.odt XT),y,z,x4,x5,x6]=U (.nx,[S,U (.odt (js.foldl iq XT)),y',z',x4,x5,x6])/\(js.foldl iq XT).length<=XT.length+js.length*1600
 |[],XT,y,z,_,_=>#[y,z,W,zu _ _]
 |j::r,XT,y,z,hm,hl=>by
  rw[qi,o3] at hl;let hj:=hm j qg;let YR:=yi (ss:=j.ms.map ţ) (by rw[qf];show hj);rw[qf] at YR;let eT:XX (b2 XV (C 2) (vC (.int 3))) [S,U (.odt XT),oS (bx j),z,x4,x5,x6]=U j.od:=bD (aB W W C0);let key:∃z1,gjB [S,U (.odt XT),oS (bx j),z,x4,x5,x6]=U (.nx,[S,U (.odt (iq XT j)),oS (bx j),z1,x4,x5,x6])/\(iq XT j).length<=XT.length+1600:=by
   by_cases ho:j.od=ai
   .rw[ho] at eT;let⟨z1,hz⟩:=F4 (Đ (j.ms.map ţ)) XT z .(b);let eI:X6 (cF kX (J (b2 XV (C 2) (vC (.int 4))) aq)) [S,U (.odt XT),oS (bx j),z,x4,x5,x6]=U ((Đ (j.ms.map ţ)).map dP):=by unfold X6;rw[aU (ax (aB W W oJ) aF) (AJ j.ms hj)];rfl
    let hP:=JG (Đ (j.ms.map ţ)) XT;unfold iq;rw[qY ho];show#[z1,(Sa eT).trans ((pP eI).trans hz),by ext]
   .let Ñ:j.od=ar:=by simpa using ho
    rw[Ñ] at eT;unfold iq;rw[qZ ho];show#[z,Oe eT,by ext]
  let⟨z1,hk,hkl⟩:=key;let⟨y',z',hr,hrl⟩:=BN r (iq XT j) (oS (bx j)) z1 (λx hx=>hm x (qh _ hx)) .(b);show#[y',z',xq W hk hr,by rw[fO,qi,o3];ext]
def Cf{S x2 x3:au Slot}:∀(ls:Z YA)(XT:Z (Z XR×D))(a b c:au Slot),XT.length+ls.length<100000->∃a' b' c',eU (bT 3 (aQ (aA 4) (aQ (aA 5) (aQ (aA 6) bV)))) (fE 1 (ba (X5 (J (C 4) (J (C 5) aq)))) (C 6)) (ls.map df) [S,U (.odt XT),x2,x3,a,b,c]=U (.nx,[S,U (.odt (ls.foldl oz XT)),x2,x3,a',b',c'])
 |[],XT,a,b,c,_=>#[a,b,c,W]
 |l::r,XT,a,b,c,hl=>by rw[qi] at hl;let h1:=tt XT (kk l.a l.b) (.int l.g);let⟨a',b',c',hz⟩:=Cf r (oz XT l) (oS (.str l.a)) (oS (.str l.b)) (oS (.int l.g)) (by unfold oz;ext);show#[a',b',c',xq (Y1:=[S,U (.odt XT),x2,x3,oS (.str l.a),oS (.str l.b),oS (.int l.g)]) W ?_ hz];let e1:ba (X5 (J (C 4) (J (C 5) aq))) [S,U (.odt XT),x2,x3,oS (.str l.a),oS (.str l.b),oS (.int l.g)]=U (.tup [.str l.a,.str l.b]):=lB W W;unfold fE;rw[e1];show qY .(b)
def K'(g:X3 bs ss js E ls ks h):∃XJ,yV [bd bs ss js E ls ks h]=U (.dt XJ)/\∀a b,bw XJ (kk a b)=(dq js ls a b).map D.int:=by
 let hm:∀j∈js,j.ms.length<=40:=λj hj=>by let:=(g.j j hj).ln;rw[qf] at this;let:=g.sl.2;ext
 let hjl:=g.jl;let hll:=g.ll;let⟨y',z',h1,χ⟩:=BN js [] B B hm (by rw[qm];ext);rw[qm] at χ;let⟨a',b',c',h2⟩:=Cf ls (js.foldl iq []) B B B .(b);show#[ls.foldl oz (js.foldl iq []),?_,λa b=>?_]
 .let e1:X6 (bp "Shop" "job_rows" pF (C 0) aq) [oS .(g),U (.odt []),B,B,B,B,B]=U (js.map bx):=by unfold X6;rw[cM .(c) W aF (Er g)];rfl
  let e2:X6 (bp "Shop" "link_rows" pz (C 0) aq) [oS .(g),U (.odt (js.foldl iq [])),y',z',B,B,B]=U (ls.map df):=by unfold X6;rw[cM .(c) W aF (Bq g)];rfl
  show bR _ W ((oa W).trans ((oa ((pP e1).trans h1)).trans ((oa ((pP e2).trans h2)).trans (bP W))))
 .rw[vL a b ls _ g.ln,vJ];unfold dq;cases uC ls a b with
  |some l=>rfl
  |none=>
   cases(js.any λj=>j.od && u7 j.ms a b)<;>rfl
end
noncomputable abbrev GT:=aj×aj×ah
noncomputable def Χ(t:GT):D:=.tup [.str t.1,.str t.2.1,.int t.2.2]
def io(js:Z X4)(ls:Z YA)(ĥ:Z aj)(a:aj):Z GT:=ĥ.filterMap λb=>(dq js ls a b).map λg=>(a,b,g)
def Fd(js:Z X4)(ls:Z YA)(ĥ:Z aj)(a:aj):(io js ls ĥ a).length<=ĥ.length:=List.length_filterMap_le _ _
def xH(js:Z X4)(ls:Z YA)(ĥ:Z aj):∀xs:Z aj,(xs.flatMap (io js ls ĥ)).length<=xs.length*ĥ.length:=by
 intro X7
 induction X7 with
 |nil=>
  simp
 |cons x r ih=>
  let:=Fd js ls ĥ x;rw[sO,qj,qi,o3];ext
def pG(js:Z X4)(ls:Z YA)(a:aj):D->aJ
 |.str b=>(dq js ls a b).isSome
 |_=>ar
def fG(js:Z X4)(ls:Z YA)(a:aj):D->D
 |.str b=>.tup [.str a,.str b,.int ((dq js ls a b).getD 0)]
 |_=>.non
def R4(js:Z X4)(ls:Z YA)(a:aj):∀ĥ:Z aj,((ĥ.map D.str).filter (pG js ls a)).map (fG js ls a)=(io js ls ĥ a).map Χ:=by
 intro X7
 induction X7 with
 |nil=>
  show W
 |cons b r ih=>
  unfold io at ih ⊢;rw[qo,sL,zw];cases e:dq js ls a b with
  |none=>
   let e1:pG js ls a (.str b)=ar:=by show(dq js ls a b).isSome=ar;rw[e];rfl
   rw[e1];show ih
  |some q=>
   let e1:pG js ls a (.str b)=ai:=by show(dq js ls a b).isSome=ai;rw[e];rfl
   let e2:fG js ls a (.str b)=Χ (a,b,q):=by show D.tup [.str a,.str b,.int ((dq js ls a b).getD 0)]=_;rw[e];rfl
   rw[e1];show fG js ls a (.str b)::_=Χ (a,b,q)::_;rw[e2];show bM _ ih
section
variable{bs:Z XQ}
def Rg{a:au Slot}{xs:Z D}{f:D->D}{p:D->aJ}(h1:fi Y=U xs)(h2:xs.length<=aK)(h3:dU fv Y=a::r)(h:∀x∈xs,ft (oS x::r)=U (p x)/\(p x=ai->fe (oS x::r)=U (f x))):
  aW fi (aA 0) ft fe fv Y=U ((xs.filter p).map f):=by
 simp only[aW,h1,qb,qY h2,h3,Cv h]
def fH{ys:Z D}(h:fr Y=U ys):aR fr Y=U (.lst ys):=by unfold aR;rw[h];rfl
def koT(hv:∀a b,bw XJ (kk a b)=(dq js ls a b).map D.int){a:aj}{ĥ:Z aj}{S o:au Slot}(hl:ĥ.length<=40):
  aR (aW (X6 (C 1)) (aA 0) (XX (b2 k0 (ba (X5 (J (C 1) (J (C 0) aq)))) (C 2))) (ba (X5 (J (C 1) (J (C 0) (J (b2 aT (C 2) (ba (X5 (J (C 1) (J (C 0) aq))))) aq))))) [B,U 4,U 2]) [S,oS (.lst (ĥ.map D.str)),oS (.dt XJ),o,oS (.str a)]=U (.lst ((io js ls ĥ a).map Χ)):=by
 rw[<-R4];show fH (Rg W (by rw[qf];show Zo hl .(c)) W λx hx=>?_);let⟨b,_,rfl⟩:=bo.mp hx;let e1:ba (X5 (J (C 1) (J (C 0) aq))) [oS (.str b),oS (.str a),oS (.dt XJ)]=U (.tup [.str a,.str b]):=lB W W;show#[bD (aB e1 W ?_),λhp=>?_]
 .show U (D.bl (bw XJ (kk a b)).isSome)=U (.bl (dq js ls a b).isSome);rw[hv,zO]
 .let ſ:(dq js ls a b).isSome=ai:=hp;let⟨q,hq⟩:=rY.mp ſ;show AS W W (aB W e1 ?_);show(U (bw XJ (kk a b))).bind id=U (.int ((dq js ls a b).getD 0));rw[hv,hq];rfl
def Nj(g:X3 bs ss js E ls ks h):xN [bd bs ss js E ls ks h]=U (.lst (((ss.map (·.nm)).flatMap (io js ls (ss.map (·.nm)))).map Χ)):=by
 let⟨XJ,hk,hv⟩:=K' g;let hl:(ss.map (·.nm)).length<=40:=by rw[qf];show g.sl.2
 let hN:=jX (bs:=bs) (js:=js) (E:=E) (ls:=ls) (ks:=ks) (h:=h) g.sl.2;let⟨Y',h1,z,h2⟩:=ro (gg:=aA 4) (body:=(gR 3 (aR (aW (X6 (C 1)) (aA 0) (XX (b2 k0 (ba (X5 (J (C 1) (J (C 0) aq)))) (C 2))) (ba (X5 (J (C 1) (J (C 0) (J (b2 aT (C 2) (ba (X5 (J (C 1) (J (C 0) aq))))) aq))))) [B,U 4,U 2])))) (xs:=(ss.map (·.nm)).map D.str) (Y:=[oS .(g),oS (.lst ((ss.map (·.nm)).map D.str)),oS (.dt XJ),U (.own []),B])
  (λi Y=>∃z,Y=[oS .(g),oS (.lst ((ss.map (·.nm)).map D.str)),oS (.dt XJ),U (.own ((((ss.map (·.nm)).take i).flatMap (io js ls (ss.map (·.nm)))).map Χ)),z]) #[B,W] (λi x Y hx hI=>by
   let⟨z,rfl⟩:=hI;rw[ql] at hx;let⟨a,hp,rfl⟩:=YE hx;let tk:((ss.map (·.nm)).take (i+1)).flatMap (io js ls (ss.map (·.nm)))=((ss.map (·.nm)).take i).flatMap (io js ls (ss.map (·.nm)))++io js ls (ss.map (·.nm)) a:=by rw[wb,hp,Hz];simp
   let r1:=xH js ls (ss.map (·.nm)) ((ss.map (·.nm)).take i);let r2:=Fd js ls (ss.map (·.nm)) a;let r3:((ss.map (·.nm)).take i).length<=40:=qO (List.length_take_le' _ _) hl;let r4:((ss.map (·.nm)).take i).length*(ss.map (·.nm)).length<=40*40:=zT r3 hl;show#[_,_,W,xJ W (koT hv hl) .(b),oS (.str a),?_];rw[tk];rfl)
 rw[qf,eN] at h2;subst h2;show bR _ W ((e7 (cM .(c) W aF hN)).trans ((e7 (aU (ax W aF) hk)).trans (CL.trans ((oa ((pP W).trans h1)).trans ((D0 W).trans (bP W))))))
end
section
variable{bs:Z XQ}
def gB{nm:α->aj}{f:α->D}:∀{xs:Z α}{s:α},(xs.map nm).Nodup->s∈xs->bw (xs.map λx=>((.inr (nm x):XR),f x)) (.inr (nm s))=U (f s):=by
 intro X7
 induction X7 with
 |nil=>
  intro s _ hs;cases hs
 |cons x r ih=>
  intro s nd hs;rw[qo,dD] at nd;unfold bw;rw[qo,eY];by_cases e:nm x=nm s
  .let hxs:s=x:=by
    rcases cg.mp hs with q|q
    .exact q
    .exact bj (qX (f:=nm) q) (by rw[<-e];show nd.1)
   subst hxs;simp
  .let hs':s∈r:=by
    rcases cg.mp hs with q|q
    .subst q;show bj W e
    .exact q
   let Zb:¬((.inr (nm x):XR)=.inr (nm s)):=λz=>e (i6 z);simp only[qP Zb];show ih nd.2 hs'
def A4{s:XM}(g:X3 bs ss js E ls ks h)(hs:s∈ss):sW [bd bs ss js E ls ks h,.str s.nm]=U (.lst (s.ws.map dW)):=by let gs:=g.s s hs;show bR _ W (bP (aU (ax (aB (aB (z:=bC s) (iW 8 W W) W ?_) W j5) aF) (g8 (uK (by let:=gs.l4;ext)))));show gB g.sn hs
def Rn(j:X4)(m:aj):∀(ms:Z aj)(XT:Z (XR×D)),bw (ms.foldl (gZ j) XT) (.inr m)=if m∈ms then U (bx j) else bw XT (.inr m):=by
 intro X7
 induction X7 with
 |nil=>
  intro XT;simp
 |cons x r ih=>
  intro XT;rw[fO,ih];by_cases h1:m∈r
  .rw[qY h1,qY (qh _ h1)]
  .rw[qZ h1];unfold gZ;rw[rG];by_cases h2:m=x
   .subst h2;rw[qY W,qY qg]
   .let:¬((.inr m:XR)=.inr x):=λz=>h2 (i6 z);rw[qZ this,qZ];intro z;rcases cg.mp z with q|q
    .exact h2 q
    .exact h1 q
noncomputable def eJ(js:Z X4)(m:aj):au X4:=js.find? λj=>decide (m∈j.ms)
def RO(m:aj):∀(js:Z X4)(XT:Z (XR×D)),(js.flatMap (·.ms)).Nodup->bw (js.foldl (λXT j=>j.ms.foldl (gZ j) XT) XT) (.inr m)=match eJ js m with|some j=>U (bx j)|none=>bw XT (.inr m):=by
 intro X7
 induction X7 with
 |nil=>
  intro XT _;show W
 |cons j r ih=>
  intro XT nd;rw[sO,nE] at nd;rw[fO,ih _ nd.2.1,Rn];unfold eJ;rw[eY];by_cases h1:m∈j.ms
  .let:r.find? (λj=>decide (m∈j.ms))=B:=by rw[z6];intro x hx z;show nd.2.2 m h1 m (HA.mpr #[x,hx,eq z]) W
   simp only[qU h1,this,qY h1]
  .simp only[qP h1,qZ h1]
def ur:au X4->D
 |some j=>bx j
 |none=>.non
def UL{j:X4}(h:eJ js m=U j):j∈js/\m∈j.ms:=#[VH h,by let:=VI h;show eq this]
def EY(g:X3 bs ss js E ls ks h)(m:aj):uJ [bd bs ss js E ls ks h,.str m]=U (ur (eJ js m)):=by
 let hl:(ss.map (·.nm)).length<=40:=by rw[qf];show g.sl.2
 let hp:Pl 8 (ur (eJ js m)):=by
  cases e:eJ js m with
  |none=>trivial
  |some j=>show zt hl (g.j j (UL e).1)
 show bR _ W (bP (aU (ax (aB (iW 10 W W) W ?_) aF) (g8 hp)));show U ((bw (Ż js) (.inr m)).getD .non)=_;unfold Ż;rw[RO m js [] g.jm];cases eJ js m<;>rfl
def ww:oC [bd bs ss js E ls ks h]=U (.int h):=by show bR _ W (bP (iW 6 W W))
end
noncomputable def tx(l:Z ag):aj:=⟨l.toArray⟩
def wB(a b:Z ag):tx a++tx b=tx (a++b):=by show(⟨a.toArray++b.toArray⟩:aj)=⟨(a++b).toArray⟩;rw[List.append_toArray]
def pO(l:Z ag):(tx l).length=l.length:=by show l.toArray.size=_;simp
def J5:∀n:ag,n<26->("abcdefghijklmnopqrstuvwxyz":aj).cps.toList[n]?=U (97+n):=by decide +kernel
def DX:∀n:ag,n<26->az (97+n)=ai:=by decide +kernel
def Bu{i:ah}(h0:0<=i)(h:i<26):XV (.str "abcdefghijklmnopqrstuvwxyz") (.int i)=U (.str (tx [97+i.toNat])):=by let⟨n,rfl⟩:=pj h0;show(if ("abcdefghijklmnopqrstuvwxyz":aj).length<=aK then (atI ("abcdefghijklmnopqrstuvwxyz":aj).cps.toList (n:ah)).map _ else B)=_;rw[qY .(c),jt,J5 n .(b)];rfl
def D6:∀cs:Z ag,Str.join "" (cs.map λc=>tx [c])=tx cs
 |[]=>rfl
 |[c]=>rfl
 |c::d::r=>by show tx [c]++tx []++Str.join "" ((d::r).map λc=>tx [c])=_;rw[D6 (d::r),wB,wB];rfl
def Mv:∀cs:Z ag,jy (cs.map λc=>.str (tx [c]))=U (cs.map λc=>tx [c]):=by
 intro X7
 induction X7 with
 |nil=>
  show W
 |cons c r ih=>
  show(jy (r.map λc=>.str (tx [c]))).map (tx [c]::·)=_;rw[ih];rfl
def J8{cs:Z ag}(h:cs.length<=100):pp (.str "") [.lst (cs.map λc=>.str (tx [c]))]=U (.str (tx cs)):=by
 show((jy (cs.map λc=>.str (tx [c]))).bind λys=>if (ys.map (·.length)).sum+ys.length*("":aj).length<=16777216 then U (D.str (G0 "" ys)) else B)=_;let h1:=StrLaws.sumLen_le (B:=1) (cs.map λc=>tx [c]) (λy hy=>by let⟨c,_,rfl⟩:=bo.mp hy;show qw _);rw[Mv,qb,qY (by rw[qf] at h1 ⊢;show _+cs.length*0<=_;ext)]
 show U (D.str (XE "" _))=_;rw[StrLaws.glued_eq_join,D6]
def KC{xs:Z α}{d:ah}(h:0<=d):dw xs B (U d)=xs.take d.toNat:=by
 unfold dw HT.sIx;simp only;rw[qZ .(b),sq,WL,Au];split
 .rfl
 .rw[lO (qw _),lO .(b)]
def OC{xs:Z α}{d:ah}(h:0<=d):dw xs (U d) B=xs.drop d.toNat:=by
 unfold dw HT.sIx;simp only;rw[qZ .(b),Au];split
 .rw[lO (by rw[iz];ext)]
 .rw[Av (qw _),Av .(b)];simp
def DH{l:Z ag}(hl:l.length<=100)(lo hi:au ah):li lo hi (.str (tx l))=U (.str (tx (dw l lo hi))):=by show(if (tx l).length<=aK then U (D.str (mU (tx l) lo hi)) else B)=_;rw[qY (by rw[pO];unfold aK;ext)];rfl
def rF{fl:bG->au (au ah)}{l h:au ah}(h1:f Y=U d)(h2:fl Y=U l)(h3:fh Y=U h)(h4:li l h d=U z):Zg f fl fh Y=U z:=by unfold Zg;rw[h1,h2,h3];show h4
def yE{a b:Z ag}(h:a.length+b.length<=100):aX (.str (tx a)) (.str (tx b))=U (.str (tx (a++b))):=by show(if (tx a).length+(tx b).length<=aK then _ else _)=_;rw[qY (by rw[pO,pO];unfold aK;ext),wB]
noncomputable def qK(k:ag):Z ag:=if k<26 then [] else [113]
def xK(k:ag):(qK k).length<=1:=by unfold qK;split<;>simp
def OR(k:ag):∀c∈qK k,az c=ai:=by
 unfold qK;split
 .intro c hc;cases hc
 .intro c hc;rw[bL.mp hc];decide
def ŗ(l:Z ag)(a k:ag):aj:=tx (l.take a++[97+k*7%26]++qK k++l.drop a)
def MX{l:Z ag}{a:ag}(hl:l.length<=6)(hz:∀c∈l,az c=ai)(k:ag):bz (ŗ l a k)=ai:=by
 let h0:(l.take a).length+(l.drop a).length=l.length:=by rw[<-qj,sA]
 let hq:=xK k;unfold bz ŗ;rw[pO];simp only[cW,gw];show#[#[by simp only[qj,qi,qm];ext,by simp only[qj,qi,qm];ext],?_];rw[iu];intro c hc;rcases c8.mp hc with hc|hc
 .rcases c8.mp hc with hc|hc
  .rcases c8.mp hc with hc|hc
   .exact hz c (pc hc)
   .rw[bL.mp hc];show DX _ .(b)
  .exact OR k c hc
 .exact hz c (VG hc)
def Pa{l:Z ag}{a:ag}(ha:a<=l.length)(h:ŗ l a i=ŗ l a j):i*7%26=j*7%26/\(i<26↔j<26):=by
 unfold ŗ tx at h;let h:=bM (λs:aj=>s.cps.toList) h;simp only[o0] at h;let hl:=bM cC h;simp only[qj,qi,qm] at hl;simp at h;show#[by ext,?_];unfold qK at hl;constructor
 .intro h1;rw[qY h1] at hl;by_cases h2:j<26
  .exact h2
  .rw[qZ h2] at hl;simp at hl
 .intro h1;rw[qY h1] at hl;by_cases h2:i<26
  .exact h2
  .rw[qZ h2] at hl;simp at hl
def Tk{l:Z ag}{a m:ag}(ha:a<=l.length)(hm:m<=52):((cw m).map (ŗ l a)).Nodup:=by show vX.mpr (Ha ?_ (VQ));intro i j hi hj YX e;let:=Pa ha e;let:=eV.mp hj;ext
def BM{α:Type}{fe:FE}{r:bG}{m:α->D}{Q:ag->α->Prop}:∀(n s:ag)(a:au Slot),(∀i,s<=i->i<s+n->Wp (fe (oS (.int (0+(i:ah)))::r)) λd=>∃x,d=m x/\Q i x)->Wp (b9 (aA 0) tT fe ((Aw s n).map λi:ag=>D.int (0+(i:ah))) (a::r)) λl=>∃xs:Z α,l=xs.map m/\xs.length=n/\∀i x,xs[i]?=U x->Q (s+i) x
 |0,s,a,_=>#[[],W,[],W,W,λi x h=>by simp at h]
 |n+1,s,a,h=>by
  let⟨_,e,x,rfl,q⟩:=h s (qw _) .(b);let⟨_,e2,xs,rfl,hl,hq⟩:=BM n (s+1) (oS (.int (0+(s:ah)))) λi h1 h2=>h i .(b) .(b);show#[(x::xs).map m,?_,x::xs,W,by rw[qi,hl],λi y hy=>?_]
  .rw[HB,qo];show((fe (oS (.int (0+(s:ah)))::r)).bind λd=>(b9 (aA 0) tT fe _ (oS (.int (0+(s:ah)))::r)).map (d::·))=_;rw[e,qb,e2];rfl
  .cases i with
   |zero=>simp at hy;subst hy;show q
   |succ i=>
    let:=hq i y (by simpa using hy);rw[show s+1+i=s+(i+1) by ext] at this;show this
def Ft{m:α->D}(Q:ag->α->Prop){P:D->Prop}(hf:Wp (fr Y) λl=>l=[.int (n:ah)])(hn:n<=1000)(hv:dU fv Y=B::r)(h:∀i,i<n->Wp (fe (oS (.int (i:ah))::r)) λd=>∃x,d=m x/\Q i x)(p:∀xs:Z α,xs.length=n->(∀i x,xs[i]?=U x->Q i x)->P (.lst (xs.map m))):Wp (aR (aW (ä e9 fr) (aA 0) tT fe fv) Y) P:=by
 let⟨_,e,rfl⟩:=hf;let⟨_,e2,xs,rfl,hl,hq⟩:=BM n 0 B λi _ h2=>by rw[As];show h i .(b)
 show#[.lst (xs.map m),?_,p xs hl λi x hx=>by let:=hq i x hx;rw[lW] at this;show this];unfold aR aW;rw[uT e (ue #[by ext,by ext]),qb,qY (by rw[qf,qW];unfold aK;ext),hv,e6,WP,e2];rfl
abbrev nmE(c m:ah)(l:Z ag)(a:ah)(ns:Z aj)(k:au Slot):bG:=[oS (.int c),oS (.int m),oS (.str "abcdefghijklmnopqrstuvwxyz"),oS (.str (tx l)),oS (.int a),U (.own (ns.map D.str)),k]
def KP(c:ah){m:ag}(hm:m<=40):Wp (xM [.int c,.int m]) λd=>∃ns:Z aj,d=.lst (ns.map D.str)/\ns.length=m/\ns.Nodup/\∀x∈ns,bz x=ai:=by
 let⟨e0,a0,a1⟩:=fg c (k:=0) (m:=7) .(c) .(c) .(c);show gf (bB (Y6 (bB (eB (Y6 (eB (bq (Ft (m:=λc:ag=>.str (tx [c])) (λ_ c=>az c=ai) #[_,ax (aU W e0) aF,by rw[Int.toNat_of_nonneg a0]] .(b) W ?_ λcs cl cz=>cy ?_))))))))
 .intro i hi;show Yf (bu W (cQ W W W .(b) .(b) .(c) λq0 q1=>aG (Bu q0 q1) #[_,W,DX _ .(b)]))
 show aG (J8 .(b)) ?_;let cz:∀c∈cs,az c=ai:=λc hc=>by let⟨i,hi⟩:=Hy hc;show cz i c hi
 let l6:cs.length<=6:=by ext
 show bB (cQ W W (aB (x:=.int cs.length) (aU (ax W aF) ?_) W W) .(c) .(c) .(b) λq0 q1=>my ?_)
 .show(if (tx cs).length<=aK then U (D.int ((tx cs).length:ag)) else B)=_;rw[pO,qY (by unfold aK;ext)]
 let⟨a,ha⟩:=pj q0;rw[ha] at q1;rw[ha];show dO (il (λi Y=>∃k,Y=nmE c m cs a ((cw i).map (ŗ cs a)) k/\i<=m) (kU (bq (bu W (cy #[m,W,by ext,by ext,#[B,W,gM _],?_,?_])))))
 .rintro k x Y hx ⟨z,rfl,_⟩;let⟨hk,rfl⟩:=lr hx;rw[e6] at hk;let t0:(cs.take a).length+(cs.drop a).length=cs.length:=by rw[<-qj,sA]
  show aG W (Dp (xs:=(cw k).map (ŗ cs a)) (ŗ cs a k) W (by rw[qf,qW];ext) (aG (aB (z:=.str (ŗ cs a k)) (aB (z:=.str (tx (cs.take a++[97+k*7%26]++qK k))) (aB (z:=.str (tx (cs.take a++[97+k*7%26]))) (rF W W W (DH .(b) _ _)) (aB W (aB (x:=.int ((k:ah)*7)) (aB W W Jk) W W) (Bu .(b) .(b))) ?_) (aB (x:=.lst [.str "",.str "q"]) (y:=.int ((k:ah) / 26)) (z:=.str (tx (qK k))) W (aB W W W) ?_) ?_) (rF W W W (DH .(b) _ _)) ?_) #[W,W,oS (.int k),?_,by ext]))
  .rw[KC .(b),e6,show((k:ah)*7%26).toNat=k*7%26 by ext];show yE (by simp only[qi,qm];ext)
  .unfold qK;by_cases ψ:k<26
   .rw[qY ψ,show(k:ah) / 26=0 by ext];rfl
   .rw[qZ ψ,show(k:ah) / 26=1 by ext];rfl
  .exact yE (by let:=xK k;simp only[qj,qi,qm];ext)
  .rw[OC .(b),e6];show yE (by let:=xK k;simp only[qj,qi,qm];ext)
  .rw[show cw (k+1)=cw k++[k] from List.range_succ,dN (f:=ŗ cs a)];rfl
 .rintro Y ⟨k,rfl,hl⟩;show#[W,lg (ds:=((cw _).map (ŗ cs a)).map D.str) W (fV (bu W #[_,W,_,W,by simp,Tk .(b) (by simp;ext),λx hx=>?_]))];let⟨k,_,rfl⟩:=bo.mp hx;show MX l6 cz k
def wC{l:Z aj}{n:ah}{P:D->Prop}(h0:0<=n)(h1:n<l.length)(p:∀s∈l,P (.str s)):Wp (XV (.lst (l.map D.str)) (.int n)) P:=
 tY h0 (by rw[qf];show h1) λd hd=>by let⟨s,hs,rfl⟩:=bo.mp hd;show p s hs
def JI{a b:ah}{P:D->Prop}(p:P (.int (if b > a then b else a))):Wp (ij [.int a,.int b]) P:=#[_,W,p]
noncomputable def kd3:Z aj:=["cut","glue","paint"]
def M6:∀s∈kd3,bz s=ai:=by decide +kernel
abbrev seE(c:ah)(nm:aj)(bs:Z XQ)(h:ah)(kd:aj)(a:ah)(rt:Z XQ)(ws:Z (aj×ah))(x y z:au Slot):bG:=[oS (.int c),oS (.str nm),oS (.lst (bs.map bY)),oS (.int h),oS (.str kd),oS (.int a),oS (.lst (rt.map bY)),U (.own (ws.map dW)),x,y,z]
def B6{m:α->D}{x y:Z α}(h:x.length+y.length<=1000):aX (.lst (x.map m)) (.lst (y.map m))=U (.lst ((x++y).map m)):=by rw[dN];show qY (by rw[qf,qf];unfold aK;ext)
def Dw{a b:ah}(a0:0<=a)(a1:a<2)(b0:0<=b)(b1:b<4):0<=a*b/\a*b<=3:=by rcases(show a=0\/a=1 by ext) with rfl|rfl<;>ext
def No(c:ah){nm:aj}{bs:Z XQ}(hn:bz nm=ai)(M:1<=bs.length/\bs.length<=8)(nd:(bs.map (·.nm)).Nodup)(hh:1<=h):Wp (wG [.int c,.str nm,.lst (bs.map bY),.int h]) λd=>∃s:XM,d=bC s/\s.nm=nm/\Û (bs.map (·.nm)) h s:=by
 let bl:cb [.lst (bs.map bY)]=U (.int bs.length):=by show U (D.int (bs.map bY).length)=_;rw[qf]
 show gf (bB (Yf (aG (a:=.lst (kd3.map D.str)) W (cQ W W W .(c) .(c) .(c) λq0 q1=>wC q0 q1 λkd hk=>?_))));show bB (cQ W W (aU W bl) .(c) .(c) .(b) λq2 q3=>?_);let⟨a,ha⟩:=pj q2;rw[ha] at q3 ⊢;let⟨e4,a0,a1⟩:=fg c (k:=2) (m:=2) .(c) .(c) .(c);let⟨e5,b0,b1⟩:=fg c (k:=3) (m:=4) .(c) .(c) .(c);obtain⟨n,hn4⟩:∃n:ag,1+Yk c 2 2*Yk c 3 4=n:=#[(1+Yk c 2 2*Yk c 3 4).toNat,by let:=Dw a0 a1 b0 b1;ext];let n4:1<=n/\n<=4:=by let:=Dw a0 a1 b0 b1;ext
 let len:(bs.drop a++bs.take a).length=bs.length:=by rw[qj,iz,qF];ext
 let pm:(bs.drop a++bs.take a).Perm bs:=by let:=List.perm_append_comm (l₁:=bs.drop a) (l₂:=bs.take a);rw[sA] at this;show this
 show bB #[.lst (((bs.drop a++bs.take a).take n).map bY),?_,my ?_]
 .refine(yr (xs:=(bs.drop a++bs.take a).map bY) (d:=n) (aB (x:=.lst ((bs.drop a).map bY)) (y:=.lst ((bs.take a).map bY)) ?_ ?_ (B6 (by rw[<-qj,len];ext))) (aB W (aB (aU W e4) (aU W e5) (qY (.inl (by rw[lz];ext)))) (bM (λx=>U (D.int x)) hn4)) .(b)).trans ?_
  .refine(FI (xs:=bs.map bY) (d:=a) W W .(b)).trans ?_;rw[e6,WO]
  .refine(yr (xs:=bs.map bY) (d:=a) W W .(b)).trans ?_;rw[e6,sP]
  .rw[e6,sP]
 let rl:((bs.drop a++bs.take a).take n).length<=4/\1<=((bs.drop a++bs.take a).take n).length:=by rw[qF,len];ext
 let rn:(((bs.drop a++bs.take a).take n).map (·.nm)).Nodup:=by show pi ((lK _ _).map _) ?_;show((pm.map (·.nm)).nodup_iff).mpr nd
 let rm:∀b∈(bs.drop a++bs.take a).take n,b∈bs:=λb M=>pm.subset (pc M);generalize (bs.drop a++bs.take a).take n=rt at rl rn rm ⊢;show dO (il (λi Y=>∃(ws:Z (aj×ah))(x y z:au Slot),Y=seE c nm bs h kd a rt ws x y z/\ws.map (·.1)=(rt.take i).map (·.nm)/\∀w∈ws,1<=w.2/\w.2<=h) (aG (a:=(rt.map bY).mapIdx λi d=>D.tup [.int i,d]) W #[#[[],B,B,B,W,by simp,λ_ z=>nomatch z],?_,?_]))
 .rintro i x Y hx ⟨ws,x',y,z,rfl,hw,hg⟩;let⟨_,hy,rfl⟩:=EQ hx;rw[ql] at hy;let⟨b,vk,rfl⟩:=YE hy;let hi:i<rt.length:=(dM.mp vk).1;let wl:ws.length<=4:=by let:=bM cC hw;rw[qf,qf,qF] at this;ext
  let mn:=Fg (a:=5) (b:=h);let Yy:∀m:ah,1<=m->m<=h->Wp (fL 7 (ba (X5 (J (b2 XV (C 9) .(f)) (J (cF ij (J .(e) (J (cF lx (J (C 0) (J (b2 aX (vC (.int 4)) (b2 cR (vC (.int 2)) (C 8))) (J (C 10) aq)))) aq))) aq)))) (seE c nm bs h kd a rt ws (oS (.int i)) (oS (bY b)) (oS (.int m)))) λr=>r.1=.nx/\∃(ws:Z (aj×ah))(x y z:au Slot),r.2=seE c nm bs h kd a rt ws x y z/\ws.map (·.1)=(rt.take (i+1)).map (·.nm)/\∀w∈ws,1<=w.2/\w.2<=h:=by
   intro m m1 mh;show uU (m:=dW) (xs:=ws) W .(b) (fC (bq (aG (aB W W dR) (bq (gO (bq (Y6 (bq (zc (k:=4+2*(i:ah)) (m:=m) W (aB W (aB W W ig) W) W .(b) .(b) .(b) λv v0 v1=>cy (JI (cy #[by simp,(b.nm,if v > 1 then v else 1),W,W,ws++[(b.nm,if v > 1 then v else 1)],_,_,_,W,?_,λw hw=>?_])))))))))))
   .rw[dN,hw,B9 _ vk];rfl
   .rcases c8.mp hw with hw|hw
    .exact hg w hw
    .rw[bL.mp hw];split<;>ext
  show aG W (bB (Yf (aG (a:=.lst [.int h,.int (if h<5 then h else 5)]) W (cQ (k:=13) (m:=2) W W W .(c) .(c) .(c) λq0 q1=>tY q0 q1 (Cw (Yy _ hh (kK _)) (Yy _ .(b) .(b)))))))
 .rintro Y ⟨ws,x,y,z,rfl,hw,hg⟩;rw[zU,qf,eN] at hw;let wl:ws.length=rt.length:=by let:=bM cC hw;simpa using this
  show#[W,lg (ds:=ws.map dW) W (fV (fC (bq (bu W (bq (bu W (bq (bu W (cy #[by simp,_,W,#[nm,kd,ws],W,W,hn,M6 kd hk,by show 1<=ws.length;ext,by show ws.length<=4;ext,λw hw'=>#[?_,hg w hw'],by rw[hw];show rn]))))))))) ];let:w.1∈ws.map (·.1):=qX hw';rw[hw] at this;let⟨b,ċ,e⟩:=bo.mp this;rw[<-e];show qX (rm b ċ)
abbrev Es:=Z (Z aj×ah)
noncomputable def Zu(es:Es):Z (Z XR×D):=es.map λe=>(e.1.map bZ,.int e.2)
def pY{a b:Z aj}:a.map (bZ:aj->XR)=b.map bZ↔a=b:=Hw λ_ _=>i6
def DF{es:Es}{t:Z aj}{n:ah}{A:Z aj->Prop}{af:ah->Prop}(nd:(es.map (·.1)).Nodup)(al:∀e∈es,A e.1/\af e.2)(pt:A t)(pn:af n):∃Yj:Es,ce (Zu es) (t.map bZ) (.int n)=Zu Yj/\(Yj.map (·.1)).Nodup/\(∀e∈Yj,A e.1/\af e.2)/\Yj.length<=es.length+1:=by
 unfold ce;split
 .refine#[es.map λe=>if e.1=t then (e.1,n) else e,?_,?_,λe he=>?_,by rw[qf];ext]
  .unfold Zu;rw[qp,qp];show iC λe _=>?_;show(if e.1.map bZ=t.map bZ then _ else _)=_;by_cases h:e.1=t
   .rw[qY (pY.mpr h)];simp[h]
   .rw[qZ (λz=>h (pY.mp z))];simp[h]
  .rw[qp];let:es.map ((·.1) ∘ λe=>if e.1=t then (e.1,n) else e)=es.map (·.1):=iC λe _=>by show(if e.1=t then (e.1,n) else e).1=e.1;split<;>rfl
   rw[this];show nd
  .obtain⟨e0,h0,rfl⟩:=bo.mp he;split
   .exact#[(al e0 h0).1,pn]
   .exact al e0 h0
 .rename_i Zi;show#[es++[(t,n)],by unfold Zu;rw[dN];rfl,?_,λe he=>?_,by rw[qj];show qw _]
  .rw[dN];show nE.mpr #[nd,by simp,λx hx y hy e=>Zi ?_];let⟨z,hz,rfl⟩:=bo.mp hx;let hy:y=t:=by simpa using hy
   show o6.mpr #[_,qX hz,qU (pY.mpr (e.trans hy))]
  .rcases c8.mp he with he|he
   .exact al e he
   .rw[bL.mp he];show#[pt,pn]
def Ea:∀{es:Es}{e:Z aj×ah},(es.map (·.1)).Nodup->e∈es->bw (Zu es) (e.1.map bZ)=U (.int e.2):=by
 intro X7
 induction X7 with
 |nil=>
  intro _ _ h;show nomatch h
 |cons x r ih=>
  intro e nd he;rw[qo,dD] at nd;unfold bw Zu;rw[qo,eY];rcases cg.mp he with rfl|he
  .simp
  .let Zb:¬(x.1.map (bZ:aj->XR)=e.1.map bZ):=λz=>nd.1 (by rw[pY.mp z];show qX he);simp only[qP Zb];show ih nd.2 he
def Bc{k m:α->D}:∀{xs:Z α}{a:au Slot},(∀x∈xs,fe (oS (k x)::r)=U (m x))->b9 (aA 0) tT fe (xs.map k) (a::r)=U (xs.map m):=by
 intro X7
 induction X7 with
 |nil=>
  intro _ _;show W
 |cons x xs ih=>
  intro a h;show((fe (oS (k x)::r)).bind λd=>(b9 (aA 0) tT fe (xs.map k) (oS (k x)::r)).map (d::·))=_;rw[h x qg,qb,ih λy hy=>h y (qh _ hy)];rfl
def Fh{es:Es}(v:ah->ah)(h:Y[i]?=U (oS (.dt (Zu es))))(hl:es.length<=1000)(hs:∀e∈es,0<e.1.length/\e.1.length<=10)(hv:dU fv ((Y.map kN).set i (oS (.fdt (Zu es))))=B::r)
  (he:∀e∈es,fe (oS (.tup (e.1.map D.str))::r)=U (.int (v e.2))):n6 i (aR (aW (jr (C i)) (aA 0) tT (b2 iY (C 0) (ba (X5 (J fe aq)))) fv)) Y=U (.lst (es.map λe=>.tup (e.1.map D.str++[.int (v e.2)]))):=by
 let hi:i < Y.length:=(dM.mp h).1;let e1:jr (C i) ((Y.map kN).set i (oS (.fdt (Zu es))))=U (es.map λe=>.tup (e.1.map D.str)):=by unfold jr C;rw[oP (by rw[qf];show hi)];show U ((Zu es).map λkv=>D.tup (kv.1.map cU))=_;unfold Zu;rw[qp];show bM U (iC λe _=>?_);show D.tup ((e.1.map bZ).map cU)=_;rw[qp];rfl
 unfold n6;rw[h];show(if ((Zu es).map (·.2)).all gA=ai then _ else _)=_;rw[qY (by unfold Zu;rw[qp,pk,iu];intro x _;rfl)]
 let e2:aR (aW (jr (C i)) (aA 0) tT (b2 iY (C 0) (ba (X5 (J fe aq)))) fv) ((Y.map kN).set i (oS (.fdt (Zu es))))=U (.lst (es.map λe=>.tup (e.1.map D.str++[.int (v e.2)]))):=by
  unfold aR aW;rw[e1,qb,qY (by rw[qf];unfold aK;ext),hv];rw[Bc]
  .rfl
  .intro e hm;show aB (y:=.tup [.int (v e.2)]) W ?_ ?_
   .unfold ba X5;rw[ax (he e hm) aF];rfl
   .refine qY #[?_,by simp,by rw[qf];let:=hs e hm;simp only[qi,qm];unfold aK;ext];intro z;let:=hs e hm;rw[HC] at z;rw[z] at this;simp at this
 rw[e2,qb,qY];show(es.map λe=>D.tup (e.1.map D.str++[.int (v e.2)])).all tfD=ai;rw[pk,iu];intro e _;show(e.1.map D.str++[D.int (v e.2)]).all gA=ai;rw[List.all_append,pk];simp only[cW,iu];show#[λ_ _=>rfl,λx hx=>by rw[bL.mp hx];rfl]
def Cj{es:Es}{t:Z aj}{fv:FE}(hs:Y[i]?=U (U (.odt (Zu es))))(hl:es.length<=1000)(hk:fk Y=U (.tup (t.map D.str)))(hv:Wp (fv Y) λd=>∃n,d=.int n/\R (.nx,Y.set i (U (.odt (ce (Zu es) (t.map bZ) (.int n)))))):Wp (fE i fk fv Y) R:=by let⟨_,e,n,rfl,k⟩:=hv;show#[_,?_,k];unfold fE;rw[e,hk,hs];show((ff (t.map D.str)).bind _)=_;rw[oG];show qY (by unfold Zu;rw[qf];ext)
def Jc{P:aJ->Prop}(h:Y[i]?=U (U (.odt XJ)))(k:Wp (ft (Y.set i (oS (.dt XJ)))) P):Wp (p9 i ft Y) P:=by unfold p9;rw[h];show k
def LkA(ss:Z XM)(t:Z aj):Prop:=∃a b,t=[a,b]/\a∈ss.map (·.nm)/\b∈ss.map (·.nm)/\a≠b
abbrev prW(c:ah)(ss:Z XM)(es:Es)(x y z:au Slot):bG:=[oS (.int c),oS (.int 50),oS (.lst (ss.map bC)),U (.odt (Zu es)),x,y,z]
def P4(c:ah)(hs:1<=ss.length/\ss.length<=40):Wp (wS [.int c,.int 50,.lst (ss.map bC)]) λd=>∃es:Es,d=.dt (Zu es)/\es.length<=5/\(es.map (·.1)).Nodup/\∀e∈es,LkA ss e.1/\0<=e.2/\e.2<5:=by
 let sl:cb [.lst (ss.map bC)]=U (.int ss.length):=by show U (D.int (ss.map bC).length)=_;rw[qf]
 show gf (dO (aG W #[W,dO (il (λi Y=>∃(es:Es)(x y z:au Slot),Y=prW c ss es x y z/\es.length<=i/\(es.map (·.1)).Nodup/\∀e∈es,LkA ss e.1/\0<=e.2/\e.2<5) (kU (bq (cQ W W W .(c) .(c) .(c) λq0 q1=>cy #[_,W,q0,by ext,#[[],B,B,B,W,qw _,lN,λ_ z=>nomatch z],?_,?_]))))]))
 .rintro i x Y hx ⟨es,x',y,z,rfl,hl,nd,al⟩;let⟨hi,rfl⟩:=lr hx;show aG W (bB (zp W (cQ W (aB W (aB W W ig) W) (aU W sl) .(b) .(b) .(b) λa0 a1=>#[_,W,a0,a1,?_])));show bB (zp W (cQ W (aB W (aB W W ig) W) (aU W sl) .(b) .(b) .(b) λb0 b1=>#[_,W,b0,b1,?_]));let m1:=Cy (ss:=ss) (i:=(Yk c (50+1+3*(i:ah)) ss.length).toNat) .(b);let m2:=Cy (ss:=ss) (i:=(Yk c (50+2+3*(i:ah)) ss.length).toNat) .(b);generalize ģ ss (Yk c (50+1+3*(i:ah)) ss.length).toNat=o1 at m1 ⊢;generalize ģ ss (Yk c (50+2+3*(i:ah)) ss.length).toNat=o2 at m2 ⊢;show eS (Jc (XJ:=Zu es) W (Lz (jk (Yf (bu W (bu W (aG (Bb _ _) #[_,W,?_])))))));by_cases e:o1=o2
  .rw[qU e];show#[(λz=>nomatch z),λ_=>gF #[W,es,_,_,_,W,by ext,nd,al]]
  .rw[qP e];show jk (Yf (aG (lB W W) (bu W (aG (a:=.bl (!(bw (Zu es) (kk o1 o2)).isSome)) W #[_,W,λ_=>?_,λ_=>gF #[W,es,_,_,_,W,by ext,nd,al]]))));show Cj (t:=[o1,o2]) W .(b) (lB W W) (cQ (k:=50+3+3*(i:ah)) (m:=5) W (aB W (aB W W ig) W) W .(b) .(b) .(c) λg0 g1=>#[_,W,W,?_]);let⟨Yj,e1,e2,e3,e4⟩:=DF (A:=LkA ss) (af:=λn=>0<=n/\n<5) nd al #[o1,o2,W,m1,m2,e] #[g0,g1];rw[e1];show#[Yj,_,_,_,W,by ext,e2,e3]
 .rintro Y ⟨es,x,y,z,rfl,hl,nd,al⟩;show#[W,fV (Y:=[oS (.int c),oS (.int 50),oS (.lst (ss.map bC)),oS (.dt (Zu es)),x,y,z]) (bu W #[_,W,es,W,by simp at hl;ext,nd,al])]
noncomputable def kd4:Z aj:=["cut","glue","paint","rest"]
def EB:∀s∈kd4,bz s=ai:=by decide +kernel
def yX(bs:Z XQ)(t:Z aj):Prop:=∃b p q,t=[b,p,q]/\b∈bs.map (·.nm)/\bz p=ai/\bz q=ai
abbrev sxE(c:ah)(bs:Z XQ)(h:ah)(es:Es)(x y:au Slot):bG:=[oS (.int c),oS (.lst (bs.map bY)),oS (.int h),oS (.lst (kd4.map D.str)),U (.odt (Zu es)),x,y]
def Um(c:ah){bs:Z XQ}(hh:1<=h)(M:1<=bs.length/\bs.length<=8):Wp (xp [.int c,.lst (bs.map bY),.int h]) λd=>∃es:Es,d=.lst (es.map λe=>.tup (e.1.map D.str++[.int e.2]))/\es.length<=11/\(es.map (·.1)).Nodup/\∀e∈es,yX bs e.1/\1<=e.2/\e.2<=h:=by
 let bl:cb [.lst (bs.map bY)]=U (.int bs.length):=by show U (D.int (bs.map bY).length)=_;rw[qf]
 show gf (bB (aG W (dO (aG W #[W,dO (il (λi Y=>∃(es:Es)(x y:au Slot),Y=sxE c bs h es x y/\es.length<=i/\(es.map (·.1)).Nodup/\∀e∈es,yX bs e.1/\1<=e.2/\e.2<=h) (kU (bq (cQ W W W .(c) .(c) .(c) λq0 q1=>cy #[_,W,q0,by ext,#[[],B,B,W,qw _,lN,λ_ z=>nomatch z],?_,?_]))))]))))
 .rintro i x Y hx ⟨es,x',y,rfl,hl,nd,al⟩;let⟨hi,rfl⟩:=lr hx;show aG W (bB (fC (bq (Nr W (cQ W (aB W (aB W W ig) W) (aU W bl) .(b) .(b) .(b) λa0 a1=>#[_,W,a0,a1,bq (Yf (bu W (cQ W (aB W (aB W W ig) W) W .(b) .(b) .(c) λb0 b1=>wC b0 b1 λp hp=>cy #[by simp,?_])))])))));let m1:=SH (bs:=bs) (i:=(Yk c (1+4*(i:ah)) bs.length).toNat) .(b);generalize bnm bs (Yk c (1+4*(i:ah)) bs.length).toNat=b at m1 ⊢;show bB (Yf (bu W (fC (bq (Yf (bu W (cQ (k:=3+4*(i:ah)) (m:=4) W (aB W (aB W W ig) W) W .(b) .(b) .(c) λb0 b1=>wC b0 b1 λq hq=>cy #[by simp,aG (a:=.tup ([b,p,q].map D.str)) W ?_])))))));show Cj (es:=es) (t:=[b,p,q]) W .(b) W (Yf (Y6 (cQ (k:=4+4*(i:ah)) (m:=if 4<h then 4 else h) W (aB W (aB W W ig) W) W .(b) .(b) .(b) λg0 g1=>gz #[_,W,W,?_])));let⟨Yj,e1,e2,e3,e4⟩:=DF (A:=yX bs) (af:=λn=>1<=n/\n<=h) nd al #[b,p,q,W,m1,EB p hp,EB q hq] (show 1<=1+Yk c (4+4*(i:ah)) (if 4<h then 4 else h)/\_<=h from#[by ext,by ext]);rw[e1];show#[Yj,_,_,W,by ext,e2,e3]
 .rintro Y ⟨es,x,y,rfl,hl,nd,al⟩;let Μ:es.length<=11:=by simp at hl;ext
  show#[W,fV (Y:=[oS (.int c),oS (.lst (bs.map bY)),oS (.int h),oS (.lst (kd4.map D.str)),oS (.dt (Zu es)),x,y]) (aG (Fh (λn=>n) W .(b) (λe he=>?_) W λe he=>?_) #[_,W,es,W,Μ,nd,al])]
  .obtain⟨⟨b,p,q,e0,_⟩,_⟩:=al e he;rw[e0];show#[by simp,by simp]
  .refine aB W W ?_;show((ff (e.1.map D.str)).map (bw (Zu es))).bind id=_;rw[oG,qe,Ea nd he];rfl
noncomputable def en:ag->Z D->Z D
 |_,[]=>[]
 |s,x::r=>.tup [.int s,x]::en (s+1) r
def Jh:∀(xs:Z D)(s:ag),xs.mapIdx (λi d=>D.tup [.int ((s+i:ag):ah),d])=en s xs:=by
 intro X7
 induction X7 with
 |nil=>
  intro _;show W
 |cons x r ih=>
  intro s;rw[List.mapIdx_cons];show _::_=_::en (s+1) r;rw[<-ih (s+1)]
  congr 1
  congr 1
  funext i d
  rw[show s+(i+1)=s+1+i by ext]
def en0(xs:Z D):(xs.mapIdx λi d=>D.tup [.int (i:ah),d])=en 0 xs:=by
 rw[<-Jh xs 0]
 congr 1
 funext i d
 rw[lW]
def En{fe:FE}{ft:FT}{r:bG}{v:ag->ah}(hv:∀i,1<=v i/\v i<=3)(h1:∀(i:ag)s,∃b,ft (oS (.int i)::oS (bC s)::r)=U b)(h2:∀(i:ag)s,fe (oS (.int i)::oS (bC s)::r)=U (dW (s.nm,v i))):∀(ss:Z XM)(k:ag)(a b:au Slot),∃am:Z (aj×ah),b9 .(n) ft fe (en k (ss.map bC)) (a::b::r)=U (am.map dW)/\(am.map (·.1)).Sublist (ss.map (·.nm))/\∀w∈am,1<=w.2/\w.2<=3
 |[],k,a,b=>#[[],W,WQ _,λ_ z=>nomatch z]
 |s::ss,k,a,b=>by
  let⟨am,e,sb,g⟩:=En hv h1 h2 ss (k+1) (oS (.int k)) (oS (bC s));let⟨t,ht⟩:=h1 k s;let e1:b9 .(n) ft fe (en k ((s::ss).map bC)) (a::b::r)=(ft (oS (.int k)::oS (bC s)::r)).bind λt=>if t=ai then (fe (oS (.int k)::oS (bC s)::r)).bind λd=>(b9 .(n) ft fe (en (k+1) (ss.map bC)) (oS (.int k)::oS (bC s)::r)).map (d::·) else b9 .(n) ft fe (en (k+1) (ss.map bC)) (oS (.int k)::oS (bC s)::r):=rfl
  rw[e1,ht,qb,e,h2,qb];cases t with
  |false=>show#[am,W,XF _ sb,g]
  |true=>show#[(s.nm,v k)::am,W,XG _ sb,λw hw=>(cg.mp hw).elim (λe=>by rw[e];show hv k) (g w)]
def AG{n:ah}{fi:FE}{P:D->Prop}(v:ag->ah)(hf:fi Y=U (.lst (ss.map bC)))(hs:ss.length<=40)(nd:(ss.map (·.nm)).Nodup)(hr:dU fv Y=B::B::r)(hv:∀i,1<=v i/\v i<=3)(h1:∀(i:ag)s,∃b,ft (oS (.int i)::oS (bC s)::r)=U b)(h2:∀(i:ag)s,fe (oS (.int i)::oS (bC s)::r)=U (dW (s.nm,v i)))(p:∀am,ņ (ss.map (·.nm)) am->P (.lst (am.map dW))):Wp (aR (aW (ς fi) .(n) ft fe fv) Y) P:=by
 let⟨am,e,sb,g⟩:=En hv h1 h2 ss 0 B B;show#[.lst (am.map dW),?_,p am #[by let:=sb.length_le;simpa using this,λw hw=>#[sb.subset (qX hw),(g w hw).1,by let:=(g w hw).2;ext],sb.nodup nd]];let i0:ς fi Y=U (en 0 (ss.map bC)):=by unfold ς;rw[hf,<-en0];rfl
 let el:(en 0 (ss.map bC)).length<=aK:=by rw[<-en0,zU,qf];unfold aK;ext
 unfold aR aW;rw[i0,qb,qY el,hr,e];rfl
def sN2:Z aj:=["sa","sb"]
def F2:(∀x∈sN2,bz x=ai)/\sN2.Nodup:=by decide +kernel
def JE:∀{k:ag},k<2->∃x:aj,sN2[k]?=U x/\(XV (.str "ab") (.int (k:ah))).bind (λy=>aX (.str "s") y)=U (.str x)
 |0,_=>#["sa",W,W]
 |1,_=>#["sb",W,W]
 |n+2,h=>by ext
abbrev skE(c:ah)(ss:Z XM)(ks:Z YD)(a b x y:au Slot):bG:=[oS (.int c),oS (.lst (ss.map bC)),U (.own (ks.map c7)),a,b,x,y]
def OT(c:ah)(hs:ss.length<=40)(nd:(ss.map (·.nm)).Nodup):Wp (yS [.int c,.lst (ss.map bC)]) λd=>∃ks:Z YD,d=.lst (ks.map c7)/\ks.length<=2/\(ks.map (·.nm)).Nodup/\∀k∈ks,Zm (ss.map (·.nm)) k:=by
 show gf (my (dO (il (λi Y=>i<=2/\∃(ks:Z YD)(a b x y:au Slot),Y=skE c ss ks a b x y/\ks.map (·.nm)=sN2.take i/\∀k∈ks,Zm (ss.map (·.nm)) k) (kU (bq (cQ W W W .(c) .(c) .(c) λq0 q1=>cy #[_,W,q0,by ext,#[by decide,[],B,B,B,B,W,W,λ_ z=>nomatch z],?_,?_]))))))
 .rintro i x Y hx ⟨_,ks,a,b,x',y,rfl,hn,hg⟩;let⟨hi,rfl⟩:=lr hx;let kl:ks.length<=2:=by let:=bM cC hn;rw[qf,qF] at this;ext
  let⟨nm,e1,e2⟩:=JE (k:=i) .(b);show aG W (bB (cQ W W W .(b) .(b) .(c) λr0 r1=>?_));show bB (AG (n:=0) (λi=>1+(i:ah)%3) W hs nd W (λi=>by ext) (λj s=>?_) (λj s=>?_) λtk gt=>?_)
  .obtain⟨e,_⟩:=fg c (k:=4+(i:ah)) (m:=7) .(b) .(b) .(c);show#[_,bD (aB (aU (ax W .(k)) e) W W)]
  .exact lB (aB W W dR) W
  show bB (AG (n:=0) (λi=>1+(i:ah)%2) W hs nd W (λi=>by ext) (λj s=>?_) (λj s=>?_) λpt gp=>?_)
  .obtain⟨e,_⟩:=fg c (k:=8+(i:ah)) (m:=7) .(b) .(b) .(c);show#[_,bD (aB (aU (ax W .(k)) e) W W)]
  .exact lB (aB W W dR) W
  show uU (m:=c7) (xs:=ks) W .(b) (fC (bq (aG (aB (y:=(XV (.str "ab") (.int (i:ah))).getD .non) (z:=.str nm) W ?_ ?_) (bq (cQ (k:=12+(i:ah)) (m:=Yk c (1+(i:ah)) 9+1) W W W .(b) .(b) .(b) λf0 f1=>bq (bu W (bq (bu W (bq (bu W (cy #[by simp,#[nm,Yk c (12+(i:ah)) (Yk c (1+(i:ah)) 9+1),Yk c (1+(i:ah)) 9,tk,pt],W,W,by ext,_,_,_,_,_,W,?_,λk hk=>?_])))))))))))
  .rcases(show i=0\/i=1 by ext) with rfl|rfl<;>rfl
  .rw[<-e2];rcases(show i=0\/i=1 by ext) with rfl|rfl<;>rfl
  .rw[dN,hn,i8,e1];rfl
  .rcases c8.mp hk with hk|hk
   .exact hg k hk
   .rw[bL.mp hk];show#[F2.1 nm (qR e1),#[f0,Int.le_of_lt_add_one f1],#[r0,by show Yk c (1+(i:ah)) 9<=_;ext],gt,gp]
 .rintro Y ⟨_,ks,a,b,x,y,rfl,hn,hg⟩;show#[W,lg (ds:=ks.map c7) W (fV (bu W #[_,W,ks,W,?_,?_,hg]))]
  .let:=bM cC hn;rw[qf,qF] at this;ext
  .rw[hn];show pi (lK _ _) F2.2
def jN3:Z aj:=["ja","jb","jc"]
def Dy:(∀x∈jN3,bz x=ai)/\jN3.Nodup:=by decide +kernel
def MB:∀{k:ag},k<3->∃x:aj,jN3[k]?=U x/\(XV (.str "abc") (.int (k:ah))).bind (λy=>aX (.str "j") y)=U (.str x)
 |0,_=>#["ja",W,W]
 |1,_=>#["jb",W,W]
 |2,_=>#["jc",W,W]
 |n+3,h=>by ext
def grp(cs:Z ah)(j:ag):ah:=Yk (cs.getD (j%cs.length) 0) 12 4
def mem(cs:Z ah)(ss:Z XM)(k n s:ag):Z aj:=((Aw s n).filter λj=>decide (grp cs j=k)).map (ģ ss)
def PV(h:j<ss.length){g:FE}(hf:f Y=U (.lst (ss.map bC)))(hg:g Y=U (.int (j:ah))):b2 XV (b2 XV f g) .(f) Y=U (.str (ģ ss j)):=by let⟨_,e,rfl⟩:=zp hf (aG hg #[j,rfl,by ext,by ext,by rw[e6]]);show e
def QO(hc:0<cs.length)(j:ag){g:FE}(hf:f Y=U (.lst (cs.map D.int)))(hg:g Y=U (.int (j:ah))):b2 XV f (b2 eQ g (cF cb (J f aq))) Y=U (.int (cs.getD (j%cs.length) 0)):=by
 let hj:j%cs.length<cs.length:=vz _ hc;show aB (y:=.int ((j%cs.length:ag):ah)) hf (aB (y:=.int cs.length) hg (aU (ax hf aF) ?_) ?_) ?_
 .show U (D.int (cs.map D.int).length)=_;rw[qf]
 .show(if (0:ah)<cs.length then U (D.int ((j:ah)%cs.length)) else B)=_;rw[qY .(b)];rfl
 .rw[π,ql,kJ,qE hj];rfl
def rh{x:D}{xs:Z D}{a:au Slot}{b:aJ}(ht:ft (oS x::r)=U b):b9 (aA 0) ft fe (x::xs) (a::r)=if b=ai then (fe (oS x::r)).bind λd=>(b9 (aA 0) ft fe xs (oS x::r)).map (d::·) else b9 (aA 0) ft fe xs (oS x::r):=by show((ft (oS x::r)).bind λt=>if t=ai then (fe (oS x::r)).bind λd=>(b9 (aA 0) ft fe xs (oS x::r)).map (d::·) else b9 (aA 0) ft fe xs (oS x::r))=_;rw[ht,qb]
def AW{cs:Z ah}{ss:Z XM}{k:ag}(hc:0<cs.length):∀(n s:ag)(a:au Slot),s+n<=ss.length->b9 (aA 0) (XX (b2 Ŏ (cF bO (J (b2 XV (C 3) (b2 eQ (C 0) (cF cb (J (C 3) aq)))) (J (vC (.int 12)) (J (vC (.int 4)) aq)))) (C 2))) (b2 XV (b2 XV (C 1) (C 0)) .(f)) ((Aw s n).map λi:ag=>D.int (0+(i:ah))) [a,oS (.lst (ss.map bC)),oS (.int k),oS (.lst (cs.map D.int))]=U ((mem cs ss k n s).map D.str)
 |0,_,_,_=>rfl
 |n+1,s,a,h=>by
  let⟨e,_⟩:=fg (cs.getD (s%cs.length) 0) (k:=12) (m:=4) .(c) .(c) .(c);let ih:=AW (k:=k) hc n (s+1) (oS (.int (0+(s:ah)))) (ss:=ss) .(b);let t:XX (b2 Ŏ (cF bO (J (b2 XV (C 3) (b2 eQ (C 0) (cF cb (J (C 3) aq)))) (J (vC (.int 12)) (J (vC (.int 4)) aq)))) (C 2)) [oS (.int (0+(s:ah))),oS (.lst (ss.map bC)),oS (.int k),oS (.lst (cs.map D.int))]=U (decide (grp cs s=k)):=
   bD (aB (aU (ax (QO hc s W (by rw[As];rfl)) .(k)) e) W W)
  let v:b2 XV (b2 XV (C 1) (C 0)) .(f) [oS (.int (0+(s:ah))),oS (.lst (ss.map bC)),oS (.int k),oS (.lst (cs.map D.int))]=U (.str (ģ ss s)):=PV .(b) W (by rw[As];rfl);rw[HB,qo,rh t,v,ih];unfold mem;rw[HB,sL];cases decide (grp cs s=k)<;>rfl
def AI(cs:Z ah)(ss:Z XM)(k:ag):(mem cs ss k ss.length 0).Sublist (ss.map (·.nm)):=by
 let e:ss.map (·.nm)=(Aw 0 ss.length).map (ģ ss):=by show WG (by simp) λi h1 h2=>?_;unfold ģ;simp at h1;simp[h1]
 rw[e];show List.filter_sublist.map _
def AC{k:ag}(h:x∈mem cs ss k ss.length 0):∃j,j<ss.length/\x=ģ ss j/\grp cs j=k:=by let⟨j,hj,rfl⟩:=bo.mp h;let⟨h1,h2⟩:=rM.mp hj;let:=List.mem_range'_1.mp h1;show#[j,by ext,W,eq h2]
structure StJ(cs:Z ah)(ss:Z XM)(h:ah)(i:ag)(js:Z X4):Prop where
 nm:(js.map (·.nm)).Sublist (jN3.take i)
 nd:(js.flatMap (·.ms)).Nodup
 ms:∀x∈js.flatMap (·.ms),∃j,j<ss.length/\x=ģ ss j/\grp cs j<i
 gd:∀j∈js,Ü (ss.map (·.nm)) h j
 ln:js.length<=i
def R'(nd:(ss.map (·.nm)).Nodup){a b:ag}(ha:a<ss.length)(M:b<ss.length)(h:ģ ss a=ģ ss b):a=b:=by unfold ģ at h;rw[kJ,kJ,qE (by simpa using ha),qE (by simpa using M)] at h;show(Go nd).mp h
def StJ.add(st:StJ cs ss h i js)(nd:(ss.map (·.nm)).Nodup){j:X4}(hn:jN3[i]?=U j.nm)(pm:j.ms.Perm (mem cs ss i ss.length 0))(he:0<=j.ea/\j.ea<=h)(hd:0<=j.du/\j.du<=h)(h1:j.ms≠[]):StJ cs ss h (i+1) (js++[j]):=by
 let sb:=AI cs ss i;show#[?_,?_,λx hx=>?_,λy hy=>?_,by let:=st.ln;rw[qj];show Nat.succ_le_succ this]
 .rw[dN,i8,hn];show st.nm.append (WQ _)
 .rw[Hz];show nE.mpr #[st.nd,?_,λx hx y hy e=>?_]
  .simp only[sO,HD,jG];show pm.nodup_iff.mpr (sb.nodup nd)
  .obtain⟨a,ha,e1,g1⟩:=st.ms x hx;simp only[sO,HD,jG] at hy;let⟨b,M,e2,g2⟩:=AC (pm.subset hy);let:=R' nd ha M (by rw[<-e1,<-e2,e]);subst this;ext
 .rw[Hz] at hx;rcases c8.mp hx with hx|hx
  .obtain⟨a,ha,e1,g1⟩:=st.ms x hx;show#[a,ha,e1,by ext]
  .simp only[sO,HD,jG] at hx;let⟨b,M,e2,g2⟩:=AC (pm.subset hx);show#[b,M,e2,by ext]
 .rcases c8.mp hy with hy|hy
  .exact st.gd y hy
  .rw[bL.mp hy];show#[Dy.1 _ (qR hn),he,hd,Ar.mpr h1,by rw[pm.length_eq];show sb.length_le,λm hm=>sb.subset (pm.subset hm)]
def StJ.skip(st:StJ cs ss h i js):StJ cs ss h (i+1) js:=
 #[st.nm.trans (List.take_sublist_take_left .(b)),st.nd,λx hx=>by let⟨a,ha,e1,g1⟩:=st.ms x hx;show#[a,ha,e1,by ext],st.gd,by let:=st.ln;ext]
abbrev jbE(c:ah)(cs:Z ah)(ss:Z XM)(h:ah)(js:Z X4)(a b x y:au Slot):bG:=[oS (.int c),oS (.lst (cs.map D.int)),oS (.lst (ss.map bC)),oS (.int h),U (.own (js.map bx)),a,b,x,y]
def N0(c:ah)(hc:0<cs.length)(hh:1<=h/\h<=1000000)(hs:ss.length<=40)(nd:(ss.map (·.nm)).Nodup)(nb:∀x∈ss.map (·.nm),bz x=ai):Wp (uj [.int c,.lst (cs.map D.int),.lst (ss.map bC),.int h]) λd=>∃js:Z X4,d=.lst (js.map bx)/\js.length<=3/\(js.map (·.nm)).Nodup/\(js.flatMap (·.ms)).Nodup/\∀j∈js,Ü (ss.map (·.nm)) h j:=by
 show gf (my (dO (il (λi Y=>∃(js:Z X4)(a b x y:au Slot),Y=jbE c cs ss h js a b x y/\StJ cs ss h i js) (kU (bq (Y6 (cy #[3,W,by decide,by decide,#[[],B,B,B,B,W,List.nil_sublist _,lN,(λ_ z=>nomatch z),(λ_ z=>nomatch z),qw _],?_,?_])))))))
 .rintro i x Y hx ⟨js,a,b,x',y,rfl,st⟩;let⟨hi,rfl⟩:=lr hx;let⟨nm,e1,e2⟩:=MB hi;show aG W (bB (aG (a:=.lst ((mem cs ss i ss.length 0).map D.str)) ?_ ?_))
  .unfold aR aW;rw[uT (ax (aU (ax W aF) (by show U (D.int (ss.map bC).length)=_;rw[qf])) aF) (ue #[by ext,by ext]),qb,qY (by rw[qf,qW];unfold aK;ext),e6,WP];show bM (ny D.lst) (AW hc ss.length 0 B .(b))
  show AQ (λY=>∃ms:Z aj,Y=jbE c cs ss h js (oS (.int i)) (oS (.lst (ms.map D.str))) x' y/\ms.Perm (mem cs ss i ss.length 0)) ?_ (eS (jk (Yf (cQ W W W .(b) .(b) .(c) λ_ _=>Y6 (tJ λb _=>#[b,W,λ_=>?_,λ_=>?_])))))
  rotate_left
  .exact jq (w_1 (bu W (aG (by rw[WR];rfl) (.inl #[W,_,W,List.reverse_perm _]))))
  .exact gF (.inl #[W,_,W,Wz _])
  .rintro _ ⟨ms,rfl,pm⟩;let mb:∀x∈ms,bz x=ai:=λx hx=>nb x ((AI cs ss i).subset (pm.subset hx));show bB (zc W (aB W (aB W W ig) W) (aB W W W) .(b) .(b) .(b) λea ea0 ea1=>?_);let Yy:∀du:ah,0<=du->du<=h->Wp ((YJ (XX (b2 Ļ (C 6) (aR (X5 aq)))) (fL 4 (ba (X5 (J (b2 aX (vC (.str "j")) (b2 XV (vC (.str "abc")) (C 5))) (J (C 7) (J (C 8) (J (b2 â (cF bO (J (C 0) (J (b2 aX (vC (.int 44)) (C 5)) (J (vC (.int 2)) aq)))) .(f)) (J (C 6) aq)))))))) aZ) (jbE c cs ss h js (oS (.int i)) (oS (.lst (ms.map D.str))) (oS (.int ea)) (oS (.int du)))) λr=>r.1=.nx/\∃(js:Z X4)(a b x y:au Slot),r.2=jbE c cs ss h js a b x y/\StJ cs ss h (i+1) js:=by
    intro du d0 d1;show eS (jk (Yf (bu W (aG W (aG (Tc mb) #[_,W,λhm=>?_,λ_=>gF #[W,js,_,_,_,_,W,st.skip]])))));let hm:ms≠[]:=by intro z;rw[z] at hm;simp at hm
    let jl:=st.ln;show uU W .(b) (fC (bq (aG (aB (y:=(XV (.str "abc") (.int (i:ah))).getD .non) (z:=.str nm) W ?_ ?_) (bq (bu W (bq (bu W (bq (Yf (cQ W W W .(b) .(b) .(c) λ_ _=>Y6 (tJ λod _=>bq (bu W (cy #[by simp,#[nm,ea,du,od,ms],W,W,_,_,_,_,_,W,st.add nd e1 pm #[ea0,by show ea<=h;ext] #[d0,d1] hm])))))))))))))
    .rcases(show i=0\/i=1\/i=2 by ext) with rfl|rfl|rfl<;>rfl
    .rw[<-e2];rcases(show i=0\/i=1\/i=2 by ext) with rfl|rfl|rfl<;>rfl
   show bB (Yf (Ek (bq (bu W (bq (cQ (k:=37+(i:ah)) (m:=h+1) W W W .(b) .(b) .(b) λd0 d1=>cy #[by simp,?_]))))));show Yf (cQ (k:=40+(i:ah)) (m:=3) W W W .(b) .(b) .(c) λq0 q1=>Y6 (Ed .(c) (tY .(b) (by simp;ext) (Cw (Yy h .(b) (kK _)) (Yy _ d0 .(b))))))
 .rintro Y ⟨js,a,b,x,y,rfl,st⟩;show#[W,lg (ds:=js.map bx) W (fV (bu W #[_,W,js,W,st.ln,pi (st.nm.trans (lK _ _)) Dy.2,st.nd,st.gd]))]
noncomputable def bN8:Z aj:=["bea","beb","bec","bed","bee","bef","beg","beh"]
def Dn:(∀x∈bN8,bz x=ai)/\bN8.Nodup:=by decide +kernel
def JY:∀{k:ag},k<8->∃x:aj,bN8[k]?=U x/\∃y,XV (.str "abcdefgh") (.int (k:ah))=U y/\aX (.str "be") y=U (.str x)
 |0,_=>#[_,W,_,W,W]
 |1,_=>#[_,W,_,W,W]
 |2,_=>#[_,W,_,W,W]
 |3,_=>#[_,W,_,W,W]
 |4,_=>#[_,W,_,W,W]
 |5,_=>#[_,W,_,W,W]
 |6,_=>#[_,W,_,W,W]
 |7,_=>#[_,W,_,W,W]
 |n+8,h=>by ext
def E9(ns:Z ah):(dw ns (U 4) (U 7)).length=min (ns.length-4) 3:=by show(sC (min 7 ns.length-min 4 ns.length) (List.drop (min 4 ns.length) ns)).length=_;rw[qF,iz];ext
abbrev liE(ns:Z ah)(h c:ah)(cs:Z ah)(m:ag)(b:au Slot)(r:bG):bG:=oS (.scr ns)::oS (.int 3)::oS (.int h)::oS (.int c)::oS (.lst (cs.map D.int))::oS (.int m)::b::r
def Ma{ns:Z aj}{nm:α->aj}{xs:Z α}(hl:xs.length=ns.length)(h:∀(i:ag)x,xs[i]?=U x->ns[i]?=U (nm x)):xs.map nm=ns:=by
 show Vx λi=>?_;rw[ql];cases e:xs[i]? with
 |none=>
  let:=List.getElem?_eq_none_iff.mp e;rw[vO .(b)];rfl
 |some x=>rw[h i x e];rfl
def Ik(ns:Z ah)(hns:ns.length<=63)(hh:1<=h/\h<=1000000):Wp (uy [.scr ns,.int 3,.int h]) λd=>∃(bs:Z XQ)(ss:Z XM)(js:Z X4)(E:Z YZ)(ls:Z YA)(ks:Z YD),d=mW bs ss js E ls ks h/\X3 bs ss js E ls ks h/\ss.length<=3/\js.length<=3:=by
 unfold uy;show gf (bB (nK (k:=0) W λc=>?_));show bB (Yf (aG (rF (z:=.lst ((dw ns (U 4) (U 7)).map D.int)) W W W W) (Ek (bq (nK (k:=3) W λc3=>cy #[by simp,aG (B6 (y:=[c3]) (by rw[E9];simp;ext)) ?_])))));obtain⟨cs,hcs⟩:∃cs,cs=dw ns (U 4) (U 7)++[c3]:=#[_,rfl];let csl:cs.length=min (ns.length-4) 3+1:=by rw[hcs,qj,E9];rfl
 rw[<-hcs];clear hcs;obtain⟨m,hm⟩:∃m:ag,m=min (max 1 (ns.length-4)) 3:=#[_,rfl];show bB (aG (a:=.int m) (aU (ax (aU (z:=.int (max 1 (ns.length-4):ag)) (ax W (ax (aB (aU W W) W W) aF)) ?_) (ax W aF)) ?_) ?_)
 .show U (D.int (if (ns.length:ah)-4 > 1 then (ns.length:ah)-4 else 1))=_
  congr 2
  split<;>ext
 .show U (D.int (if (3:ah)<(max 1 (ns.length-4):ag) then 3 else (max 1 (ns.length-4):ag)))=_
  congr 2
  split<;>ext
 let m12:1<=m/\m<=3:=by ext
 let mc:m<=cs.length:=by ext
 clear hm;let e2:=fg c (k:=0) (m:=2) .(c) .(c) .(c);let e3:=fg c (k:=0) (m:=3) .(c) .(c) .(c);let e8:=fg c (k:=0) (m:=8) .(c) .(c) .(c);let many:Wp (b2 aX .(e) (cF bO (J (C 3) (J .(f) (J (b2 XV (aR (X5 (J (vC (.int 2)) (J (vC (.int 3)) (J (vC (.int 8)) aq))))) (cF bO (J (C 3) (J .(e) (J (vC (.int 3)) aq))))) aq)))) (liE ns h c cs m (U (.own [])) [B,B,B,B,B,B])) λd=>∃n:ag,d=.int n/\1<=n/\n<=8:=by
  show Yf (Y6 (gO (bq (bu W (bq (Y6 (bq (Yf (aG (a:=.lst [.int 2,.int 3,.int 8]) W (cQ (k:=1) (m:=3) W W W .(c) .(c) .(c) λq0 q1=>tY q0 q1 (Mo ?_ ?_ ?_)))))))))))
  .exact cy (aG e2.1 (gz #[(1+Yk c 0 2).toNat,by congr 1;ext,by ext,by ext]))
  .exact cy (aG e3.1 (gz #[(1+Yk c 0 3).toNat,by congr 1;ext,by ext,by ext]))
  .exact cy (aG e8.1 (gz #[(1+Yk c 0 8).toNat,by congr 1;ext,by ext,by ext]))
 let⟨_,enb,nb,rfl,n1,n8⟩:=many;show my (dO (il (λi Y=>i<=8/\∃(bs:Z XQ)(k:au Slot),Y=liE ns h c cs m (U (.own (bs.map bY))) [k,B,B,B,B,B]/\bs.map (·.nm)=bN8.take i/\∀b∈bs,ĝ h b) (kU (bq (aG enb (cy #[nb,W,by ext,by ext,#[by decide,[],B,W,W,λ_ z=>nomatch z],?_,?_]))))))
 .rintro i x Y hx ⟨_,bs,k,rfl,hn,hg⟩;let⟨hi,rfl⟩:=lr hx;let hi:i<8:=by ext
  let bl:bs.length=i:=by let:=bM cC hn;rw[qf,qF] at this;let:bN8.length=8:=rfl;ext
  let⟨nm,e1,y,e2,e3⟩:=JY hi;show aG W (uU (m:=bY) (xs:=bs) W .(b) (fC (bq (aG (aB W (aB W W e2) e3) (bq (gO (bq (Yf (nK (k:=1) W λc1=>aG (aB W W ig) (gz (bq (Y6 (bq (bu W (cy ((Rm (c1+2*(i:ah)) (h:=h) .(b)).imp λd #[br,e,bl2,f,gi]=>?_))))))))))))))));subst e;show cy #[by simp,#[nm,br],W,W,by ext,_,_,W,?_,λb M=>?_]
  .rw[dN,hn,i8,e1];rfl
  .rcases c8.mp M with M|M
   .exact hg b M
   .rw[bL.mp M];show#[Dn.1 nm (qR e1),by show br.length<=10;ext,λp hp=>by let:=gi.iv p hp;show#[this.1,this.2.1,this.2.2.1],gi.gap]
 .rintro Y ⟨_,bs,k,rfl,hn,hg⟩;rw[qf,qW,e6] at hn;let bl:bs.length=nb:=by let:=bM cC hn;rw[qf,qF] at this;let:bN8.length=8:=rfl;ext
  let bdn:(bs.map (·.nm)).Nodup:=by rw[hn];show pi (lK _ _) Dn.2
  clear hn;show#[W,bB (gO (bq (nK (k:=2) W λc2=>bq (bu W (cy ((KP c2 (qO m12.2 .(c))).imp λd #[sn,e,sl,snd,snb]=>?_)))))) ];subst e;show lg (ds:=bs.map bY) W ?_;show bB (Ft (m:=bC) (n:=m) (λi s=>sn[i]?=U s.nm/\Û (bs.map (·.nm)) h s) #[_,ax W aF,W] .(b) W (λi hi=>?_) λss ssl ssq=>?_)
  .let e1:b2 XV (C 3) (C 0) [oS (.int (i:ah)),oS (.lst (bs.map bY)),oS (.int h),oS (.lst (cs.map D.int)),oS (.lst (sn.map D.str))]=U (.int (cs[i]'.(b))):=aB W W (by rw[π,ql,qE .(b)];rfl);let e2:b2 XV (C 4) (C 0) [oS (.int (i:ah)),oS (.lst (bs.map bY)),oS (.int h),oS (.lst (cs.map D.int)),oS (.lst (sn.map D.str))]=U (.str (sn[i]'.(b))):=aB W W (by rw[π,ql,qE .(b)];rfl);show gO (bq (aG e1 (bq (aG e2 (bq (bu W (bq (bu W (cy ((No _ (snb _ (lP _)) .(b) bdn hh.1).imp λd #[s,e,en,gs]=>#[s,e,by rw[en,qE .(b)],gs]))))))))))
  let hsn:ss.map (·.nm)=sn:=Ma .(b) λi x hx=>(ssq i x hx).1;let gss:∀s∈ss,Û (bs.map (·.nm)) h s:=λs hs=>by let⟨i,hi⟩:=Hy hs;show(ssq i s hi).2
  let sdn:(ss.map (·.nm)).Nodup:=by rw[hsn];show snd
  let snb':∀x∈ss.map (·.nm),bz x=ai:=by rw[hsn];show snb
  show bB (gO (bq (bu W (bq (Y6 (bq (bu W (cy ((P4 c (ss:=ss) .(b)).imp λd #[es,e,el,end',eg]=>?_)))))))));subst e;show bB (gO (bq (nK (k:=3) W λc3=>bq (bu W (bq (bu W (cy ((Um c3 (bs:=bs) hh.1 .(b)).imp λd #[eu,e,ul,und,ug]=>?_))))))));subst e;show bB (aG (Fh (es:=es) (λn=>if h<n then h else n) W .(b) (λe he=>?_) W λe he=>?_) ?_)
  .obtain⟨⟨a,b,e0,_⟩,_⟩:=eg e he;rw[e0];show#[by simp,by simp]
  .refine aU (ax (aB (z:=.int e.2) W W ?_) (ax W aF)) W;show((ff (e.1.map D.str)).map (bw (Zu es))).bind id=_;rw[oG,qe,Ea end' he];rfl
  obtain⟨ls,els⟩:∃ls:Z YA,ls=es.map λe=>#[e.1.getD 0 "",e.1.getD 1 "",if h<e.2 then h else e.2]:=#[_,W];obtain⟨E,eus⟩:∃E:Z YZ,E=eu.map λe=>#[e.1.getD 0 "",e.1.getD 1 "",e.1.getD 2 "",e.2]:=#[_,W];let l1:(es.map λe=>D.tup (e.1.map D.str++[.int (if h<e.2 then h else e.2)]))=ls.map df:=by rw[els,qp];show iC λe he=>?_;let⟨⟨a,b,e0,_⟩,_⟩:=eg e he;rw[e0];show _=df #[e.1.getD 0 "",e.1.getD 1 "",_];rw[e0];rfl
  let u1:(eu.map λe=>D.tup (e.1.map D.str++[.int e.2]))=E.map dv:=by rw[eus,qp];show iC λe he=>?_;let⟨⟨a,b,q,e0,_⟩,_⟩:=ug e he;rw[e0];show _=dv #[e.1.getD 0 "",e.1.getD 1 "",e.1.getD 2 "",_];rw[e0];rfl
  let l2:(ls.map λl=>[l.a,l.b])=es.map (·.1):=by rw[els,qp];show iC λe he=>?_;let⟨⟨a,b,e0,_⟩,_⟩:=eg e he;show[e.1.getD 0 "",e.1.getD 1 ""]=e.1;rw[e0];rfl
  let u2:(E.map λu=>[u.b,u.p,u.q])=eu.map (·.1):=by rw[eus,qp];show iC λe he=>?_;let⟨⟨a,b,q,e0,_⟩,_⟩:=ug e he;show[e.1.getD 0 "",e.1.getD 1 "",e.1.getD 2 ""]=e.1;rw[e0];rfl
  let l3:∀l∈ls,Ņ (ss.map (·.nm)) h l:=λl hl=>by rw[els] at hl;let⟨e,he,rfl⟩:=bo.mp hl;let⟨⟨a,b,e0,h1,h2,h3⟩,h4,h5⟩:=eg e he;rw[e0];show#[h1,h2,h3,?_];show 0<=(if h<e.2 then h else e.2)/\(if h<e.2 then h else e.2)<=h;split<;>ext
  let u3:∀u∈E,ń (bs.map (·.nm)) h u:=λu hu=>by rw[eus] at hu;let⟨e,he,rfl⟩:=bo.mp hu;let⟨⟨a,b,q,e0,h1,h2,h3⟩,h4⟩:=ug e he;rw[e0];show#[h1,h2,h3,h4]
  let l4:ls.length<=5:=by rw[els,qf];show el
  let u4:E.length<=11:=by rw[eus,qf];show ul
  rw[l1,u1];rw[<-l2] at end';rw[<-u2] at und;clear l1 u1 els eus l2 u2 eg ug;let gok:∀js ks,js.length<=3->(js.map (·.nm)).Nodup->(js.flatMap (·.ms)).Nodup->(∀j∈js,Ü (ss.map (·.nm)) h j)->ks.length<=2->(ks.map (·.nm)).Nodup->(∀k∈ks,Zm (ss.map (·.nm)) k)->X3 bs ss js E ls ks h:=λjs ks h1 h2 h3 h4 h5 h6 h7=>
   #[hh,by ext,hg,bdn,by ext,gss,sdn,by ext,h4,h2,h3,by ext,u3,und,by ext,l3,end',by ext,h7,h6]
  let Yy:∀ks:Z YD,ks.length<=2->(ks.map (·.nm)).Nodup->(∀k∈ks,Zm (ss.map (·.nm)) k)->Wp ((aE (ba (X5 (J (C 6) (J (C 9) (J (cF uj (J (C 3) (J (C 4) (J (C 9) (J (C 2) aq))))) (J (C 11) (J (C 10) (J (C 12) (J (C 2) aq)))))))))) (liE ns h c cs m (oS (.lst (bs.map bY))) [k,oS (.lst (sn.map D.str)),oS (.lst (ss.map bC)),oS (.lst (ls.map df)),oS (.lst (E.map dv)),oS (.lst (ks.map c7))])) λr=>∃d,r.1=.rt d/\∃(bs:Z XQ)(ss:Z XM)(js:Z X4)(E:Z YZ)(ls:Z YA)(ks:Z YD),d=mW bs ss js E ls ks h/\X3 bs ss js E ls ks h/\ss.length<=3/\js.length<=3:=by intro ks k1 k2 k3;show fV (fC (bq (bu W (bq (bu W (bq (gO (bq (bu W (bq (bu W (bq (bu W (bq (bu W (cy ((N0 c (cs:=cs) (ss:=ss) .(b) hh .(b) sdn snb').imp λd #[js,e,j1,j2,j3,j4]=>?_)))))))))))))))));subst e;show bq (bu W (bq (bu W (bq (bu W (bq (bu W (cy #[by simp,_,W,bs,ss,js,E,ls,ks,W,gok js ks j1 j2 j3 j4 k1 k2 k3,by ext,j1]))))))))
  show bB (aG (a:=.lst (([]:Z YD).map c7)) W (dO (eS (jk (Yf (cQ (k:=70) (m:=3) W W W .(c) .(c) .(c) λ_ _=>Y6 (tJ λb _=>#[b,W,λ_=>?_,λ_=>gF #[W,Yy [] (by simp) lN λ_ z=>nomatch z]])))))));show jq (gO (bq (nK (k:=1) W λc1=>bq (bu W (cy ((OT c1 (ss:=ss) .(b) sdn).imp λd #[ks,e,k1,k2,k3]=>?_))))));subst e;show#[W,Yy ks k1 k2 k3]
section
variable{f:α->D}{l:Z (aj×α)}{k j:aj}{v:α}
noncomputable def tb(f:α->D)(l:Z (aj×α)):Z (XR×D):=l.map λq=>(.inr q.1,f q.2)
noncomputable def lk(l:Z (aj×α))(k:aj):au α:=(l.find? λq=>decide (q.1=k)).map (·.2)
noncomputable def pt(l:Z (aj×α))(k:aj)(v:α):Z (aj×α):=if (l.any λq=>decide (q.1=k))=ai then l.map (λq=>if q.1=k then (q.1,v) else q) else l++[(k,v)]
def CY(a b:aj):decide ((bZ a:XR)=bZ b)=decide (a=b):=by
 by_cases h:a=b
 .rw[h];simp
 .rw[qP h,qP λz=>h (i6 z)]
def tP(f:α->D)(k:aj):∀l:Z (aj×α),bw (tb f l) (.inr k)=(lk l k).map f:=by
 intro X7
 induction X7 with
 |nil=>
  show W
 |cons x0 l ih=>
  let⟨a,v⟩:=x0;unfold bw lk at ih ⊢;unfold tb at ih ⊢;rw[qo,eY,eY,CY];by_cases h:a=k
  .rw[qU h];rfl
  .rw[qP h];show ih
def kW(a:aj)(v:α)(l:Z (aj×α))(k:aj):lk ((a,v)::l) k=if a=k then U v else lk l k:=by
 unfold lk;rw[eY];by_cases h:a=k
 .rw[qU h,qY h];rfl
 .rw[qP h,qZ h]
def n5:∀{l:Z (aj×α)},lk l k=B↔k∉l.map (·.1):=by
 intro X7
 induction X7 with
 |nil=>
  simp[lk]
 |cons x0 l ih=>
  let⟨a,v⟩:=x0;rw[kW,qo,qN];by_cases h:a=k
  .subst h;simp
  .rw[qZ h,ih];constructor
   .rintro q (z|z)
    .exact h z.symm
    .exact q z
   .exact λq z=>q (.inr z)
def kR:∀{l:Z (aj×α)},lk l k=U v->(k,v)∈l:=by
 intro X7
 induction X7 with
 |nil=>
  intro h;cases h
 |cons x0 l ih=>
  let⟨a,w⟩:=x0;intro h;rw[kW] at h;split at h
  .rename_i e;cases h;subst e;show .head _
  .exact .tail _ (ih h)
def pK:∀{l:Z (aj×α)},(l.map (·.1)).Nodup->(k,v)∈l->lk l k=U v
 |(a,w)::l,nd,h=>by
  rw[qo,dD] at nd;rw[kW];rcases cg.mp h with e|h
  .cases e;show qY W
  .rw[qZ λz=>nd.1 (bo.mpr #[_,h,z.symm])];show pK nd.2 h
def Kg(l m:Z (aj×α))(k:aj):lk (l++m) k=(lk l k).or (lk m k):=by unfold lk;rw[WN];cases l.find? λq=>decide (q.1=k)<;>rfl
def uL:(l.any λq=>decide (q.1=k))=ai↔k∈l.map (·.1):=by
 rw[o6,bo];constructor
 .rintro⟨q,h1,h2⟩;show#[q,h1,eq h2]
 .rintro⟨q,h1,h2⟩;show#[q,h1,qU h2]
def R7(k:aj)(v:α)(j:aj):∀l:Z (aj×α),lk (l.map λq=>if q.1=k then (q.1,v) else q) j=if j=k then (lk l j).map λ_=>v else lk l j:=by
 intro X7
 induction X7 with
 |nil=>
  simp[lk]
 |cons x0 l ih=>
  let⟨a,w⟩:=x0;rw[qo];by_cases h:a=k
  .rw[qY h,kW,kW,ih];by_cases h2:a=j
   .rw[qY h2,qY h2,qY (h2.symm.trans h)];rfl
   .rw[qZ h2,qZ h2]
  .rw[qZ h,kW,kW,ih];by_cases h2:a=j
   .rw[qY h2,qY h2,qZ λz=>h (h2.trans z)]
   .rw[qZ h2,qZ h2]
def Bg:lk (pt l k v) j=if j=k then U v else lk l j:=by
 unfold pt;split
 .rename_i h;rw[R7];by_cases e:j=k
  .subst e;rw[qY W,qY W];cases q:lk l j with
   |none=>show bj (uL.mp h) (n5.mp q)
   |some w=>rfl
  .rw[qZ e,qZ e]
 .rename_i h;rw[Kg,kW];by_cases e:j=k
  .subst e;rw[qY W,qY W,n5.mpr λz=>h (uL.mpr z)];rfl
  .rw[qZ e,qZ (cL e)];cases lk l j<;>rfl
def CC(f:α->D)(l:Z (aj×α))(k:aj)(v:α):ce (tb f l) (.inr k) (f v)=tb f (pt l k v):=by
 let e:((tb f l).any λkv=>decide (kv.1=.inr k))=l.any λq=>decide (q.1=k):=by
  unfold tb;rw[WS]
  congr 1
  funext q
  show CY _ _
 unfold ce pt;rw[e];split
 .unfold tb;rw[qp,qp];show iC λq _=>?_;show(if (bZ q.1:XR)=.inr k then _ else _)=((.inr (if q.1=k then (q.1,v) else q).1:XR),f (if q.1=k then (q.1,v) else q).2);by_cases h:q.1=k
  .rw[qY h,qY (bM bZ h)]
  .rw[qZ h,qZ λz=>h (i6 z)]
 .unfold tb;rw[dN];rfl
end
def xX{XJ:Z (XR×D)}{k:aj}{fv:FE}(hs:Y[i]?=U (U (.odk XJ)))(hl:XJ.length<100000)(hk:fk Y=U (.str k))(hv:fv Y=U d)(p:R (.nx,Y.set i (U (.odk (ce XJ (.inr k) d))))):Wp (fE i fk fv Y) R:=by unfold fE;rw[hv,qb,hk,qb,hs];show Wp (if XJ.length<100000 then _ else _) R;rw[qY hl];show#[_,W,p]
def S1{m:α->D}{xs:Z α}{n:ah}(h0:0<=n)(h1:n<xs.length):∃x∈xs,XV (.lst (xs.map m)) (.int n)=U (m x):=by
 let⟨k,rfl⟩:=pj h0;let hk:k<xs.length:=by ext
 show#[xs[k],lP hk,?_];rw[π,ql,qE hk];rfl
noncomputable abbrev Zl(q:aj×ah):D:=.tup [.str q.1,.int q.2]
abbrev b8:=Z (aj×aj×ah)
structure Ú(P:b8):Prop where
 nd:(P.map (·.1)).Nodup
 nb:∀q∈P,bz q.1=ai/\bz q.2.1=ai
def Jt{g:FG}(h1:f Y=U d)(h2:g d Y=U Y'):u6 g f Y=U (.nx,Y'):=by unfold u6;rw[h1,qb,h2];rfl
def N3{m:α->D}{xs:Z α}(h1:1<=xs.length):∃x∈xs,XV (.lst (xs.map m)) (.int (-1))=U (m x):=by
 let hk:xs.length-1<xs.length:=by ext
 show#[xs[xs.length-1],lP hk,?_];show atI (xs.map m) (-1)=_;unfold atI ż;rw[qZ .(c),qf,qY .(b),qb,show(-1+(xs.length:ah)).toNat=xs.length-1 by ext,ql,qE hk];rfl
def Fe(m:α->D)(xs:Z α):cb [.lst (xs.map m)]=U (.int xs.length):=by show U (D.int ((xs.map m).length:ag))=_;rw[qf]
def FC(f:α->D)(P:Z (aj×α)):(tb f P).length=P.length:=qf ..
def Tl(Rt:D->Prop)(ao:bG->Prop)(r:Fl×bG):Prop:=(r.1=.nx/\ao r.2)\/∃d,r.1=.rt d/\Rt d
def Rx(XI:Prop)(d:D):Prop:=(d=.non/\XI)\/∃l,d=.tup l
section
variable{xs:Z D}{ao K:bG->Prop}{b:aJ}
def eC(I:ag->bG->Prop)(hx:fi Y=U xs)(h0:I 0 Y)(hs:∀i x Y,xs[i]?=U x->I i Y->Wp (gg x Y) λY1=>Wp (body Y1) (Tl Rt (I (i+1)))):Wp (bN fi gg body Y) (Tl Rt (I xs.length)):=by
 let key:∀(ys:Z D)(k:ag)(Y:bG),xs.drop k=ys->k+ys.length=xs.length->I k Y->Wp (eU gg body ys Y) (Tl Rt (I xs.length)):=by
  intro ys
  induction ys with
  |nil=>exactλk Y _ e h=>#[_,W,.inl #[W,by rw[<-e];show h]]
  |cons x r ih=>
   intro k Y e el h;let ek:xs[k]?=U x:=by
    let:=bM List.head? e
    rwa [List.head?_drop] at this
   let⟨Y1,e1,⟨fl,Y2⟩,e2,h2⟩:=hs k x Y ek h;unfold eU;rw[e1,qb,e2,qb];rcases h2 with⟨z,h2⟩|⟨d,z,h2⟩
   .cases z;show ih (k+1) Y2 (by rw[<-List.tail_drop,e];rfl) (by rw[qi] at el;ext) h2
   .cases z;show#[_,W,.inr #[d,W,h2]]
 unfold bN;rw[hx];show key xs 0 Y W .(b) h0
def cP(h:Wp (g Y) (Tl Rt ao))(k:∀Y',ao Y'->Wp (g' Y') (Tl Rt K)):Wp (ay g g' Y) (Tl Rt K):=by
 let⟨⟨fl,Y'⟩,e,h⟩:=h;unfold ay;rw[e,qb];rcases h with⟨z,h⟩|⟨d,z,h⟩
 .cases z;show k _ h
 .cases z;show#[_,W,.inr #[d,W,h]]
def dS(h:ft Y=U b)(hf:b=ai->Wp (f Y) Rt)(hn:b=ar->ao Y):Wp (YJ ft (aE f) aZ Y) (Tl Rt ao):=by
 unfold YJ;rw[h,qb];cases b with
 |true=>let⟨d,e,q⟩:=hf rfl;show#[(.rt d,Y),by rw[qY W];show bP e,.inr #[d,W,q]]
 |false=>show#[(.nx,Y),by rw[qZ qt];rfl,.inl #[W,hn W]]
def gq(h:f Y=U d)(q:Rt d):Wp (aE f Y) (Tl Rt K):=#[_,bP h,.inr #[d,W,q]]
def db{l:Z D}(h:f Y=U (.lst l)):X6 f Y=U l:=by unfold X6;rw[h];rfl
def fW(h:Wp (g (ds.map (λd=>U (Slot.sh d))++bQ n B)) (Tl Rt λ_=>False)):∃d,aO n g ds=U d/\Rt d:=by
 let⟨⟨fl,Y'⟩,e,h⟩:=h;rcases h with⟨_,h⟩|⟨d,z,h⟩
 .exact h.elim
 .cases z;show#[d,zr e,h]
def rx2{XI:Prop}{x y:D}(h:fr Y=U [x,y]):Wp (ba (X5 fr) Y) (Rx XI):=fC (aG h #[(by decide:(2:ag)<=1000),.inr #[_,W]])
def rx3{XI:Prop}{x y:D}(h:fr Y=U [x,y,z]):Wp (ba (X5 fr) Y) (Rx XI):=fC (aG h #[(by decide:(3:ag)<=1000),.inr #[_,W]])
end
section
variable{bs:Z XQ}{P:b8}{p:aj×ah}
abbrev pD(P:b8):D:=.fdk (tb Zl P)
def tL(hp:lk P m=U p):aT (pD P) (.str m)=U (Zl p):=by show(U (bw (tb Zl P) (.inr m))).bind id=_;rw[tP,hp];rfl
def cZ(h1:fo Y=U (pD P))(h2:fk Y=U (.str m))(hp:lk P m=U p)(i:ag)(hd:[.str p.1,.int p.2][i]?=U d):b2 XV (b2 aT fo fk) (vC (.int i)) Y=U d:=aB (aB h1 h2 (tL hp)) W ((ē _ i).trans hd)
def yQ(h1:fk Y=U (.str m))(h2:fo Y=U (pD P)):XX (b2 mq fk fo) Y=U (lk P m).isNone:=bD (aB h1 h2 (by show(U (bw (tb Zl P) (.inr m))).map _=_;rw[tP];cases lk P m<;>rfl))
def Dt{ns:Z aj}(hx:bz x=ai)(hn:∀y∈ns,bz y=ai):jR (.str x) (.lst (ns.map D.str))=U (.bl (!decide (x∈ns))):=by
 let sh:fP (.str x)=ai:=by simp[fP,sM,tu hx,sN]
 simp only[jR,inX,Zh,uQ,qe,qb,sh,xT hn,v9,cx,F9]
def RH{bn:Z aj}(M:∀x∈bn,bz x=ai):∀(ws:Z aj)(a:au Slot),(∀x∈ws,bz x=ai)->b9 (aA 0) (XX (b2 jR (C 0) (C 1))) (C 0) (ws.map D.str) [a,oS (.lst (bn.map D.str))]=U ((ws.filter λx=>!decide (x∈bn)).map D.str):=by
 intro X7
 induction X7 with
 |nil=>
  intro _ _;show W
 |cons x r ih=>
  intro a hw;let ih:=ih (oS (.str x)) λy hy=>hw y (qh _ hy);let t:XX (b2 jR (C 0) (C 1)) [oS (.str x),oS (.lst (bn.map D.str))]=U (!decide (x∈bn)):=bD (aB W W (Dt (hw x qg) M));rw[qo,rh t,ih,sL];cases decide (x∈bn)<;>rfl
def Nm:∀l:Z aj,jy (l.map D.str)=U l:=by
 intro X7
 induction X7 with
 |nil=>
  show W
 |cons x r ih=>
  show(jy (r.map D.str)).map _=_;rw[ih];rfl
def All(ss:Z XM)(P:b8):Prop:=∀s∈ss,∃p,lk P s.nm=U p
def jQ{l:Z α}{x y:α}(hs:l[i]?=U x)(hy:y∈l.take (i+1)):y∈l.take i\/y=x:=by
 rw[wb,hs] at hy;rcases c8.mp hy with q|q
 .exact .inl q
 .exact .inr (bL.mp q)
def Iy(g:X3 bs ss js E ls ks h)(hp:Ú P)(hl:P.length<=100):∃d,xW [bd bs ss js E ls ks h,pD P]=U d/\Rx (All ss P) d:=by
 let hN:=jX (bs:=bs) (js:=js) (E:=E) (ls:=ls) (ks:=ks) (h:=h) g.sl.2;let nb:∀x∈ss.map (·.nm),bz x=ai:=λx hx=>by let⟨s,hs,rfl⟩:=bo.mp hx;show(g.s s hs).nm
 show fW (bB (aG (cM .(c) W aF hN) ?_));show cP (eC (λi Y=>(∃a b,Y=[oS .(g),oS (pD P),oS (.lst ((ss.map (·.nm)).map D.str)),a,b])/\∀s∈ss.take i,∃p,lk P s.nm=U p) (db W) #[#[_,_,W],λs hs=>by cases hs] ?_) ?_
 .rintro i x Y hx ⟨⟨a,b,rfl⟩,hI⟩;rw[qp,ql] at hx;let⟨s,hs,rfl⟩:=YE hx;show aG W (dS (yQ W W) (λ_=>rx2 .(k)) λhn=>#[#[_,_,W],λt ht=>?_]);rcases jQ hs ht with q|rfl
  .exact hI t q
  .exact rY.mp (by rw[Option.isNone_eq_false_iff] at hn;show hn)
 .rintro Y ⟨⟨a,b,rfl⟩,hI⟩;let hA:All ss P:=λs hs=>hI s (by rw[qf,qf,eN];show hs);let ec:aW (Ž (C 1)) (aA 0) (XX (b2 jR (C 0) (C 1))) (C 0) [B,U 2] [oS .(g),oS (pD P),oS (.lst ((ss.map (·.nm)).map D.str)),a,b]=U (((P.map (·.1)).filter λx=>!decide (x∈ss.map (·.nm))).map D.str):=by
   let ek:(tb Zl P).map (λkv=>cU kv.1)=(P.map (·.1)).map D.str:=by unfold tb;rw[qp,qp];rfl
   show(if ((tb Zl P).map λkv=>cU kv.1).length<=aK then b9 _ _ _ ((tb Zl P).map λkv=>cU kv.1) [B,oS (.lst ((ss.map (·.nm)).map D.str))] else B)=_;rw[qY (by rw[qf];show(P.map _).length<=_;rw[qf];unfold aK;ext),ek];show RH nb _ B λx hx=>by let⟨q,hq,rfl⟩:=bo.mp hx;show(hp.nb q hq).1
  show bB (aG (fH ec) (cP (dS (bD (aB (aU (ax W aF) (Fe _ _)) W W)) (λM=>?_) (ao:=λ_=>True) λ_=>trivial) λY' _=>gq W (.inl #[W,hA])));show rx2 (ax W (ax (aU (z:=.str (mnS ((P.map (·.1)).filter λx=>!decide (x∈ss.map (·.nm))))) (ax W aF) ?_) aF));show(jy _).bind _=_;rw[Nm,qb,qZ];intro z;rw[z] at M;show bj M .(c)
end
noncomputable def oI:au ah->D
 |some n=>.int n
 |none=>.non
def δ(ss:Z XM)(P:b8):Prop:=∀s∈ss,∃p n,lk P s.nm=U p/\lk s.ws p.1=U n
section
variable{bs:Z XQ}{P:b8}{p:aj×ah}
def C1(g:X3 bs ss js E ls ks h){s:XM}(hs:s∈ss)(b:aj):pU [bd bs ss js E ls ks h,.str s.nm,.str b]=U (oI (lk s.ws b)):=by
 let key:∃d,pU [bd bs ss js E ls ks h,.str s.nm,.str b]=U d/\d=oI (lk s.ws b):=by
  show fW (cP (eC (λi Y=>(∃x y,Y=[oS .(g),oS (.str s.nm),oS (.str b),x,y])/\∀w∈s.ws.take i,w.1≠b) (db (cM .(c) W (ax W aF) (A4 g hs))) #[#[_,_,W],λw hw=>by cases hw] ?_) ?_)
  .rintro i x Y hx ⟨⟨a,c,rfl⟩,hI⟩;rw[ql] at hx;let⟨w,hw,rfl⟩:=YE hx;show aG W (dS (bD (aB W W (E4 _ _))) (λM=>aG W ?_) λhn=>#[#[_,_,W],λv hv=>?_])
   .rw[<-eq M,pK (g.s s hs).nd (qR hw)];rfl
   .rcases jQ hw hv with q|rfl
    .exact hI v q
    .exact vW hn
  .rintro Y ⟨⟨a,c,rfl⟩,hI⟩;show gq W ?_;rw[qf,eN] at hI;rw[n5.mpr λz=>by let⟨w,hw,e⟩:=bo.mp z;show hI w hw e];rfl
 let⟨d,e,rfl⟩:=key;show e
def Tx(g:X3 bs ss js E ls ks h)(hA:All ss P):∃d,xV [bd bs ss js E ls ks h,pD P]=U d/\Rx (δ ss P) d:=by
 let hN:=jX (bs:=bs) (js:=js) (E:=E) (ls:=ls) (ks:=ks) (h:=h) g.sl.2;show fW (cP (eC (λi Y=>(∃a b c,Y=[oS .(g),oS (pD P),a,b,c])/\∀s∈ss.take i,∃p n,lk P s.nm=U p/\lk s.ws p.1=U n) (db (cM .(c) W aF hN)) #[#[_,_,_,W],λs hs=>by cases hs] ?_) ?_)
 .rintro i x Y hx ⟨⟨a,b,c,rfl⟩,hI⟩;rw[qp,ql] at hx;let⟨s,hs,rfl⟩:=YE hx;let hm:=qR hs;let⟨p,hp⟩:=hA s hm;show aG W (bB (aG (cZ W W hp 1 W) (bB (aG (aU (ax W (ax W (ax (cZ W W hp 0 W) aF))) (C1 g hm p.1)) ?_))));cases hn:lk s.ws p.1 with
  |none=>show dS W (λ_=>rx2 .(k)) λz=>by cases z
  |some n=>
   show dS (b:=decide (p.2<0) || decide (h<p.2+n)) ?_ (λ_=>rx2 .(k)) λ_=>#[#[_,_,_,W],λt ht=>?_]
   .let e3:XX (b2 ű (b2 aX (C 3) (C 4)) (bp "Shop" "last_moment" oC (C 0) aq)) [oS .(g),oS (pD P),oS (.str s.nm),oS (.int p.2),oS (.int n)]=U (decide (h<p.2+n)):=bD (aB W (cM .(c) W aF ww) W);show(if decide (p.2<0)=ai then U ai else XX _ _)=_;cases decide (p.2<0)
    .exact e3
    .rfl
   .rcases jQ hs ht with q|rfl
    .exact hI t q
    .exact#[p,n,hp,hn]
 .rintro Y ⟨⟨a,b,c,rfl⟩,hI⟩;show gq W (.inl #[W,λs hs=>hI s (by rw[qf,qf,eN];show hs)])
abbrev eD(us:Z (aj×ah)):D:=.fdk (tb D.int us)
end
section
variable{bs:Z XQ}{P:b8}{us:Z (aj×ah)}{p:aj×ah}{n:ah}{s:XM}
def vo(g:X3 bs ss js E ls ks h)(hs:s∈ss):oK [bd bs ss js E ls ks h,.str s.nm]=U (.str s.kd):=by show bR _ W (bP (aB (aB (z:=bC s) (iW 8 W W) W ?_) W gb));show gB g.sn hs
noncomputable def uM(E:Z YZ)(b p q:aj):au YZ:=E.find? λu=>decide ([u.b,u.p,u.q]=[b,p,q])
def stI(E:Z YZ)(b p q:aj):ah:=match uM E b p q with
 |some u=>u.n
 |none=>0
def Eu{b p q:aj}:ve [bd bs ss js E ls ks h,.str b,.str p,.str q]=U (.int (stI E b p q)):=by
 show bR _ W (bP ?_);unfold b3;rw[iW 9 W W,AS W W W];show U ((bw (E.map λu=>([u.b,u.p,u.q].map (bZ:aj->XR),D.int u.n)) ([b,p,q].map bZ)).getD (.int 0))=_;unfold bw stI uM;rw[List.find?_map];let e:E.find? ((λkv=>decide (kv.1=[b,p,q].map (bZ:aj->XR))) ∘ λu=>([u.b,u.p,u.q].map (bZ:aj->XR),D.int u.n))=E.find? λu=>decide ([u.b,u.p,u.q]=[b,p,q]):=by
  congr 1
  funext u
  show WT.mpr pY
 rw[e];cases E.find? λu=>decide ([u.b,u.p,u.q]=[b,p,q])<;>rfl
def RT(hn:lk us m=U n):aT (eD us) (.str m)=U (.int n):=by show(U (bw (tb D.int us) (.inr m))).bind id=_;rw[tP,hn];rfl
def lc(h1:fo Y=U (eD us))(h2:fk Y=U (.str m))(hn:lk us m=U n):b2 aT fo fk Y=U (.int n):=aB h1 h2 (RT hn)
abbrev gm(ss:Z XM)(us:Z (aj×ah)):Prop:=∀s∈ss,∃n,lk us s.nm=U n
def mf(hm:m∈ss.map (·.nm)):∃s∈ss,s.nm=m:=by let⟨s,hs,e⟩:=bo.mp hm;show#[s,hs,e]
def bor{a b:aJ}(h1:ft Y=U a)(h2:gt Y=U b):Yh ft gt Y=U (a || b):=by
 unfold Yh;rw[h1,qb];cases a
 .exact h2
 .rfl
def PL{a b y:α}(h:y∈[a,b]):y=a\/y=b:=by
 rcases cg.mp h with q|q
 .exact .inl q
 .exact .inr (bL.mp q)
def uH{a b:aJ}(h1:fa Y=U (.bl a))(h2:a=ai->fb Y=U (.bl b)):cm fa fb Y=U (.bl (a && b)):=by
 unfold cm;rw[h1];cases a
 .rfl
 .exact h2 W
def mB{a b:aJ}(h1:ft Y=U a)(h2:a=ai->gt Y=U b):gT ft gt Y=U (a && b):=by
 unfold gT;rw[h1,qb];cases a
 .rfl
 .exact h2 W
def Uw(g:X3 bs ss js E ls ks h){b:XQ}(M:b∈bs):xz [bd bs ss js E ls ks h,.str b.nm]=U (.lst (b.br.map Y8)):=by
 show bR _ W (bP (aU (ax (aB (aB (z:=bY b) (iW 7 W W) W ?_) W gb) aF) (g8 (gE (by let:=(g.b b M).len;ext) λx _=>?_))))
 .show bw (bs.map λs=>((.inr s.nm:XR),bY s)) (.inr b.nm)=_;show gB g.bn M
 .exact#[by simp[aK],λy hy=>by rcases PL hy with rfl|rfl<;>trivial]
def Fx:∀l:Z aJ,je (l.map D.bl)=U l:=by
 intro X7
 induction X7 with
 |nil=>
  show W
 |cons x r ih=>
  show(je (r.map D.bl)).map _=_;rw[ih];rfl
end
section
variable{bs:Z XQ}{P:b8}{us:Z (aj×ah)}{p:aj×ah}{n:ah}{s t:XM}
def jS{b:aJ}(h:ft Y=U b):bA ft Y=U (!b):=by unfold bA;rw[h];rfl
def S'(g:X3 bs ss js E ls ks h)(hA:All ss P)(hE:gm ss us)(hs:s∈ss)(ht:t∈ss):∃d,xC [bd bs ss js E ls ks h,pD P,eD us,.str s.nm,.str t.nm]=U d/\∃b,d=.bl b:=by let⟨p,hp⟩:=hA s hs;let⟨q,hq⟩:=hA t ht;show fW (bB (aG W (bB (aG W (cP (ao:=λY=>∃x∈ss,∃y∈ss,Y=[oS .(g),oS (pD P),oS (eD us),oS (.str s.nm),oS (.str t.nm),oS (.str x.nm),oS (.str y.nm),B]) (eS (aG (bD (aB (cZ W W hq 1 W) (cZ W W hp 1 W) W)) #[λ_=>#[_,W,.inl #[W,t,ht,s,hs,W]],λ_=>#[_,W,.inl #[W,s,hs,t,ht,W]]])) ?_)))));rintro Y ⟨x,hx,y,hy,rfl⟩;let⟨r,hr⟩:=hA y hy;let⟨e,he⟩:=hE x hx;show bB (aG (cM .(c) W (ax (cZ W W hp 0 W) (ax (cM .(c) W (ax W aF) (vo g hx)) (ax (cM .(c) W (ax W aF) (vo g hy)) aF))) Eu) (gq (aB (cZ W W hr 1 W) (aB (lc W W he) W W) W) #[_,W]))
def Uo(g:X3 bs ss js E ls ks h)(hA:All ss P)(hE:gm ss us):∃d,yL [bd bs ss js E ls ks h,pD P,eD us]=U d/\Rx True d:=by
 let hN:=jX (bs:=bs) (js:=js) (E:=E) (ls:=ls) (ks:=ks) (h:=h) g.sl.2;show fW (cP (eC (λi Y=>∃a b,Y=[oS .(g),oS (pD P),oS (eD us),a,b]) (db (aU (ax (cM .(c) W aF hN) aF) (EF ss g.sl.2))) #[_,_,W] ?_) ?_)
 .rintro i x Y hx ⟨a,b,rfl⟩;rw[ql] at hx;let⟨q,hq,rfl⟩:=YE hx;let⟨h1,h2⟩:=Fu (qR hq);let⟨p1,hp1⟩:=hA _ h1;let⟨p2,Ā⟩:=hA _ h2;let⟨_,hc,b,rfl⟩:=S' g hA hE h1 h2;show aG W (dS (mB (bD (aB (cZ W W hp1 0 W) (cZ W W Ā 0 W) (E4 _ _))) λ_=>bD (aU (ax W (ax W (ax W .(k)))) hc)) (λ_=>rx3 (ax W .(k))) λ_=>#[_,_,W])
 .rintro Y ⟨a,b,rfl⟩;show gq W (.inl #[W,trivial])
def OF(g:X3 bs ss js E ls ks h)(hA:All ss P)(hE:gm ss us):∃d,yt [bd bs ss js E ls ks h,pD P,eD us]=U d/\Rx True d:=by
 show fW (cP (eC (λi Y=>∃j a b c d,Y=[oS .(g),oS (pD P),oS (eD us),j,a,b,c,d]) (db (cM .(c) W aF (Er g))) #[_,_,_,_,_,W] ?_) ?_)
 .rintro i x Y hx ⟨j0,a,b,c,d,rfl⟩;rw[ql] at hx;let⟨j,hj,rfl⟩:=YE hx;let gj:=g.j j (qR hj);let hl:j.ms.length<=40:=by let:=gj.ln;rw[qf] at this;let:=g.sl.2;ext
  show aG W ((eC (Rt:=Rx True) (λ_ Y=>∃a b c d,Y=[oS .(g),oS (pD P),oS (eD us),oS (bx j),a,b,c,d]) (db (aU (ax (aB W W W) aF) (AJ j.ms hl))) #[_,_,_,_,W] ?_).imp λr z=>?_)
  .rintro k y Y hy ⟨a,b,c,d,rfl⟩;rw[ql] at hy;let⟨q,hq,rfl⟩:=YE hy;let in1:∀{w:XM},w∈j.ms.map ţ->∃s∈ss,s.nm=w.nm:=λhw=>by let⟨m,hm,rfl⟩:=bo.mp hw;show mf (gj.ms m hm)
   let⟨h1,h2⟩:=Fu (qR hq);let⟨s1,hs1,e1⟩:=in1 h1;let⟨s2,Ŀ,e2⟩:=in1 h2;let⟨p1,hp1⟩:=hA _ hs1;let⟨p2,Ā⟩:=hA _ Ŀ;let⟨n1,hn1⟩:=hE _ hs1;let⟨n2,hn2⟩:=hE _ Ŀ;rw[e1] at hp1 hn1;rw[e2] at Ā hn2;show aG W (bB (aG (aB (cZ W W Ā 1 W) (lc W W hn1) W) (bB (aG (aB (cZ W W hp1 1 W) (lc W W hn2) W) (dS (mB (jS (bD W)) λ_=>bor (bD (aB W W C0)) (jS (bD W))) (λ_=>rx3 (ax W .(k))) λ_=>#[_,_,_,_,W])))))
  .rcases z with⟨z,a,b,c,d,e⟩|z
   .exact .inl #[z,_,_,_,_,_,e]
   .exact .inr z
 .rintro Y ⟨j,a,b,c,d,rfl⟩;show gq W (.inl #[W,trivial])
def LN(g:X3 bs ss js E ls ks h)(hA:All ss P)(hE:gm ss us):∃d,xP [bd bs ss js E ls ks h,pD P,eD us]=U d/\Rx True d:=by
 show fW (cP (eC (λi Y=>∃a b c,Y=[oS .(g),oS (pD P),oS (eD us),a,b,c]) (db (cM .(c) W aF (Bq g))) #[_,_,_,W] ?_) ?_)
 .rintro i x Y hx ⟨a,b,c,rfl⟩;rw[ql] at hx;let⟨l,hl,rfl⟩:=YE hx;let gl:=g.l l (qR hl);let⟨s1,hs1,e1⟩:=mf gl.a;let⟨s2,Ŀ,e2⟩:=mf gl.b;let⟨n1,hn1⟩:=hE _ hs1;let⟨p2,Ā⟩:=hA _ Ŀ;rw[e1] at hn1;rw[e2] at Ā;show aG W (dS (bD (aB (cZ W W Ā 1 W) (aB (lc W W hn1) W W) W)) (λ_=>rx3 (ax W .(k))) λ_=>#[_,_,_,W])
 .rintro Y ⟨a,b,c,rfl⟩;show gq W (.inl #[W,trivial])
end
section
variable{bs:Z XQ}{P:b8}{us:Z (aj×ah)}{p:aj×ah}{n:ah}{s t:XM}
def Uu(g:X3 bs ss js E ls ks h):yK [bd bs ss js E ls ks h]=U (.lst (ks.map c7)):=
 bR _ W (bP (aU (ax (iW 5 W W) aF) (g8 (gE (by let:=g.kl;ext) λx hx=>Ge (by rw[qf];show g.sl.2) (g.k x hx)))))
def FY:∀l:Z ah,fX (l.map D.int)=U l:=by
 intro X7
 induction X7 with
 |nil=>
  show W
 |cons x r ih=>
  show(fX (r.map D.int)).map _=_;rw[ih];rfl
def EX:∀(l:Z (aj×ah))(a:au Slot),(∀w∈l,∃n,fe (oS (dW w)::r)=U (.int n))->∃z:Z ah,z.length=l.length/\b9 (aA 0) tT fe (l.map dW) (a::r)=U (z.map D.int):=by
 intro X7
 induction X7 with
 |nil=>
  intro _ _;show#[[],W,W]
 |cons w l ih=>
  intro a hw;let⟨z,hz,e⟩:=ih (oS (dW w)) λv hv=>hw v (qh _ hv);let⟨n,hn⟩:=hw w qg;show#[n::z,bM (·+1) hz,?_];rw[qo,rh W,qY W,hn,e];rfl
def BJ{t x:au Slot}:∀(l:Z (aj×ah))(a b:au Slot),(∀w∈l,∃c,ft [oS (.str w.1),oS (.int w.2),t,x]=U c)->∃z:Z ah,b9 .(n) ft (C 1) (l.map dW) [a,b,t,x]=U (z.map D.int):=by
 intro X7
 induction X7 with
 |nil=>
  intro _ _ _;show#[[],W]
 |cons w l ih=>
  intro a b hw;let⟨z,e⟩:=ih (oS (.str w.1)) (oS (.int w.2)) λv hv=>hw v (qh _ hv);let⟨c,hc⟩:=hw w qg;let key:b9 .(n) ft (C 1) ((w::l).map dW) [a,b,t,x]=if c=ai then (b9 .(n) ft (C 1) (l.map dW) [oS (.str w.1),oS (.int w.2),t,x]).map (D.int w.2::·) else b9 .(n) ft (C 1) (l.map dW) [oS (.str w.1),oS (.int w.2),t,x]:=by show(ft [oS (.str w.1),oS (.int w.2),t,x]).bind _=_;rw[hc];rfl
  rw[key,e];cases c
  .exact#[z,W]
  .exact#[w.2::z,W]
def zh{g:D->au D}{x:D}(h1:fa Y=U x)(h2:g x=U z):b1 g fa Y=U z:=by unfold b1;rw[h1];show h2
def D7{z:Z ah}(h:fr Y=U (z.map D.int)):cF rq (J (aR fr) aq) Y=U (.int z.sum):=aU (ax (fH h) aF) (by show(fX _).map _=_;rw[FY];rfl)
def iV{xs r:Z D}(h1:fi Y=U xs)(h2:xs.length<=1000)(h3:b9 gg ft fe xs (dU fv Y)=U r):aW fi gg ft fe fv Y=U r:=by unfold aW;rw[h1,qb,qY (by unfold aK;ext),h3]
def Mz(hA:All ss P)(hE:gm ss us){k:YD}(gk:Zm (ss.map (·.nm)) k)(h40:ss.length<=40)(t:ah):∃d,wu [c7 k,pD P,eD us,.int t]=U d/\∃n,d=.int n:=by
 let hP:∀w∈k.tk,∃p,lk P w.1=U p:=λw hw=>by let⟨s,hs,e⟩:=mf (gk.tk.ws w hw).1;rw[<-e];show hA s hs
 let hQ:∀w∈k.pt,∃p,lk us w.1=U p:=λw hw=>by let⟨s,hs,e⟩:=mf (gk.pt.ws w hw).1;rw[<-e];show hE s hs
 let l1:=gk.tk.ln;let l2:=gk.pt.ln;rw[qf] at l1 l2;let⟨z1,h1⟩:=BJ (ft:=XX (b2 Y0 (b2 XV (b2 aT (C 3) (C 0)) .(e)) (C 2))) (t:=oS (.int t)) (x:=oS (pD P)) k.tk B B λw hw=>by let⟨p,hp⟩:=hP w hw;show#[_,bD (aB (cZ W W hp 1 W) W W)]
 let⟨z2,h2⟩:=BJ (ft:=XX (b2 Y0 (b2 aT (C 3) (C 0)) (C 2))) (t:=oS (.int t)) (x:=oS (eD us)) k.pt B B λw hw=>by let⟨n,hn⟩:=hQ w hw;show#[_,bD (aB (lc W W hn) W W)]
 show fW (bB (aG (D7 (iV (db (aB W W W)) (by rw[qf];ext) h1)) (bB (aG (D7 (iV (db (aB W W W)) (by rw[qf];ext) h2)) (gq (aB (aB (aB W W W) W W) W W) #[_,W])))))
def BO{a b c:ah}(h1:fa Y=U (.int a))(h2:fb Y=U (.int b))(h3:fc Y=U (.int c)):ą Y0 Y0 fa fb fc Y=U (.bl (decide (a<=b) && decide (b<=c))):=by
 unfold ą;rw[h1,qb,h2,qb];show(U (D.bl (decide (a<=b)))).bind _=_;rw[qb];cases decide (a<=b)
 .rfl
 .show(fc Y).bind _=_;rw[h3];rfl
def Rk(g:X3 bs ss js E ls ks h)(h12:ss.length<=12)(hA:All ss P)(hE:gm ss us):∃d,yh [bd bs ss js E ls ks h,pD P,eD us]=U d/\Rx True d:=by
 show fW (cP (eC (λi Y=>∃a b c,Y=[oS .(g),oS (pD P),oS (eD us),a,b,c]) (db (cM .(c) W aF (Uu g))) #[_,_,_,W] ?_) ?_)
 .rintro i x Y hx ⟨a,b,c,rfl⟩;rw[ql] at hx;let⟨k,hk,rfl⟩:=YE hx;let gk:=g.k k (qR hk);let l1:=gk.tk.ln;let l2:=gk.pt.ln;rw[qf] at l1 l2;let⟨z1,n1,e1⟩:=EX (fe:=b2 XV (b2 aT (C 1) .(o)) .(e)) (r:=[oS (pD P)]) k.tk B λw hw=>by let⟨s,hs,e⟩:=mf (gk.tk.ws w hw).1;let⟨p,hp⟩:=hA s hs;rw[e] at hp;show#[p.2,cZ W (aB W W dR) hp 1 W]
  let⟨z2,n2,e2⟩:=EX (fe:=b2 aT (C 1) .(o)) (r:=[oS (eD us)]) k.pt B λw hw=>by let⟨s,hs,e⟩:=mf (gk.pt.ws w hw).1;let⟨p,hp⟩:=hE s hs;rw[e] at hp;show#[p,lc W (aB W W dR) hp]
  show aG W (Ct (aG (iV (db (aB W W W)) (by rw[qf];ext) e1) (cP (aG (xJ W (fH (iV (db (aB W W W)) (by rw[qf];ext) e2)) .(b)) (.inl #[W,W])) ?_)));rintro Y rfl;show lg W ((eC (Rt:=Rx True) (λ_ Y=>∃c,Y=[oS .(g),oS (pD P),oS (eD us),oS (c7 k),oS (.lst ((z1++z2).map D.int)),c]) (xs:=(nV (ST.dd (z1++z2))).map D.int) (db (zh W ?_)) #[_,W] ?_).imp λr z=>?_)
  .show(if _ then _ else _)=_;rw[qY (by rw[qf,qj];ext),FY];rfl
  .rintro j y Y hy ⟨c,rfl⟩;rw[ql] at hy;let⟨t,_,rfl⟩:=YE hy;let⟨_,hv,n,rfl⟩:=Mz hA hE gk g.sl.2 t;show aG W (dS (jS (bD (BO W (aU (ax W (ax W .(k))) hv) (aB W W j5)))) (λ_=>rx3 (ax W (ax (aB W W dR) (ax W aF)))) λ_=>#[_,W])
  .rcases z with⟨z,c,e⟩|z
   .exact .inl #[z,_,_,_,e]
   .exact .inr z
 .rintro Y ⟨a,b,c,rfl⟩;show gq W (.inl #[W,trivial])
end
def tS{l:Z α}(nd:l.Nodup){x:α}(h:l[i]?=U x):x∉l.take i:=λhm=>by let⟨j,hj,e⟩:=vT.mp hm;rw[qF] at hj;let⟨hi,e2⟩:=dM.mp h;rw[List.getElem_take] at e;let:=(Go nd).mp (e.trans e2.symm);ext
def Fc:∀{fs:Fo}{j:ag}{f:aj}{x y:Yi},(fs.map (·.1)).Nodup->fs[j]?=U (f,y)->gx f x fs=fs.set j (f,x)
 |[],j,f,x,y,_,h=>by simp at h
 |(g,z)::r,0,f,x,y,_,h=>by
  simp only[qc,v8,WJ] at h;let⟨rfl,rfl⟩:=h;unfold gx;rw[qY W];rfl
 |(g,z)::r,j+1,f,x,y,nd,h=>by rw[qo,dD] at nd;rw[qd] at h;let Zb:¬f=g:=λe=>nd.1 (by rw[<-e];show qX (f:=(·.1)) (qR h));unfold gx;rw[qZ Zb,Fc nd.2 h];rfl
section
variable{f k:aj}{fs:Fo}{b:aJ}{fv:FE}{XJ:Z (XR×D)}{kts:Z (Z XR×D)}{y:Yi}
def me(j:ag)(hs:Y[i]?=U (U (.fo b c fs)))(nd:(fs.map (·.1)).Nodup)(hj:fs[j]?=U (f,.k XJ))(hk:fk Y=U (.str k))(hv:fv Y=U d)(hl:XJ.length<100000):jw c f i fk fv Y=U (.nx,Y.set i (U (.fo b c (fs.set j (f,.k (ce XJ (.inr k) d)))))):=by unfold jw;rw[hv,hk,hs];show(if c=c then match fs.lookup f with|some (.k XJ)=>_|some (.t XJ)=>_|_=>_ else B)=_;rw[qY W,mE nd hj,<-Fc nd hj];show qY hl
def F1{ks:Z aj}(nd:ks.Nodup)(n:ag)(hk:ks[n]?=U f)(hf:fs.map (·.1)=ks.take n)(hn:n<100):fs.lookup f=B/\fs.length<100:=by show#[ly (by rw[hf];show tS nd hk),?_];let:=bM cC hf;rw[qf,qF] at this;ext
def nP{ks:Z aj}(nd:ks.Nodup)(n:ag)(hs:Y[i]?=U (U (.fo b c fs)))(hk:ks[n]?=U f)(hf:fs.map (·.1)=ks.take n)(hv:fv Y=U d)(hn:n<100:=by decide):jP c f i fv Y=U (.nx,Y.set i (U (.fo b c (fs++[(f,.d d)])))):=by unfold jP;rw[hv,hs];show qY #[W,F1 nd n hk hf hn]
def j7{ks:Z aj}(nd:ks.Nodup)(n:ag)(hs:Y[i]?=U (U (.fo b c fs)))(hk:ks[n]?=U f)(hf:fs.map (·.1)=ks.take n)(hn:n<100:=by decide):fY c f i y Y=U (.nx,Y.set i (U (.fo b c (fs++[(f,y)])))):=by unfold fY;rw[hs];show qY #[W,F1 nd n hk hf hn]
def Oo(j:ag)(nd:(fs.map (·.1)).Nodup)(hj:fs[j]?=U (f,y))(h1:fo Y=U (ō c fs)):bh c f fo Y=U (foF y):=by unfold bh;rw[h1];show(if c=c then (fs.map λz=>(z.1,foF z.2)).lookup f else B)=_;rw[qY W];show mE (i:=j) (by rw[qp];show nd) ?_;rw[ql,hj];rfl
def FW{F:FQ}(hm:m∉fs.map (·.1))(h1:fo Y=U (ō c fs))(h2:fr Y=U ds)(h3:F (ō c fs::ds)=U d):bp c m F fo fr Y=U d:=by let Zi:(fs.map λz=>(z.1,foF z.2)).lookup m=B:=ly (by rw[qp];show hm);unfold bp;rw[h1];show(if c=c/\(fs.map λz=>(z.1,foF z.2)).lookup m=B then (fr Y).bind λds=>F (ō c fs::ds) else B)=_;rw[qY #[W,Zi],h2];show h3
def Bz{P:Fo->Prop}(h:Wp (g (U (.fo ai c [])::(ds.map (λd=>U (Slot.sh d))++bQ n B))) λr=>r.1=.nx/\∃fs,r.2[0]?=U (U (.fo ai c fs))/\P fs):Wp (gQ n c g ds) P:=by let⟨⟨fl,Y'⟩,e,e1,fs,e2,p⟩:=h;subst e1;show#[fs,?_,p];unfold gQ;rw[e,qb];rw[e2];show qY W
def dI(e:g Y=U (.nx,Y1))(h:Wp (g' Y1) R):Wp (ay g g' Y) R:=dO (aG e #[W,h])
end
section
variable{bs:Z XQ}{kp:D×ah}
noncomputable abbrev Yo(f:XM->D)(xs:Z XM):Z (XR×D):=xs.map λs=>(.inr s.nm,f s)
theorem MI[dJ κ]{XJ:Z (κ×D)}{k:κ}{v:D}(h:k∉XJ.map (·.1)):ce XJ k v=XJ++[(k,v)]:=by unfold ce;rw[qZ];intro z;let⟨x,hx,e⟩:=o6.mp z;show h (eq e▸qX hx)
theorem l7(nd:(ss.map (·.nm)).Nodup){s:XM}(hs:ss[i]?=U s)(f:XM->D):ce (Yo f (ss.take i)) (.inr s.nm) (f s)=Yo f (ss.take (i+1)):=by let e:Yo f (ss.take (i+1))=Yo f (ss.take i)++[(.inr s.nm,f s)]:=B9 _ hs;rw[MI,e];intro z;let⟨p,hp,e⟩:=bo.mp z;let⟨t,ht,rfl⟩:=bo.mp hp;let e:t.nm=s.nm:=i6 e;show tS nd (x:=s.nm) (by rw[ql,hs];rfl) ?_;rw[<-e,<-sP];show qX ht
theorem jf(f:XM->D)(hl:ss.length<=40)(i:ag):(Yo f (ss.take i)).length<100000:=by rw[qf,qF];ext
noncomputable def ο(s:XM):D:=.dk (s.ws.map λw=>(.inr w.1,.int w.2))
def jnD(js:Z X4)(m:aj):D:=match eJ js m with
 |some j=>.str j.nm
 |none=>.non
def Ę(js:Z X4)(m:aj):ah:=match eJ js m with
 |some j=>j.ea
 |none=>0
def duI(js:Z X4)(h:ah)(m:aj):ah:=match eJ js m with
 |some j=>j.du
 |none=>h
def Y5(js:Z X4)(lm h:ah)(m:aj):ah:=if h<lm then (if duI js h m<h then duI js h m else h) else (if duI js h m<lm then duI js h m else lm)
abbrev gF4(S:D)(js:Z X4)(h lm:ah)(kp:D×ah)(l j e m:Z XM):Fo:=[("told_shop",.d S),("kept_plan",.d kp.1),("kept_most",.d (.int kp.2)),("lengths",.k (Yo ο l)),("job_names",.k (Yo (λs=>jnD js s.nm) j)),("early_moments",.k (Yo (λs=>.int (Ę js s.nm)) e)),("end_marks",.k (Yo (λs=>.int (Y5 js lm h s.nm)) m))]
theorem iG:yT.Nodup:=by decide +kernel
abbrev grE(fs:Fo)(S:D)(lm:ah)(kd:D)(mo:ah)(a b c:au Slot):bG:=[U (.fo ai "Grounds" fs),oS S,oS (.int lm),oS kd,oS (.int mo),a,b,c]
theorem yp{nm:α->aj}{f:α->D}{xs:Z α}(hl:xs.length<=1000)(nd:(xs.map nm).Nodup):iL [.lst (xs.map λx=>.tup [.str (nm x),f x])]=U (.dk (xs.map λx=>(.inr (nm x),f x))):=by
 let kn:((xs.map λx=>((.inr (nm x):XR),f x)).map (·.1)).Nodup:=by rw[qp];let:=wa (S:=λa b:XR=>a≠b) (bZ:aj->XR) (λa b é z=>é (i6 z)) nd;rw[qp] at this;show this
 show(if _ then _ else _)=_;rw[qY (by rw[qf];show hl),DJ,qe,xO kn]
theorem Dl{κ:Type}[dJ κ]{F:κ->au D}{k:κ}:∀{ps:Z (κ×D)}{XT:Z (κ×D)},(∀p∈ps,F p.1=U p.2)->(F k≠B->k∈ps.map (·.1)\/bw XT k=F k)->(F k=B->bw XT k=B)->bw (ps.foldl (λXT kv=>ce XT kv.1 kv.2) XT) k=F k
 |[],XT,_,h2,h3=>by
  cases e:F k with
  |none=>show h3 e
  |some d=>
   rcases h2 (by rw[e];exactλz=>nomatch z) with h|h
   .cases h
   .exact h.trans e
 |p::r,XT,h1,h2,h3=>by
  rw[fO];let hp:=h1 p qg;show Dl (λq hq=>h1 q (qh _ hq)) (λhk=>?_) λhk=>?_
  .rw[rG];by_cases e:k=p.1
   .rw[qY e,e,hp];show .inr W
   .rw[qZ e];rcases h2 hk with h|h
    .exact .inl ((cg.mp h).resolve_left e)
    .exact .inr h
  .rw[rG,qZ (λe=>by rw[e,hp] at hk;cases hk)];show h3 hk
def O3(js:Z X4)(ls:Z YA):Z XR->au D
 |[.inr a,.inr b]=>(dq js ls a b).map D.int
 |_=>B
theorem Tq[dJ κ]{l:Z (κ×D)}{k:κ}{v:D}(hl:∀q∈l,Ŗ q.2=ai)(hv:Ŗ v=ai):∀q∈ce l k v,Ŗ q.2=ai:=λq hq=>by
 unfold ce at hq;split at hq
 .obtain⟨p,hp,rfl⟩:=bo.mp hq;by_cases e:p.1=k
  .rw[qY e];show hv
  .rw[qZ e];show hl p hp
 .rcases c8.mp hq with hq|hq
  .exact hl q hq
  .rw[bL.mp hq];show hv
theorem Cg{κ:Type}[dJ κ]:∀{ps XT:Z (κ×D)},(∀q∈ps,Ŗ q.2=ai)->(∀q∈XT,Ŗ q.2=ai)->∀q∈ps.foldl (λXT kv=>ce XT kv.1 kv.2) XT,Ŗ q.2=ai
 |[],_,_,h=>h
 |p::r,XT,h1,h=>by rw[fO];show Cg (λq hq=>h1 q (qh _ hq)) (Tq h (h1 p qg))
theorem El:∀{l:Z D},(∀x∈l,Ŗ x=ai)->m4 l=ai
 |[],_=>rfl
 |x::r,h=>by rw[m4,h x qg,El λy hy=>h y (qh _ hy)];rfl
theorem PX{l:Z (Z XR×D)}(h:∀q∈l,Ŗ q.2=ai):mT l=ai:=by rw[E3];show El λx hx=>by let⟨q,hq,rfl⟩:=bo.mp hx;show h q hq
theorem IX(g:X3 bs ss js E ls ks h):∃XJ,nO [.lst ((((ss.map (·.nm)).flatMap (io js ls (ss.map (·.nm)))).map λt=>.tup [.tup ([t.1,t.2.1].map D.str),.int t.2.2]))]=U (.dt XJ)/\(∀a∈ss.map (·.nm),∀b∈ss.map (·.nm),bw XJ (kk a b)=(dq js ls a b).map D.int)/\mT XJ=ai:=by
 let hl:=xH js ls (ss.map (·.nm)) (ss.map (·.nm));rw[qf] at hl;let h2:ss.length*ss.length<=40*40:=zT g.sl.2 g.sl.2;show#[pI ((((ss.map (·.nm)).flatMap (io js ls (ss.map (·.nm)))).map λt=>([t.1,t.2.1].map bZ,.int t.2.2))),?_,λa ha b M=>?_,PX (Cg (λq hq=>by let⟨t,_,rfl⟩:=bo.mp hq;rfl) λq hq=>nomatch hq)]
 .show(if _ then _ else _)=_;rw[qY (by rw[qf];ext),CM (t:=λt:GT=>[t.1,t.2.1])];rfl
 .refine Dl (F:=O3 js ls) (λp hp=>?_) (λhk=>.inl ?_) λ_=>rfl
  .obtain⟨t,ht,rfl⟩:=bo.mp hp;let⟨x,_,hx⟩:=HA.mp ht;let⟨y,_,hy⟩:=rQ.mp hx;let⟨q,hq,rfl⟩:=YE hy;show(dq js ls x y).map D.int=_;rw[hq];rfl
  .let hk:(dq js ls a b).map D.int≠B:=hk;cases e:dq js ls a b with
   |none=>rw[e] at hk;show bj W hk
   |some q=>show bo.mpr #[_,bo.mpr #[(a,b,q),HA.mpr #[a,ha,rQ.mpr #[b,M,by rw[e];rfl]],W],W]
theorem C7:∀(os:Z GT)(a b c:au Slot),b9 (bT 3 (aQ (aA 0) (aQ (aA 1) (aQ (aA 2) bV)))) tT (ba (X5 (J (ba (X5 (J (C 0) .(r)))) (J (C 2) aq)))) (os.map Χ) [a,b,c]=U (os.map λt=>.tup [.tup ([t.1,t.2.1].map D.str),.int t.2.2])
 |[],_,_,_=>rfl
 |t::r,a,b,c=>by let e:b9 (bT 3 (aQ (aA 0) (aQ (aA 1) (aQ (aA 2) bV)))) tT (ba (X5 (J (ba (X5 (J (C 0) .(r)))) (J (C 2) aq)))) ((t::r).map Χ) [a,b,c]=(b9 (bT 3 (aQ (aA 0) (aQ (aA 1) (aQ (aA 2) bV)))) tT (ba (X5 (J (ba (X5 (J (C 0) .(r)))) (J (C 2) aq)))) (r.map Χ) [oS (.str t.1),oS (.str t.2.1),oS (.int t.2.2)]).map (D.tup [.tup ([t.1,t.2.1].map D.str),.int t.2.2]::·):=rfl;rw[e,C7 r];rfl
theorem Oq(g:X3 bs ss js E ls ks h):zl [bd bs ss js E ls ks h]=U (.lst (bs.map bY)):=by let hp:Pl 8 (.lst (bs.map bY)):=gE (by let:=g.bl;ext) λx hx=>CP (g.b x hx);show bR _ W (bP (aU (ax (iW 0 W W) aF) (g8 hp)))
abbrev gFo(bs:Z XQ)(ss:Z XM)(js:Z X4)(E:Z YZ)(ls:Z YA)(ks:Z YD)(h lm:ah)(kp:D×ah)(XJ:Z (Z XR×D)):Fo:=gF4 .(g) js h lm kp ss ss ss ss++([("breaks",.d (.dk (bs.map λb=>(.inr b.nm,.lst (b.br.map Y8))))),("known_gaps",.d (.dt XJ))]:Fo)
structure Œ(ss:Z XM)(js:Z X4)(ls:Z YA)(XJ:Z (Z XR×D)):Prop where
 at':∀a∈ss.map (·.nm),∀b∈ss.map (·.nm),bw XJ (kk a b)=(dq js ls a b).map D.int
 no:mT XJ=ai
theorem wN(js:Z X4)(m:aj){x:D}{F:X4->D}(hs:Y[i]?=U (oS (ur (eJ js m))))(ha:fa Y=U x)(M:∀j,Y[i]?=U (oS (bx j))->fb Y=U (F j)):ĩ (XX (b2 Zz (C i) (vC .non))) fa fb Y=U (match eJ js m with|some j=>F j|none=>x):=by
 unfold ĩ;cases e:eJ js m with
 |none=>
  rw[e] at hs;let:XX (b2 Zz (C i) (vC .non)) Y=U ai:=bD (aB (x:=.non) (by unfold C;rw[hs];rfl) W W);rw[this,qb,qY W,ha]
 |some j=>
  rw[e] at hs;let:XX (b2 Zz (C i) (vC .non)) Y=U ar:=bD (aB (x:=bx j) (by unfold C;rw[hs];rfl) W W);rw[this,qb,qZ qt];show M j hs
inductive ε:D->D->Prop where
 |non:ε .non .non
 |dk (l:Z (XR×D)):ε (.fdk l) (.dk l)
theorem RL{k:D}(h:ε kd k)(hs:Y[3]?=U (oS kd)):ĩ (XX (b2 Zz (C 3) (vC .non))) (vC .non) (cF vf (J (C 3) aq)) Y=U k:=by
 let hv:C 3 Y=U kd:=by unfold C;rw[hs]
 unfold ĩ;cases h with
 |non=>
  rw[show XX (b2 Zz (C 3) (vC .non)) Y=U ai from bD (aB hv W W)];rfl
 |dk l=>
  rw[show XX (b2 Zz (C 3) (vC .non)) Y=U ar from bD (aB hv W W),qb,qZ qt];show aU (ax hv aF) W
def QQ(g:X3 bs ss js E ls ks h)(ĉ:ε kd kp.1):Wp (uz [bd bs ss js E ls ks h,.int lm,kd,.int kp.2]) λfs=>∃XJ,fs=gFo bs ss js E ls ks h lm kp XJ/\Œ ss js ls XJ:=by
 let hN:=jX (bs:=bs) (js:=js) (E:=E) (ls:=ls) (ks:=ks) (h:=h) g.sl.2;let⟨XJ,hk,hv,ŀ⟩:=IX g;show Bz (dI (nP iG 0 W W W W) (dI (nP iG 1 W W W (RL ĉ W)) (dI (nP iG 2 W W W W) (dI (j7 iG 3 W W W) (dI (j7 iG 4 W W W) (dI (j7 iG 5 W W W) (dI (j7 iG 6 W W W) ?_)))))));show dO (il (λi Y=>∃a b c,Y=grE (gF4 .(g) js h lm kp (ss.take i) (ss.take i) (ss.take i) (ss.take i)) .(g) lm kd kp.2 a b c) (eB (aG (cM .(c) W aF hN) (aG W #[#[B,B,B,W],?_,?_]))))
 .rintro i x Y hx ⟨a,b,c,rfl⟩;rw[qp,ql] at hx;let⟨s,hs,rfl⟩:=YE hx;let hm:=qR hs;let gs:=g.s s hm;let nd:∀l j e m:Z XM,((gF4 .(g) js h lm kp l j e m).map (·.1)).Nodup:=λl j e m=>xh iG 7;show aG W (dI (me (fs:=gF4 .(g) js h lm kp (ss.take i) (ss.take i) (ss.take i) (ss.take i)) (k:=s.nm) (d:=ο s) 3 W (nd _ _ _ _) W W (aU (ax (cM .(c) W (ax W aF) (A4 g hm)) aF) (yp (by let:=gs.l4;ext) gs.nd)) (jf _ g.sl.2 _)) ?_);rw[l7 g.sn hs ο];show bB (aG (cM .(c) W (ax W aF) (EY g s.nm)) ?_);show dI (me (fs:=gF4 .(g) js h lm kp (ss.take (i+1)) (ss.take i) (ss.take i) (ss.take i)) (k:=s.nm) (d:=jnD js s.nm) 4 W (nd _ _ _ _) W W (wN js s.nm (F:=λj=>.str j.nm) W W λj hj=>aB (x:=bx j) (by unfold C;rw[hj]) W dR) (jf _ g.sl.2 _)) ?_;rw[l7 g.sn hs λs=>jnD js s.nm];let e5:∀fs:Fo,ĩ (XX (b2 Zz (C 6) (vC .non))) .(f) (b2 XV (C 6) .(e)) (grE fs .(g) lm kd kp.2 (oS (.str s.nm)) (oS (ur (eJ js s.nm))) c)=U (.int (Ę js s.nm)):=λfs=>by show(wN js s.nm (F:=λj=>.int j.ea) W W λj hj=>aB (x:=bx j) (by unfold C;rw[hj]) W gb).trans ?_;unfold Ę;cases eJ js s.nm<;>rfl
  show dI (me (fs:=gF4 .(g) js h lm kp (ss.take (i+1)) (ss.take (i+1)) (ss.take i) (ss.take i)) (k:=s.nm) (d:=.int (Ę js s.nm)) 5 W (nd _ _ _ _) W W (e5 _) (jf _ g.sl.2 _)) ?_;rw[l7 g.sn hs λs=>.int (Ę js s.nm)];show bB (aG (a:=.int (duI js h s.nm)) ?_ ?_)
  .refine(wN js s.nm (x:=.int h) (F:=λj=>.int j.du) W (cM .(c) W aF ww) λj hj=>aB (x:=bx j) (by unfold C;rw[hj]) W j5).trans ?_;unfold duI;cases eJ js s.nm<;>rfl
  show aG (me (fs:=gF4 .(g) js h lm kp (ss.take (i+1)) (ss.take (i+1)) (ss.take (i+1)) (ss.take i)) (k:=s.nm) (d:=.int (Y5 js lm h s.nm)) 6 W (nd _ _ _ _) W W (aU (ax W (ax (cM .(c) W aF ww) (ax W aF))) W) (jf _ g.sl.2 _)) #[W,?_];rw[l7 g.sn hs λs=>.int (Y5 js lm h s.nm)];show#[_,_,_,W]
 .rintro Y ⟨a,b,c,rfl⟩;rw[qf,qf,eN];show#[W,dI (nP (fs:=gF4 .(g) js h lm kp ss ss ss ss) iG 7 W W W (aU (ax (cM .(c) W aF (Oq g)) aF) (yp (nm:=λb:XQ=>b.nm) (f:=λb=>.lst (b.br.map Y8)) (by let:=g.bl;ext) g.bn))) (aG (nP iG 8 W W W (aU (ax ?_ aF) hk)) #[W,_,W,XJ,W,#[hv,ŀ]])]
  .let hl:=xH js ls (ss.map (·.nm)) (ss.map (·.nm));rw[qf] at hl;let h2:ss.length*ss.length<=40*40:=zT g.sl.2 g.sl.2;show fH ?_;unfold aW X6;rw[aU (ax W aF) (Nj g)];show(if _ then _ else _)=_;rw[qY (by rw[qf];unfold aK;ext)];show C7 _ _ _ _
end
def FJ:∀l:Z aj,fZ (l.map D.str)=ai:=by
 intro X7
 induction X7 with
 |nil=>
  show W
 |cons x r ih=>
  show(œ (.str x) && fZ (r.map D.str))=ai;rw[ih];rfl
section
variable{bs:Z XQ}{kp:D×ah}{A P:Z (XR×D)}{z:aJ}{s:XM}
noncomputable abbrev fF(G:D)(Γ A af:Z (XR×D))(T:Z (Z XR×D))(P:Z (XR×D)):Fo:=[("grounds",.d G),("open_benches",.k Γ),("firsts",.k A),("lasts",.k af),("put_pairs",.t T),("notes",.k P)]
def lkF:aJ->Yi->D
 |true=>loF
 |false=>foF
def lkD(z:aJ)(c:aj)(fs:Fo):D:=.ins c (fs.map λq=>(q.1,lkF z q.2))
theorem mP:eG.Nodup:=by decide +kernel
theorem uE(G:D)(Γ A af:Z (XR×D))(T:Z (Z XR×D))(P:Z (XR×D)):((fF G Γ A af T P).map (·.1)).Nodup:=mP
abbrev gD(bs:Z XQ)(ss:Z XM)(js:Z X4)(E:Z YZ)(ls:Z YA)(ks:Z YD)(h lm:ah)(kp:D×ah)(XJ:Z (Z XR×D)):D:=ō "Grounds" (gFo bs ss js E ls ks h lm kp XJ)
abbrev Ye(z:aJ)(bs:Z XQ)(ss:Z XM)(js:Z X4)(E:Z YZ)(ls:Z YA)(ks:Z YD)(h lm:ah)(kp:D×ah)(XJ:Z (Z XR×D))(Γ A af:Z (XR×D))(T:Z (Z XR×D))(P:Z (XR×D)):D:=lkD z "Facts" (fF (gD bs ss js E ls ks h lm kp XJ) Γ A af T P)
theorem P1{f:aj}{fs:Fo}{y:Yi}(j:ag)(nd:(fs.map (·.1)).Nodup)(hj:fs[j]?=U (f,y))(h1:fo Y=U (lkD z c fs)):bh c f fo Y=U (lkF z y):=by unfold bh;rw[h1];show(if c=c then (fs.map λq=>(q.1,lkF z q.2)).lookup f else B)=_;rw[qY W];show mE (i:=j) (by rw[qp];show nd) ?_;rw[ql,hj];rfl
theorem wP{F:FQ}{fs:Fo}(hm:m∉fs.map (·.1))(h1:fo Y=U (lkD z c fs))(h2:fr Y=U ds)(h3:F (lkD z c fs::ds)=U d):bp c m F fo fr Y=U d:=by let Zi:(fs.map λq=>(q.1,lkF z q.2)).lookup m=B:=ly (by rw[qp];show hm);unfold bp;rw[h1];show(if c=c/\(fs.map λq=>(q.1,lkF z q.2)).lookup m=B then (fr Y).bind λds=>F (lkD z c fs::ds) else B)=_;rw[qY #[W,Zi],h2];show h3
theorem lf:aT (lkF z (.k Γ)) (.str x)=bw Γ (.inr x):=by cases z<;>(show(U (bw Γ (.inr x))).bind id=_;rfl)
def gX{f:aj}{y:Yi}(j:ag)(h1:fo Y=U .(i))(hj:(fF (gD bs ss js E ls ks h lm kp XJ) Γ A af T P)[j]?=U (f,y)):bh "Facts" f fo Y=U (lkF z y):=P1 j (uE _ _ _ _ _ _) hj h1
def jz{f:aj}{y:Yi}(j:ag)(h1:fo Y=U .(i))(hj:(gFo bs ss js E ls ks h lm kp XJ)[j]?=U (f,y)):bh "Grounds" f (bh "Facts" "grounds" fo) Y=U (foF y):=Oo (fs:=gFo bs ss js E ls ks h lm kp XJ) j iG hj ((gX 0 h1 W).trans (by cases z<;>rfl))
noncomputable def wn(s:XM):Z aj:=s.ws.map (·.1)
theorem AK{fs:Fo}(h:g (U (.fo ai c fs)::(ds.map (λd=>U (Slot.sh d))++bQ n B))=U (.nx,U (.fo ai c À)::Y')):oN n c g fs ds=U (.non,À):=by unfold oN;rw[h,qb];show qY W
theorem Bh{b:aJ}{fs:Fo}(h1:Y[i]?=U (U (.fo b c fs)))(h2:f (Y.set i (oS (ō c fs)))=U d)(h3:œ d=ai):bwF i f Y=U d:=by unfold bwF;rw[h1];show(f _).bind _=_;rw[h2];show qY h3
theorem yZ{f:FA}{b:aJ}{fs:Fo}(h1:Y[i]?=U (U (.fo b c fs)))(h2:f (Y.set i (oS (ō c fs)))=U ds)(h3:fZ ds=ai):iJ i f Y=U ds:=by unfold iJ;rw[h1];show(f _).bind _=_;rw[h2];show qY h3
theorem Nz{bn:Z aj}(M:∀x∈bn,bz x=ai):∀(ws:Z aj)(a:au Slot),(∀x∈ws,bz x=ai)->b9 (aA 0) (XX (b2 l9 (C 0) (C 1))) (C 0) (ws.map D.str) [a,oS (.lst (bn.map D.str))]=U ((ws.filter λx=>decide (x∈bn)).map D.str):=by
 intro X7
 induction X7 with
 |nil=>
  intro _ _;show W
 |cons x r ih=>
  intro a hw;let ih:=ih (oS (.str x)) λy hy=>hw y (qh _ hy);let t:XX (b2 l9 (C 0) (C 1)) [oS (.str x),oS (.lst (bn.map D.str))]=U (decide (x∈bn)):=bD (aB W W (Du (hw x qg) M));rw[qo,rh t,ih,sL];cases decide (x∈bn)<;>rfl
theorem mR(g:X3 bs ss js E ls ks h)(hs:s∈ss):∀x∈wn s,bz x=ai:=λx hx=>by let⟨w,hw,rfl⟩:=bo.mp hx;show g.bnn _ ((g.s s hs).ws w hw).1
theorem mz(g:X3 bs ss js E ls ks h)(hs:s∈ss)(h1:fo Y=U .(i))(hk:fk Y=U (.str s.nm)):b2 aT (bh "Grounds" "lengths" (bh "Facts" "grounds" fo)) fk Y=U (ο s):=
 aB (jz 3 h1 W) hk (show((U (bw (Yo ο ss) (.inr s.nm))).bind id)=_ by rw[gB g.sn hs];rfl)
theorem Da:(s.ws.map λw=>((.inr w.1:XR),D.int w.2)).map (λkv=>cU kv.1)=(wn s).map D.str:=by unfold wn;rw[qp,qp];rfl
def FF(g:X3 bs ss js E ls ks h)(hs:s∈ss){bn:Z aj}(M:∀x∈bn,bz x=ai)(hl:Γ.length<100000):uN (fF (gD bs ss js E ls ks h lm kp XJ) Γ A af T P) [.str s.nm,.lst (bn.map D.str)]=U (.non,fF (gD bs ss js E ls ks h lm kp XJ) (ce Γ (.inr s.nm) (.lst (((wn s).filter λx=>decide (x∈bn)).map D.str))) A af T P):=by
 show AK (me 1 W (uE _ _ _ _ _ _) W W (Bh W (fH ?_) (FJ _)) hl);unfold uw;rw[mz (z:=ar) g hs W W];let hfl:lfS (oS (.lst (bn.map D.str)))=oS (.lst (bn.map D.str)):=qY (by show(bn.map D.str).all gA=ai;rw[pk,iu];exactλ_ _=>rfl)
 show(if (s.ws.map λw=>((.inr w.1:XR),D.int w.2)).length<=aK then (b9 _ _ _ ((s.ws.map λw=>((.inr w.1:XR),D.int w.2)).map λkv=>cU kv.1) [B,lfS (oS (.lst (bn.map D.str)))]).bind _ else B)=_;rw[qY (by rw[qf];let:=(g.s s hs).l4;unfold aK;ext),hfl,Da,Nz M (wn s) B (mR g hs),qb,qY];rw[pk,iu];exactλ_ _=>rfl
theorem E8{k:aj}{x y:D}{G:D}(ha:A.length<100000)(M:af.length<100000):ui (fF G Γ A af T P) [.str k,x,y]=U (.non,fF G Γ (ce A (.inr k) x) (ce af (.inr k) y) T P):=by show AK ((oa (me 2 W (uE _ _ _ _ _ _) W W W ha)).trans (me 3 W (uE _ _ _ _ _ _) W W W M))
def wD(g:X3 bs ss js E ls ks h)(hs:s∈ss):pL [Ye z bs ss js E ls ks h lm kp XJ Γ A af T P,.str s.nm]=U (.int (Y5 js lm h s.nm)):=
 bR _ W (bP (aB (jz 6 W W) W (show((U (bw (Yo (λs=>.int (Y5 js lm h s.nm)) ss) (.inr s.nm))).bind id)=_ by rw[gB g.sn hs];rfl)))
def YW(s:XM)(b:aj):ah:=match bw (s.ws.map λw=>((.inr w.1:XR),D.int w.2)) (.inr b) with
 |some (.int n)=>n
 |_=>0
theorem C4(nd:(s.ws.map (·.1)).Nodup){w:aj×ah}(hw:w∈s.ws):bw (s.ws.map λw=>((.inr w.1:XR),D.int w.2)) (.inr w.1)=U (.int w.2):=gB nd hw
theorem oH(nd:(s.ws.map (·.1)).Nodup){w:aj×ah}(hw:w∈s.ws):YW s w.1=w.2:=by unfold YW;rw[C4 nd hw]
theorem rA(nd:(s.ws.map (·.1)).Nodup){b:aj}(M:b∈wn s):aT (ο s) (.str b)=U (.int (YW s b)):=by let⟨w,hw,rfl⟩:=bo.mp M;rw[oH nd hw];show(U (bw (s.ws.map λw=>((.inr w.1:XR),D.int w.2)) (.inr w.1))).bind id=_;rw[C4 nd hw];rfl
theorem Q3(nd:(s.ws.map (·.1)).Nodup):∀(l:Z aj)(a:au Slot),(∀b∈l,b∈wn s)->b9 (aA 0) tT (b2 aT (C 1) (C 0)) (l.map D.str) [a,oS (ο s)]=U ((l.map (YW s)).map D.int):=by
 intro X7
 induction X7 with
 |nil=>
  intro _ _;show W
 |cons x r ih=>
  intro a hl;let e:=ih (oS (.str x)) λb M=>hl b (qh _ M);rw[qo,rh W,qY W,e];let:b2 aT (C 1) (C 0) [oS (.str x),oS (ο s)]=U (.int (YW s x)):=aB W W (rA nd (hl x qg));rw[this];rfl
theorem sY:∀l:Z ah,fX (l.map D.int)=U l:=by
 intro X7
 induction X7 with
 |nil=>
  show W
 |cons x r ih=>
  show(fX (r.map D.int)).map _=_;rw[ih];rfl
def Q7(g:X3 bs ss js E ls ks h)(hs:s∈ss){o:Z aj}(ho:bw Γ (.inr s.nm)=U (.lst (o.map D.str)))(hw:∀b∈o,b∈wn s)(hl:o.length<=1000):yq [Ye z bs ss js E ls ks h lm kp XJ Γ A af T P,.str s.nm]=U (.lst ((o.map (YW s)).map D.int)):=by show bR _ W ((e7 (mz g hs W W)).trans (bP (fH ?_)));unfold aW X6;rw[aB (gX 1 W W) W (lf.trans ho)];show(if (o.map D.str).length<=aK then _ else _)=_;rw[qY (by rw[qf];unfold aK;ext)];show Q3 (g.s s hs).nd o B hw
def ŧ(g:X3 bs ss js E ls ks h)(hs:s∈ss){o:Z aj}(ho:bw Γ (.inr s.nm)=U (.lst (o.map D.str)))(hw:∀b∈o,b∈wn s)(hl:o.length<=1000):uR [Ye z bs ss js E ls ks h lm kp XJ Γ A af T P,.str s.nm]=U (jO (o.map (YW s))):=by show bR _ W (bP ?_);unfold b1;rw[wP (show("open_lengths":aj)∉eG by decide +kernel) W (ax W aF) (Q7 g hs ho hw hl)];show(fX ((o.map (YW s)).map D.int)).map jO=_;rw[sY];rfl
theorem t7{F:Fo->Z D->au (D×Fo)}{b:aJ}{fs:Fo}(h1:Y[i]?=U (U (.fo b c fs)))(hm:m∉fs.map (·.1))(h2:fr Y=U ds)(h3:F fs ds=U (d,À)):kS c m i F fr Y=U (.nx,Y.set i (U (.fo b c À))):=by unfold kS;rw[h1];show(if c=c/\fs.lookup m=B then _ else B)=_;rw[qY #[W,ly hm],h2,qb,h3];rfl
theorem Mm(l:Z aj):l.filter (λx=>decide (x∈l))=l:=List.filter_eq_self.mpr λx hx=>qU hx
end
section
variable{bs:Z XQ}{kp:D×ah}{A P:Z (XR×D)}{z:aJ}{s:XM}
theorem yk(h:fr Y=U ds)(hl:ds.length<=1000):X5 fr Y=U ds:=by unfold X5;rw[h];show qY (by unfold aK;ext)
noncomputable def ξ(i j:ah):ah:=if j > i then j else i
def lsW(s:XM):ah:=mnI (s.ws.map (·.2))
theorem Js(nd:(s.ws.map (·.1)).Nodup){l:Z (aj×ah)}(hl:∀w∈l,w∈s.ws):(l.map (·.1)).map (YW s)=l.map (·.2):=by rw[qp];show iC λw hw=>oH nd (hl w hw)
theorem Rz(h:ns≠[]):jO ns=.int (mnI ns):=qZ h
def Ly(g:X3 bs ss js E ls ks h)(hs:s∈ss)(ho:bw Γ (.inr s.nm)=U (.lst ((wn s).map D.str))):uR [Ye z bs ss js E ls ks h lm kp XJ Γ A af T P,.str s.nm]=U (.int (lsW s)):=by
 rw[ŧ g hs ho (λ_ h=>h) (by unfold wn;rw[qf];let:=(g.s s hs).l4;ext)];rw[show(wn s).map (YW s)=s.ws.map (·.2) from Js (g.s s hs).nd λ_ h=>h,Rz]
 .rfl
 intro z;let h1:=bM cC z;rw[qf] at h1;let h3:=(g.s s hs).l1;simp only[qm] at h1;ext
def à(H:b8)(s:XM):Z aj:=match lk H s.nm with
 |some p=>(wn s).filter λx=>decide (x∈[p.1])
 |none=>wn s
def î(H:b8)(js:Z X4)(nw:ah)(s:XM):ah:=match lk H s.nm with
 |some p=>ξ p.2 (Ę js s.nm)
 |none=>ξ nw (Ę js s.nm)
def ë(H:b8)(js:Z X4)(lm h:ah)(s:XM):ah:=match lk H s.nm with
 |some p=>p.2
 |none=>Y5 js lm h s.nm-lsW s
abbrev Ŕ(H:b8)(s:XM):D:=.lst ((à H s).map D.str)
abbrev Φ(H:b8)(js:Z X4)(nw:ah)(s:XM):D:=.int (î H js nw s)
abbrev Ζ(H:b8)(js:Z X4)(lm h:ah)(s:XM):D:=.int (ë H js lm h s)
abbrev fiE(fs:Fo)(S:D)(lm:ah)(H:b8)(nw:ah)(a b c:au Slot):bG:=[U (.fo ai "Facts" fs),oS S,oS (.int lm),oS (pD H),oS .non,oS (.int 0),oS (.int nw),a,b,c]
abbrev rE(G:D)(H:b8)(js:Z X4)(lm h nw:ah)(l:Z XM):Fo:=fF G (Yo (Ŕ H) l) (Yo (Φ H js nw) l) (Yo (Ζ H js lm h) l) [] []
theorem wk{P:b8}(h1:fk Y=U (.str m))(h2:fo Y=U (pD P)):XX (b2 k0 fk fo) Y=U (lk P m).isSome:=bD (aB h1 h2 (by show((gG (D.str m)).map λk=>D.bl (bw (tb Zl P) k).isSome)=_;show U (D.bl (bw (tb Zl P) (.inr m)).isSome)=_;rw[tP];cases lk P m<;>rfl))
theorem OJ(g:X3 bs ss js E ls ks h)(H:b8)(hH:∀q∈H,bz q.2.1=ai):Wp (oF [bd bs ss js E ls ks h,.int lm,pD H,.non,.int 0,.int nw]) λfs=>∃XJ,fs=rE (gD bs ss js E ls ks h lm (.non,0) XJ) H js lm h nw ss/\Œ ss js ls XJ:=by
 let hN:=jX (bs:=bs) (ss:=ss) (js:=js) (E:=E) (ls:=ls) (ks:=ks) (h:=h) g.sl.2;let⟨_,hg,XJ,rfl,hk⟩:=QQ (lm:=lm) (kp:=(.non,0)) g .non;let nm:∀{m:aj},m∉eG->∀{G:D}{Γ A af:Z (XR×D)}{T:Z (Z XR×D)}{P:Z (XR×D)},m∉(fF G Γ A af T P).map (·.1):=λhm=>hm;unfold oF;show Bz (dI (nP (d:=gD bs ss js E ls ks h lm (.non,0) XJ) mP 0 W W W (aU (ax W (ax W .(k))) (show(uz _).map _=_ by rw[show([bd bs ss js E ls ks h,D.int lm,.non,.int 0]++[]:Z D)=[bd bs ss js E ls ks h,.int lm,.non,.int 0] from W,hg];rfl))) (dI (j7 mP 1 W W W) (dI (j7 mP 2 W W W) (dI (j7 mP 3 W W W) (dI (j7 mP 4 W W W) (dI (j7 mP 5 W W W) ?_))))));show Wp (bN _ _ _ (fiE (rE (gD bs ss js E ls ks h lm (.non,0) XJ) H js lm h nw (ss.take 0)) .(g) lm H nw B B B)) _;show il (λi Y=>∃a b c,Y=fiE (rE (gD bs ss js E ls ks h lm (.non,0) XJ) H js lm h nw (ss.take i)) .(g) lm H nw a b c) (eB (aG (cM (by decide +kernel) W aF hN) (aG W #[#[B,B,B,W],?_,?_])))
 .rintro i x Y hx ⟨a,b,c,rfl⟩;rw[qp,ql] at hx;let⟨s,hs,rfl⟩:=YE hx;let hm:=qR hs;show aG W (bB (aG (Bh (d:=.int (Ę js s.nm)) W (aB (jz (z:=ar) 5 W W) W (show((U (bw (Yo (λs=>.int (Ę js s.nm)) ss) (.inr s.nm))).bind id)=_ by rw[gB (nm:=λs:XM=>s.nm) g.sn hm];rfl)) W) ?_));let e1:=l7 g.sn hs (Ŕ H);let e2:=l7 g.sn hs (Φ H js nw);let e3:=l7 g.sn hs (Ζ H js lm h);cases hl:lk H s.nm with
  |some p=>
   let hon:à H s=(wn s).filter λx=>decide (x∈[p.1]):=by unfold à;rw[hl]
   let hfa:î H js nw s=ξ p.2 (Ę js s.nm):=by unfold î;rw[hl]
   let hla:ë H js lm h s=p.2:=by unfold ë;rw[hl]
   show eS (aG (a:=ai) (mB (a:=ai) W λ_=>(wk W W).trans (by rw[hl];rfl)) #[λ_=>?_,λq=>nomatch q]);show bB (aG (cZ W W hl 1 W) ?_);show dI (t7 W (nm (by decide +kernel)) (ax W (ax (fH (yk (ax (cZ W W hl 0 W) aF) (show(1:ag)<=1000 by decide))) aF)) (FF (bn:=[p.1]) g hm (λx hx=>by rw[bL.mp hx];show hH _ (kR hl)) (jf _ g.sl.2 _))) ?_;rw[<-hon,e1];show aG (t7 W (nm (by decide +kernel)) (ax W (ax (aU .(k) W) (ax W aF))) (E8 (jf _ g.sl.2 _) (jf _ g.sl.2 _))) #[W,?_];show#[oS (.str s.nm),oS (.int (Ę js s.nm)),oS (.int p.2),?_];unfold rE;rw[<-e2,<-e3];show _=fiE (fF _ _ (ce _ _ (.int (î H js nw s))) (ce _ _ (.int (ë H js lm h s))) _ _) _ _ _ _ _ _ _;rw[hfa,hla];rfl
  |none=>
   let hon:à H s=wn s:=by unfold à;rw[hl]
   let hfa:î H js nw s=ξ nw (Ę js s.nm):=by unfold î;rw[hl]
   let hla:ë H js lm h s=Y5 js lm h s.nm-lsW s:=by unfold ë;rw[hl]
   show eS (aG (a:=ar) (mB (a:=ai) W λ_=>(wk W W).trans (by rw[hl];rfl)) #[(λq=>nomatch q),λ_=>?_]);show dI (t7 W (nm (by decide +kernel)) (yZ W (ax W (ax (aU (z:=.lst ((wn s).map D.str)) (ax (mz (z:=ar) g hm W W) aF) ?_) aF)) ?_) (FF g hm (mR g hm) (jf _ g.sl.2 _))) ?_
   .show U (D.lst ((s.ws.map λw=>((.inr w.1:XR),D.int w.2)).map λkv=>cU kv.1))=_;rw[Da]
   .show(œ (.str s.nm) && (fZ ((wn s).map D.str) && ai))=ai;rw[FJ];rfl
   rw[Mm];let ę:ce (Yo (Ŕ H) (ss.take i)) (.inr s.nm) (.lst ((wn s).map D.str))=Yo (Ŕ H) (ss.take (i+1)):=by rw[<-hon];show e1
   rw[ę];let hn:=Ly (lm:=lm) (kp:=(.non,0)) (XJ:=XJ) (Γ:=Yo (Ŕ H) (ss.take (i+1))) (A:=Yo (Φ H js nw) (ss.take i)) (af:=Yo (Ζ H js lm h) (ss.take i)) (T:=[]) (P:=[]) (z:=ar) g hm (by rw[<-hon];show gB (nm:=λs:XM=>s.nm) (f:=Ŕ H) (pi ((lK _ _).map _) g.sn) ?_;rw[i8,hs];simp)
   show aG (t7 W (nm (by decide +kernel)) (yZ W (ax W (ax (aU .(k) W) (ax (aB (FW (c:="Facts") (nm (by decide +kernel)) W (ax W aF) (wD (z:=ar) g hm)) (FW (c:="Facts") (nm (by decide +kernel)) W (ax W aF) hn) W) aF))) W) (E8 (jf _ g.sl.2 _) (jf _ g.sl.2 _))) #[W,?_];show#[oS (.str s.nm),oS (.int (Ę js s.nm)),c,?_];unfold rE;rw[<-e2,<-e3];show _=fiE (fF _ _ (ce _ _ (.int (î H js nw s))) (ce _ _ (.int (ë H js lm h s))) _ _) _ _ _ _ _ _ _;rw[hfa,hla];rfl
 .rintro Y ⟨a,b,c,rfl⟩;rw[qf,qf,eN];show#[W,_,W,XJ,W,hk]
end
def RX{a b:Z aj}(ha:∀x∈a,bz x=ai)(M:∀x∈b,bz x=ai):Ŏ (.lst (a.map D.str)) (.lst (b.map D.str))=U (.bl (decide (a=b))):=by
 let e0:Ŏ (.lst (a.map D.str)) (.lst (b.map D.str))=t5 (.lst (a.map D.str)) (.lst (b.map D.str)):=rfl;let p:∀l:Z aj,Zh (.lst (l.map D.str))=U (.list (l.map ja)):=λl=>by simp[Zh,uQ]
 rw[e0];unfold t5 eqX;rw[p a,p b,qb,qb,qY #[za ha,za M]];show U (D.bl (nJ (a.map ja) (b.map ja)))=_;rw[Cm]
section
variable{bs:Z XQ}{kp:D×ah}{A P:Z (XR×D)}{z:aJ}{s t:XM}{bm:XM->Z aj}{f l:ah}
structure Op(ss:Z XM)(bm:XM->Z aj)(Γ:Z (XR×D)):Prop where
 at':∀s∈ss,bw Γ (.inr s.nm)=U (.lst ((bm s).map D.str))
structure Bn(ss:Z XM)(bm:XM->Z aj):Prop where
 nb:∀s∈ss,∀x∈bm s,bz x=ai
noncomputable def sm(bm:XM->Z aj)(s t:XM):aJ:=decide ((bm s).length=1) && decide (bm s=bm t)
theorem NE(M:Bn ss bm)(ho:Op ss bm Γ)(hs:s∈ss)(ht:t∈ss)(h1:fa Y=U (.lst ((bm s).map D.str)))(h2:fb Y=U (.lst ((bm t).map D.str))):cm (b2 â (cF cb (J fa aq)) .(e)) (b2 Ŏ fa fb) Y=U (.bl (sm bm s t)):=by
 let e1:b2 â (cF cb (J fa aq)) .(e) Y=U (.bl (decide ((bm s).length=1))):=by
  show(aB (x:=.int (bm s).length) (aU (ax h1 aF) ?_) W W).trans ?_
  .show U (D.int ((bm s).map D.str).length)=_;rw[qf]
  .congr 2
   rw[WT];ext
 let e2:b2 Ŏ fa fb Y=U (.bl (decide (bm s=bm t))):=aB h1 h2 (RX (M.nb s hs) (M.nb t ht));show uH e1 λ_=>e2
theorem wm(ho:Op ss bm Γ)(hs:s∈ss)(h1:fo Y=U .(i))(h2:fk Y=U (.str s.nm)):b2 aT (bh "Facts" "open_benches" fo) fk Y=U (.lst ((bm s).map D.str)):=
 aB (gX 1 h1 W) h2 (lf.trans (ho.at' s hs))
def Nd(M:Bn ss bm)(ho:Op ss bm Γ)(hs:s∈ss)(ht:t∈ss):ux [Ye z bs ss js E ls ks h lm kp XJ Γ A af T P,.str s.nm,.str t.nm]=U (.bl (sm bm s t)):=
 bR [oS .(i),oS (.str s.nm),oS (.str t.nm)] W (bP (NE M ho hs ht (wm ho hs W W) (wm ho ht W W)))
def eP{F:FQ}(hm:m∉eG)(h1:fo Y=U .(i))(h2:fr Y=U ds)(h3:F (Ye z bs ss js E ls ks h lm kp XJ Γ A af T P::ds)=U d):bp "Facts" m F fo fr Y=U d:=wP (c:="Facts") (fs:=fF (gD bs ss js E ls ks h lm kp XJ) Γ A af T P) hm h1 h2 h3
def gpI(js:Z X4)(E:Z YZ)(ls:Z YA)(bm:XM->Z aj)(s t:XM):ah:=
 if sm bm s t=ai then (if stI E ((bm s).getD 0 "") s.kd t.kd > (dq js ls s.nm t.nm).getD 0 then stI E ((bm s).getD 0 "") s.kd t.kd else (dq js ls s.nm t.nm).getD 0) else (dq js ls s.nm t.nm).getD 0
def S8(g:X3 bs ss js E ls ks h)(hk:Œ ss js ls XJ)(M:Bn ss bm)(ho:Op ss bm Γ)(hs:s∈ss)(ht:t∈ss):yy [Ye z bs ss js E ls ks h lm kp XJ Γ A af T P,.str s.nm,.str t.nm]=U (.int (gpI js E ls bm s t)):=by
 let em:∀y w:au Slot,bp "Facts" "have_one_bench" ux (C 0) (J (C 1) (J (C 2) aq)) [oS .(i),oS (.str s.nm),oS (.str t.nm),y,w]=U (.bl (sm bm s t)):=λy w=>eP (by decide +kernel) W .(k) (Nd M ho hs ht);let e1:b3 tO (bh "Grounds" "known_gaps" (bh "Facts" "grounds" (C 0))) (ba (X5 (J (C 1) (J (C 2) aq)))) .(f) [oS .(i),oS (.str s.nm),oS (.str t.nm),B,B]=U (.int ((dq js ls s.nm t.nm).getD 0)):=by unfold b3;rw[jz (z:=z) (bs:=bs) (ss:=ss) (js:=js) (E:=E) (ls:=ls) (ks:=ks) (h:=h) (lm:=lm) (kp:=kp) (XJ:=XJ) (Γ:=Γ) (A:=A) (af:=af) (T:=T) (P:=P) (fo:=C 0) 8 W W,lB W W];show U ((bw XJ (kk s.nm t.nm)).getD (.int 0))=_;rw[hk.at' _ (qX hs) _ (qX ht)];cases dq js ls s.nm t.nm<;>rfl
 unfold gpI;cases e:sm bm s t with
 |false=>
  rw[qZ qt];show bR [oS .(i),oS (.str s.nm),oS (.str t.nm),B,B] W ((e7 e1).trans (uB ?_ (bP W)));show jS (bD ((em _ _).trans (by rw[e])))
 |true=>
  rw[qY W];let l1:(bm s).length=1:=by unfold sm at e;rw[cW] at e;show eq e.1
  let⟨b0,hb0⟩:=List.length_eq_one_iff.mp l1;show bR [oS .(i),oS (.str s.nm),oS (.str t.nm),B,B] W ((e7 e1).trans ((f9 ?_).trans ((e7 (d:=bd bs ss js E ls ks h) ?_).trans (bP (aU (ax W (ax (d:=.int (stI E ((bm s).getD 0 "") s.kd t.kd)) ?_ aF)) W)))))
  .exact jS (bD ((em _ _).trans (by rw[e])))
  .exact eP (by decide +kernel) W aF (bR [oS .(i)] W (bP (jz 0 W W)))
  .refine cM (by decide +kernel) W (ax (aB (wm ho hs W W) W (z:=.str ((bm s).getD 0 "")) ?_) (ax (cM (by decide +kernel) W (ax W aF) (vo g hs)) (ax (cM (by decide +kernel) W (ax W aF) (vo g ht)) aF))) Eu;rw[hb0];rfl
def wt{b:aJ}(hk:jc kp.1 .non=U (.bl b)):lu [Ye z bs ss js E ls ks h lm kp XJ Γ A af T P]=U (.bl b):=
 bR [oS .(i)] W (bP (aB (jz 1 W W) W hk))
def Lc:t6 [Ye z bs ss js E ls ks h lm kp XJ Γ A af T P]=U .(g):=
 bR [oS .(i)] W (bP (jz 0 W W))
def WZ(hk:kp.1=.dk kl):pr [Ye z bs ss js E ls ks h lm kp XJ Γ A af T P,.str m]=U ((bw kl (.inr m)).getD .non):=by let hh:lu [Ye z bs ss js E ls ks h lm kp XJ Γ A af T P]=U (.bl ai):=wt (by rw[hk];rfl);show bR [oS .(i),oS (.str m)] W (bP ?_);unfold ĩ;rw[bD (eP (show("has_kept":aj)∉eG by decide +kernel) W aF hh),qb,qY W];show aB (x:=kp.1) (jz 1 W W) W ?_;rw[hk];rfl
def WX{y:D}(hk:kp.1=.dk kl)(hz:tq [.dk kl]=U y):vt [Ye z bs ss js E ls ks h lm kp XJ Γ A af T P]=U y:=by let hh:lu [Ye z bs ss js E ls ks h lm kp XJ Γ A af T P]=U (.bl ai):=wt (by rw[hk];rfl);show bR [oS .(i)] W (bP ?_);unfold ĩ;rw[bD (eP (show("has_kept":aj)∉eG by decide +kernel) W aF hh),qb,qY W];show aU (ax (d:=kp.1) (jz 1 W W) aF) (by rw[hk];show hz)
def DM(g:X3 bs ss js E ls ks h)(hs:s∈ss){o:Z aj}{b:aj}{st:ah}(hO:bw Γ (.inr s.nm)=U (.lst (o.map D.str)))(ho:∀x∈o,x∈wn s)(hA:bw A (.inr s.nm)=U (.int f))(hB:bw af (.inr s.nm)=U (.int l))(M:bz b=ai):
  kM [Ye z bs ss js E ls ks h lm kp XJ Γ A af T P,.str s.nm,.str b,.int st]=U (.bl (decide (b∈o) && (decide (f<=st) && decide (st<=l)) && decide (st+YW s b<=Y5 js lm h s.nm))):=by
 let nb:∀x∈o,bz x=ai:=λx hx=>mR g hs x (ho x hx);let e1:XX (b2 jR (C 2) (b2 aT (bh "Facts" "open_benches" (C 0)) (C 1))) [oS .(i),oS (.str s.nm),oS (.str b),oS (.int st)]=U (!decide (b∈o)):=bD (aB W (aB (gX 1 W W) W (lf.trans hO)) (Dt M nb));let e2:bA (XX (ą Y0 Y0 (b2 aT (bh "Facts" "firsts" (C 0)) (C 1)) (C 3) (b2 aT (bh "Facts" "lasts" (C 0)) (C 1)))) [oS .(i),oS (.str s.nm),oS (.str b),oS (.int st)]=U (!(decide (f<=st) && decide (st<=l))):=jS (bD (BO (aB (gX 2 W W) W (lf.trans hA)) W (aB (gX 3 W W) W (lf.trans hB))));let e3:=bor e1 e2;by_cases hh:b∈o/\f<=st/\st<=l
 .refine bR [oS .(i),oS (.str s.nm),oS (.str b),oS (.int st)] W ((f9 (e3.trans ?_)).trans (bP ?_))
  .simp[hh]
  .refine(aB (aB W (aB (mz g hs W W) W (rA (g.s s hs).nd (ho b hh.1))) W) (eP (by decide +kernel) W (ax W aF) (wD g hs)) W).trans ?_;simp[hh]
 .let q:(decide (b∈o) && (decide (f<=st) && decide (st<=l)))=ar:=by
   rw[WU,WU];by_cases q:b∈o
   .by_cases q2:f<=st
    .exact .inr (.inr (qP λq3=>hh #[q,q2,q3]))
    .exact .inr (.inl (qP q2))
   .exact .inl (qP q)
  rw[q];show bR [oS .(i),oS (.str s.nm),oS (.str b),oS (.int st)] W (uB (e3.trans ?_) (bP W));rw[<-Bool.not_and,q];rfl
end
def O0{p q:aj×ah}(hp:bz p.1=ai)(hq:bz q.1=ai):Ļ (Zl p) (Zl q)=U (.bl (!decide (p=q))):=by
 let e0:Ļ (Zl p) (Zl q)=nQ (Zl p) (Zl q):=rfl;let sh:∀r:aj×ah,bz r.1=ai->fP (.tuple [.str r.1,.int r.2])=ai:=λr h=>by simp[fP,sM,o8,tu h,sN,wc]
 let pd:∀r:aj×ah,Zh (Zl r)=U (.tuple [.str r.1,.int r.2]):=λr=>by simp[Zh,iD]
 rw[e0];unfold nQ eqX;rw[pd,pd,qb,qb,qY #[sh p hp,sh q hq]];show U (D.bl (!jJ (.tuple [.str p.1,.int p.2]) (.tuple [.str q.1,.int q.2])))=_
 congr 3
 let⟨a,i⟩:=p;let⟨b,j⟩:=q;rw[m9];simp[jJ,nJ]
def plO(P:b8)(m:aj):aj×ah:=(lk P m).getD ("",0)
def DY{P:b8}{p:aj×ah}(h:lk P m=U p):plO P m=p:=by unfold plO;rw[h];rfl
noncomputable def sAt(ss:Z XM)(m:aj):XM:=(ss.find? λs=>decide (s.nm=m)).getD #[m,m,[]]
def rf:∀{ss:Z XM}{s:XM},(ss.map (·.nm)).Nodup->s∈ss->sAt ss s.nm=s
 |t::r,s,nd,hs=>by
  rw[qo,dD] at nd;unfold sAt;rw[eY];by_cases e:t.nm=s.nm
  .rw[qU e];rcases cg.mp hs with q|q
   .exact q.symm
   .exact bj (qX (f:=(·.nm)) q) (by rw[<-e];show nd.1)
  .rw[qP e];rcases cg.mp hs with q|q
   .exact bj (by rw[q]) e
   .exact rf nd.2 q
structure FSt(ss:Z XM)(kd:D)(Γ A af:Z (XR×D))(T:Z (Z XR×D))(N:Z (XR×D))(on:XM->Z aj)(fa la:XM->ah)(ts:Z (aj×aj))(ns:Z aj):Prop where
 o:Op ss on Γ
 ow:∀s∈ss,∀x∈on s,x∈wn s
 ak:A.map (·.1)=ss.map λs=>bZ s.nm
 a:∀s∈ss,bw A (.inr s.nm)=U (.int (fa s))
 b:∀s∈ss,bw af (.inr s.nm)=U (.int (la s))
 tk:T.map (·.1)=ts.map λp=>kk p.1 p.2
 tm:∀p∈ts,∃a∈ss,∃b∈ss,p=(a.nm,b.nm)
 tl:ts.length<=100
 nk:N.map (·.1)=ns.map bZ
 nl:ns.length<=100
 nm:∀m∈ns,∃K:b8,kd=.dk (tb Zl K)/\∃p,lk K m=U p
variable{on:XM->Z aj}{la:XM->ah}
section
variable{bs:Z XQ}{kp:D×ah}{A N:Z (XR×D)}{z:aJ}{s t:XM}{fa:XM->ah}{ts:Z (aj×aj)}{ns:Z aj}{P:b8}
def FSt.bn(F:FSt ss kp.1 Γ A af T N on fa la ts ns)(g:X3 bs ss js E ls ks h):Bn ss on:=⟨λs hs x hx=>mR g hs x (F.ow s hs x hx)⟩
def Ũ(js:Z X4)(lm h:ah)(on:XM->Z aj)(fa la:XM->ah)(s:XM)(p:aj×ah):aJ:=decide (p.1∈on s) && (decide (fa s<=p.2) && decide (p.2<=la s)) && decide (p.2+YW s p.1<=Y5 js lm h s.nm)
def okO(ss:Z XM)(js:Z X4)(E:Z YZ)(ls:Z YA)(on:XM->Z aj)(P:b8)(p:aj×aj):aJ:=decide ((plO P p.1).2+YW (sAt ss p.1) (plO P p.1).1+gpI js E ls on (sAt ss p.1) (sAt ss p.2)<=(plO P p.2).2)
theorem Ud(nd:(s.ws.map (·.1)).Nodup){b:aj}{n:ah}(hn:lk s.ws b=U n):YW s b=n:=oH nd (kR hn)
def TK(g:X3 bs ss js E ls ks h)(hk:Œ ss js ls XJ)(F:FSt ss kp.1 Γ A af T N on fa la ts ns)(hO:δ ss P){p:aj×aj}(hp:p∈ts):u5 [Ye z bs ss js E ls ks h lm kp XJ Γ A af T N,pD P,.str p.1,.str p.2]=U (.bl (okO ss js E ls on P p)):=by let⟨a,ha,b,M,rfl⟩:=F.tm p hp;let⟨pa,n,e1,e2⟩:=hO a ha;let⟨pb,_,e3,_⟩:=hO b M;unfold okO;rw[DY e1,DY e3,rf g.sn ha,rf g.sn M];show bR _ W ((e7 (aB (cZ W W e1 1 W) (aB (mz g ha W W) (cZ W W e1 0 W) (rA (g.s a ha).nd (bo.mpr #[_,kR e2,W]))) W)).trans (bP (aB (cZ W W e3 1 W) (aB W (eP .(c) W .(k) (S8 g hk (F.bn g) F.o ha M)) W) W)))
end
noncomputable abbrev dPr(p:aj×aj):D:=.tup [.str p.1,.str p.2]
def QR{b:aj×aj->aJ}:∀(l:Z (aj×aj))(a c:au Slot),(∀p∈l,fe (oS (.str p.1)::oS (.str p.2)::r)=U (.bl (b p)))->b9 .(n) tT fe (l.map dPr) (a::c::r)=U ((l.map b).map D.bl):=by
 intro X7
 induction X7 with
 |nil=>
  intro _ _ _;show W
 |cons p l ih=>
  intro a c h;let e:b9 .(n) tT fe ((p::l).map dPr) (a::c::r)=(fe (oS (.str p.1)::oS (.str p.2)::r)).bind λd=>(b9 .(n) tT fe (l.map dPr) (oS (.str p.1)::oS (.str p.2)::r)).map (d::·):=rfl;rw[e,h p qg,ih _ _ λy hy=>h y (qh _ hy)];rfl
def BI{l:Z aJ}(h:fr Y=U (l.map D.bl)):cF er (J (aR fr) aq) Y=U (.bl (l.all id)):=aU (ax (fH h) aF) (by show(je _).map _=_;rw[Fx];rfl)
def tW{A:Z (XR×D)}(h:fo Y=U (.fdk A)):Ž fo Y=U (A.map λkv=>cU kv.1):=by unfold Ž;rw[h];rfl
def Ls{A:Z (Z XR×D)}(h:fo Y=U (.fdt A)):jr fo Y=U (A.map λkv=>.tup (kv.1.map cU)):=by unfold jr;rw[h];rfl
section
variable{bs:Z XQ}{mo:ah}{A N:Z (XR×D)}{z:aJ}{s t:XM}{fa:XM->ah}{ts:Z (aj×aj)}{ns:Z aj}{P K:b8}
abbrev KOf(ss:Z XM)(K:b8):Prop:=Ú K/\K.length<=5/\∀q∈K,∃s∈ss,s.nm=q.1
def UA(F:FSt ss .non Γ A af T N on fa la ts ns):uX [Ye ai bs ss js E ls ks h lm (.non,mo) XJ Γ A af T N,pD P]=U (.bl ai):=by
 let hh:lu [Ye ai bs ss js E ls ks h lm (.non,mo) XJ Γ A af T N]=U (.bl ar):=wt W;let hn:ns=[]:=by
  cases ns with
  |nil=>rfl
  |cons m r=>let⟨K,e,_⟩:=F.nm m qg;cases e
 let hN:N=[]:=by let:=F.nk;rw[hn] at this;show HC.mp this
 subst hN;let e1:vt [Ye ai bs ss js E ls ks h lm (.non,mo) XJ Γ A af T []]=U (.lst []):=by show bR _ W (bP ?_);unfold ĩ;rw[bD (eP .(c) W aF hh),qb,qZ qt];rfl
 show bR _ W ((e7 (fH (iV (db (eP .(c) W aF e1)) .(c) W))).trans ((f9 ?_).trans (bP (BI (l:=[]) (iV (xs:=[]) ?_ .(c) W)))))
 .exact mB (b:=ar) (bD (eP .(c) W aF hh)) λz=>nomatch z
 .exact tW (A:=[]) (gX (z:=ai) 5 W W)
end
section
variable{bs:Z XQ}{kp:D×ah}{A N:Z (XR×D)}{z:aJ}{s t:XM}{fa:XM->ah}{ts:Z (aj×aj)}{ns:Z aj}{P:b8}
def Win(ss:Z XM)(js:Z X4)(lm h:ah)(on:XM->Z aj)(fa la:XM->ah)(P:b8):Prop:=∀s∈ss,∃p,lk P s.nm=U p/\Ũ js lm h on fa la s p=ai
theorem Qx{b:aj}(M:b∈wn s):∃n,lk s.ws b=U n:=by
 cases e:lk s.ws b with
 |some n=>show#[n,W]
 |none=>show bj M (n5.mp e)
def To(F:FSt ss kp.1 Γ A af T N on fa la ts ns)(w:Win ss js lm h on fa la P):δ ss P:=λs hs=>by let⟨p,h1,h2⟩:=w s hs;unfold Ũ at h2;rw[cW,cW,gw] at h2;let⟨n,hn⟩:=Qx (F.ow s hs _ h2.1.1);show#[p,n,h1,hn]
def Ss(g:X3 bs ss js E ls ks h)(hk:Œ ss js ls XJ)(h12:ss.length<=12)(F:FSt ss kp.1 Γ A af T N on fa la ts ns)(hP:Ú P){kB:aJ}(e1:mm [bd bs ss js E ls ks h,pD P]=U d1)(eK:δ ss P->uX [Ye ai bs ss js E ls ks h lm kp XJ Γ A af T N,pD P]=U (.bl kB)):
  ∃d,vm [Ye ai bs ss js E ls ks h lm kp XJ Γ A af T N,pD P]=U d/\∃b,d=.bl b/\(b=ai↔Win ss js lm h on fa la P/\ts.all (okO ss js E ls on P)=ai/\kB=ai/\jV d1=ai):=by
 let ek:A.map (λkv=>cU kv.1)=(ss.map (·.nm)).map D.str:=by rw[show(A.map λkv=>cU kv.1)=(A.map (·.1)).map cU by rw[qp];rfl,F.ak,qp,qp];rfl
 let hX:=tW (Y:=[oS (Ye ai bs ss js E ls ks h lm kp XJ Γ A af T N),oS (pD P),B]) (gX (z:=ai) (fo:=C 0) 2 W W);rw[ek] at hX;show fW (cP (eC (λi Y=>(∃a,Y=[oS (Ye ai bs ss js E ls ks h lm kp XJ Γ A af T N),oS (pD P),a])/\∀s∈ss.take i,∃p,lk P s.nm=U p/\Ũ js lm h on fa la s p=ai) hX #[#[_,W],λs hs=>by cases hs] ?_) ?_)
 .rintro i x Y hx ⟨⟨a,rfl⟩,hI⟩;rw[qp,ql] at hx;let⟨s,hs,rfl⟩:=YE hx;let hm:=qR hs;cases hp:lk P s.nm with
  |none=>
   show aG W (dS (b:=ai) ?_ (λ_=>aG W #[ar,W,(λq=>nomatch q),λq=>?_]) λq=>nomatch q)
   .let e:XX (b2 mq (C 2) (C 1)) [oS (Ye ai bs ss js E ls ks h lm kp XJ Γ A af T N),oS (pD P),oS (.str s.nm)]=U ai:=(yQ W W).trans (by rw[hp];rfl);show(XX (b2 mq (C 2) (C 1)) [oS (Ye ai bs ss js E ls ks h lm kp XJ Γ A af T N),oS (pD P),oS (.str s.nm)]).bind _=_;rw[e];rfl
   .obtain⟨p,ſ,_⟩:=q.1 s hm;rw[hp] at ſ;cases ſ
  |some p=>
   let nb:=(hP.nb _ (kR hp)).2;let ew:=DM (z:=ai) (kp:=kp) (XJ:=XJ) (lm:=lm) (T:=T) (P:=N) (st:=p.2) g hm (F.o.at' s hm) (F.ow s hm) (F.a s hm) (F.b s hm) nb;show aG W (dS (bor ((yQ W W).trans (by rw[hp])) (jS (bD (eP .(c) W (ax W (ax (cZ W W hp 0 W) (ax (cZ W W hp 1 W) aF))) ew)))) (λq=>aG W #[ar,W,(λq=>nomatch q),λq2=>?_]) λq=>#[#[_,W],λt ht=>?_])
   .obtain⟨p',ſ,hw⟩:=q2.1 s hm;rw[hp] at ſ;cases ſ;unfold Ũ at hw;rw[hw] at q;cases q
   .rcases jQ hs ht with r|rfl
    .exact hI t r
    .refine#[p,hp,?_];let q2:(!Ũ js lm h on fa la t p)=ar:=q;rw[Ax] at q2;show q2
 .rintro Y ⟨⟨a,rfl⟩,hI⟩;let hW:Win ss js lm h on fa la P:=λs hs=>hI s (by rw[qf,qf,eN];show hs);let hO:=To F hW;let et:T.map (λkv=>D.tup (kv.1.map cU))=ts.map dPr:=by rw[show(T.map λkv=>D.tup (kv.1.map cU))=(T.map (·.1)).map λk=>.tup (k.map cU) by rw[qp];rfl,F.tk,qp];rfl
  let hT:=Ls (Y:=[oS (Ye ai bs ss js E ls ks h lm kp XJ Γ A af T N),oS (pD P),a]) (gX (z:=ai) (fo:=C 0) (y:=.t T) (f:="put_pairs") 4 W W);rw[et] at hT;let ea:=BI (iV (gg:=bT 2 (aQ (aA 0) (aQ (aA 1) bV))) (ft:=tT) (fe:=bp "Facts" "keeps_order" u5 (C 3) (J (C 2) (J (C 0) .(r)))) (fv:=[B,B,U 1,U 0]) hT (by rw[qf];let:=F.tl;ext) (QR (b:=okO ss js E ls on P) ts B B λp hp=>eP .(c) W (ax W .(k)) (TK g hk F hO hp)));show cP (ao:=λY=>ts.all (okO ss js E ls on P)=ai/\Y=[oS (Ye ai bs ss js E ls ks h lm kp XJ Γ A af T N),oS (pD P),a]) (dS (jS (bD ea)) (λq=>aG W #[ar,W,(λq=>nomatch q),λq2=>?_]) λq=>#[?_,W]) ?_
  .rw[pk] at q;let q3:=q2.2.1;rw[show ts.all (id ∘ okO ss js E ls on P)=ts.all (okO ss js E ls on P) from W,q3] at q;cases q
  .rw[Ax,pk] at q;show q
  .rintro Y ⟨ha,rfl⟩;show gq (uH (eP .(c) W (ax W aF) (eK hO)) λ_=>aB (aU (ax (eP .(c) W aF Lc) (ax W aF)) e1) W W) #[_,W,?_];rw[cW];show#[λq=>#[hW,ha,q.1,q.2],λq=>#[q.2.2.1,q.2.2.2]]
end
end Law
namespace Law
noncomputable def sb:Z (ah×ah)->ah->ah->ah
 |[],_,s=>s
 |p::r,σ,s=>sb r σ (if s<p.2/\p.1<s+σ then p.2 else s)
noncomputable def sa:Z (ah×ah)->ah->ah->ah
 |[],_,s=>s
 |p::r,σ,s=>sa r σ (if s<p.2/\p.1<s+σ then p.1-σ else s)
def frI(σ s:ah)(p:ah×ah):Prop:=¬(s<p.2/\p.1<s+σ)
def Tg(σ:ah)(br:Z (ah×ah)):∀s:ah,s<=sb br σ s:=by
 induction br with
 |nil=>intro s;show kK s
 |cons p r ih=>
  intro s;show s<=sb r σ _;let:=ih (if s<p.2/\p.1<s+σ then p.2 else s);split at this
  .rename_i q;rw[qY q];ext
  .rename_i q;rw[qZ q];show this
def PQ(σ:ah)(hL:0<=σ)(br:Z (ah×ah))(M:∀p∈br,p.1<p.2):∀s:ah,sa br σ s<=s:=by
 induction br with
 |nil=>intro s;show kK s
 |cons p r ih=>
  intro s;show sa r σ _<=s;let:=ih (λq hq=>M q (qh _ hq)) (if s<p.2/\p.1<s+σ then p.1-σ else s);split at this
  .rename_i q;rw[qY q];ext
  .rename_i q;rw[qZ q];show this
def S4(σ t:ah)(br:Z (ah×ah)):∀s:ah,s<=t->(∀p∈br,frI σ t p)->sb br σ s<=t:=by
 induction br with
 |nil=>intro s h _;show h
 |cons p r ih=>
  intro s h hf;show ih _ ?_ λq hq=>hf q (qh _ hq);split
  .rename_i q;let:=hf p qg;unfold frI at this;ext
  .exact h
def Rf(σ t:ah)(br:Z (ah×ah)):∀s:ah,t<=s->(∀p∈br,frI σ t p)->t<=sa br σ s:=by
 induction br with
 |nil=>intro s h _;show h
 |cons p r ih=>
  intro s h hf;show ih _ ?_ λq hq=>hf q (qh _ hq);split
  .rename_i q;let:=hf p qg;unfold frI at this;ext
  .exact h
variable{ss:Z XM}{js:Z X4}{E:Z YZ}{ls:Z YA}{ks:Z YD}
section
variable{bs:Z XQ}{P:b8}{us:Z (aj×ah)}
def JbO(js:Z X4)(s:XM)(p:aj×ah):Prop:=∀j,eJ js s.nm=U j->j.ea<=p.2/\p.2+YW s p.1<=j.du
def BrO(bs:Z XQ)(s:XM)(p:aj×ah):Prop:=∀b∈bs,b.nm=p.1->∀q∈b.br,frI (YW s p.1) p.2 q
def EnO(ss:Z XM)(P:b8)(us:Z (aj×ah)):Prop:=∀s∈ss,∀p,lk P s.nm=U p->lk us s.nm=U (p.2+YW s p.1)
def eF(ss:Z XM)(P:b8)(F:XM->aj×ah->Prop):Prop:=∀s∈ss,∀p,lk P s.nm=U p->F s p
def Gc(g:X3 bs ss js E ls ks h)(hO:δ ss P):∃us,pq [bd bs ss js E ls ks h,pD P]=U (eD us)/\EnO ss P us/\gm ss us/\us.map (·.1)=ss.map (·.nm):=by
 let hN:=jX (bs:=bs) (ss:=ss) (js:=js) (E:=E) (ls:=ls) (ks:=ks) (h:=h) g.sl.2;let key:∃d,pq [bd bs ss js E ls ks h,pD P]=U d/\∃us,d=eD us/\EnO ss P us/\us.map (·.1)=ss.map (·.nm):=by
  show fW (cP (ao:=λY=>Y=[oS .(g),oS (pD P),U (.odk (tb D.int [])),B,B]) #[_,W,.inl #[W,W]] ?_);rintro Y rfl;show cP (eC (λi Y=>∃us a b,Y=[oS .(g),oS (pD P),U (.odk (tb D.int us)),a,b]/\us.map (·.1)=(ss.take i).map (·.nm)/\EnO (ss.take i) P us) (db (cM (by decide +kernel) W aF hN)) #[_,_,_,W,W,λs hs=>by cases hs] ?_) ?_
  .rintro i x Y hx ⟨us,a,b,rfl,hl,hI⟩;rw[qp,ql] at hx;let⟨s,hs,rfl⟩:=YE hx;let hm:=qR hs;let hi:i<ss.length:=(dM.mp hs).1;let⟨p,n,hp,hn⟩:=hO s hm;let hle:us.length<=i:=by let:=bM cC hl;rw[qf,qf,qF] at this;ext
   let:=g.sl.2;let hk:lk us s.nm=B:=n5.mpr (by rw[hl];intro q;let⟨t,ht,e⟩:=bo.mp q;show tS g.sn (i:=i) (x:=s.nm) (by rw[ql,hs];rfl) (by rw[<-sP];show q))
   let hpt:pt us s.nm (p.2+n)=us++[(s.nm,p.2+n)]:=by unfold pt;rw[qZ (λq=>bj (uL.mp q) (n5.mp hk))]
   show aG W (bB (aG (aB W W (tL hp)) (xX (d:=.int (p.2+n)) (k:=s.nm) (XJ:=tb D.int us) W (by rw[FC];ext) W (aB (x:=.int p.2) (y:=.int n) (aB W W gb) (aU (ax W (ax W (ax (aB W W dR) aF))) ((C1 g hm p.1).trans (by rw[hn];rfl))) W) (.inl #[W,pt us s.nm (p.2+n),_,_,by rw[CC];rfl,?_,λt ht q hq=>?_]))))
   .rw[hpt,dN,hl,i8,hs];simp
   .rw[Bg];split
    .rename_i e;let:t=s:=by let tm:t∈ss:=pc ht;show(rf g.sn tm).symm.trans ((bM (sAt ss) e).trans (rf g.sn hm))
     subst this;rw[hp] at hq;cases hq;rw[Ud (g.s t hm).nd hn]
    .rename_i Zb;rcases jQ hs ht with q2|rfl
     .exact hI t q2 q hq
     .exact bj W Zb
  .rintro Y ⟨us,a,b,rfl,hl,hI⟩;rw[qf,qf,eN] at hl hI;show aG W (.inr #[_,W,us,W,hI,hl])
 let⟨d,e,us,rfl,hE,hl⟩:=key;show#[us,e,hE,λs hs=>by let⟨p,n,hp,_⟩:=hO s hs;show#[_,hE s hs p hp],hl]
def Qa(g:X3 bs ss js E ls ks h)(hA:All ss P)(hE:EnO ss P us):∃d,xR [bd bs ss js E ls ks h,pD P,eD us]=U d/\Rx (eF ss P (JbO js)) d:=by
 let hN:=jX (bs:=bs) (ss:=ss) (js:=js) (E:=E) (ls:=ls) (ks:=ks) (h:=h) g.sl.2;show fW (cP (eC (λi Y=>(∃a b,Y=[oS .(g),oS (pD P),oS (eD us),a,b])/\eF (ss.take i) P (JbO js)) (db (cM (by decide +kernel) W aF hN)) #[#[_,_,W],λs hs=>by cases hs] ?_) ?_)
 .rintro i x Y hx ⟨⟨a,b,rfl⟩,hI⟩;rw[qp,ql] at hx;let⟨s,hs,rfl⟩:=YE hx;let hm:=qR hs;let⟨p,hp⟩:=hA s hm;let hn:=hE s hm p hp;let up:JbO js s p->eF (ss.take (i+1)) P (JbO js):=λq t ht r hr=>by
   rcases jQ hs ht with z|rfl
   .exact hI t z r hr
   .rw[hp] at hr;cases hr;show q
  show aG W (bB (aG (cM (by decide +kernel) W (ax W aF) (EY g s.nm)) ?_));cases hj:eJ js s.nm with
  |none=>show dS (b:=ar) W (λz=>by cases z) λ_=>#[#[_,_,W],up λj e=>by rw[hj] at e;cases e]
  |some j=>
   show dS (mB (a:=ai) W λ_=>bor (bD (aB (cZ W W hp 1 W) (aB W W gb) W)) (bD (aB (lc W W hn) (aB W W j5) W))) (λ_=>rx2 .(k)) λq=>#[#[_,_,W],up λj' e=>?_];rw[hj] at e;cases e;rw[vZ,WV] at q;let q1:decide (p.2<j.ea)=ar:=q.1;let q2:decide (p.2+YW s p.1 > j.du)=ar:=q.2;rw[Al] at q1 q2;show#[by ext,by ext]
 .rintro Y ⟨⟨a,b,rfl⟩,hI⟩;rw[qf,qf,eN] at hI;show gq W (.inl #[W,hI])
end
def K0{f:α->β}{l:Z α}(nd:(l.map f).Nodup){a b:α}(ha:a∈l)(M:b∈l)(e:f a=f b):a=b:=by
 induction l with
 |nil=>cases ha
 |cons x r ih=>
  rw[qo,dD] at nd;rcases cg.mp ha with q|q
  .rcases cg.mp M with q2|q2
   .exact q.trans q2.symm
   .exact bj (bo.mpr #[b,q2,by rw[<-e,q]]) nd.1
  .rcases cg.mp M with q2|q2
   .exact bj (bo.mpr #[a,q,by rw[e,q2]]) nd.1
   .exact ih nd.2 q q2
def MS{us:Z (aj×ah)}{e st:ah}(he:lk us m=U e):∀(br:Z (ah×ah))(a b:au Slot),b9 .(n) tT (cm (b2 Zr (C 2) (C 1)) (b2 Zr (C 0) (b2 aT (C 3) (C 4)))) (br.map Y8) [a,b,oS (.int st),oS (eD us),oS (.str m)]=U ((br.map λq=>decide (st<q.2) && decide (q.1<e)).map D.bl):=by
 intro br
 induction br with
 |nil=>intro a b;rfl
 |cons q r ih=>
  intro a b;let e1:cm (b2 Zr (C 2) (C 1)) (b2 Zr (C 0) (b2 aT (C 3) (C 4))) [oS (.int q.1),oS (.int q.2),oS (.int st),oS (eD us),oS (.str m)]=U (.bl (decide (st<q.2) && decide (q.1<e))):=uH W λ_=>aB W (lc W W he) W;show(cm _ _ [oS (.int q.1),oS (.int q.2),oS (.int st),oS (eD us),oS (.str m)]).bind _=_;rw[e1];show bM (ny λx=>D.bl (decide (st<q.2) && decide (q.1<e))::x) (ih (oS (.int q.1)) (oS (.int q.2)))
section
variable{bs:Z XQ}{P:b8}{us:Z (aj×ah)}
def L4(g:X3 bs ss js E ls ks h)(hO:δ ss P)(hE:EnO ss P us):∃d,wj [bd bs ss js E ls ks h,pD P,eD us]=U d/\Rx (eF ss P (BrO bs)) d:=by
 let hN:=jX (bs:=bs) (ss:=ss) (js:=js) (E:=E) (ls:=ls) (ks:=ks) (h:=h) g.sl.2;show fW (cP (eC (λi Y=>(∃a b c,Y=[oS .(g),oS (pD P),oS (eD us),a,b,c])/\eF (ss.take i) P (BrO bs)) (db (cM (by decide +kernel) W aF hN)) #[#[_,_,_,W],λs hs=>by cases hs] ?_) ?_)
 .rintro i x Y hx ⟨⟨a,b,c,rfl⟩,hI⟩;rw[qp,ql] at hx;let⟨s,hs,rfl⟩:=YE hx;let hm:=qR hs;let⟨p,k,hp,hk⟩:=hO s hm;let hn:=hE s hm p hp;let⟨w,hw,ew⟩:=bo.mp ((g.s s hm).ws _ (kR hk)).1;let hl:=MS (st:=p.2) hn w.br B B;show aG W (bB (aG (cZ W W hp 1 W) (bB (aG (cM (by decide +kernel) W (ax (cZ W W hp 0 W) aF) (by rw[<-ew];show Uw g hw)) (dS (b:=(w.br.map λq=>decide (p.2<q.2) && decide (q.1<p.2+YW s p.1)).any id) (bD (aU (ax (fH (ys:=(w.br.map λq=>decide (p.2<q.2) && decide (q.1<p.2+YW s p.1)).map D.bl) ?_) aF) ?_)) (λ_=>rx2 .(k)) λq=>#[#[_,_,_,W],λt ht r hr=>?_])))))
  .show(if (w.br.map Y8).length<=aK then b9 _ _ _ _ _ else B)=_;rw[qY (by rw[qf];let:=(g.b w hw).len;unfold aK;ext)];show hl
  .show(je _).map _=_;rw[Fx];rfl
  .rcases jQ hs ht with z|rfl
   .exact hI t z r hr
   .rw[hp] at hr;cases hr;intro b' vk eb v hv z;let:b'=w:=K0 g.bn vk hw (eb.trans ew.symm);subst this;rw[WS,Gu] at q;show q v hv (by show(decide _ && decide _)=ai;rw[qU z.1,qU z.2];rfl)
 .rintro Y ⟨⟨a,b,c,rfl⟩,hI⟩;rw[qf,qf,eN] at hI;show gq W (.inl #[W,hI])
def p6{S x e:D}{XI C':Prop}{F:FQ}(hF:∃d,F [S,x,e]=U d/\Rx C' d)(hd:Rx XI d):Wp (YJ (XX (b2 Zz (C 2) (vC .non))) (aP 2 (cF F (J (C 0) (J (C 1) (J (C 3) aq))))) aZ [oS S,oS x,oS d,oS e]) (Tl Rt λY=>∃d',Rx (XI/\C') d'/\Y=[oS S,oS x,oS d',oS e]):=by
 rcases hd with⟨rfl,c⟩|⟨l,rfl⟩
 .obtain⟨d,e1,r⟩:=hF;show eS (aG (a:=ai) W #[λ_=>jq (aG (aU (ax W .(k)) e1) (.inl #[W,d,?_,W])),λz=>by cases z]);rcases r with⟨e,c'⟩|q
  .exact .inl #[e,c,c']
  .exact .inr q
 .exact eS (aG (a:=ar) W #[(λz=>nomatch z),λ_=>gF (.inl #[W,_,.inr #[l,W],W])])
def QV(g:X3 bs ss js E ls ks h)(h12:ss.length<=12)(hp:Ú P)(hl:P.length<=100):∃d,mm [bd bs ss js E ls ks h,pD P]=U d/\Rx (eF ss P (JbO js)/\eF ss P (BrO bs)) d:=by
 let⟨d1,e1,r1⟩:=Iy g hp hl;show fW (bB (aG (aU .(k) e1) (cP (ao:=λY=>∃d,Rx (δ ss P) d/\Y=[oS .(g),oS (pD P),oS d,B]) ?_ ?_)))
 .rcases r1 with⟨rfl,hA⟩|⟨l,rfl⟩
  .obtain⟨d2,e2,r2⟩:=Tx g hA;show eS (aG (a:=ai) W #[λ_=>jq (aG (aU .(k) e2) (.inl #[W,d2,r2,W])),λz=>by cases z])
  .exact eS (aG (a:=ar) W #[(λz=>nomatch z),λ_=>gF (.inl #[W,_,.inr #[l,W],W])])
 .rintro Y ⟨d,r,rfl⟩;show cP (ao:=λY=>δ ss P/\Y=[oS .(g),oS (pD P),oS .non,B]) ?_ ?_
  .rcases r with⟨rfl,hO⟩|⟨l,rfl⟩
   .exact dS (b:=ar) W (λz=>by cases z) λ_=>#[hO,W]
   .exact dS (b:=ai) W (λ_=>aG W (.inr #[l,W])) λz=>by cases z
  .rintro Y ⟨hO,rfl⟩;let hA:All ss P:=λs hs=>by let⟨p,n,hp,_⟩:=hO s hs;show#[p,hp]
   let⟨us,eE,hF,hE,_⟩:=Gc g hO;let⟨d3,e3,r3⟩:=Qa g hA hF;show bB (aG (aU .(k) eE) (bB (aG (aU (ax W .(k)) e3) (cP (p6 (L4 g hO hF) r3) ?_))));rintro Y ⟨d4,r4,rfl⟩;show cP (p6 (Uo g hA hE) r4) ?_;rintro Y ⟨d5,r5,rfl⟩;show cP (p6 (OF g hA hE) r5) ?_;rintro Y ⟨d6,r6,rfl⟩;show cP (p6 (LN g hA hE) r6) ?_;rintro Y ⟨d7,r7,rfl⟩;show cP (p6 (Rk g h12 hA hE) r7) ?_;rintro Y ⟨d8,r8,rfl⟩;show gq W ?_;rcases r8 with⟨e,q⟩|q
   .exact .inl #[e,q.1.1.1.1]
   .exact .inr q
end
def jU{o:au α}{a:α}(h:Wp o λd=>d=a):o=U a:=by let⟨d,e,rfl⟩:=h;show e
noncomputable def stB(σ t:ah)(p:ah×ah):ah:=if t<p.2/\p.1<t+σ then p.2 else t
noncomputable def stA(σ t:ah)(p:ah×ah):ah:=if t<p.2/\p.1<t+σ then p.1-σ else t
def Ue(σ:ah)(br:Z (ah×ah)):∀s:ah,br.foldl (stB σ) s=sb br σ s:=by
 induction br with
 |nil=>intro s;rfl
 |cons p r ih=>intro s;show ih _
def NT(σ:ah)(br:Z (ah×ah)):∀s:ah,br.foldl (stA σ) s=sa br σ s:=by
 induction br with
 |nil=>intro s;rfl
 |cons p r ih=>intro s;show ih _
def EI{us:ah->au Slot->au Slot->bG}{st:ah->ah×ah->ah}(s:ah)(a b:au Slot)(hf:fi (us s a b)=U (br.map Y8))
  (h1:∀p∈br,∀t a b,Wp (gg (Y8 p) (us t a b)) λY1=>Wp (g Y1) λr=>r.1=.nx/\∃a b,r.2=us (st t p) a b)(h2:∀a b,R (.nx,us (br.foldl st s) a b)):Wp (bN fi gg g (us s a b)) R:=by
 show il (λi Y=>∃t a b,Y=us t a b/\(br.drop i).foldl st t=br.foldl st s) (aG hf #[#[s,a,b,W,W],?_,?_])
 .rintro i x Y hx ⟨t,a,b,rfl,e⟩;rw[ql] at hx;let⟨p,hp,rfl⟩:=YE hx;let hi:i<br.length:=(dM.mp hp).1;let hd:br.drop i=p::br.drop (i+1):=by rw[su hi];rw[qE hi] at hp;rw[qI hp]
  rw[hd,fO] at e;show(h1 p (qR hp) t a b).imp λY1 k=>k.imp λr #[e1,a,b,e2]=>#[e1,_,a,b,e2,e]
 .rintro Y ⟨t,a,b,rfl,e⟩;rw[qf,sv] at e;let e:t=br.foldl st s:=e;subst e;show h2 a b
def Ec{a b c d:ah}(h1:ft Y=U (decide (a<b)))(h2:gt Y=U (decide (c<d))):gT ft gt Y=U (decide (a<b/\c<d)):=by rw[mB h1 λ_=>h2,<-Bool.decide_and]
def Lw(br:Z (ah×ah))(σ s:ah):rj [.lst (br.map Y8),.int σ,.int s]=U (.int (sb br σ s)):=by
 show jU ?_;unfold rj;show gf (dO (EI (br:=br) (us:=λt a b=>[oS (.lst (br.map Y8)),oS (.int σ),oS (.int t),a,b]) (st:=stB σ) s B B W (λp _ t a b=>?_) λa b=>#[W,fV (bu W #[_,W,by rw[Ue]])]));show aG W (eS (aG (Ec (a:=t) (b:=p.2) (c:=p.1) (d:=t+σ) W W) #[λz=>?_,λz=>?_]))
 .exact jq (bu W #[W,_,_,by unfold stB;rw[qY (eq z)];rfl])
 .exact gF #[W,_,_,by unfold stB;rw[qZ (vW z)];rfl]
def Ub(br:Z (ah×ah))(σ s:ah):pw [.lst (br.map Y8),.int σ,.int s]=U (.int (sa br.reverse σ s)):=by
 show jU ?_;unfold pw;show gf (dO (EI (br:=br.reverse) (us:=λt a b=>[oS (.lst (br.map Y8)),oS (.int σ),oS (.int t),a,b]) (st:=stA σ) s B B (by rw[WR];rfl) (λp _ t a b=>?_) λa b=>#[W,fV (bu W #[_,W,by rw[NT]])]));show aG W (eS (aG (Ec (a:=t) (b:=p.2) (c:=p.1) (d:=t+σ) W W) #[λz=>?_,λz=>?_]))
 .exact jq (aG (aB W W W) #[W,_,_,by unfold stA;rw[qY (eq z)];rfl])
 .exact gF #[W,_,_,by unfold stA;rw[qZ (vW z)];rfl]
def E2(ns:Z ah)(k:ag):cr (kY ns) k<=k/\∀j,j<=k->ns.getD (cr (kY ns) k) 0<=ns.getD j 0:=by
 induction k with
 |zero=>show#[qw _,λj hj=>by
   obtain rfl:j=0:=by ext
   show kK _]
 |succ k ih=>
  let⟨h1,h2⟩:=ih;unfold cr;by_cases e:kY ns (k+1) (cr (kY ns) k)=ai
  .rw[qY e];let e:=eq e;show#[qw _,λj hj=>?_];by_cases hj2:j=k+1
   .rw[hj2];show kK _
   .let:=h2 j .(b);ext
  .rw[qZ e];show#[by ext,λj hj=>?_];by_cases hj2:j=k+1
   .rw[hj2];let:¬ns.getD (k+1) 0<ns.getD (cr (kY ns) k) 0:=λz=>e (qU z);ext
   .exact h2 j .(b)
def Em(ns:Z ah)(k:ag):cr (Ψ ns) k<=k/\∀j,j<=k->ns.getD j 0<=ns.getD (cr (Ψ ns) k) 0:=by
 induction k with
 |zero=>show#[qw _,λj hj=>by
   obtain rfl:j=0:=by ext
   show kK _]
 |succ k ih=>
  let⟨h1,h2⟩:=ih;unfold cr;by_cases e:Ψ ns (k+1) (cr (Ψ ns) k)=ai
  .rw[qY e];let e:=eq e;show#[qw _,λj hj=>?_];by_cases hj2:j=k+1
   .rw[hj2];show kK _
   .let:=h2 j .(b);ext
  .rw[qZ e];show#[by ext,λj hj=>?_];by_cases hj2:j=k+1
   .rw[hj2];let:¬ns.getD (k+1) 0 > ns.getD (cr (Ψ ns) k) 0:=λz=>e (qU z);ext
   .exact h2 j .(b)
def uq{x:ah}(h:x∈ns):∃i,i<ns.length/\ns.getD i 0=x:=by let⟨i,hi,e⟩:=List.getElem_of_mem h;show#[i,hi,by rw[kJ,qE hi,e];rfl]
def Mq{x:ah}(h:x∈ns):∃v,jO ns=.int v/\v<=x:=by let⟨i,hi,rfl⟩:=uq h;show#[_,qZ (λz=>by rw[z] at hi;show bj hi (vV _)),(E2 ns (ns.length-1)).2 i .(b)]
def P0{x:ah}(h:x∈ns):∃v,mxI ns=.int v/\x<=v:=by let⟨i,hi,rfl⟩:=uq h;show#[_,qZ (λz=>by rw[z] at hi;show bj hi (vV _)),(Em ns (ns.length-1)).2 i .(b)]
noncomputable def Ω(bs:Z XQ)(b:aj):Z (ah×ah):=((bs.find? λx=>decide (x.nm=b)).map (·.br)).getD []
def NW{nm:α->aj}{xs:Z α}{x:α}(nd:(xs.map nm).Nodup)(h:x∈xs):xs.find? (λy=>decide (nm y=nm x))=U x:=by
 induction xs with
 |nil=>cases h
 |cons y r ih=>
  rw[qo,dD] at nd;rw[eY];rcases cg.mp h with rfl|h
  .rw[qU W]
  .rw[qP (show ¬nm y=nm x fromλe=>nd.1 (by rw[e];show qX h))];show ih nd.2 h
structure StF(A af Γ:Z (XR×D))(s:XM)(o:Z aj)(f l:ah):Prop where
 hO:bw Γ (.inr s.nm)=U (.lst (o.map D.str))
 ow:∀x∈o,x∈wn s
 l4:o.length<=4
 hA:bw A (.inr s.nm)=U (.int f)
 hB:bw af (.inr s.nm)=U (.int l)
section
variable{bs:Z XQ}{kp:D×ah}{A:Z (XR×D)}{s:XM}{o:Z aj}{f l:ah}
theorem yv(g:X3 bs ss js E ls ks h){x:XQ}(hx:x∈bs):Ω bs x.nm=x.br:=by unfold Ω;rw[NW (nm:=λx:XQ=>x.nm) g.bn hx];rfl
theorem wQ(g:X3 bs ss js E ls ks h)(hs:s∈ss){b:aj}(M:b∈wn s):∃x∈bs,x.nm=b:=by let⟨w,hw,rfl⟩:=bo.mp M;let⟨x,hx,e⟩:=bo.mp ((g.s s hs).ws w hw).1;show#[x,hx,e]
theorem QT(g:X3 bs ss js E ls ks h)(hs:s∈ss){b:aj}(M:b∈wn s):0<=YW s b:=by let⟨w,hw,rfl⟩:=bo.mp M;rw[oH (g.s s hs).nd hw];let:=((g.s s hs).ws w hw).2.1;ext
def B0(g:X3 bs ss js E ls ks h)(hs:s∈ss){b:aj}(M:b∈wn s)(h1:fo Y=U (Ye ar bs ss js E ls ks h lm kp XJ Γ A af [] []))(hk:fk Y=U (.str b)):b2 aT (bh "Grounds" "breaks" (bh "Facts" "grounds" fo)) fk Y=U (.lst ((Ω bs b).map Y8)):=by let⟨x,hx,rfl⟩:=wQ g hs M;rw[yv g hx];show aB (jz 7 h1 W) hk (show((U (bw (bs.map λb=>((.inr b.nm:XR),D.lst (b.br.map Y8))) (.inr x.nm))).bind id)=_ by rw[gB (nm:=λb:XQ=>b.nm) (f:=λb:XQ=>.lst (b.br.map Y8)) g.bn hx];rfl)
def ED{x t:D}:tf [Ye ar bs ss js E ls ks h lm kp XJ Γ A af [] [],.str m,x,t]=U (.bl ar):=
 bR [oS (Ye ar bs ss js E ls ks h lm kp XJ Γ A af [] []),oS (.str m),oS x,oS t] W (bP (uH (a:=ar) (b:=ar) (aB W (gX (y:=.k []) (f:="notes") 5 W W) W) λq=>nomatch q))
abbrev loS(bs:Z XQ)(s:XM)(f:ah)(b:aj):ah:=sb (Ω bs b) (YW s b) f
abbrev hiS(bs:Z XQ)(s:XM)(l m:ah)(b:aj):ah:=sa (Ω bs b).reverse (YW s b) (if m-YW s b<l then m-YW s b else l)
def Qo(g:X3 bs ss js E ls ks h)(hs:s∈ss)(S:StF A af Γ s o f l){b:aj}(M:b∈o):yj [Ye ar bs ss js E ls ks h lm kp XJ Γ A af [] [],.str s.nm,.str b]=U (.int (loS bs s f b)):=by let hw:=S.ow b M;show bR [oS (Ye ar bs ss js E ls ks h lm kp XJ Γ A af [] []),oS (.str s.nm),oS (.str b),B,B,B] W ((e7 (B0 g hs hw W W)).trans ((e7 (aB (mz g hs W W) W (rA (g.s s hs).nd hw))).trans ((e7 (aU (ax W (ax W (ax (aB (gX 2 W W) W (lf.trans S.hA)) aF))) (Lw _ _ _))).trans ((f9 (bD (eP (show("is_barred":aj)∉eG by decide +kernel) W (ax W .(k)) ED))).trans (bP W)))))
def JZ(g:X3 bs ss js E ls ks h)(hs:s∈ss)(S:StF A af Γ s o f l){b:aj}(M:b∈o):wF [Ye ar bs ss js E ls ks h lm kp XJ Γ A af [] [],.str s.nm,.str b]=U (.int (hiS bs s l (Y5 js lm h s.nm) b)):=by let hw:=S.ow b M;show bR [oS (Ye ar bs ss js E ls ks h lm kp XJ Γ A af [] []),oS (.str s.nm),oS (.str b),B,B,B] W ((e7 (B0 g hs hw W W)).trans ((e7 (aB (mz g hs W W) W (rA (g.s s hs).nd hw))).trans ((e7 (aU (ax W (ax W (ax (aU (ax (aB (gX 3 W W) W (lf.trans S.hB)) (ax (aB (eP (show("end_mark":aj)∉eG by decide +kernel) W (ax W aF) (wD g hs)) W W) aF)) W) aF))) (Ub _ _ _))).trans ((f9 (bD (eP (show("is_barred":aj)∉eG by decide +kernel) W (ax W .(k)) ED))).trans (bP W)))))
noncomputable def inB(o:Z aj)(f l m:ah)(σ F:aj->ah)(b:aj):aJ:=decide (b∈o) && (decide (f<=F b) && decide (F b<=l)) && decide (F b+σ b<=m)
def UQ(g:X3 bs ss js E ls ks h)(hs:s∈ss)(S:StF A af Γ s o f l)(F:aj->ah):∀(o':Z aj)(a b:au Slot),(∀x∈o',x∈o)->b9 .(n) (XX (bp "Facts" "is_in_window" kM (C 3) (J (C 2) (J (C 0) .(r))))) (C 1) (o'.map λb=>.tup [.str b,.int (F b)]) [a,b,oS (.str s.nm),oS (Ye ar bs ss js E ls ks h lm kp XJ Γ A af [] [])]=U (((o'.filter (inB o f l (Y5 js lm h s.nm) (YW s) F)).map F).map D.int):=by
 intro o'
 induction o' with
 |nil=>intro a b _;rfl
 |cons x r ih=>
  intro a b hx;let ih:=ih (oS (.str x)) (oS (.int (F x))) λy hy=>hx y (qh _ hy);let e:XX (bp "Facts" "is_in_window" kM (C 3) (J (C 2) (J (C 0) .(r)))) [oS (.str x),oS (.int (F x)),oS (.str s.nm),oS (Ye ar bs ss js E ls ks h lm kp XJ Γ A af [] [])]=U (inB o f l (Y5 js lm h s.nm) (YW s) F x):=bD (eP (show("is_in_window":aj)∉eG by decide +kernel) W (ax W .(k)) (DM g hs S.hO S.ow S.hA S.hB (mR g hs x (S.ow x (hx x qg)))));rw[qo,sL];show(((XX _ [oS (.str x),oS (.int (F x)),oS (.str s.nm),oS (Ye ar bs ss js E ls ks h lm kp XJ Γ A af [] [])]).bind λc=>_):au (Z D))=_;rw[e,qb];cases inB o f l (Y5 js lm h s.nm) (YW s) F x with
  |true=>show(bM (ny λy=>D.int (F x)::y) ih).trans W
  |false=>show ih
def Tld(d:D):Prop:=d=.non\/∃v,d=.int v
def Gf(g:X3 bs ss js E ls ks h)(hs:s∈ss)(S:StF A af Γ s o f l){Fm:FQ}(hm:m∉eG)(F:aj->ah)(hF:∀b∈o,Fm [Ye ar bs ss js E ls ks h lm kp XJ Γ A af [] [],.str s.nm,.str b]=U (.int (F b))){G:D->au D}{mI:Z ah->D}(hG:∀ns:Z ah,G (.lst (ns.map D.int))=U (mI ns)):
  aO 1 (ay (aP 2 (aR (aW (X6 (b2 aT (bh "Facts" "open_benches" (C 0)) (C 1))) (aA 0) tT (ba (X5 (J (C 0) (J (bp "Facts" m Fm (C 2) (J (C 1) (J (C 0) aq))) aq)))) [B,U 1,U 0]))) (aE (b1 G (aR (aW (X6 (C 2)) .(n) (XX (bp "Facts" "is_in_window" kM (C 3) (J (C 2) (J (C 0) .(r))))) (C 1) [B,B,U 1,U 0]))))) [Ye ar bs ss js E ls ks h lm kp XJ Γ A af [] [],.str s.nm]=U (mI ((o.filter (inB o f l (Y5 js lm h s.nm) (YW s) F)).map F)):=by
 let h4:=S.l4;show bR [oS (Ye ar bs ss js E ls ks h lm kp XJ Γ A af [] []),oS (.str s.nm),B] W ((e7 (d:=.lst (o.map λb=>.tup [.str b,.int (F b)])) (fH (iV (db (aB (gX 1 W W) W (lf.trans S.hO))) (by rw[qf];ext) (Bc (k:=D.str) (m:=λb=>.tup [.str b,.int (F b)]) λb M=>jU (fC (aG (ax W (ax (eP hm W .(k) (hF b M)) aF)) #[(by decide:(2:ag)<=1000),W])))))).trans (bP (zh (fH (iV (xs:=o.map λb=>.tup [.str b,.int (F b)]) W (by rw[qf];ext) (UQ g hs S F o B B λ_ h=>h))) (hG _))))
theorem C3{m:ah}{σ F:aj->ah}{b:aj}(h0:b∈o)(h1:f<=F b)(h2:F b<=l)(h3:F b+σ b<=m):F b∈(o.filter (inB o f l m σ F)).map F:=bo.mpr #[b,rM.mpr #[h0,by unfold inB;rw[qU h0,qU h1,qU h2,qU h3];rfl],W]
def Uh(g:X3 bs ss js E ls ks h)(hs:s∈ss)(S:StF A af Γ s o f l):∃d,mY [Ye ar bs ss js E ls ks h lm kp XJ Γ A af [] [],.str s.nm]=U d/\Tld d/\∀p:aj×ah,p.1∈o->f<=p.2->p.2<=l->p.2+YW s p.1<=Y5 js lm h s.nm->BrO bs s p->∃v,d=.int v/\v<=p.2:=by
 show#[_,Gf (G:=rD) (mI:=jO) g hs S (show("least_on":aj)∉eG by decide +kernel) (loS bs s f) (λb M=>Qo g hs S M) (λns=>by show(fX _).map jO=_;rw[sY];rfl),?_,λp h0 h1 h2 h3 M=>?_]
 .unfold jO;split
  .exact .inl W
  .exact .inr #[_,W]
 .obtain⟨x,hx,e⟩:=wQ g hs (S.ow _ h0);let lo:=S4 (YW s p.1) p.2 (Ω bs p.1) f h1 (by rw[<-e,yv g hx,e];show M x hx e);let⟨v,e1,e2⟩:=Mq (C3 (F:=loS bs s f) (σ:=YW s) (m:=Y5 js lm h s.nm) h0 (Tg _ _ _) (by show sb _ _ _<=l;ext) (by show sb _ _ _+_<=_;ext));show#[v,e1,by let:loS bs s f p.1<=p.2:=lo;ext]
def TW(g:X3 bs ss js E ls ks h)(hs:s∈ss)(S:StF A af Γ s o f l):∃d,mr [Ye ar bs ss js E ls ks h lm kp XJ Γ A af [] [],.str s.nm]=U d/\Tld d/\∀p:aj×ah,p.1∈o->f<=p.2->p.2<=l->p.2+YW s p.1<=Y5 js lm h s.nm->BrO bs s p->∃v,d=.int v/\p.2<=v:=by
 show#[_,Gf (G:=uh) (mI:=mxI) g hs S (show("greatest_on":aj)∉eG by decide +kernel) (hiS bs s l (Y5 js lm h s.nm)) (λb M=>JZ g hs S M) (λns=>by show(fX _).map mxI=_;rw[sY];rfl),?_,λp h0 h1 h2 h3 M=>?_]
 .unfold mxI;split
  .exact .inl W
  .exact .inr #[_,W]
 .obtain⟨x,hx,e⟩:=wQ g hs (S.ow _ h0);let eb:Ω bs p.1=x.br:=by rw[<-e,yv g hx]
  let hp:p.2<=(if Y5 js lm h s.nm-YW s p.1<l then Y5 js lm h s.nm-YW s p.1 else l):=by split<;>ext
  let hl:(if Y5 js lm h s.nm-YW s p.1<l then Y5 js lm h s.nm-YW s p.1 else l)<=l/\(if Y5 js lm h s.nm-YW s p.1<l then Y5 js lm h s.nm-YW s p.1 else l)+YW s p.1<=Y5 js lm h s.nm:=by split<;>ext
  let hi:=Rf (YW s p.1) p.2 (Ω bs p.1).reverse _ hp (λq hq=>by rw[eb] at hq;show M x hx e q (WW.mp hq));let le:=PQ (YW s p.1) (QT g hs (S.ow _ h0)) (Ω bs p.1).reverse (λq hq=>by rw[eb] at hq;show((g.b x hx).iv q (WW.mp hq)).2.1) (if Y5 js lm h s.nm-YW s p.1<l then Y5 js lm h s.nm-YW s p.1 else l);let⟨v,e1,e2⟩:=P0 (C3 (F:=hiS bs s l (Y5 js lm h s.nm)) (σ:=YW s) (m:=Y5 js lm h s.nm) h0 (by show f<=sa _ _ _;ext) (by show sa _ _ _<=l;ext) (by show sa _ _ _+_<=_;ext));show#[v,e1,by let:p.2<=hiS bs s l (Y5 js lm h s.nm) p.1:=hi;ext]
end
def xj{o:au (Fl×bG)}{ao K:bG->Prop}(h:Wp o (Tl Rt ao))(k:∀Y,ao Y->K Y):Wp o (Tl Rt K):=h.imp λr q=>q.imp (λq=>#[q.1,k _ q.2]) id
def F8{l:Z (XR×D)}(h:Y[i]?=U (U (.odk l)))(k:Wp (g (Y.set i (oS (.fdk l)))) R):Wp (mx i g Y) R:=by unfold mx;rw[h];show k
def NK{l:Z (XR×D)}(h:f Y=U (.fdk l)):t9 i f Y=U (.nx,Y.set i (U (.odk l))):=by unfold t9;rw[h];rfl
structure č(ss:Z XM)(h:ah)(P:b8):Prop where
 ks:P.map (·.1)=ss.map (·.nm)
 on:∀s∈ss,∃p n,lk P s.nm=U p/\(p.1,n)∈s.ws/\0<=p.2/\p.2+n<=h
abbrev vq(S:D)(h:ah)(f:D)(a b c m x y z w v:au Slot):bG:=[oS S,oS (.int h),oS f,a,b,c,m,x,y,z,w,v]
section
variable{bs:Z XQ}{P:b8}{s:XM}
def č.more(nd:(ss.map (·.nm)).Nodup)(hs:ss[i]?=U s)(q:č (ss.take i) h P){w:aj×ah}(hw:w∈s.ws){t:ah}(h0:0<=t)(h1:t+w.2<=h):ce (tb Zl P) (.inr s.nm) (Zl (w.1,t))=tb Zl (P++[(s.nm,(w.1,t))])/\č (ss.take (i+1)) h (P++[(s.nm,(w.1,t))]):=by
 let hn:s.nm∉P.map (·.1):=by rw[q.ks,sP];show tS nd (by rw[ql,hs];rfl)
 let hpt:pt P s.nm (w.1,t)=P++[(s.nm,(w.1,t))]:=by unfold pt;rw[qZ (λz=>hn (uL.mp z))]
 show#[by rw[CC,hpt],?_,λu hu=>?_]
 .rw[dN,q.ks,i8,hs];simp
 .rw[<-hpt,Bg];rcases jQ hs hu with r|rfl
  .split
   .rename_i e;let⟨p,n,hp,_⟩:=q.on u r;show bj (bo.mpr #[_,kR hp,e]) hn
   .exact q.on u r
  .rw[qY W];show#[_,w.2,W,hw,h0,h1]
def LH(g:X3 bs ss js E ls ks h)(h3:ss.length<=3)(h8:h<=8):∃Ps:Z b8,ti [.lst (ss.map bC),.int h]=U (.lst (Ps.map pD))/\∀P∈Ps,č ss h P:=by
 let key:∃d,ti [.lst (ss.map bC),.int h]=U d/\∃Ps:Z b8,d=.lst (Ps.map pD)/\∀P∈Ps,č ss h P:=by
  show fW (bB (aG (fH (yk (ax W aF) (show(1:ag)<=1000 by decide))) ?_));show cP (eC (Rt:=λd=>∃Ps:Z b8,d=.lst (Ps.map pD)/\∀P∈Ps,č ss h P) (λi Y=>∃(Ps:Z b8)(a b c m x y z w v:au Slot),Y=vq (.lst (ss.map bC)) h (.lst (Ps.map pD)) a b c m x y z w v/\(∀P∈Ps,č (ss.take i) h P)/\Ps.length<=32 ^ i) (db W) #[[[]],B,B,B,B,B,B,B,B,B,W,λP hP=>by rw[bL.mp hP];show#[W,λs hs=>by cases hs],by decide] ?_) ?_
  .rintro i x Y hx ⟨Ps,a,b,c,m,x7,x8,x9,x10,x11,rfl,hI,hl⟩;rw[ql] at hx;let⟨s,hs,rfl⟩:=YE hx;let hm:=qR hs;let hi:i<ss.length:=(dM.mp hs).1;let Μ:Ps.length<=1024:=by
    let:i=0\/i=1\/i=2:=by ext
    rcases this with rfl|rfl|rfl<;>simpa using qO hl .(c)
   show aG W (my ?_);show cP (eC (λk Y=>∃(Qs:Z b8)(x y z w v:au Slot),Y=vq (.lst (ss.map bC)) h (.lst (Ps.map pD)) (oS (.str s.nm)) (oS (.str s.kd)) (oS (.lst (s.ws.map dW))) (U (.own (Qs.map pD))) x y z w v/\(∀P∈Qs,č (ss.take (i+1)) h P)/\Qs.length<=32*k) (db W) #[[],x7,x8,x9,x10,x11,W,(λP hP=>by cases hP),qw _] ?_) ?_
   .rintro k x Y hx ⟨Qs,y7,y8,y9,y10,y11,rfl,hQ,hq⟩;rw[ql] at hx;let⟨P,hP,rfl⟩:=YE hx;let hk:k<Ps.length:=(dM.mp hP).1;let hPS:=hI P (qR hP);let w4:=(g.s s hm).l4;show aG W (xj (eC (λj Y=>∃(Qs:Z b8)(y z w v:au Slot),Y=vq (.lst (ss.map bC)) h (.lst (Ps.map pD)) (oS (.str s.nm)) (oS (.str s.kd)) (oS (.lst (s.ws.map dW))) (U (.own (Qs.map pD))) (oS (pD P)) y z w v/\(∀P∈Qs,č (ss.take (i+1)) h P)/\Qs.length<=32*k+8*j) (db W) #[Qs,y8,y9,y10,y11,W,hQ,hq] ?_) ?_)
    .rintro j x Y hx ⟨Qs,z8,z9,z10,z11,rfl,hQ,hq⟩;rw[ql] at hx;let⟨w,hw,rfl⟩:=YE hx;let hj:j<s.ws.length:=(dM.mp hw).1;let⟨_,n1,n2⟩:=(g.s s hm).ws w (qR hw);show aG W (xj (eC (λr Y=>∃(Qs:Z b8)(w10 v:au Slot),Y=vq (.lst (ss.map bC)) h (.lst (Ps.map pD)) (oS (.str s.nm)) (oS (.str s.kd)) (oS (.lst (s.ws.map dW))) (U (.own (Qs.map pD))) (oS (pD P)) (oS (.str w.1)) (oS (.int w.2)) w10 v/\(∀P∈Qs,č (ss.take (i+1)) h P)/\Qs.length<=32*k+8*j+r) (xs:=(cw (h-w.2+1).toNat).map λi:ag=>D.int (0+i)) (uT (ds:=[.int (h-w.2+1)]) (ax (aB (aB W W W) W W) aF) (ue #[by ext,by ext])) #[Qs,z10,z11,W,hQ,hq] ?_) ?_)
     .rintro r x Y hx ⟨Qs,u10,u11,rfl,hQ,hq⟩;rw[ql] at hx;let⟨t,ht,rfl⟩:=YE hx;let⟨hr,ht⟩:=dM.mp ht;rw[qW] at hr;rw[WK] at ht;subst ht;let⟨e1,e2⟩:=hPS.more g.sn hs (qR hw) (t:=(0:ah)+(r:ah)) .(b) .(b);let pl:(tb Zl P).length<100000:=by rw[FC];let:=bM cC hPS.ks;rw[qf,qf,qF] at this;ext
      show aG W (dI (NK (l:=tb Zl P) W) ?_);show dO (xX (d:=Zl (w.1,(0:ah)+(r:ah))) (k:=s.nm) (XJ:=tb Zl P) W pl W (jU (fC (aG .(k) #[(by decide:(2:ag)<=1000),W]))) #[W,?_]);rw[e1];show F8 (l:=tb Zl (P++[(s.nm,(w.1,(0:ah)+(r:ah)))])) W (aG (Mt W W (by rw[qf];unfold aK;ext)) (.inl #[W,Qs++[P++[(s.nm,(w.1,(0:ah)+(r:ah)))]],oS (.int ((0:ah)+(r:ah))),oS (pD (P++[(s.nm,(w.1,(0:ah)+(r:ah)))])),?_,λQ hQ2=>?_,by rw[qj,nt];ext]))
      .rw[dN];rfl
      .rcases c8.mp hQ2 with z|z
       .exact hQ Q z
       .rw[bL.mp z];show e2
     .rintro Y ⟨Qs,u10,u11,rfl,hQ,hq⟩;rw[qf,qW] at hq;show#[Qs,_,_,_,_,W,hQ,by ext]
    .rintro Y ⟨Qs,z8,z9,z10,z11,rfl,hQ,hq⟩;rw[qf] at hq;show#[Qs,_,_,_,_,_,W,hQ,by ext]
   .rintro Y ⟨Qs,y7,y8,y9,y10,y11,rfl,hQ,hq⟩;rw[qf] at hq;show lg W (jq (aG W (.inl #[W,Qs,_,_,_,_,_,_,_,_,_,W,hQ,?_])));rw[UR];ext
  .rintro Y ⟨Ps,a,b,c,m,x7,x8,x9,x10,x11,rfl,hI,hl⟩;rw[qf,eN] at hI;show gq W #[Ps,W,hI]
 let⟨d,e,Ps,rfl,hP⟩:=key;show#[Ps,e,hP]
end
def K3(h:ns≠[])(l:ah):jg ns<=l↔∀x∈ns,x<=l:=by
 let hl:0<ns.length:=Ar.mpr h;let M:=Em ns (ns.length-1);let e:Ψ ns=btG ns:=rfl;rw[e] at M;constructor
 .intro z x hx;let⟨j,hj,rfl⟩:=uq hx;show Wv (M.2 j .(b)) z
 .intro z;let YX:cr (btG ns) (ns.length-1)<ns.length:=by ext
  unfold jg;rw[kJ,qE YX];show z _ (lP YX)
def OM(us:Z (aj×ah))(h:us≠[]):tR (eD us)=U (.int (jg (us.map (·.2)))):=by
 show(fX ((tb D.int us).map (·.2))).bind _=_;unfold tb;rw[qp,show((λx:XR×D=>x.2) ∘ λq:aj×ah=>((.inr q.1:XR),D.int q.2))=D.int ∘ (λq:aj×ah=>q.2) from W,<-qp,sY,qb];cases us with
 |nil=>show bj W h
 |cons a r=>rfl
def orl{a b:aJ}(h1:ft Y=U a)(h2:a=ar->gt Y=U b):Yh ft gt Y=U (a || b):=by
 unfold Yh;rw[h1];cases a
 .exact h2 W
 .rfl
def fJ(H:b8)(nw:ah)(s:XM)(p:aj×ah):aJ:=match lk H s.nm with
 |some q=>decide (p=q)
 |none=>decide (nw<=p.2)
section
variable{bs:Z XQ}{P H:b8}{s:XM}
def č.onw(g:X3 bs ss js E ls ks h)(q:č ss h P):δ ss P:=λs hs=>by let⟨p,n,h1,h2,_⟩:=q.on s hs;show#[p,n,h1,pK (g.s s hs).nd h2]
def č.lo(g:X3 bs ss js E ls ks h)(q:č ss h P)(hs:s∈ss){p:aj×ah}(hp:lk P s.nm=U p):p.1∈wn s/\bz p.1=ai/\0<=p.2/\p.2+YW s p.1<=h:=by let⟨p',n,h1,h2,h3,h4⟩:=q.on s hs;rw[hp] at h1;cases h1;let hw:p.1∈wn s:=bo.mpr #[_,h2,W];let:=oH (g.s s hs).nd h2;show#[hw,mR g hs _ hw,h3,by rw[this];show h4]
def č.ok(g:X3 bs ss js E ls ks h)(q:č ss h P):Ú P:=#[by rw[q.ks];show g.sn,λr hr=>by
 let hm:r.1∈ss.map (·.nm):=by rw[<-q.ks];show qX hr
 let⟨s,hs,e⟩:=bo.mp hm;let hp:lk P s.nm=U r.2:=by rw[e];show pK (by rw[q.ks];show g.sn) hr
 show#[by rw[<-e];show(g.s s hs).nm,(q.lo g hs hp).2.1]]
def IP(g:X3 bs ss js E ls ks h)(q:č ss h P)(hH:∀q∈H,bz q.2.1=ai){XI:Prop}(e1:mm [bd bs ss js E ls ks h,pD P]=U d1)(r1:Rx XI d1):
  ∃d,tK [bd bs ss js E ls ks h,pD P,.int lm,pD H,.int nw]=U d/\∃b,d=.bl b/\(b=ai↔d1=.non/\eF ss P (λs p=>p.2+YW s p.1<=lm)/\eF ss P (λs p=>fJ H nw s p=ai)):=by
 let hO:=q.onw g;let⟨us,eE,hE,_,hk⟩:=Gc g hO;let Zb:us≠[]:=λz=>by let:=bM cC hk;rw[z,qf,qm,qf] at this;let:=g.sl.1;ext
 let XU:jg (us.map (·.2))<=lm↔eF ss P (λs p=>p.2+YW s p.1<=lm):=by
  rw[K3 (λz=>Zb (HC.mp z))];constructor
  .intro z s hs p hp;show z _ (bo.mpr #[_,kR (hE s hs p hp),W])
  .intro z x hx;let⟨r,hr,rfl⟩:=bo.mp hx;let hm:r.1∈ss.map (·.nm):=by rw[<-hk];show qX hr
   let⟨s,hs,e⟩:=bo.mp hm;let⟨p,n,hp,_⟩:=hO s hs;let h1:=hE s hs p hp;let h2:lk us s.nm=U r.2:=by rw[e];show pK (by rw[hk];show g.sn) hr
   rw[h2] at h1;let:=z s hs p hp;rw[qI h1];show this
 let i1:∀{a:au Slot},XX (b2 jc (cF mm (J (C 0) .(r))) (vC .non)) [oS .(g),oS (pD P),oS (.int lm),oS (pD H),oS (.int nw),a]=U (!jV d1):=by intro a;show bD (aB (aU .(k) e1) W ?_);rcases r1 with⟨rfl,_⟩|⟨l,rfl⟩<;>rfl
 let hd1:jV d1=ai↔d1=.non:=by
  rcases r1 with⟨rfl,_⟩|⟨l,rfl⟩
  .exact#[λ_=>rfl,λ_=>rfl]
  .exact#[(λz=>nomatch z),(λz=>nomatch z)]
 show fW (cP (ao:=λY=>Y=[oS .(g),oS (pD P),oS (.int lm),oS (pD H),oS (.int nw),B]/\d1=.non/\eF ss P (λs p=>p.2+YW s p.1<=lm)) (dS (orl i1 λ_=>bD (aB (zh (aU .(k) eE) (OM us Zb)) W W)) (λz=>aG W #[ar,W,(λz=>nomatch z),λz2=>?_]) λz=>#[W,?_]) ?_)
 .rw[hd1.mpr z2.1,ic,zN] at z;let z:decide (jg (us.map (·.2)) > lm)=ai:=z;let:=XU.mpr z2.2.1;rw[gw] at z;ext
 .rw[WV] at z;let z1:(!jV d1)=ar:=z.1;let z2:decide (jg (us.map (·.2)) > lm)=ar:=z.2;rw[Ax] at z1;rw[Al] at z2;show#[hd1.mp z1,XU.mp .(b)]
 .rintro Y ⟨rfl,hd,hlm⟩;let ek:(tb Zl P).map (λkv=>cU kv.1)=(ss.map (·.nm)).map D.str:=by rw[<-q.ks];unfold tb;rw[qp,qp];rfl
  let hX:Ž (C 1) [oS .(g),oS (pD P),oS (.int lm),oS (pD H),oS (.int nw),B]=U ((ss.map (·.nm)).map D.str):=by rw[<-ek];show tW W
  show cP (eC (λi Y=>(∃a,Y=[oS .(g),oS (pD P),oS (.int lm),oS (pD H),oS (.int nw),a])/\eF (ss.take i) P (λs p=>fJ H nw s p=ai)) hX #[#[_,W],λs hs=>by cases hs] ?_) ?_
  .rintro i x Y hx ⟨⟨a,rfl⟩,hI⟩;rw[qp,ql] at hx;let⟨s,hs,rfl⟩:=YE hx;let hm:=qR hs;let⟨p,n,hp,_⟩:=hO s hm;let up:fJ H nw s p=ai->eF (ss.take (i+1)) P (λs p=>fJ H nw s p=ai):=λz t ht r hr=>by
    rcases jQ hs ht with z2|rfl
    .exact hI t z2 r hr
    .rw[hp] at hr;cases hr;show z
   let no:∀{x:aJ},x=ar->fJ H nw s p=x->(ar=ai↔d1=.non/\eF ss P (λs p=>p.2+YW s p.1<=lm)/\eF ss P (λs p=>fJ H nw s p=ai)):=λe z=>#[(λz=>nomatch z),λz2=>by let:fJ H nw s p=ai:=z2.2.2 s hm p hp;rw[z,e] at this;cases this]
   show aG W (eS (aG (wk (P:=H) W W) #[λz=>?_,λz=>?_]))
   .obtain⟨r,hr⟩:=rY.mp z;let hc:fJ H nw s p=decide (p=r):=by unfold fJ;rw[hr]
    show dS (b:=!decide (p=r)) (bD (aB (aB W W (tL hp)) (aB W W (tL hr)) (O0 (q.lo g hm hp).2.1 (hH _ (kR hr))))) (λz=>aG W #[ar,W,no (by rw[Ho] at z;show z) hc]) λz=>#[#[_,W],up (by rw[hc];rw[Ax] at z;show z)]
   .let hr:lk H s.nm=B:=by
     cases e:lk H s.nm with
     |none=>rfl
     |some r=>rw[e] at z;cases z
    let hc:fJ H nw s p=decide (nw<=p.2):=by unfold fJ;rw[hr]
    show dS (b:=decide (p.2<nw)) (bD (aB (cZ W W hp 1 W) W W)) (λz=>aG W #[ar,W,no (qP (by let:=eq z;ext)) hc]) λz=>#[#[_,W],up (by rw[hc];show qU (by let:=vW z;ext))]
  .rintro Y ⟨⟨a,rfl⟩,hI⟩;rw[qf,qf,eN] at hI;show gq W #[ai,W,λ_=>#[hd,hlm,hI],λ_=>rfl]
end
section
variable{bs:Z XQ}{P H:b8}{s:XM}
def Ds:∀x∈à H s,x∈wn s:=λx hx=>by
 unfold à at hx;split at hx
 .exact(rM.mp hx).1
 .exact hx
def HQ(g:X3 bs ss js E ls ks h)(hs:s∈ss):(à H s).length<=4:=by
 let h4:(wn s).length<=4:=by unfold wn;rw[qf];show(g.s s hs).l4
 unfold à;split
 .exact qO (List.length_filter_le _ _) h4
 .exact h4
def tU(g:X3 bs ss js E ls ks h)(H:b8):FSt ss .non (Yo (Ŕ H) ss) (Yo (Φ H js nw) ss) (Yo (Ζ H js lm h) ss) [] [] (à H) (î H js nw) (ë H js lm h) [] [] where
 o:=⟨λs hs=>gB (nm:=λs:XM=>s.nm) (f:=Ŕ H) g.sn hs⟩
 ow:=λs _=>Ds
 ak:=by rw[qp];rfl
 a:=λs hs=>gB (nm:=λs:XM=>s.nm) (f:=Φ H js nw) g.sn hs
 b:=λs hs=>gB (nm:=λs:XM=>s.nm) (f:=Ζ H js lm h) g.sn hs
 tk:=rfl
 tm:=λp hp=>by cases hp
 tl:=by decide
 nk:=rfl
 nl:=by decide
 nm:=λm hm=>by cases hm
def Fp(g:X3 bs ss js E ls ks h)(H:b8)(hs:s∈ss):StF (Yo (Φ H js nw) ss) (Yo (Ζ H js lm h) ss) (Yo (Ŕ H) ss) s (à H s) (î H js nw s) (ë H js lm h s):=
 #[(tU (lm:=lm) (nw:=nw) g H).o.at' s hs,Ds,HQ g hs,(tU (lm:=lm) (nw:=nw) g H).a s hs,(tU (lm:=lm) (nw:=nw) g H).b s hs]
def Ra{x:ah}(hx:x∈ns):mnI ns<=x:=by let⟨j,hj,rfl⟩:=uq hx;show(E2 ns (ns.length-1)).2 j .(b)
def KW{p:aj×ah}(g:X3 bs ss js E ls ks h)(hs:s∈ss)(h1:p.1∈wn s)(h2:0<=p.2)(h3:p.2+YW s p.1<=h)(hj:JbO js s p):(p.2+YW s p.1<=lm/\fJ H nw s p=ai)↔Ũ js lm h (à H) (î H js nw) (ë H js lm h) s p=ai:=by
 let hd:p.2+YW s p.1<=duI js h s.nm:=by
  unfold duI;cases e:eJ js s.nm with
  |none=>show h3
  |some j=>show(hj j e).2
 let he:Ę js s.nm<=p.2:=by
  unfold Ę;cases e:eJ js s.nm with
  |none=>show h2
  |some j=>show(hj j e).1
 let hm:p.2+YW s p.1<=lm↔p.2+YW s p.1<=Y5 js lm h s.nm:=by unfold Y5;split<;>split<;>ext
 let hw:lsW s<=YW s p.1:=by let⟨w,hw,e⟩:=bo.mp h1;rw[<-e,oH (g.s s hs).nd hw];show Ra (qX hw)
 unfold Ũ;rw[cW,cW,cW,gw,gw,gw,gw,hm];cases e:lk H s.nm with
 |some q=>
  let e1:à H s=(wn s).filter λx=>decide (x∈[q.1]):=by unfold à;rw[e]
  let e2:î H js nw s=ξ q.2 (Ę js s.nm):=by unfold î;rw[e]
  let e3:ë H js lm h s=q.2:=by unfold ë;rw[e]
  let e4:fJ H nw s p=decide (p=q):=by unfold fJ;rw[e]
  rw[e1,e2,e3,e4,rM,gw,gw,bL];unfold ξ;constructor
  .rintro⟨z,rfl⟩;show#[#[#[h1,W],by split<;>ext,kK _],z]
  .rintro⟨⟨⟨_,z1⟩,z2,z3⟩,z4⟩;show#[z4,Prod.ext z1 ?_];split at z2<;>ext
 |none=>
  let e1:à H s=wn s:=by unfold à;rw[e]
  let e2:î H js nw s=ξ nw (Ę js s.nm):=by unfold î;rw[e]
  let e3:ë H js lm h s=Y5 js lm h s.nm-lsW s:=by unfold ë;rw[e]
  let e4:fJ H nw s p=decide (nw<=p.2):=by unfold fJ;rw[e]
  rw[e1,e2,e3,e4,gw];unfold ξ;constructor
  .rintro⟨z,z2⟩;show#[#[h1,by split<;>ext,by ext],z]
  .rintro⟨⟨_,z2,z3⟩,z4⟩;show#[z4,?_];split at z2<;>ext
def Rv(g:X3 bs ss js E ls ks h)(hk:Œ ss js ls XJ)(h3:ss.length<=3)(q:č ss h P)(hH:∀q∈H,bz q.2.1=ai):
  ∃b,vm [Ye ai bs ss js E ls ks h lm (.non,0) XJ (Yo (Ŕ H) ss) (Yo (Φ H js nw) ss) (Yo (Ζ H js lm h) ss) [] [],pD P]=U (.bl b)/\tK [bd bs ss js E ls ks h,pD P,.int lm,pD H,.int nw]=U (.bl b)/\(b=ai->eF ss P λs p=>Ũ js lm h (à H) (î H js nw) (ë H js lm h) s p=ai/\BrO bs s p):=by
 let hl:P.length<=100:=by let:=bM cC q.ks;rw[qf,qf] at this;ext
 let⟨d1,e1,r1⟩:=QV g .(b) (q.ok g) hl;let F:=tU (js:=js) (lm:=lm) (nw:=nw) g H;let⟨_,ed,b,rfl,M⟩:=IP (lm:=lm) (nw:=nw) g q hH e1 r1;let⟨_,eg,b',rfl,vk⟩:=Ss (lm:=lm) (kp:=(.non,0)) g hk .(b) F (q.ok g) (kB:=ai) e1 λ_=>UA F;let key:d1=.non->((eF ss P (λs p=>p.2+YW s p.1<=lm)/\eF ss P (λs p=>fJ H nw s p=ai))↔eF ss P λs p=>Ũ js lm h (à H) (î H js nw) (ë H js lm h) s p=ai):=λe=>by
  rcases r1 with⟨_,hj,hbr⟩|⟨l,e2⟩
  .let w:∀s∈ss,∀p,lk P s.nm=U p->_:=λs hs p hp=>KW (H:=H) (nw:=nw) (lm:=lm) g hs (q.lo g hs hp).1 (q.lo g hs hp).2.2.1 (q.lo g hs hp).2.2.2 (hj s hs p hp);constructor
   .intro z s hs p hp;show(w s hs p hp).mp #[z.1 s hs p hp,z.2 s hs p hp]
   .intro z;show#[λs hs p hp=>((w s hs p hp).mpr (z s hs p hp)).1,λs hs p hp=>((w s hs p hp).mpr (z s hs p hp)).2]
  .rw[e] at e2;cases e2
 let hN:jV d1=ai↔d1=.non:=by
  rcases r1 with⟨rfl,_⟩|⟨l,rfl⟩
  .exact#[λ_=>rfl,λ_=>rfl]
  .exact#[(λz=>nomatch z),(λz=>nomatch z)]
 let hW:Win ss js lm h (à H) (î H js nw) (ë H js lm h) P↔eF ss P λs p=>Ũ js lm h (à H) (î H js nw) (ë H js lm h) s p=ai:=by
  constructor
  .intro z s hs p hp;let⟨p',h1,h2⟩:=z s hs;rw[hp] at h1;cases h1;show h2
  .intro z s hs;let⟨p,n,hp,_⟩:=q.on s hs;show#[p,hp,z s hs p hp]
 let hbb:b=b':=by
  rw[m9,M,vk,hN,hW];constructor
  .intro z;show#[(key z.1).mp z.2,W,W,z.1]
  .intro z;show#[z.2.2.2,(key z.2.2.2).mpr z.1]
 subst hbb;show#[b,eg,ed,λz s hs p hp=>?_];let z1:=vk.mp z;let z2:=hN.mp z1.2.2.2;show#[hW.mp z1.1 s hs p hp,?_];rcases r1 with⟨_,hj,hbr⟩|⟨l,e2⟩
 .exact hbr s hs p hp
 .rw[z2] at e2;cases e2
end
def AR{x y:Z D}(h1:x≠[])(h2:y≠[])(h3:x.length+y.length<=aK):iY (.tup x) (.tup y)=U (.tup (x++y)):=qY #[h1,h2,h3]
noncomputable def Ÿ(k:ag)(s:XM):XM:=#[s.nm,s.kd,s.ws.take k]
def IV(k:ag)(ss:Z XM):(ss.map (Ÿ k)).map (·.nm)=ss.map (·.nm):=by rw[qp];rfl
section
variable{bs:Z XQ}
def Ks(g:X3 bs ss js E ls ks h){k:ag}(hk:1<=k):X3 bs (ss.map (Ÿ k)) js E ls ks h:=by
 let e:=IV k ss;show#[g.hh,g.bl,g.b,g.bn,by rw[qf];show g.sl,λx hx=>?_,by rw[e];show g.sn,g.jl,by rw[e];show g.j,g.jn,g.jm,g.ul,g.u,g.un,g.ll,by rw[e];show g.l,g.ln,g.kl,by rw[e];show g.k,g.kn];let⟨s,hs,rfl⟩:=bo.mp hx;let q:=g.s s hs;show#[q.nm,q.kd,?_,?_,λw hw=>q.ws w (pc hw),pi ((lK _ _).map _) q.nd]
 .show 1<=(s.ws.take k).length;rw[qF];let:=q.l1;ext
 .show(s.ws.take k).length<=4;rw[qF];let:=q.l4;ext
def Tf{c:ah}(ec:fQ [.scr ns,.int 3]=U (.int c)):∀(l:Z XM)(x y z:au Slot),b9 (bT 3 (aQ (aA 0) (aQ (aA 1) (aQ (aA 2) bV)))) tT (ba (X5 (J (C 0) (J (C 1) (J (Zg (C 2) pN (pS (b2 aX .(e) (cF bO (J (cF fQ (J (C 3) (J (vC (.int 3)) aq))) (J (vC (.int 20)) (J (vC (.int 2)) aq))))))) aq))))) (l.map bC) [x,y,z,oS (.scr ns)]=U ((l.map (Ÿ (1+Yk c 20 2).toNat)).map bC):=by
 let⟨ed,d0,d1⟩:=fg c (k:=20) (m:=2) .(c) .(c) .(c);intro l
 induction l with
 |nil=>intro x y z;rfl
 |cons s r ih=>
  intro x y z;let e:ba (X5 (J (C 0) (J (C 1) (J (Zg (C 2) pN (pS (b2 aX .(e) (cF bO (J (cF fQ (J (C 3) (J (vC (.int 3)) aq))) (J (vC (.int 20)) (J (vC (.int 2)) aq))))))) aq)))) [oS (.str s.nm),oS (.str s.kd),oS (.lst (s.ws.map dW)),oS (.scr ns)]=U (bC (Ÿ (1+Yk c 20 2).toNat s)):=by show jU (fC (aG (ax W (ax W (ax (yr (d:=1+Yk c 20 2) W (aB W (aU (ax (aU .(k) ec) .(k)) ed) W) .(b)) aF))) #[(by decide:(3:ag)<=1000),?_]));rw[<-sP];rfl
  show(ba (X5 _) [oS (.str s.nm),oS (.str s.kd),oS (.lst (s.ws.map dW)),oS (.scr ns)]).bind _=_;rw[e];show bM (ny λx=>bC (Ÿ (1+Yk c 20 2).toNat s)::x) (ih (oS (.str s.nm)) (oS (.str s.kd)) (oS (.lst (s.ws.map dW))))
end
def Mc(ns:Z ah)(hns:ns.length<=63):∃(bs:Z XQ)(ss:Z XM)(js:Z X4)(E:Z YZ)(ls:Z YA)(ks:Z YD)(h:ah),pT [.scr ns]=U (mW bs ss js E ls ks h)/\X3 bs ss js E ls ks h/\ss.length<=3/\js.length<=3/\h<=8:=by
 let key:Wp (pT [.scr ns]) λd=>∃(bs:Z XQ)(ss:Z XM)(js:Z X4)(E:Z YZ)(ls:Z YA)(ks:Z YD)(h:ah),d=mW bs ss js E ls ks h/\X3 bs ss js E ls ks h/\ss.length<=3/\js.length<=3/\h<=8:=by
  unfold pT;let⟨_,e0,c0,rfl⟩:=t4 ns 0;let⟨_,e3,c3,rfl⟩:=t4 ns 3;obtain⟨m,hm⟩:∃m:ag,m=min (max 1 (ns.length-4)) 3:=#[_,rfl];show gf (bB (aG (a:=.int m) (aU (ax (aU (z:=.int (max 1 (ns.length-4):ag)) (ax W (ax (aB (aU W W) W W) aF)) ?_) (ax W aF)) ?_) ?_))
  .show U (D.int (if (ns.length:ah)-4 > 1 then (ns.length:ah)-4 else 1))=_
   congr 2
   split<;>ext
  .show U (D.int (if (3:ah)<(max 1 (ns.length-4):ag) then 3 else (max 1 (ns.length-4):ag)))=_
   congr 2
   split<;>ext
  let m3:m=1\/m=2\/m=3:=by ext
  obtain⟨q,hq,hq1,hq2⟩:∃q:ah,XV (.lst [.int 7,.int 5,.int 3]) (.int ((m:ah)-1))=U (.int q)/\1<=q/\q<=7:=by
   rcases m3 with e|e|e<;>rw[e]
   .exact#[7,W,by decide,by decide]
   .exact#[5,W,by decide,by decide]
   .exact#[3,W,by decide,by decide]
  let⟨ed,d0,d1⟩:=fg c0 (k:=80) (m:=q) .(c) .(c) .(b);show bB (aG (aB W (aU (ax (aU .(k) e0) (ax W (ax (aB (fH (yk (ax W .(k)) (show(3:ag)<=1000 by decide))) (aB W W W) hq) aF))) ed) W) ?_);let⟨_,el,bs,ss,js,E,ls,ks,rfl,g,h3,j3⟩:=Ik ns hns (h:=2+Yk c0 80 q) #[by ext,by ext];show bB (aG (aU (ax W .(k)) el) ?_);show bB (aG (fH (iV (db (aB W W (ē _ 1))) (by rw[qf];ext) (Tf e3 ss B B B))) ?_);let k1:1<=(1+Yk c3 20 2).toNat:=by let:=(fg c3 (k:=20) (m:=2) .(c) .(c) .(c)).2.1;ext
  show fV (aG (aB (x:=.tup ([.lst (bs.map bY)]++[.lst ((ss.map (Ÿ (1+Yk c3 20 2).toNat)).map bC)])) (y:=.tup [.lst (js.map bx),.lst (E.map dv),.lst (ls.map df),.lst (ks.map c7),.int (2+Yk c0 80 q)]) (aB (x:=.tup [.lst (bs.map bY)]) (y:=.tup [.lst ((ss.map (Ÿ (1+Yk c3 20 2).toNat)).map bC)]) (rF (l:=B) (h:=U 1) W W W W) (jU (fC (aG (ax W aF) #[(by decide:(1:ag)<=1000),W]))) (AR (x:=[.lst (bs.map bY)]) (y:=[.lst ((ss.map (Ÿ (1+Yk c3 20 2).toNat)).map bC)]) (λq=>nomatch q) (λq=>nomatch q) (show 1+1<=aK by unfold aK;ext))) (rF (l:=U 2) (h:=B) W W W W) (AR (x:=[.lst (bs.map bY)]++[.lst ((ss.map (Ÿ (1+Yk c3 20 2).toNat)).map bC)]) (y:=[.lst (js.map bx),.lst (E.map dv),.lst (ls.map df),.lst (ks.map c7),.int (2+Yk c0 80 q)]) (λq=>nomatch q) (λq=>nomatch q) (show 2+5<=aK by unfold aK;ext))) ?_);show#[_,W,bs,ss.map (Ÿ (1+Yk c3 20 2).toNat),js,E,ls,ks,2+Yk c0 80 q,W,Ks g k1,by rw[qf];show h3,j3,by ext]
 let⟨d,e,bs,ss,js,E,ls,ks,h,rfl,k⟩:=key;show#[bs,ss,js,E,ls,ks,h,e,k]
def RQ{F:Z D->au Fo}{dd:Z D}{fs:Fo}(h1:fr Y=U ds)(h2:F (ds++dd)=U fs):um c j F dd fr Y=U (.nx,Y.set j (U (.fo ar c fs))):=by unfold um;rw[h1,qb,h2];rfl
def HG{b:aJ}{fs:Fo}(h1:Y[i]?=U (U (.fo b c fs)))(h2:f (Y.set i (oS (fzD c fs)))=U d)(h3:œ d=ai):rH i f Y=U d:=by unfold rH;rw[h1];show(f _).bind _=_;rw[h2];show qY h3
def N6{S:bG->Prop}(h:Wp (g Y) λr=>r.1=.nx/\S r.2)(k:∀Y',S Y'->Wp (g' Y') R):Wp (ay g g' Y) R:=dO (h.imp λr q=>#[q.1,k _ q.2])
abbrev lwE(S T ac:D)(c lm:ah)(h5:Slot)(nw:ah)(a b d fo l g x y z w v:au Slot):bG:=[oS ac,oS S,oS T,oS (.int c),oS (.int lm),U h5,oS (.int nw),a,b,d,fo,l,g,x,y,z,w,v]
section
variable{bs:Z XQ}{A:Z (XR×D)}{P H:b8}
def MK{F:FQ}(hm:m∉eG)(X:XM->D):∀(l:Z XM)(a b c:au Slot),(∀s∈l,F [Ye ar bs ss js E ls ks h lm (.non,0) XJ Γ A af [] [],.str s.nm]=U (X s))->b9 (bT 3 (aQ (aA 0) (aQ (aA 1) (aQ (aA 2) bV)))) tT (ba (X5 (J (C 0) (J (bp "Facts" m F (C 3) (J (C 0) aq)) aq)))) (l.map bC) [a,b,c,oS (Ye ar bs ss js E ls ks h lm (.non,0) XJ Γ A af [] [])]=U (l.map λs=>.tup [.str s.nm,X s]):=by
 intro l
 induction l with
 |nil=>intro a b c _;rfl
 |cons s r ih=>
  intro a b c hF;let e:ba (X5 (J (C 0) (J (bp "Facts" m F (C 3) (J (C 0) aq)) aq))) [oS (.str s.nm),oS (.str s.kd),oS (.lst (s.ws.map dW)),oS (Ye ar bs ss js E ls ks h lm (.non,0) XJ Γ A af [] [])]=U (.tup [.str s.nm,X s]):=
   jU (fC (aG (ax W (ax (eP hm W (ax W aF) (hF s qg)) aF)) #[(by decide:(2:ag)<=1000),W]))
  show(ba (X5 _) [oS (.str s.nm),oS (.str s.kd),oS (.lst (s.ws.map dW)),oS (Ye ar bs ss js E ls ks h lm (.non,0) XJ Γ A af [] [])]).bind _=_;rw[e];show bM (ny λx=>D.tup [.str s.nm,X s]::x) (ih (oS (.str s.nm)) (oS (.str s.kd)) (oS (.lst (s.ws.map dW))) λt ht=>hF t (qh _ ht))
def Ny{X:XM->D}:∀{l:Z XM},(∀s∈l,Tld (X s))->fZ (l.map λs=>D.tup [.str s.nm,X s])=ai:=by
 intro l
 induction l with
 |nil=>intro _;rfl
 |cons s r ih=>
  intro hX;show(œ (.tup [.str s.nm,X s]) && fZ (r.map λs=>D.tup [.str s.nm,X s]))=ai;rw[ih λt ht=>hX t (qh _ ht)];rcases hX s qg with e|⟨v,e⟩<;>rw[e]<;>rfl
def A8(g:X3 bs ss js E ls ks h)(h3:ss.length<=3){F:FQ}(hm:m∉eG){X:XM->D}(hF:∀s∈ss,F [Ye ar bs ss js E ls ks h lm (.non,0) XJ Γ A af [] [],.str s.nm]=U (X s))(hT:∀s∈ss,Tld (X s))(h1:Y[10]?=U (U (.fo ar "Facts" (fF (gD bs ss js E ls ks h lm (.non,0) XJ) Γ A af [] []))))(hl:∀x,X6 (b2 XV (C 1) .(e)) (Y.set 10 x)=U (ss.map bC))(hf:dU [B,B,B,U 10] (Y.set 10 (oS (Ye ar bs ss js E ls ks h lm (.non,0) XJ Γ A af [] [])))=[B,B,B,oS (Ye ar bs ss js E ls ks h lm (.non,0) XJ Γ A af [] [])]):
  cF iL (iJ 10 (J (aR (aW (X6 (b2 XV (C 1) .(e))) (bT 3 (aQ (aA 0) (aQ (aA 1) (aQ (aA 2) bV)))) tT (ba (X5 (J (C 0) (J (bp "Facts" m F (C 3) (J (C 0) aq)) aq)))) [B,B,B,U 10])) aq)) Y=U (.dk (Yo X ss)):=
 aU (yZ h1 (ax (fH (iV (hl _) (by rw[qf];ext) (by
  show b9 _ _ _ _ (dU [B,B,B,U 10] (Y.set 10 (oS (Ye ar bs ss js E ls ks h lm (.non,0) XJ Γ A af [] []))))=_;rw[hf];show MK hm X ss B B B hF))) aF) (by
  show(fZ (ss.map λs=>D.tup [.str s.nm,X s]) && ai)=ai;rw[Ny hT];rfl)) (yp (nm:=λs:XM=>s.nm) (f:=X) .(b) g.sn)
end
def Lm(ns:Z ah)(hns:ns.length<=63):yf [.scr ns]=U (.bl ai):=by
 show jU ?_;unfold yf zi;let⟨bs,ss,js,E,ls,ks,h,el,g,h3,j3,h8⟩:=Mc ns hns;let ml:(js.flatMap (·.ms)).length<=300:=by
  let:=wK (f:=λj:X4=>j.ms) (m:=40) (l:=js) λj hj=>by let:=(g.j j hj).ln;rw[qf] at this;ext
  ext
 let⟨_,e3,c,rfl⟩:=t4 ns 3;let⟨d84,_,_⟩:=fg c (k:=84) (m:=4) .(c) .(c) .(c);let⟨d85,_,_⟩:=fg c (k:=85) (m:=2) .(c) .(c) .(c);let⟨d86,_,_⟩:=fg c (k:=86) (m:=3) .(c) .(c) .(c);let⟨d87,a0,a1⟩:=fg c (k:=87) (m:=ss.length) .(c) .(c) (by let:=g.sl.1;ext);let⟨d88,_,_⟩:=fg c (k:=88) (m:=h+1) .(c) .(c) (by let:=g.hh;ext);obtain⟨lm,hlm⟩:∃lm,ij [.int 0,.int (h-Yk c 84 4)]=U (.int lm):=#[_,rfl];show gf (bB (aG (aU (ax W aF) el) (bB (aG (aU (ax W aF) (Nq g ml)) (bB (aG (aU .(k) e3) (bB (aG (aU (ax W (ax (aB (aB W W (ē _ 6)) (aU (ax W .(k)) d84) W) aF)) hlm) ?_))))))));show dI W (bB (aG W ?_));show N6 (S:=λY=>∃(H:b8)(nw:ah)(a b d:au Slot),Y=lwE (mW bs ss js E ls ks h) .(g) (.scr ns) c lm (.odk (tb Zl H)) nw a b d B B B B B B B B/\∀q∈H,bz q.2.1=ai) (eS (aG (bD (aB (aU (ax W .(k)) d85) W W)) #[λ_=>?_,λ_=>gF #[W,[],0,B,B,B,W,λq hq=>by cases hq]])) ?_
 .obtain⟨s,hs,es⟩:=S1 (m:=bC) (xs:=ss) a0 a1;let⟨w,hw,ew⟩:=N3 (m:=dW) (xs:=s.ws) (g.s s hs).l1;show bB (aG (aU (ax W .(k)) d86) ?_);show dI (Jt (aB (aB W W (ē _ 1)) (aU (ax W (ax W (ax (aU (ax (aB W W (ē _ 1)) aF) (Fe bC ss)) aF))) d87) es) W) ?_;show xX (XJ:=[]) (k:=s.nm) (d:=Zl (w.1,Yk c 88 (h+1))) W .(c) W (jU (fC (aG (ax (aB (aB W W ew) W W) (ax (aU (ax W (ax W (ax (aB (aB W W (ē _ 6)) W W) aF))) d88) aF)) #[(by decide:(2:ag)<=1000),W]))) #[W,[(s.nm,(w.1,Yk c 88 (h+1)))],Yk c 86 3,_,_,_,W,λq hq=>?_];rw[bL.mp hq];show mR g hs w.1 (bo.mpr #[w,hw,W])
 rintro Y ⟨H,nw,xa,xb,xd,rfl,hH⟩;let⟨_,ef,XJ,rfl,hk⟩:=OJ (lm:=lm) (nw:=nw) g H hH;show F8 W (dI (RQ (ds:=[bd bs ss js E ls ks h,.int lm,pD H,.non,.int 0,.int nw]) (ax W (ax W (ax W (ax W .(k))))) ef) ?_);let hL:∀s∈ss,∃d,_:=λs hs=>Uh (lm:=lm) (kp:=(.non,0)) (XJ:=XJ) g hs (Fp (lm:=lm) (nw:=nw) g H hs);let hG:∀s∈ss,∃d,_:=λs hs=>TW (lm:=lm) (kp:=(.non,0)) (XJ:=XJ) g hs (Fp (lm:=lm) (nw:=nw) g H hs)
 letI fc:=Ye ar bs ss js E ls ks h lm (.non,0) XJ (Yo (Ŕ H) ss) (Yo (Φ H js nw) ss) (Yo (Ζ H js lm h) ss) [] []
 letI lD:XM->D:=λs=>(mY [fc,.str s.nm]).getD .non
 let gD':XM->D:=λs=>(mr [fc,.str s.nm]).getD .non
 let kL:∀s∈ss,mY [fc,.str s.nm]=U (lD s)/\Tld (lD s)/\∀p:aj×ah,p.1∈à H s->î H js nw s<=p.2->p.2<=ë H js lm h s->p.2+YW s p.1<=Y5 js lm h s.nm->BrO bs s p->∃v,lD s=.int v/\v<=p.2:=λs hs=>by
  let⟨d,e,k⟩:=hL s hs;let:lD s=d:=by show(mY [fc,.str s.nm]).getD .non=d;rw[e];rfl
  rw[this];show#[e,k]
 let kG:∀s∈ss,mr [fc,.str s.nm]=U (gD' s)/\Tld (gD' s)/\∀p:aj×ah,p.1∈à H s->î H js nw s<=p.2->p.2<=ë H js lm h s->p.2+YW s p.1<=Y5 js lm h s.nm->BrO bs s p->∃v,gD' s=.int v/\p.2<=v:=λs hs=>by
  let⟨d,e,k⟩:=hG s hs;let:gD' s=d:=by show(mr [fc,.str s.nm]).getD .non=d;rw[e];rfl
  rw[this];show#[e,k]
 show bB (aG (A8 (F:=mY) g h3 (show("least_start":aj)∉eG by decide +kernel) (λs hs=>(kL s hs).1) (λs hs=>(kL s hs).2.1) W (λx=>db (aB W W (ē _ 1))) W) (bB (aG (A8 (F:=mr) g h3 (show("greatest_start":aj)∉eG by decide +kernel) (λs hs=>(kG s hs).1) (λs hs=>(kG s hs).2.1) W (λx=>db (aB W W (ē _ 1))) W) ?_)));let⟨Ps,eA,hP⟩:=LH g h3 h8
 letI fe:=fF (gD bs ss js E ls ks h lm (.non,0) XJ) (Yo (Ŕ H) ss) (Yo (Φ H js nw) ss) (Yo (Ζ H js lm h) ss) [] []
 letI en:=λ(a x y z w v:au Slot)=>lwE (mW bs ss js E ls ks h) .(g) (.scr ns) c lm (.sh (pD H)) nw a xb xd (U (.fo ar "Facts" fe)) (oS (.dk (Yo lD ss))) (oS (.dk (Yo gD' ss))) x y z w v
 show dO ((eC (Rt:=λ_=>False) (λ_ Y=>∃a x y z w v,Y=en a x y z w v) (xs:=Ps.map pD) (db (aU (ax (aB W W (ē _ 1)) (ax (aB W W (ē _ 6)) aF)) eA)) #[xa,B,B,B,B,B,W] ?_).imp λr q=>?_)
 .rintro i x Y hx ⟨a,x13,x14,x15,x16,x17,rfl⟩;rw[ql] at hx;let⟨P,hPi,rfl⟩:=YE hx;let hp:=hP P (qR hPi);let⟨b,eg,ed,M⟩:=Rv (lm:=lm) (nw:=nw) g hk h3 hp hH;show aG W (bB (aG (aU (ax W (ax W (ax W .(k)))) ed) (bB (aG (HG (d:=.bl b) W (wP (z:=ai) (c:="Facts") (fs:=fe) (show("goes":aj)∉eG by decide +kernel) W (ax W aF) eg) W) ?_))));show cP (ao:=λY=>Y=en a (oS (pD P)) (oS (.bl b)) (oS (.bl b)) x16 x17) (dS (b:=ar) (bor (a:=ar) (b:=ar) (jS (b:=ai) (bD (aU .(k) W))) (bD (aB W W (by cases b<;>rfl)))) (λq=>nomatch q) λ_=>rfl) ?_;rintro Y rfl;show eS (aG (a:=b) W #[λe=>?_,λ_=>gF (.inl #[W,_,_,_,_,_,_,W])]);let hw:=M e;let ek:(tb Zl P).map (λkv=>cU kv.1)=(ss.map (·.nm)).map D.str:=by rw[<-hp.ks];unfold tb;rw[qp,qp];rfl
  show xj (eC (λ_ Y=>∃a w v,Y=en a (oS (pD P)) (oS (.bl b)) (oS (.bl b)) w v) (xs:=(ss.map (·.nm)).map D.str) ?_ #[_,_,_,W] ?_) ?_
  .rw[<-ek];show tW W
  .rintro j x Y hx ⟨a,w,v,rfl⟩;rw[qp,ql] at hx;let⟨s,hs,rfl⟩:=YE hx;let hm:=qR hs;let⟨p,n,Κ,_⟩:=hp.on s hm;let⟨w1,w2⟩:=hw s hm p Κ;unfold Ũ at w1;rw[cW,cW,cW,gw,gw,gw,gw] at w1;let⟨v1,l1,l2⟩:=(kL s hm).2.2 p w1.1.1 w1.1.2.1 w1.1.2.2 w1.2 w2;let⟨v2,g1,g2⟩:=(kG s hm).2.2 p w1.1.1 w1.1.2.1 w1.1.2.2 w1.2 w2;let dL:aT (.dk (Yo lD ss)) (.str s.nm)=U (.int v1):=by show(U (bw (Yo lD ss) (.inr s.nm))).bind id=_;rw[gB (nm:=λs:XM=>s.nm) (f:=lD) g.sn hm,l1];rfl
   let dG:aT (.dk (Yo gD' ss)) (.str s.nm)=U (.int v2):=by show(U (bw (Yo gD' ss) (.inr s.nm))).bind id=_;rw[gB (nm:=λs:XM=>s.nm) (f:=gD') g.sn hm,g1];rfl
   show aG W (bB (aG (aB W W dL) (bB (aG (aB W W dG) (dS (b:=ar) ?_ (λq=>nomatch q) λ_=>#[_,_,_,W])))));show bor (a:=ar) (b:=ar) (bD (aB W W W)) (bor (a:=ar) (b:=ar) (bD (aB W W W)) (bor (a:=ar) (b:=ar) (bD (aB (cZ W W Κ 1 W) W ?_)) (bD (aB (cZ W W Κ 1 W) W ?_))))
   .show U (D.bl (decide (p.2<v1)))=_;rw[qP .(b)]
   .show U (D.bl (decide (p.2 > v2)))=_;rw[qP .(b)]
  .rintro Y ⟨a,w,v,rfl⟩;show#[_,_,_,_,_,_,W]
 .rcases q with⟨q,a,x,y,z,w,v,e⟩|⟨_,_,q⟩
  .exact#[q,fV (aG W #[_,W,W])]
  .exact q.elim
end Law
section
variable{g:FG}
def Yn(N':Z aj)(hi:DI O X tg iter fi)(M:N'.Nodup->DB O X N' scope tg ć Č g ft fe:=by intro nd;show⟨λ_ _ _ _ _=>#[by right,by first|show mH|(show sZ ?_;exfalso),by ac_rfl]⟩)(hn:N'.Nodup:=by decide +kernel)(hc:X.calm=ai:=by rfl)(hk:scope.kind=.function:=by rfl)(h:tX scope.names X.env.scope.names=ai:=by rfl)(F:sR N' fv X.N X.env.scope.names scope.names=ai:=by rfl)(hs:∀x,km iter X.env x=bc x:=by intro _;rfl):DO O X .(q) (aW fi g ft fe fv):=HJ hc (.of hk h) (.of F) hi (M hn) hs
def iF(i:ag){y:aj}(hN:X.N.Nodup)(N':Z aj)(hi:DI O X tg iter fi)(M:N'.Nodup->DB O X N' scope tg ć Č g ft fe:=by intro nd;show⟨λ_ _ _ _ _=>#[by right,by first|show mH|(show sZ ?_;exfalso),by ac_rfl]⟩)(hn:N'.Nodup:=by decide +kernel)(hc:X.calm=ai:=by rfl)(hk:scope.kind=.function:=by rfl)(h:tX scope.names X.env.scope.names=ai:=by rfl)(F:sR N' fv X.N X.env.scope.names scope.names=ai:=by rfl)(hy:X.N[i]?=U y:=by rfl)(τ:X.env.scope.names.lookup y=U .local:=by rfl)(ũ:dA .(q) (U (.Name y py)) Ď.line X.env=bc ai:=by rfl)(hs:∀x,km iter X.env x=bc x:=by intro _;rfl):DS O X (.Assign [.Name y py] .(q) Ď) (aP i (aR (aW fi g ft fe fv))):=J4 i hN hc (.of hk h) (.of F) hi (M hn) hy τ ũ hs
end
def f':dz "all"=U (.builtin "all"):=by decide +kernel
def Jy:dz "isinstance"=U (.builtin "isinstance"):=by decide +kernel
def Qi:dz "len"=U (.builtin "len"):=by decide +kernel
def M9:dz "max"=U (.builtin "max"):=by decide +kernel
def xU:dz "min"=U (.builtin "min"):=by decide +kernel
def Je:dz "sorted"=U (.builtin "sorted"):=by decide +kernel
def AB:dz "sum"=U (.builtin "sum"):=by decide +kernel
def MN:dz "any"=U (.builtin "any"):=by decide +kernel
def L5:dz "bool"=U (.type "bool"):=by decide +kernel
def ju:dz "dict"=U (.type "dict"):=by decide +kernel
def N8:dz "int"=U (.type "int"):=by decide +kernel
def CA:dz "list"=U (.type "list"):=by decide +kernel
def JC:dz "str"=U (.type "str"):=by decide +kernel
def FN:dz "tuple"=U (.type "tuple"):=by decide +kernel
def Kz:dz "set"=U (.type "set"):=by decide +kernel
abbrev YM(N:Z aj)(k:ag)(sc:Scope):Prop:=YC N (N.take k) sc
section
variable{k:ag}
def YS.cl(F:YS K mg x st)(S:YC N ps (aC st))(X8:N.Nodup->∀(f:av)(X1:aw)(A:cJ)(outer:Z cB)(s:aH)(H:Hp)(us:XK),YK k (A.deeper (dj x (aC st) s.heap.objs.size f X1))->Zn O (dH ã P w K mg base N x (aC st) f X1 A outer s H us).nox (ca st) g)
  (M:∀a b c d e f(v:ag->aw),eX (cX x x (cY st) (ca st) (aC st) .none a b c d e f) #[(cw ps.length).map v,[]]=bc (ps.zip ((cw ps.length).map v)):=by exactλ_ _ _ _ _ _ _=>rfl):Ţ O P w K mg base x ps.length (k+1) (aO (N.length-ps.length) g):=F.cal S (bn M) (X8 S.nd)
def XZ.cl(Γ:Yc O K mg c XI)(F:XZ K XI c m qual st)(S:YC N ps (aC st))(X8:N.Nodup->∀(f:av)(X1:aw)(A:cJ)(outer:Z cB)(s:aH)(H:Hp)(us:XK),YK k .(l)->Zn O .(j).nox (ca st) g)
  (M:∀a b c d e f(v:ag->aw),eX (cX m qual (cY st) (ca st) (aC st) .none a b c d e f) #[(cw ps.length).map v,[]]=bc (ps.zip ((cw ps.length).map v)):=by exactλ_ _ _ _ _ _ _=>rfl):Yx O P w K mg base c m ps.length (k+1) (aO (N.length-ps.length) g):=XZ.cal Γ F S (bn M) (X8 S.nd)
end
set_option maxHeartbeats 4000000
variable{C_Facts C_Grounds C_Shop:av}
namespace Law
def l34{E:Z α}{XY:Z β}{P:Z α->Z β->Prop}(k:∀a b c f g h i,P [a,b,c] [f,g,h,i])(h1:E.length+4=7)(h2:XY.length=4):P E XY:=match E,XY,h1,h2 with|[_,_,_],[_,_,_,_],_,_=>k ..
def l74{E:Z α}{XY:Z β}{P:Z α->Z β->Prop}(k:∀a b c d e f g h i j l,P [a,b,c,d,e,f,g] [h,i,j,l])(h1:E.length+(4-4)=7)(h2:XY.length=4):P E XY:=match E,XY,h1,h2 with|[_,_,_,_,_,_,_],[_,_,_,_],_,_=>k ..
def l3K{E XY:Z α}{z:α}{P:Z α->Z α->Prop}(k:∀a b c f g h i,P [a,b,c] [f,g,h,i])(h1:(E++(XY.take 3++[z])).length=7)(h2:XY.length=4):P E XY:=l34 k (by rw[qj,qj,qF,h2] at h1;show h1) h2
def Sz:YM ["_law_script","_law_k"] 2 (aC (XU 72)):=aV
def JT:YM ["_law_cell","_law_k","_law_many","_law_left","_law_j","_law_number"] 3 (aC (XU 73)):=aV
def Ke:YM ["_law_cell","_law_k","_law_most"] 3 (aC (XU 75)):=aV
def Jx:YM ["_law_cell","_law_k","_law_horizon_here","_law_breaks_here","_law_at","_law_j","_law_begin","_law_end"] 3 (aC (XU 76)):=aV
def FX:YM ["_law_cell","_law_many","_law_letters","_law_stem","_law_at","_law_found","_law_k"] 2 (aC (XU 74)):=aV
def Os:YM ["_law_cell","_law_name","_law_benches","_law_horizon_here","_law_kind","_law_at","_law_some","_law_ways","_law_k","_law_bench","_law_most"] 4 (aC (XU 77)):=aV
def EW:YM ["_law_cell","_law_k","_law_steps","_law_found","_law_j","_law_one","_law_other"] 3 (aC (XU 79)):=aV
def wZ:YM ["_law_cell","_law_benches","_law_horizon_here","_law_kinds","_law_found","_law_j","_law_key"] 3 (aC (XU 80)):=aV
def S0:YM ["_law_cell","_law_steps","_law_stocks_here","_law_j","_law_room","_law_takes","_law_puts"] 2 (aC (XU 81)):=aV
def P5:YM ["_law_cell","_law_cells","_law_steps","_law_horizon_here","_law_jobs_here","_law_k","_law_some","_law_early","_law_due_here"] 4 (aC (XU 78)):=aV
def CW:YM ["_law_script","_law_most","_law_horizon_here","_law_cell","_law_cells","_law_many","_law_benches","_law_k","_law_names_here","_law_steps","_law_links","_law_setups_here","_law_stocks_here"] 3 (aC (XU 82)):=aV
def MH:YM ["_law_script","_law_many","_law_horizon_here","_law_lists_here","_law_steps"] 1 (aC (XU 88)):=aV
def LO:YM ["thing"] 1 (aC (XU 30)):=aV
def TR:YM ["thing","least","most"] 3 (aC (XU 33)):=aV
def Nn:YM ["thing","many"] 2 (aC (XU 35)):=aV
def SV:YM ["row","horizon"] 2 (aC (XU 49)):=aV
def Ii:YM ["thing","least","most"] 3 (aC (XU 34)):=aV
def Ph:YM ["breaks","horizon"] 2 (aC (XU 50)):=aV
def Mi:YM ["thing"] 1 (aC (XU 31)):=aV
def KQ:YM ["row","horizon"] 2 (aC (XU 51)):=aV
def Nw:YM ["things"] 1 (aC (XU 37)):=aV
def Qf:YM ["benches","horizon"] 2 (aC (XU 52)):=aV
def Qm:YM ["thing","names"] 2 (aC (XU 36)):=aV
def TV:YM ["row","bench_names","horizon"] 3 (aC (XU 53)):=aV
def R0:YM ["ways","bench_names","horizon"] 3 (aC (XU 54)):=aV
def MJ:YM ["row","bench_names","horizon"] 3 (aC (XU 55)):=aV
def NV:YM ["steps","bench_names","horizon"] 3 (aC (XU 56)):=aV
def Ti:YM ["row","step_names","horizon"] 3 (aC (XU 57)):=aV
def Uv:YM ["jobs","step_names","horizon","members","row"] 3 (aC (XU 58)):=aV
def Si:YM ["row","bench_names","horizon"] 3 (aC (XU 59)):=aV
def Rl:YM ["setups","bench_names","horizon"] 3 (aC (XU 60)):=aV
def Ic:YM ["row","step_names","horizon"] 3 (aC (XU 61)):=aV
def Sd:YM ["links","step_names","horizon"] 3 (aC (XU 62)):=aV
def Q2:YM ["row","step_names"] 2 (aC (XU 63)):=aV
def Jg:YM ["rows","step_names"] 2 (aC (XU 64)):=aV
def Ov:YM ["row","step_names"] 2 (aC (XU 65)):=aV
def SZ:YM ["stocks","step_names"] 2 (aC (XU 66)):=aV
def Ld:YM ["benches","steps","jobs","setups","links","stocks","horizon","bench_names","step_names"] 7 (aC (XU 67)):=aV
def Ev:YM ["thing"] 1 (aC (XU 69)):=aV
def C5:YM ["self","benches","steps","jobs","setups","links","stocks","horizon","part","row","step"] 8 (aC (bE (XU 70) 0)):=aV
def Ib:YM ["_law_lists_here"] 1 (aC (XU 84)):=aV
def SE:YM ["self"] 1 (aC (bE (XU 70) 9)):=aV
def QY:YM ["self","step"] 2 (aC (bE (XU 70) 10)):=aV
def MG:YM ["self","step"] 2 (aC (bE (XU 70) 12)):=aV
def Nl:YM ["self"] 1 (aC (bE (XU 70) 7)):=aV
def Kj:YM ["self"] 1 (aC (bE (XU 70) 1)):=aV
def KL:YM ["self"] 1 (aC (bE (XU 70) 3)):=aV
def IC:YM ["things","pairs","place","one"] 1 (aC (XU 2)):=aV
def RM:YM ["self"] 1 (aC (bE (XU 70) 5)):=aV
def E6:YM ["shop","gaps","job","pair","one","other","gap"] 1 (aC (XU 3)):=aV
def NZ:YM ["shop","names","gaps","orders","one"] 1 (aC (XU 4)):=aV
def EE:YM ["self","shop","limit","kept","most","step","job","due"] 5 (aC (bE (XU 6) 0)):=aV
def F3:YM ["self","step","benches"] 3 (aC (bE (XU 24) 32)):=aV
def FR:YM ["self","step","first","last"] 4 (aC (bE (XU 24) 31)):=aV
def Pd:YM ["self","step"] 2 (aC (bE (XU 24) 5)):=aV
def JO:YM ["self","step","lengths"] 2 (aC (bE (XU 24) 13)):=aV
def HV:YM ["self","step"] 2 (aC (bE (XU 24) 14)):=aV
def ya:YM ["self","shop","limit","holds","kept","most","now","step","early","start"] 7 (aC (bE (XU 24) 0)):=aV
def RA:YM ["breaks","length","start","begin","end"] 3 (aC (XU 22)):=aV
def ML:YM ["self"] 1 (aC (bE (XU 24) 9)):=aV
def SO:YM ["self","step"] 2 (aC (bE (XU 24) 11)):=aV
def J7:YM ["self","step","bench","start"] 4 (aC (bE (XU 24) 16)):=aV
def Iv:YM ["self","step","bench","breaks","length","start"] 3 (aC (bE (XU 24) 20)):=aV
def Pj:YM ["self","step","bench","start"] 4 (aC (bE (XU 24) 17)):=aV
def MA:YM ["self","step","starts"] 2 (aC (bE (XU 24) 22)):=aV
def Th:YM ["breaks","length","start","begin","end"] 3 (aC (XU 23)):=aV
def Uq:YM ["self","step","bench","breaks","length","start"] 3 (aC (bE (XU 24) 21)):=aV
def UE:YM ["self","step","starts"] 2 (aC (bE (XU 24) 23)):=aV
def wE:YM ["_law_steps","_law_horizon_here","_law_found","_law_name","_law_kind","_law_ways","_law_more","_law_schedule","_law_bench","_law_length","_law_start","_law_longer"] 2 (aC (XU 89)):=aV
def J0:YM ["shop","step","bench","way_bench","length"] 3 (aC (XU 8)):=aV
def Bk:YM ["shop","schedule","ends","step","place"] 2 (aC (XU 9)):=aV
def Lr:YM ["shop","schedule","names","step","strangers"] 2 (aC (XU 10)):=aV
def Qw:YM ["shop","schedule","step","start","length"] 2 (aC (XU 11)):=aV
def LF:YM ["shop","schedule","ends","step","job"] 3 (aC (XU 12)):=aV
def QI:YM ["self","bench"] 2 (aC (bE (XU 70) 13)):=aV
def JP:YM ["shop","schedule","ends","step","start","breaks"] 3 (aC (XU 13)):=aV
def JD:YM ["self","bench","first","second"] 4 (aC (bE (XU 70) 14)):=aV
def Qr:YM ["self","step"] 2 (aC (bE (XU 70) 11)):=aV
def Oz:YM ["shop","schedule","ends","one","other","earlier","later","setup"] 5 (aC (XU 14)):=aV
def ID:YM ["shop","schedule","ends","one","other"] 3 (aC (XU 15)):=aV
def UG:YM ["shop","schedule","ends","job","one","other","told_way","other_way"] 3 (aC (XU 16)):=aV
def TX:YM ["shop","schedule","ends","one","other","gap"] 3 (aC (XU 17)):=aV
def KI:YM ["self"] 1 (aC (bE (XU 70) 6)):=aV
def wx:YM ["stock","schedule","ends","moment","taken","put"] 4 (aC (XU 18)):=aV
def Fa:YM ["shop","schedule","ends","stock","moments","moment"] 3 (aC (XU 19)):=aV
def SX:YM ["shop","schedule","broken","ends"] 2 (aC (XU 20)):=aV
def TC:YM ["_law_shop_here","_law_schedule","_law_limit","_law_holds","_law_now","_law_name"] 5 (aC (XU 90)):=aV
def Re:YM ["self","one","other"] 3 (aC (bE (XU 24) 25)):=aV
def OL:YM ["self"] 1 (aC (bE (XU 24) 1)):=aV
def Bl:YM ["self","one","other","gap","shop"] 3 (aC (bE (XU 24) 26)):=aV
def SN:YM ["self","schedule","one","other","end"] 4 (aC (bE (XU 24) 28)):=aV
def KH:YM ["self"] 1 (aC (bE (XU 24) 10)):=aV
def KZ:YM ["self"] 1 (aC (bE (XU 24) 12)):=aV
def LB:YM ["self","schedule","moved"] 2 (aC (bE (XU 24) 29)):=aV
def M0:YM ["self","schedule","step"] 2 (aC (bE (XU 24) 30)):=aV
def mJ:YM ["_law_script","_law_lists_here","_law_shop_here","_law_cell","_law_limit","_law_holds","_law_now","_law_name","_law_kind","_law_ways","_law_facts","_law_leasts","_law_greatests","_law_schedule","_law_due_here","_law_found","_law_least","_law_greatest"] 1 (aC (XU 91)):=aV
noncomputable def ŉ(mg:aj->au aw)(x:aj):Tok:=match mg x with|some (.int _ t)=>t|_=>0
def tkI_of{h:Heap}{n:ah}{t:Tok}(X:K.In h)(G:h.Ns fu mg)(a:sx K fu x=U (U (.int n t))):mg x=U (.int n (ŉ mg x)):=by let q:=sy X G a;rw[q];unfold ŉ;rw[q]
structure Vd(K:aS)(mg:aj->au aw)(C_Facts C_Grounds C_Shop:av):Prop where
 z_all:mg "all"=B
 z_any:mg "any"=B
 z_bool:mg "bool"=B
 z_dict:mg "dict"=B
 z_enumerate:mg "enumerate"=B
 z_int:mg "int"=B
 z_isinstance:mg "isinstance"=B
 z_len:mg "len"=B
 z_list:mg "list"=B
 z_max:mg "max"=B
 z_min:mg "min"=B
 z_range:mg "range"=B
 z_reversed:mg "reversed"=B
 z_set:mg "set"=B
 z_sorted:mg "sorted"=B
 z_str:mg "str"=B
 z_sum:mg "sum"=B
 z_tuple:mg "tuple"=B
 k_LONGEST_NAME:mg "LONGEST_NAME"=U (.int 8 (ŉ mg "LONGEST_NAME"))
 k_MOST_AMOUNT:mg "MOST_AMOUNT"=U (.int 1000000 (ŉ mg "MOST_AMOUNT"))
 k_MOST_BENCHES:mg "MOST_BENCHES"=U (.int 8 (ŉ mg "MOST_BENCHES"))
 k_MOST_BREAKS:mg "MOST_BREAKS"=U (.int 10 (ŉ mg "MOST_BREAKS"))
 k_MOST_HORIZON:mg "MOST_HORIZON"=U (.int 1000000 (ŉ mg "MOST_HORIZON"))
 k_MOST_JOBS:mg "MOST_JOBS"=U (.int 40 (ŉ mg "MOST_JOBS"))
 k_MOST_LINKS:mg "MOST_LINKS"=U (.int 100 (ŉ mg "MOST_LINKS"))
 k_MOST_SETUPS:mg "MOST_SETUPS"=U (.int 100 (ŉ mg "MOST_SETUPS"))
 k_MOST_STEPS:mg "MOST_STEPS"=U (.int 40 (ŉ mg "MOST_STEPS"))
 k_MOST_STOCKS:mg "MOST_STOCKS"=U (.int 6 (ŉ mg "MOST_STOCKS"))
 k_MOST_WAYS:mg "MOST_WAYS"=U (.int 4 (ŉ mg "MOST_WAYS"))
 d0:YS K mg "_law_cell_at" (XU 72)
 d1:YS K mg "_law_draw" (XU 73)
 d2:YS K mg "_law_moment" (XU 75)
 d3:YS K mg "_law_breaks" (XU 76)
 d4:YS K mg "_law_names" (XU 74)
 d5:YS K mg "_law_step" (XU 77)
 d6:YS K mg "_law_pairs" (XU 79)
 d7:YS K mg "_law_setups" (XU 80)
 d8:YS K mg "_law_stocks" (XU 81)
 d9:YS K mg "_law_jobs" (XU 78)
 d10:YS K mg "_law_lists" (XU 82)
 d11:YS K mg "_law_small" (XU 88)
 d12:YS K mg "is_whole" (XU 30)
 d13:YS K mg "is_within" (XU 33)
 d14:YS K mg "is_tuple" (XU 35)
 d15:YS K mg "is_break" (XU 49)
 d16:YS K mg "is_list" (XU 34)
 d17:YS K mg "are_breaks" (XU 50)
 d18:YS K mg "is_name" (XU 31)
 d19:YS K mg "is_bench" (XU 51)
 d20:YS K mg "are_unlike" (XU 37)
 d21:YS K mg "are_benches" (XU 52)
 d22:YS K mg "is_one_of" (XU 36)
 d23:YS K mg "is_way" (XU 53)
 d24:YS K mg "are_ways" (XU 54)
 d25:YS K mg "is_step" (XU 55)
 d26:YS K mg "are_steps" (XU 56)
 d27:YS K mg "is_job" (XU 57)
 d28:YS K mg "are_jobs" (XU 58)
 d29:YS K mg "is_setup" (XU 59)
 d30:YS K mg "are_setups" (XU 60)
 d31:YS K mg "is_link" (XU 61)
 d32:YS K mg "are_links" (XU 62)
 d33:YS K mg "is_amount" (XU 63)
 d34:YS K mg "are_amounts" (XU 64)
 d35:YS K mg "is_stock" (XU 65)
 d36:YS K mg "are_stocks" (XU 66)
 d37:YS K mg "first_bad_part" (XU 67)
 d38:YS K mg "fresh" (XU 69)
 d39:XZ K C_Shop "Shop" "__init__" "Shop.__init__" (bE (XU 70) 0)
 d40:YS K mg "_law_shop" (XU 84)
 d41:XZ K C_Shop "Shop" "step_names" "Shop.step_names" (bE (XU 70) 9)
 d42:XZ K C_Shop "Shop" "ways_of" "Shop.ways_of" (bE (XU 70) 10)
 d43:XZ K C_Shop "Shop" "job_of" "Shop.job_of" (bE (XU 70) 12)
 d44:XZ K C_Shop "Shop" "last_moment" "Shop.last_moment" (bE (XU 70) 7)
 d45:XZ K C_Shop "Shop" "bench_rows" "Shop.bench_rows" (bE (XU 70) 1)
 d46:XZ K C_Shop "Shop" "job_rows" "Shop.job_rows" (bE (XU 70) 3)
 d47:YS K mg "pairs_of" (XU 2)
 d48:XZ K C_Shop "Shop" "link_rows" "Shop.link_rows" (bE (XU 70) 5)
 d49:YS K mg "greatest_gaps" (XU 3)
 d50:YS K mg "known_orders" (XU 4)
 d51:XZ K C_Grounds "Grounds" "__init__" "Grounds.__init__" (bE (XU 6) 0)
 d52:XZ K C_Facts "Facts" "set_open" "Facts.set_open" (bE (XU 24) 32)
 d53:XZ K C_Facts "Facts" "set_window" "Facts.set_window" (bE (XU 24) 31)
 d54:XZ K C_Facts "Facts" "end_mark" "Facts.end_mark" (bE (XU 24) 5)
 d55:XZ K C_Facts "Facts" "open_lengths" "Facts.open_lengths" (bE (XU 24) 13)
 d56:XZ K C_Facts "Facts" "least_of" "Facts.least_of" (bE (XU 24) 14)
 d57:Yt K C_Facts "Facts" "__init__" "Facts.__init__" (bE (XU 24) 0) [.non,.non,.int 0,.int 0]
 d58:YS K mg "start_behind" (XU 22)
 d59:XZ K C_Facts "Facts" "has_kept" "Facts.has_kept" (bE (XU 24) 9)
 d60:XZ K C_Facts "Facts" "kept_place" "Facts.kept_place" (bE (XU 24) 11)
 d61:XZ K C_Facts "Facts" "is_barred" "Facts.is_barred" (bE (XU 24) 16)
 d62:XZ K C_Facts "Facts" "least_on" "Facts.least_on" (bE (XU 24) 20)
 d63:XZ K C_Facts "Facts" "is_in_window" "Facts.is_in_window" (bE (XU 24) 17)
 d64:XZ K C_Facts "Facts" "least_start" "Facts.least_start" (bE (XU 24) 22)
 d65:YS K mg "start_ahead" (XU 23)
 d66:XZ K C_Facts "Facts" "greatest_on" "Facts.greatest_on" (bE (XU 24) 21)
 d67:XZ K C_Facts "Facts" "greatest_start" "Facts.greatest_start" (bE (XU 24) 23)
 d68:YS K mg "_law_all" (XU 89)
 d69:YS K mg "length_on" (XU 8)
 d70:YS K mg "ends_of" (XU 9)
 d71:YS K mg "broken_step" (XU 10)
 d72:YS K mg "broken_way" (XU 11)
 d73:YS K mg "broken_job" (XU 12)
 d74:XZ K C_Shop "Shop" "breaks_of" "Shop.breaks_of" (bE (XU 70) 13)
 d75:YS K mg "broken_break" (XU 13)
 d76:XZ K C_Shop "Shop" "setup_of" "Shop.setup_of" (bE (XU 70) 14)
 d77:XZ K C_Shop "Shop" "kind_of" "Shop.kind_of" (bE (XU 70) 11)
 d78:YS K mg "are_too_close" (XU 14)
 d79:YS K mg "broken_bench" (XU 15)
 d80:YS K mg "broken_apart" (XU 16)
 d81:YS K mg "broken_link" (XU 17)
 d82:XZ K C_Shop "Shop" "stock_rows" "Shop.stock_rows" (bE (XU 70) 6)
 d83:YS K mg "level_at" (XU 18)
 d84:YS K mg "broken_stock" (XU 19)
 d85:YS K mg "first_broken" (XU 20)
 d86:YS K mg "_law_due" (XU 90)
 d87:XZ K C_Facts "Facts" "have_one_bench" "Facts.have_one_bench" (bE (XU 24) 25)
 d88:XZ K C_Facts "Facts" "shop" "Facts.shop" (bE (XU 24) 1)
 d89:XZ K C_Facts "Facts" "gap_of" "Facts.gap_of" (bE (XU 24) 26)
 d90:XZ K C_Facts "Facts" "keeps_order" "Facts.keeps_order" (bE (XU 24) 28)
 d91:XZ K C_Facts "Facts" "kept_names" "Facts.kept_names" (bE (XU 24) 10)
 d92:XZ K C_Facts "Facts" "most_moved" "Facts.most_moved" (bE (XU 24) 12)
 d93:XZ K C_Facts "Facts" "keeps_enough" "Facts.keeps_enough" (bE (XU 24) 29)
 d94:XZ K C_Facts "Facts" "goes" "Facts.goes" (bE (XU 24) 30)
structure Vw(K:aS)(mg:aj->au aw)(C_Facts C_Grounds C_Shop:av):Prop extends Vd K mg C_Facts C_Grounds C_Shop where
 O_Facts:Yc .(a) K mg "Facts" C_Facts
 cf_Facts:CF .(a) K "Facts" eG
 O_Grounds:Yc .(a) K mg "Grounds" C_Grounds
 cf_Grounds:CF .(a) K "Grounds" yT
 O_Shop:Yc .(a) K mg "Shop" C_Shop
 cf_Shop:CF .(a) K "Shop" Ep
section
variable(V:Vw K mg C_Facts C_Grounds C_Shop)
include V
set_option hygiene false
local macro_rules | `(tactic| ac_rfl)=>`(tactic| first
 |exact bU _
 |exact nY
 |(refine uS (by assumption) hr .(c) rfl ?_ (by first|exact ln3|exact ln2|exact Ľ|exact ln4|exact ln5|exact ln6|exact ln7);(and_intros))
 |(refine wH ?_ ?_;(ac_rfl);(ac_rfl))
 |(refine Jp ?_ ?_;(ac_rfl);(ac_rfl))
 |(refine DO.de (wT ?_);(and_intros))
 |exact y6
 |(refine yU ?_;(and_intros))
 |(refine c9 HM rfl V.z_len Qi ?_;(and_intros))
 |(refine PF (by first|assumption|exact V.cf_Facts|exact V.cf_Grounds|exact V.cf_Shop) (by decide +kernel) ?_;(ac_rfl))
 |(refine NX (cu hr) ?_ ?_;(ac_rfl);(ac_rfl))
 |(refine Kc (by assumption) hr .(c) ?_ ?_ (by first|exact ln3|exact ln2|exact Ľ|exact ln4|exact ln5|exact ln6|exact ln7);(ac_rfl);(and_intros))
 |(refine tp ?_ ?_;(ac_rfl);(ac_rfl))
 |(refine TU ?_ ?_;(ac_rfl);(ac_rfl))
 |(refine ye (by first|exact tH|exact FZ|exact FM (uv hr)|exact Dz (uv hr)|exact zk|exact Ex|exact BD|exact nW|exact Ci|exact yP|exact Bx (cu hr)|exact BV (cu hr)) ?_ ?_ (by first|exact uu _|rfl);(ac_rfl);(ac_rfl))
 |(refine T8 ?_ ?_;(ac_rfl);(ac_rfl))
 |(refine By ?_;(ac_rfl))
 |exact zn
 |exact NJ
 |(refine QZ ?_ ?_ ?_;(ac_rfl);(first|exact Eg|(refine Dc ?_;ac_rfl));(first|exact Eg|(refine Dc ?_;ac_rfl)))
 |(refine c9 (ge rfl) rfl V.z_all f' ?_;(and_intros))
 |(refine c9 Jv rfl V.z_isinstance Jy ?_;(and_intros))
 |(refine c9 (Tr rfl) rfl V.z_min xU ?_;(and_intros))
 |(refine c9 (LI rfl) rfl V.z_max M9 ?_;(and_intros))
 |(refine NP ?_ ?_;(ac_rfl);(ac_rfl))
 |exact Of rfl (by first|exact V.k_LONGEST_NAME|exact V.k_MOST_AMOUNT|exact V.k_MOST_BENCHES|exact V.k_MOST_BREAKS|exact V.k_MOST_HORIZON|exact V.k_MOST_JOBS|exact V.k_MOST_LINKS|exact V.k_MOST_SETUPS|exact V.k_MOST_STEPS|exact V.k_MOST_STOCKS|exact V.k_MOST_WAYS)
 |exact mS rfl V.z_bool L5
 |exact mS rfl V.z_int N8
 |exact mS rfl V.z_list CA
 |exact mS rfl V.z_tuple FN
 |exact mS rfl V.z_str JC
 |exact mS rfl V.z_dict ju
 |exact mS rfl V.z_set Kz
 |(refine Uj (by assumption) hr .(c) ?_;(ac_rfl))
 |(refine Ol ?_ ?_;(ac_rfl);(ac_rfl))
 |(refine NA ?_ ?_;(ac_rfl);(ac_rfl))
 |(refine OY ?_ ?_;(ac_rfl);(ac_rfl))
 |(refine RP ?_;(ac_rfl))
 |(refine Jm ?_;(ac_rfl))
 |(refine vh ?_ ?_ ?_;(exfalso);(ac_rfl);(ac_rfl))
 |(refine Q0 nW nW ?_ ?_ ?_;(ac_rfl);(ac_rfl);(ac_rfl)))
local macro_rules | `(tactic| split)=>`(tactic| first
 |(intro nd f X1 A outer s H us hr;infer_instance))
local macro_rules | `(tactic| and_intros)=>`(tactic| first
 |exact cv
 |(refine ck ?_ ?_;(ac_rfl);(and_intros)))
local macro_rules | `(tactic| exfalso)=>`(tactic| first
 |(refine lq (by first|exact tH|exact FZ|exact FM (uv hr)|exact Dz (uv hr)|exact zk|exact Ex|exact BD|exact nW|exact Ci|exact yP|exact Bx (cu hr)|exact BV (cu hr)) ?_ ?_ (by first|exact uu _|rfl);(ac_rfl);(ac_rfl))
 |(refine iS ?_;(exfalso))
 |(refine DW.dt ?_;(symm))
 |(refine Ot nW nW ?_ ?_ ?_;(ac_rfl);(ac_rfl);(ac_rfl))
 |(refine ip ?_;(ac_rfl)))
local macro_rules | `(tactic| symm)=>`(tactic| first
 |(refine iZ ?_;(exfalso))
 |(refine im ?_ ?_;(exfalso);(symm))
 |(refine xS ?_;(exfalso))
 |(refine xE ?_ ?_;(exfalso);(symm)))
local macro_rules | `(tactic| infer_instance)=>`(tactic| first
 |(refine ub _ ?_;(infer_instance))
 |(refine bK ?_;(nofun))
 |(refine aI ?_ ?_;(nofun);(infer_instance))
 |exact dF)
local macro_rules | `(tactic| nofun)=>`(tactic| first
 |(refine cK ?_;(ac_rfl))
 |(refine ir _ nd ?_;(ac_rfl))
 |(refine dc ?_ ?_ ?_;(exfalso);(infer_instance);(infer_instance))
 |(refine cN cT rfl ?_ ?_ ?_;(left);(right);(infer_instance))
 |(refine Sl _ ?_;(ac_rfl))
 |(refine S3 _ nd (wT ?_);(and_intros)))
local macro_rules | `(tactic| left)=>`(tactic| first
 |(refine nT ?_;(ac_rfl))
 |(refine NQ rfl V.z_range ?_;(and_intros))
 |(refine Ql rfl V.z_enumerate ?_;(ac_rfl)))
local macro_rules | `(tactic| right)=>`(tactic| first
 |exact lC _ nd
 |exact Bd rfl (pJ (lC _ nd) (pJ (lC _ nd) Bw))
 |exact Bd rfl (pJ (lC _ nd) (pJ (lC _ nd) (pJ (lC _ nd) Bw))))
def wX:.(d) "_law_cell_at" 2 1 fQ:=
 V.d0.cl Sz (by split)
def iT:.(d) "_law_draw" 3 1 bO:=
 V.d1.cl JT (by split)
def yc:.(d) "_law_moment" 3 2 lx:=
 V.d2.cl Ke (have:=iT V;by split)
def K4:.(d) "_law_breaks" 3 3 tE:=
 V.d3.cl Jx (have:=iT V;let:=yc V;by split)
def QL:.(d) "_law_names" 2 2 xM:=
 V.d4.cl FX λnd f X1 A outer s H us hr=>
  let:=iT V;(aI (by nofun) (aI (ir 3 FX.nd (Nb PySem.F.plainAttrs_str PySem.F.slot_str_join PySem.F.type_str_join P8 y6 (ck (DO.de (Yn ["_law_k","_law_letters","_law_cell"] (by left))) cv))) .(m)))
def JM:.(d) "_law_step" 4 3 wG:=
 V.d5.cl Os (have:=iT V;let:=yc V;by split)
def Mn:.(d) "_law_pairs" 3 2 wS:=
 V.d6.cl EW λnd f X1 A outer s H us hr=>
  let:=iT V;(aI (zm 3 EW.nd) (aI (cN cT W (by left) (by right) (aI (by nofun) (aI (by nofun) (bK (dc (IH 3 (DW.dt (xE (by exfalso) (xS (lq (xY (cu hr)) (by ac_rfl) (bU 3) (by rfl)))))) (bK (mL 3 (cu hr) (by ac_rfl) (by ac_rfl))) dF))))) (yu 3 .(m))))
def JN:.(d) "_law_setups" 3 2 xp:=
 V.d7.cl wZ λnd f X1 A outer s H us hr=>
  let:=iT V;(aI (by nofun) (aI (zm 4 wZ.nd) (aI (cN cT W (by left) (by right) (aI (by nofun) (aI (ir 6 wZ.nd (pH (bU 6) (by ac_rfl))) (bK (mL 4 (cu hr) (bU 6) (by ac_rfl)))))) (yu 4 (bK (cK (EJ 4 (DO.de (Yn ["_law_key","_law_found"] (yd (bU 4)) λnd=>⟨λ_ _ _ _ _=>#[(by right),mH,(pH (bU 0) (by ac_rfl))]⟩)))))))))
def Ij:.(d) "_law_stocks" 2 2 yS:=
 V.d8.cl S0 λnd f X1 A outer s H us hr=>
  let:=iT V;(aI (by nofun) (aI (cN cT W (by left) (by right) (aI (by nofun) (aI (iF 5 nd ["_law_k","_law_step_here","_law_cell","_law_j"] (by left)) (aI (iF 6 nd ["_law_k","_law_step_here","_law_cell","_law_j"] (by left)) .(m))))) .(m)))
def RK:.(d) "_law_jobs" 4 3 uj:=
 V.d9.cl P5 λnd f X1 A outer s H us hr=>
  let:=iT V;let:=yc V;(aI (by nofun) (aI (cN cT W (by left) (by right) (aI (iF 6 nd ["_law_j","_law_steps","_law_k","_law_cells"] (by left)) .(m))) .(m)))
def JQ:.(d) "_law_lists" 3 4 uy:=
 V.d10.cl CW λnd f X1 A outer s H us hr=>
  let:=K4 V;let:=wX V;let:=iT V;let:=RK V;let:=QL V;let:=Mn V;let:=JN V;let:=JM V;let:=Ij V;(aI (by nofun) (aI (by nofun) (aI (by nofun) (aI (by nofun) (aI (by nofun) (aI (by nofun) (ub 6 (aI (iF 9 nd ["_law_k","_law_benches","_law_horizon_here","_law_cells","_law_names_here"] (by left)) (aI (by nofun) (aI (by nofun) (aI (ir 10 CW.nd (EJ 10 (DO.de (Yn ["_law_pair","_law_horizon_here","_law_links"] (yd (bU 10)) λnd=>⟨λ_ _ _ _ _=>#[(by right),mH,(pH (bU 0) (by ac_rfl))]⟩)))) .(m))))))))))))
def HI:.(d) "_law_small" 1 5 pT:=
 V.d11.cl MH λnd f X1 A outer s H us hr=>
  let:=wX V;let:=iT V;let:=JQ V;(aI (by nofun) (aI (by nofun) (aI (by nofun) (aI (iF 4 nd ["_law_name","_law_kind","_law_ways","_law_script"] (by left)) (bK (cK (pH (pH (by ac_rfl) (by ac_rfl)) (by ac_rfl))))))))
def Pe:.(d) "is_whole" 1 1 tI:=
 V.d12.cl LO (by split)
def kT:.(d) "is_within" 3 2 gJ:=
 V.d13.cl TR (have:=Pe V;by split)
def kh:.(d) "is_tuple" 2 1 fU:=
 V.d14.cl Nn (by split)
def RG:.(d) "is_break" 2 3 uA:=
 V.d15.cl SV (have:=kh V;let:=kT V;by split)
def jp:.(d) "is_list" 3 1 gY:=
 V.d16.cl Ii (by split)
def Jw:.(d) "are_breaks" 2 4 xZ:=
 V.d17.cl Ph λnd f X1 A outer s H us hr=>
  let:=RG V;let:=jp V;(aI (dc (DW.dt (im (by exfalso) (iZ (iS (ip (c9 (ge W) W V.z_all f' (ck (DO.de (Yn ["row","horizon"] (by left))) cv))))))) .(m) dF) (bK (cK (c9 (ge W) W V.z_all f' (ck (DO.de (Yn ["place","breaks"] (J1 W V.z_range (by and_intros)))) cv)))))
def oE:.(d) "is_name" 1 1 jh:=
 V.d18.cl Mi λnd f X1 A outer s H us hr=>
  (aI (by nofun) (bK (cK (c9 (ge W) W V.z_all f' (ck (DO.de (Yn ["sign"] (Qc (bU 0)))) cv)))))
def Ua:.(d) "is_bench" 2 5 sU:=
 V.d19.cl KQ (have:=Jw V;let:=oE V;let:=kh V;by split)
def jW:.(d) "are_unlike" 1 1 fA:=
 V.d20.cl Nw λnd f X1 A outer s H us hr=>
  (bK (cK (ye tH (Jz W (cu hr) W V.z_len W V.z_set (bU 0)) (by ac_rfl) (uu _))))
def MU:.(d) "are_benches" 2 6 wp:=
 V.d21.cl Qf λnd f X1 A outer s H us hr=>
  let:=Ua V;let:=jp V;(aI (dc (DW.dt (im (by exfalso) (iZ (iS (ip (c9 (ge W) W V.z_all f' (ck (DO.de (Yn ["row","horizon"] (by left))) cv))))))) .(m) dF) (bK (cK (dC (jW V) hr (ck (DO.de (Yn ["row"] (by left))) cv) Ľ))))
def px:.(d) "is_one_of" 2 2 ka:=
 V.d22.cl Qm (have:=oE V;by split)
def T6:.(d) "is_way" 3 3 uY:=
 V.d23.cl TV (have:=px V;let:=kh V;let:=kT V;by split)
def Pf:.(d) "are_ways" 3 4 wv:=
 V.d24.cl R0 λnd f X1 A outer s H us hr=>
  let:=jp V;let:=T6 V;(aI (dc (DW.dt (im (by exfalso) (iZ (iS (ip (c9 (ge W) W V.z_all f' (ck (DO.de (Yn ["row","bench_names","horizon"] (by left))) cv))))))) .(m) dF) (bK (cK (dC (jW V) hr (ck (DO.de (Yn ["row"] (by left))) cv) Ľ))))
def HF:.(d) "is_step" 3 5 tZ:=
 V.d25.cl MJ (have:=Pf V;let:=oE V;let:=kh V;by split)
def O7:.(d) "are_steps" 3 6 wf:=
 V.d26.cl NV λnd f X1 A outer s H us hr=>
  let:=jp V;let:=HF V;(aI (dc (DW.dt (im (by exfalso) (iZ (iS (ip (c9 (ge W) W V.z_all f' (ck (DO.de (Yn ["row","bench_names","horizon"] (by left))) cv))))))) .(m) dF) (bK (cK (dC (jW V) hr (ck (DO.de (Yn ["row"] (by left))) cv) Ľ))))
def Ms:.(d) "is_job" 3 3 yz:=
 V.d27.cl Ti λnd f X1 A outer s H us hr=>
  let:=jp V;let:=oE V;let:=px V;let:=kh V;let:=kT V;(aI (by nofun) (aI (by nofun) (bK (cK (tp (by ac_rfl) (By (c9 (ge W) W V.z_all f' (ck (DO.de (Yn ["name","step_names"] (by left))) cv))))))))
def Lo:.(d) "are_jobs" 3 4 yB:=
 V.d28.cl Uv λnd f X1 A outer s H us hr=>
  let:=jW V;let:=Ms V;let:=jp V;(aI (dc (DW.dt (im (by exfalso) (iZ (iS (ip (c9 (ge W) W V.z_all f' (ck (DO.de (Yn ["row","step_names","horizon"] (by left))) cv))))))) .(m) dF) (aI (by nofun) (aI (cN cT W (by left) (by right) (bK (vg 3 (by ac_rfl)))) (ub 3 (bK (cK (tp (dC (jW V) hr (ck (DO.de (Yn ["row"] (by left))) cv) Ľ) (by ac_rfl))))))))
def MQ:.(d) "is_setup" 3 3 sX:=
 V.d29.cl Si (have:=oE V;let:=px V;let:=kh V;let:=kT V;by split)
def PK:.(d) "are_setups" 3 4 yO:=
 V.d30.cl Rl λnd f X1 A outer s H us hr=>
  let:=jp V;let:=MQ V;(aI (dc (DW.dt (im (by exfalso) (iZ (iS (ip (c9 (ge W) W V.z_all f' (ck (DO.de (Yn ["row","bench_names","horizon"] (by left))) cv))))))) .(m) dF) (bK (cK (dC (jW V) hr (ck (DO.de (Yn ["row"] (by left))) cv) Ľ))))
def Te:.(d) "is_link" 3 3 uG:=
 V.d31.cl Ic (have:=px V;let:=kh V;let:=kT V;by split)
def Og:.(d) "are_links" 3 4 zg:=
 V.d32.cl Sd λnd f X1 A outer s H us hr=>
  let:=Te V;let:=jp V;(aI (dc (DW.dt (im (by exfalso) (iZ (iS (ip (c9 (ge W) W V.z_all f' (ck (DO.de (Yn ["row","step_names","horizon"] (by left))) cv))))))) .(m) dF) (bK (cK (dC (jW V) hr (ck (DO.de (Yn ["row"] (by left))) cv) Ľ))))
def Sx:.(d) "is_amount" 2 3 uV:=
 V.d33.cl Q2 (have:=px V;let:=kh V;let:=kT V;by split)
def Iz:.(d) "are_amounts" 2 4 vx:=
 V.d34.cl Jg λnd f X1 A outer s H us hr=>
  let:=Sx V;let:=jp V;(aI (dc (DW.dt (im (by exfalso) (iZ (iS (ip (c9 (ge W) W V.z_all f' (ck (DO.de (Yn ["row","step_names"] (by left))) cv))))))) .(m) dF) (bK (cK (dC (jW V) hr (ck (DO.de (Yn ["row"] (by left))) cv) Ľ))))
def Ix:.(d) "is_stock" 2 5 uZ:=
 V.d35.cl Ov (have:=Iz V;let:=oE V;let:=kh V;let:=kT V;by split)
def SY:.(d) "are_stocks" 2 6 we:=
 V.d36.cl SZ λnd f X1 A outer s H us hr=>
  let:=jp V;let:=Ix V;(aI (dc (DW.dt (im (by exfalso) (iZ (iS (ip (c9 (ge W) W V.z_all f' (ck (DO.de (Yn ["row","step_names"] (by left))) cv))))))) .(m) dF) (bK (cK (dC (jW V) hr (ck (DO.de (Yn ["row"] (by left))) cv) Ľ))))
def Ru:.(d) "first_bad_part" 7 7 yJ:=
 V.d37.cl Ld λnd f X1 A outer s H us hr=>
  let:=MU V;let:=Lo V;let:=Og V;let:=PK V;let:=O7 V;let:=SY V;let:=kT V;(aI (by nofun) (aI (by nofun) (aI (iF 7 nd ["row"] (by left)) (aI (by nofun) (aI (iF 8 nd ["row"] (by left)) .(m))))))
def Kd{k:ag}{eh:FQ}(iO:Ţ .(a) P w K mg base "fresh" 1 k eh):Ţ .(a) P w K mg base "fresh" 1 (k+1) (oj eh):=
 V.d38.cal (k:=k) Ev (bn λ_ _ _ _ _ _ _=>rfl) λf X1 A outer s H us hr=>
  let nd:=Ev.nd;(aI (dc (by exfalso) (bK (cK (DO.de (Yn ["part"] (by left) λnd=>⟨λ_ _ _ _ _=>#[(by right),mH,(uS iO hr (qw _) rfl (by and_intros) Ľ)]⟩)))) dF) (aI (dc (by exfalso) (bK (cK (iM T9 W V.z_tuple FN (ck (DO.de (Yn ["part"] (by left) λnd=>⟨λ_ _ _ _ _=>#[(by right),mH,(uS iO hr (qw _) rfl (by and_intros) Ľ)]⟩)) cv)))) dF) .(m)))
def iO:.(d) "fresh" 1 8 eh:=by
 let h:∀n,Ţ .(a) P w K mg base "fresh" 1 n (jd n):=λn=>by
  induction n with
  |zero=>show YS.none (ps:=["thing"]) V.d38 (bn λ_ _ _ _ _ _ _=>rfl)
  |succ n ih=>show Kd V ih
 show h 8
def Io:CalI .(a) P w K mg base "Shop" 7 9 ze:=
 XZ.calI (k:=8) V.O_Shop V.d39 C5 (bn λ_ _ _ _ _ _ _=>rfl) λf y X1 A outer s H us hr=>
  let nd:=C5.nd;let:=((Ru V).re y);let:=((iO V).re y);(aI (by nofun) (aI (dc (by exfalso) (bK Px) dF) (aI (jj 0 (V.cf_Shop.re y) (.head _) (by ac_rfl)) (aI (jj 0 (V.cf_Shop.re y) (.tail _ (.head _)) (by ac_rfl)) (aI (jj 0 (V.cf_Shop.re y) (.tail _ (.tail _ (.head _))) (by ac_rfl)) (aI (jj 0 (V.cf_Shop.re y) .(h) (by ac_rfl)) (aI (jj 0 (V.cf_Shop.re y) (.tail _ .(h)) (by ac_rfl)) (aI (jj 0 (V.cf_Shop.re y) (.tail _ (.tail _ .(h))) (by ac_rfl)) (aI (jj 0 (V.cf_Shop.re y) (.tail _ (.tail _ (.tail _ .(h)))) (bU 7)) (aI (jj 0 (V.cf_Shop.re y) (.tail _ (.tail _ (.tail _ (.tail _ .(h))))) (iM (oy W (cu hr)) W V.z_dict ju (ck (DO.de (Yn ["row"] (nT (uI 0 (V.cf_Shop.re y) (.head _))))) cv))) (aI (jj 0 (V.cf_Shop.re y) (.tail _ (.tail _ (.tail _ (.tail _ (.tail _ .(h)))))) (iM (oy W (cu hr)) W V.z_dict ju (ck (DO.de (Yn ["row"] (nT (uI 0 (V.cf_Shop.re y) (.tail _ (.head _)))))) cv))) (aI (jj 0 (V.cf_Shop.re y) (.tail _ (.tail _ (.tail _ (.tail _ (.tail _ (.tail _ .(h))))))) (iM (AA W (cu hr)) W V.z_dict ju (ck (DO.de (Yn ["row"] (nT (uI 0 (V.cf_Shop.re y) .(h))))) cv))) (aI (M3 0 (V.cf_Shop.re y) (.tail _ (.tail _ (.tail _ (.tail _ (.tail _ (.tail _ (.tail _ .(h))))))))) (bK (cN cT W (nT (uI 0 (V.cf_Shop.re y) (.tail _ (.tail _ (.head _))))) (by right) (bK (cN cT W (by left) (by right) (bK (T0 0 (cu hr) (V.cf_Shop.re y) (.tail _ (.tail _ (.tail _ (.tail _ (.tail _ (.tail _ (.tail _ .(h)))))))) (bU 10) (bU 9))))))))))))))))))))
def UK:.(d) "_law_shop" 1 11 yM:=
 V.d40.cl Ib λnd f X1 A outer s H us hr=>
  (bK (cK (TM (Io V) hr .(c) W (by and_intros) ln7)))
def kf:(Yx .(a) P w K mg base "Shop") "step_names" 1 1 iH:=
 XZ.cl V.O_Shop V.d41 SE λnd f X1 A outer s H us hr=>
  (bK (cK (DO.de (Yn ["row"] (by left)))))
def F':(Yx .(a) P w K mg base "Shop") "ways_of" 2 9 sW:=
 XZ.cl V.O_Shop V.d42 QY (have:=iO V;by split)
def Bf:(Yx .(a) P w K mg base "Shop") "job_of" 2 9 uJ:=
 XZ.cl V.O_Shop V.d43 MG λnd f X1 A outer s H us hr=>
  (bK (cK (dC (iO V) hr (ck (DU (cu hr) (by ac_rfl) (bU 1)) cv) Ľ)))
def BK:(Yx .(a) P w K mg base "Shop") "last_moment" 1 1 oC:=
 XZ.cl V.O_Shop V.d44 Nl (by split)
def OI:(Yx .(a) P w K mg base "Shop") "bench_rows" 1 9 zl:=
 XZ.cl V.O_Shop V.d45 Kj (have:=iO V;by split)
def Gd:(Yx .(a) P w K mg base "Shop") "job_rows" 1 9 pF:=
 XZ.cl V.O_Shop V.d46 KL (have:=iO V;by split)
def yg:.(d) "pairs_of" 1 1 kX:=
 V.d47.cl IC λnd f X1 A outer s H us hr=>
  (aI (by nofun) (aI (cN cT W (by left) (by right) (bK (vg 1 (DO.de (Yn ["other","one"] (by left)))))) .(m)))
def DK:(Yx .(a) P w K mg base "Shop") "link_rows" 1 9 pz:=
 XZ.cl V.O_Shop V.d48 RM (have:=iO V;by split)
def QW:.(d) "greatest_gaps" 1 10 yV:=
 V.d49.cl E6 λnd f X1 A outer s H us hr=>
  let:=Gd V;let:=DK V;let:=yg V;(aI (zm 1 E6.nd) (aI (cN cT W (by left) (by right) (bK (dc (by exfalso) (bK (cN cT W (by left) (by right) (bK (mL 1 (cu hr) (bU 3) nY)))) dF))) (aI (cN cT W (by left) (by right) (bK (mL 1 (cu hr) (by ac_rfl) (bU 6)))) (yu 1 .(m)))))
def Pq:.(d) "known_orders" 1 11 xN:=
 V.d50.cl NZ λnd f X1 A outer s H us hr=>
  let:=kf V;let:=QW V;(aI (by nofun) (aI (by nofun) (aI (by nofun) (aI (cN cT W (by left) (by right) (bK (vg 3 (DO.de (Yn ["other","one","gaps"] (by left) λnd=>⟨λ_ _ _ _ _=>#[(by right),(sZ (lq (tG (cu hr)) (by ac_rfl) (bU 2) (by rfl))),(by ac_rfl)]⟩))))) .(m)))))
def Rw:Yu .(a) P w K mg base "Grounds" 4 12 [] uz:=
 XZ.calIU (k:=11) V.O_Grounds V.d51 EE (bn λ_ _ _ _ _ _ _=>rfl) λf y X1 A outer s H us hr=>
  let nd:=EE.nd;let:=((OI V).re y);let:=((Bf V).re y);let:=((BK V).re y);let:=((kf V).re y);let:=((F' V).re y);let:=((Pq V).re y);(aI (ot 0 (V.cf_Grounds.re y) (.head _) (bU 1)) (aI (ot 0 (V.cf_Grounds.re y) (.tail _ (.head _)) (vh (by exfalso) zn (iM (Lx W) W V.z_dict ju (by and_intros)))) (aI (ot 0 (V.cf_Grounds.re y) (.tail _ (.tail _ (.head _))) (bU 4)) (aI (lA 0 (V.cf_Grounds.re y) .(h)) (aI (lA 0 (V.cf_Grounds.re y) (.tail _ .(h))) (aI (lA 0 (V.cf_Grounds.re y) (.tail _ (.tail _ .(h)))) (aI (lA 0 (V.cf_Grounds.re y) (.tail _ (.tail _ (.tail _ .(h))))) (aI (cN cT W (by left) (by right) (aI (mQ 0 (cu hr) (V.cf_Grounds.re y) .(h) (bU 5) (iM (oy W (cu hr)) W V.z_dict ju (by and_intros))) (aI (by nofun) (aI (mQ 0 (cu hr) (V.cf_Grounds.re y) (.tail _ .(h)) (bU 5) (by ac_rfl)) (aI (mQ 0 (cu hr) (V.cf_Grounds.re y) (.tail _ (.tail _ .(h))) (bU 5) (by ac_rfl)) (aI (by nofun) (bK (mQ 0 (cu hr) (V.cf_Grounds.re y) (.tail _ (.tail _ (.tail _ .(h)))) (bU 5) (c9 (SS W) W V.z_min xU (by and_intros)))))))))) (aI (ot 0 (V.cf_Grounds.re y) (.tail _ (.tail _ (.tail _ (.tail _ .(h))))) (iM (oy W (cu hr)) W V.z_dict ju (by and_intros))) (bK (ot 0 (V.cf_Grounds.re y) (.tail _ (.tail _ (.tail _ (.tail _ (.tail _ .(h)))))) (iM (AA W (cu hr)) W V.z_dict ju (ck (DO.de (Yn ["one","other","gap"] (by left))) cv)))))))))))))
def EC:Þ .(a) P w K mg base "Facts" "set_open" 2 1 uN:=
 XZ.calU (k:=0) V.O_Facts V.d52 F3 (bn λ_ _ _ _ _ _ _=>rfl) λf y X1 A outer s H us hr=>
  let nd:=F3.nd;let:=V.cf_Facts.re y;let:=V.cf_Grounds.re y;(bK (mQ 0 (cu hr) (V.cf_Facts.re y) (.tail _ (.head _)) (bU 1) (EK 0 (DO.de (Ia W (YH.of W W) (Ý.of (N':=["bench","benches"]) (fv:=[B,U 2]) W) (by ac_rfl) ⟨λ_ _ _ _ _=>#[(lC 0 (show(["bench","benches"]:Z aj).Nodup by decide +kernel)),(sZ (by exfalso)),(bU 0)]⟩)))))
def Ew:Þ .(a) P w K mg base "Facts" "set_window" 3 1 ui:=
 XZ.calU (k:=0) V.O_Facts V.d53 FR (bn λ_ _ _ _ _ _ _=>rfl) λf y X1 A outer s H us hr=>
  let nd:=FR.nd;(aI (mQ 0 (cu hr) (V.cf_Facts.re y) (.tail _ (.tail _ (.head _))) (bU 1) (bU 2)) (bK (mQ 0 (cu hr) (V.cf_Facts.re y) .(h) (bU 1) (bU 3))))
def wU:.(s) "end_mark" 2 1 pL:=
 XZ.cl V.O_Facts V.d54 Pd (by split)
def IY:.(s) "open_lengths" 2 1 yq:=
 XZ.cl V.O_Facts V.d55 JO λnd f X1 A outer s H us hr=>
  (aI (by nofun) (bK (cK (DO.de (Yn ["bench","lengths"] (by left))))))
def Ux:.(s) "least_of" 2 2 uR:=
 XZ.cl V.O_Facts V.d56 HV λnd f X1 A outer s H us hr=>
  let:=IY V;(bK (cK (Eo W W V.z_min (by ac_rfl))))
def SF:Yu .(a) P w K mg base "Facts" 6 14 [.non,.non,.int 0,.int 0] oF/\Yu .(a) P w K mg base "Facts" 6 14 [] oF/\ŷ .(a) P w K mg base "Facts" "now" 6 14 [.non,.non,.int 0] oF:=
 Yt.cal3 (k:=13) 3 V.O_Facts V.d57 (λ_=>by repeat constructor) (λ_=>by repeat constructor) ya (λ_ _ _ _ _ _ _ E XY h1 h2=>by apply l34 _ h1 h2;exactλ_ _ _ _ _ _ _=>#[_,W,W]) (λ_ _ _ _ _ _ _ E XY h1 h2=>by apply l74 _ h1 h2;exactλ_ _ _ _ _ _ _ _ _ _ _=>#[_,W,W]) (λ_ _ _ _ _ _ _ E XY z h1 h2=>by apply l3K _ h1 h2;exactλ_ _ _ _ _ _ _=>#[_,W,W]) λf y X1 A outer s H us hr=>
  let nd:=ya.nd;let:=((wU V).re y);let:=((Ux V).re y);let:=((kf V).re y);let:=V.cf_Facts.re y;let:=V.cf_Grounds.re y;(aI (ot 0 (V.cf_Facts.re y) (.head _) (SI ((Rw V).re y) hr .(c) W (by and_intros) ln4 W)) (aI (lA 0 (V.cf_Facts.re y) (.tail _ (.head _))) (aI (lA 0 (V.cf_Facts.re y) (.tail _ (.tail _ (.head _)))) (aI (lA 0 (V.cf_Facts.re y) .(h)) (aI (KG 0 (V.cf_Facts.re y) (.tail _ .(h))) (aI (lA 0 (V.cf_Facts.re y) (.tail _ (.tail _ .(h)))) (bK (cN cT W (by left) (by right) (aI (ir 8 ya.nd (EK 0 (by ac_rfl))) (bK (dc (DW.dt (xE (by exfalso) (xS (lq (tG (cu hr)) (bU 7) (bU 3) (by rfl))))) (aI (by nofun) (aI (uF 0 ((EC V).re y) hr .(c) (by and_intros) ln2) (bK (uF 0 ((Ew V).re y) hr .(c) (by and_intros) ln3)))) (aI (uF 0 ((EC V).re y) hr .(c) (vw 0 (ck (bU 7) (ck (iM (Sn W) W V.z_list CA (by and_intros)) cv))) (CN ln2)) (bK (uF 0 ((Ew V).re y) hr .(c) (vw 0 (by and_intros)) (CN ln3)))))))))))))))
def Q6:.(d) "start_behind" 3 1 rj:=
 V.d58.cl RA (by split)
def ym:.(s) "has_kept" 1 1 lu:=
 XZ.cl V.O_Facts V.d59 ML (by split)
def BC:.(s) "kept_place" 2 2 pr:=
 XZ.cl V.O_Facts V.d60 SO λnd f X1 A outer s H us hr=>
  let:=ym V;(bK (cK (vh (by exfalso) (DU (cu hr) (by ac_rfl) (bU 1)) zn)))
def C8:.(s) "is_barred" 4 3 tf:=
 XZ.cl V.O_Facts V.d61 J7 λnd f X1 A outer s H us hr=>
  let:=BC V;(bK (cK (tp (ye (tG (cu hr)) (bU 1) (by ac_rfl) (by rfl)) (by ac_rfl))))
def NO:.(s) "least_on" 3 4 yj:=
 XZ.cl V.O_Facts V.d62 Iv (have:=C8 V;let:=Q6 V;by split)
def yG:.(s) "is_in_window" 4 2 kM:=
 XZ.cl V.O_Facts V.d63 Pj (have:=wU V;by split)
def Kp:.(s) "least_start" 2 5 mY:=
 XZ.cl V.O_Facts V.d64 MA λnd f X1 A outer s H us hr=>
  let:=yG V;let:=NO V;(aI (iF 2 nd ["bench","step","self"] (by left)) (bK (cK (Eo W W V.z_min (DO.de (Yn ["bench","start","step","self"] (by left)))))))
def SK:.(d) "start_ahead" 3 1 pw:=
 V.d65.cl Th λnd f X1 A outer s H us hr=>
  (aI (cN cT W (R8 W V.z_reversed (bU 0)) (by right) .(m)) .(m))
def Sq:.(s) "greatest_on" 3 4 wF:=
 XZ.cl V.O_Facts V.d66 Uq (have:=wU V;let:=C8 V;let:=SK V;by split)
def Kf:.(s) "greatest_start" 2 5 mr:=
 XZ.cl V.O_Facts V.d67 UE λnd f X1 A outer s H us hr=>
  let:=Sq V;let:=yG V;(aI (iF 2 nd ["bench","step","self"] (by left)) (bK (cK (Kb W W V.z_max (DO.de (Yn ["bench","start","step","self"] (by left)))))))
def NH:.(d) "_law_all" 2 1 ti:=
 V.d68.cl wE λnd f X1 A outer s H us hr=>
  (aI (ir 2 wE.nd (DO.de (wT (ck Me cv)))) (aI (cN cT W (by left) (by right) (aI (by nofun) (aI (cN cT W (by left) (by right) (bK (cN cT W (by left) (by right) (bK (cN cT W (by left) (by right) (aI (KN 11 wE.nd W W V.z_dict (bU 7)) (aI (mL 11 (cu hr) (bU 3) (by ac_rfl)) (wz 11 .(m))))))))) .(m)))) .(m)))
def C6:.(d) "length_on" 3 10 pU:=
 V.d69.cl J0 (have:=F' V;by split)
def B5:.(d) "ends_of" 2 11 pq:=
 V.d70.cl Bk λnd f X1 A outer s H us hr=>
  let:=kf V;let:=C6 V;(aI (D9 2 Bk.nd) (aI (cN cT W (by left) (by right) (aI (by nofun) (bK (mL 2 (cu hr) (bU 3) (by ac_rfl))))) (wz 2 .(m))))
def PR:.(d) "broken_step" 2 2 xW:=
 V.d71.cl Lr λnd f X1 A outer s H us hr=>
  let:=kf V;(aI (by nofun) (aI (cN cT W (by left) (by right) (bK (dc (lq (xY (cu hr)) (bU 3) (bU 1) (by rfl)) .(m) dF))) (aI (iF 4 nd ["name","names"] (pR (bU 1))) (aI (dc (by exfalso) (bK (cK (yU (ck y6 (ck (c9 (T2 W) W V.z_min xU (by and_intros)) cv))))) dF) .(m)))))
def Mw:.(d) "broken_way" 2 11 xV:=
 V.d72.cl Qw (have:=BK V;let:=kf V;let:=C6 V;by split)
def S7:.(d) "broken_job" 3 10 xR:=
 V.d73.cl LF (have:=Bf V;let:=kf V;by split)
def KJ:(Yx .(a) P w K mg base "Shop") "breaks_of" 2 9 xz:=
 XZ.cl V.O_Shop V.d74 QI (have:=iO V;by split)
def QX:.(d) "broken_break" 3 10 wj:=
 V.d75.cl JP λnd f X1 A outer s H us hr=>
  let:=KJ V;let:=kf V;(aI (cN cT W (by left) (by right) (aI (by nofun) (aI (by nofun) (bK (dc (ip (c9 (TL W) W V.z_any MN (ck (DO.de (Yn ["begin","until","start","ends","step"] (by left))) cv))) .(m) dF))))) .(m))
def BY:(Yx .(a) P w K mg base "Shop") "setup_of" 4 1 ve:=
 XZ.cl V.O_Shop V.d76 JD λnd f X1 A outer s H us hr=>
  (bK (cK (AE (cu hr) (by ac_rfl) (by ac_rfl) nY)))
def Di:(Yx .(a) P w K mg base "Shop") "kind_of" 2 1 oK:=
 XZ.cl V.O_Shop V.d77 Qr (by split)
def Nk:.(d) "are_too_close" 5 2 xC:=
 V.d78.cl Oz (have:=Di V;let:=BY V;by split)
def T':.(d) "broken_bench" 3 3 yL:=
 V.d79.cl ID (have:=kf V;let:=Nk V;let:=yg V;by split)
def Kh:.(d) "broken_apart" 3 10 yt:=
 V.d80.cl UG (have:=Gd V;let:=yg V;by split)
def Sv:.(d) "broken_link" 3 10 xP:=
 V.d81.cl TX (have:=DK V;by split)
def O8:(Yx .(a) P w K mg base "Shop") "stock_rows" 1 9 yK:=
 XZ.cl V.O_Shop V.d82 KI (have:=iO V;by split)
def LP:.(d) "level_at" 4 1 wu:=
 V.d83.cl wx λnd f X1 A outer s H us hr=>
  (aI (ir 4 wx.nd (c9 (D1 W) W V.z_sum AB (ck (DO.de (Yn ["step","amount","moment","schedule"] (by left))) cv))) (aI (ir 5 wx.nd (c9 (D1 W) W V.z_sum AB (ck (DO.de (Yn ["step","amount","moment","ends"] (by left))) cv))) .(m)))
def QH:.(d) "broken_stock" 3 10 yh:=
 V.d84.cl Fa λnd f X1 A outer s H us hr=>
  let:=O8 V;let:=LP V;(aI (cN cT W (by left) (by right) (aI (Qy 4 Fa.nd W (YH.of W W) (Ý.of (N':=["row","schedule"]) (fv:=[B,U 1]) W) (by left) ⟨λ_ _ _ _ _=>#[(lC 0 (show(["row","schedule"]:Z aj).Nodup by decide +kernel)),mH,(by ac_rfl)]⟩) (aI (vg 4 (DO.de (Yn ["row","ends"] (by left)))) (ub 4 (bK (cN cT W (nT (PJ W W V.z_sorted W V.z_set (bU 4))) (by right) .(m))))))) .(m))
def Fq:.(d) "first_broken" 2 12 mm:=
 V.d85.cl SX (have:=Kh V;let:=T' V;let:=QX V;let:=S7 V;let:=Sv V;let:=PR V;let:=QH V;let:=Mw V;let:=B5 V;by split)
def J':.(d) "_law_due" 5 13 tK:=
 V.d86.cl TC λnd f X1 A outer s H us hr=>
  let:=B5 V;let:=Fq V;(aI (dc (DW.dt (im (by exfalso) (iZ (lq zk (Nc W W V.z_max (by ac_rfl)) (bU 2) (uu _))))) .(m) dF) (aI (cN cT W (pR (bU 1)) (by right) (bK (dc (lq (tG (cu hr)) (bU 5) (bU 3) (by rfl)) .(m) .(m)))) .(m)))
def Sw:.(s) "have_one_bench" 3 1 ux:=
 XZ.cl V.O_Facts V.d87 Re (by split)
def EA:.(s) "shop" 1 1 t6:=
 XZ.cl V.O_Facts V.d88 OL (by split)
def O5:.(s) "gap_of" 3 2 yy:=
 XZ.cl V.O_Facts V.d89 Bl λnd f X1 A outer s H us hr=>
  let:=Sw V;let:=EA V;let:=Di V;let:=BY V;(aI (ir 3 Bl.nd (AE (cu hr) (by ac_rfl) (by ac_rfl) nY)) .(m))
def IN:.(s) "keeps_order" 4 3 u5:=
 XZ.cl V.O_Facts V.d90 SN (have:=O5 V;by split)
def Md:.(s) "kept_names" 1 2 vt:=
 XZ.cl V.O_Facts V.d91 KH λnd f X1 A outer s H us hr=>
  let:=ym V;(bK (cK (vh (by exfalso) (c9 (Lv W) W V.z_sorted Je (by and_intros)) (by ac_rfl))))
def L8:.(s) "most_moved" 1 1 AY:=
 XZ.cl V.O_Facts V.d92 KZ (by split)
def Ta:.(s) "keeps_enough" 2 3 uX:=
 XZ.cl V.O_Facts V.d93 LB λnd f X1 A outer s H us hr=>
  let:=ym V;let:=Md V;let:=BC V;let:=L8 V;(aI (iF 2 nd ["step","schedule","self"] (by left)) (aI (by nofun) (bK (cK (c9 (ge W) W V.z_all f' (ck (DO.de (Yn ["step","schedule","self"] (pR (by ac_rfl)))) cv))))))
def IW:.(s) "goes" 2 13 vm:=
 XZ.cl V.O_Facts V.d94 M0 λnd f X1 A outer s H us hr=>
  let:=yG V;let:=Ta V;let:=IN V;let:=EA V;let:=Fq V;(aI (cN cT W (pR (by ac_rfl)) (by right) (bK (dc (DW.dt (im (lq (xY (cu hr)) (bU 2) (bU 1) (by rfl)) (by symm))) .(m) dF))) (aI (dc (iS (ip (c9 (ge W) W V.z_all f' (ck (DO.de (Yn ["one","other","schedule","self"] (yd (by ac_rfl)))) cv)))) .(m) dF) .(m)))
def OK  (f:av)(X1:aw)(A:cJ)(outer:Z cB)(s:aH)(H:Hp)(us:XK)(hr:YK 15 (A.deeper (dj "law" (aC (XU 91)) s.heap.objs.size f X1))):Zn .(a) (dH ã P w K mg base ["_law_script","_law_lists_here","_law_shop_here","_law_cell","_law_limit","_law_holds","_law_now","_law_name","_law_kind","_law_ways","_law_facts","_law_leasts","_law_greatests","_law_schedule","_law_due_here","_law_found","_law_least","_law_greatest"] "law" (aC (XU 91)) f X1 A outer s H us).nox (ca (XU 91)) zi:=
  let nd:=mJ.nd;let:=IW V;let:=Kf V;let:=Kp V;let:=NH V;let:=wX V;let:=iT V;let:=J' V;let:=UK V;let:=HI V;(aI (by nofun) (aI (by nofun) (aI (by nofun) (aI (by nofun) (aI (D9 5 mJ.nd) (aI (by nofun) (aI (dc (by exfalso) (aI (by nofun) (aI (Ll (by ac_rfl) (by right)) (bK (mL 5 (cu hr) (bU 7) (yU (ck (wH (wH (bU 9) (Iq nY)) nY) (by and_intros))))))) dF) (wz 5 (aI (MF 10 mJ.nd (SF V).2.1 hr .(c) W (by and_intros) ln6 W) (aI (ir 11 mJ.nd (iM (oy W (cu hr)) W V.z_dict ju (vw 10 (ck (DO.de (Yn ["_law_name","_law_kind","_law_ways","_law_facts"] (by left))) cv)))) (aI (ir 12 mJ.nd (iM (oy W (cu hr)) W V.z_dict ju (vw 10 (ck (DO.de (Yn ["_law_name","_law_kind","_law_ways","_law_facts"] (by left))) cv)))) (aI (cN cT W (by left) (by right) (aI (by nofun) (aI (ir 15 mJ.nd (Ur 10 (by ac_rfl))) (aI (by nofun) (bK (dc (by exfalso) (bK (cN cT W (pR (bU 13)) (by right) .(m))) dF)))))) .(m)))))))))))))
end
def xf(K:aS):Sp:=λvs H Q _=>∃(a:av)(ns:Z ah),vs=[.ref a]/\Zv K H a (ns.map V.int)/\ns.length<=63/\∀H',Q (.bl ai) H'
def all_mk{l:GS}{h:Heap}{fa:av}(X:K.In h)(G:h.Ns fu mg)(hfa:mg "law"=U (.ref fa))
  (Ø:sx K fu "Facts"=U (U (.ref C_Facts)))
  (Zd:sx K fu "Grounds"=U (U (.ref C_Grounds)))
  (Ć:sx K fu "Shop"=U (U (.ref C_Shop)))
  (Æ:oR K C_Facts jE=ai)(Õ:rS K C_Facts=ai)(Å:vF K C_Facts=ai)(Ä:cj K (.ref C_Facts) "__setattr__"=U (U (.builtin "object.__setattr__")))(Î:rT K C_Facts=ai)(Ï:gr K (.ref C_Facts)=ai)
  (Í:cj K (.ref C_Facts) "grounds"=U B)
  (Ë:cj K (.ref C_Facts) "open_benches"=U B)
  (Ê:cj K (.ref C_Facts) "firsts"=U B)
  (É:cj K (.ref C_Facts) "lasts"=U B)
  (È:cj K (.ref C_Facts) "put_pairs"=U B)
  (Ç:cj K (.ref C_Facts) "notes"=U B)
  (ZB:oR K C_Grounds jE=ai)(Zc:rS K C_Grounds=ai)(ZA:vF K C_Grounds=ai)(Y9:cj K (.ref C_Grounds) "__setattr__"=U (U (.builtin "object.__setattr__")))(ZL:rT K C_Grounds=ai)(ZN:gr K (.ref C_Grounds)=ai)
  (ZK:cj K (.ref C_Grounds) "told_shop"=U B)
  (ZJ:cj K (.ref C_Grounds) "kept_plan"=U B)
  (ZI:cj K (.ref C_Grounds) "kept_most"=U B)
  (ZH:cj K (.ref C_Grounds) "lengths"=U B)
  (ZG:cj K (.ref C_Grounds) "job_names"=U B)
  (ZF:cj K (.ref C_Grounds) "early_moments"=U B)
  (ZE:cj K (.ref C_Grounds) "end_marks"=U B)
  (ZD:cj K (.ref C_Grounds) "breaks"=U B)
  (ZC:cj K (.ref C_Grounds) "known_gaps"=U B)
  (ò:oR K C_Shop jE=ai)(Ą:rS K C_Shop=ai)(ñ:vF K C_Shop=ai)(ð:cj K (.ref C_Shop) "__setattr__"=U (U (.builtin "object.__setattr__")))(þ:rT K C_Shop=ai)(ÿ:gr K (.ref C_Shop)=ai)
  (ý:cj K (.ref C_Shop) "benches"=U B)
  (ü:cj K (.ref C_Shop) "steps"=U B)
  (û:cj K (.ref C_Shop) "jobs"=U B)
  (ú:cj K (.ref C_Shop) "setups"=U B)
  (ù:cj K (.ref C_Shop) "links"=U B)
  (ø:cj K (.ref C_Shop) "stocks"=U B)
  (ö:cj K (.ref C_Shop) "horizon"=U B)
  (õ:cj K (.ref C_Shop) "bench_by_name"=U B)
  (ô:cj K (.ref C_Shop) "step_by_name"=U B)
  (ó:cj K (.ref C_Shop) "setup_by_names"=U B)
  (Ì:cj K (.ref C_Shop) "job_by_step"=U B)
  (a95:sx K fu "law"=U (U (.ref f95)))(l95:K.lookup f95=U #[oc95,od95,.func (cX "law" "law" (cY (XU 91)) (ca (XU 91)) (aC (XU 91)) .none kV95 dc95 pm95 an95 cd95 ct95),sl95])(c95:nj K cd95 "law"=ai)(k95:gr K (.ref f95)=ai)
  (V:Vd K mg C_Facts C_Grounds C_Shop)
 : ∃fd:ku,(∀(s:aH)(v:aw),oV s fd #[[v],[]] [("_law_script",v)])/\∀base:Heap,K.In base->base.Ns fu mg->YY l.prog w K mg base ã 16 fa fd ["_law_script"] (xf K):=by
 let e:=hfa.symm.trans (sy X G a95);let e2:=Value.ref.inj (qI e);subst e2;let O_Facts:Yc .(a) K mg "Facts" C_Facts:=#[by unfold Gam;rfl,#[Æ,Õ,Å,Ä],sy X G Ø,Î,Ï];let cf_Facts:CF .(a) K "Facts" eG:=O_Facts.cf (dn.mpr #[Í,(dn.mpr #[Ë,(dn.mpr #[Ê,(dn.mpr #[É,(dn.mpr #[È,(dn.mpr #[Ç,(HE _)])])])])])]);let O_Grounds:Yc .(a) K mg "Grounds" C_Grounds:=#[by unfold Gam;rfl,#[ZB,Zc,ZA,Y9],sy X G Zd,ZL,ZN];let cf_Grounds:CF .(a) K "Grounds" yT:=O_Grounds.cf (dn.mpr #[ZK,(dn.mpr #[ZJ,(dn.mpr #[ZI,(dn.mpr #[ZH,(dn.mpr #[ZG,(dn.mpr #[ZF,(dn.mpr #[ZE,(dn.mpr #[ZD,(dn.mpr #[ZC,(HE _)])])])])])])])])]);let O_Shop:Yc .(a) K mg "Shop" C_Shop:=#[by unfold Gam;rfl,#[ò,Ą,ñ,ð],sy X G Ć,þ,ÿ];let cf_Shop:CF .(a) K "Shop" Ep:=O_Shop.cf (dn.mpr #[ý,(dn.mpr #[ü,(dn.mpr #[û,(dn.mpr #[ú,(dn.mpr #[ù,(dn.mpr #[ø,(dn.mpr #[ö,(dn.mpr #[õ,(dn.mpr #[ô,(dn.mpr #[ó,(dn.mpr #[Ì,(HE _)])])])])])])])])])])]);let V:Vw K mg C_Facts C_Grounds C_Shop:={V with O_Facts,cf_Facts,O_Grounds,cf_Grounds,O_Shop,cf_Shop};show#[cX "law" "law" (cY (XU 91)) (ca (XU 91)) (aC (XU 91)) .none kV95 dc95 pm95 an95 cd95 ct95,λs v=>.of_eq W,λbase _ _=>?_];let FL:=wW (st:=XU 91) l95 c95 k95;let ok:YY l.prog w K mg base ã 16 fa _ ["_law_script"] (θ .(a) K 1 yf):=FL.okD (k:=15) mJ (OK V fa);show ok.imp λvs H Q us hq=>?_;let⟨a,ns,rfl,hS,X2,k⟩:=hq;show#[H,[.scr ns],.bl ai,aY.refl H,.cons (.scr hS) .nil,W,Lm ns X2,λv G' H' _ r=>by rw[r.bl_inv];show k H']
def walk{l:GS}{d:DefRec}{K:zQ->aS}(hn:l.most=U 63)(hdf:d.params.defaults=[])
  (hY:∀(w:cA)(h:Heap),YP w h->(K w.params).In h)
  (F:∀(w:cA)(mg:aj->au aw)(fa:av)(h:Heap),(K w.params).In h->h.Ns fu mg->mg d.name=U (.ref fa)->
   ∃fd:ku,(∀(s:aH)(u:aw),oV s fd #[[u],[]] [("_law_script",u)])/\∀base:Heap,(K w.params).In base->base.Ns fu mg->YY l.prog w (K w.params) mg base ã 16 fa fd ["_law_script"] (xf (K w.params))):
  Vt q ļ XP YP l.row.toRowW d [] (λf vs=>GR f vs):=
 L2.walk_of (n:=63) (k:=16) (x:="_law_script") (CX:=λ_=>ã) (sp:=λw=>xf (K w.params)) hn .(c) hdf #[W,by decide,by decide] hY F (λ_ _ a ns hl _ hS=>#[a,ns,W,hS,hl,λ_=>rfl]) λ_ _ _ _ _ z=>z
end Law
end L2
noncomputable def Zq:=()
end
open PySem PySem.W PyProof.Rows L2
set_option maxRecDepth 100000 in
set_option maxHeartbeats 0 in
theorem PySem.Challenge.cw_shopbound_k36_whole_all_schedules_holds : PySem.Challenge.rw_shopbound_k36_whole_all_schedules.Holds := by
 w_on;o_law;k_head;(case hw=>w_witness2)
 k_fill
 refine Law.walk (l:=XH) rfl rfl (λw h Y=>PySem.W.kIn_of Y) ?F
 case F=>
  intro w mg fa h KX G hmg
  refine' Law.all_mk KX G hmg ?Ø ?Zd ?Ć ?Æ ?Õ ?Å ?Ä ?Î ?Ï ?Í ?Ë ?Ê ?É ?È ?Ç ?ZB ?Zc ?ZA ?Y9 ?ZL ?ZN ?ZK ?ZJ ?ZI ?ZH ?ZG ?ZF ?ZE ?ZD ?ZC ?ò ?Ą ?ñ ?ð ?þ ?ÿ ?ý ?ü ?û ?ú ?ù ?ø ?ö ?õ ?ô ?ó ?Ì ?a95 ?l95 ?c95 ?k95 ?V
  (case Ø=>k_is)
  (case Zd=>k_is)
  (case Ć=>k_is)
  (case Æ=>k_is)
  (case Õ=>k_is)
  (case Å=>k_is)
  (case Ä=>k_is)
  (case Î=>k_is)
  (case Ï=>k_is)
  (case Í=>k_is)
  (case Ë=>k_is)
  (case Ê=>k_is)
  (case É=>k_is)
  (case È=>k_is)
  (case Ç=>k_is)
  (case ZB=>k_is)
  (case Zc=>k_is)
  (case ZA=>k_is)
  (case Y9=>k_is)
  (case ZL=>k_is)
  (case ZN=>k_is)
  (case ZK=>k_is)
  (case ZJ=>k_is)
  (case ZI=>k_is)
  (case ZH=>k_is)
  (case ZG=>k_is)
  (case ZF=>k_is)
  (case ZE=>k_is)
  (case ZD=>k_is)
  (case ZC=>k_is)
  (case ò=>k_is)
  (case Ą=>k_is)
  (case ñ=>k_is)
  (case ð=>k_is)
  (case þ=>k_is)
  (case ÿ=>k_is)
  (case ý=>k_is)
  (case ü=>k_is)
  (case û=>k_is)
  (case ú=>k_is)
  (case ù=>k_is)
  (case ø=>k_is)
  (case ö=>k_is)
  (case õ=>k_is)
  (case ô=>k_is)
  (case ó=>k_is)
  (case Ì=>k_is)
  (case a95=>k_is)
  (case l95=>k_is)
  (case c95=>k_is)
  (case k95=>k_is)
  (case V=>constructor;(case d57=>refine' Yt.mk' ?xa ?xi ?xl ?xc ?xk ?xt ?xd ?xv;(case xa=>k_is);(case xi=>k_is);(case xl=>k_is);(case xc=>k_is);(case xk=>k_is);(case xt=>k_is);(case xd=>rfl);(case xv=>exact .cons rfl (.cons rfl (.cons #[_,rfl] (.cons #[_,rfl] .nil)))));all_goals first|(refine' YS.mk' KX G ?a ?l ?c ?k;(case a=>k_is);(case l=>k_is);(case c=>k_is);(case k=>k_is))|(refine' XZ.mk' ?a ?i ?l ?c ?k;(case a=>k_is);(case i=>k_is);(case l=>k_is);(case c=>k_is);(case k=>k_is))|(refine' PySem.W.mg_none_of KX G ?a;(case a=>k_is))|(refine' Law.tkI_of KX G ?a;(case a=>k_is)))
end
end
end
