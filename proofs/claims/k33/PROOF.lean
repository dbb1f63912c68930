import PyProof.Rows.All
import Wide.All
import OpenK.AllK
import Wide.FinOn
import Lean
import PyProof.EqAt
import PyProof.EqKinds
import PyProof.TupleCall
import PySem.SetOps
import KE.KDictOf
import PyProof.AttrMiss
import PyProof.IsiH_list
import PyProof.WalkInts
import KE.KMinBuiltin
import PyProof.Rows.CallKwBuiltin
import KE.KEqDict
import KE.KItemsList
import KE.KDictSum
import KE.KRevSl
import PyProof.Rows.SortStr
import PyProof.Rows.SortWalk
import PyProof.DictWalks
import KE.KTryMore
import PyProof.NsDelKeeps
import PyProof.ExcAttrAll.ValueError
import PyProof.StrReplace2
import PyProof.ReprStr
import PyProof.Rows.RuleU_int
import PyProof.InstStoreFacts
import PyProof.ExcInit
import KE.KDictList
import PyProof.MaxThree
import PyProof.MinMaxWalk
import PyProof.Rows.SumAny
import PyProof.ZipIter
import PySem.Challenge.RW_shopbound_k33_ahead_and_gaps
set_option Elab.async false
set_option linter.all false
set_option maxRecDepth 100000
open Option renaming some->aa,none->af,isSome_map->m9,isSome_iff_exists->oF,map->rE,bind->Ft,getD_none->P4,join_some->QL,getD_some->QM,map_map->RB
open _root_ renaming List->ac,Nat->ao,Int->aq,Option->au,Bool->aT,absurd->bJ,Array->bR,congrArg->cw,if_true->c7,if_false->dc,String->dz,DecidableEq->eN,of_decide_eq_true->fL,Unit->lw,beq_iff_eq->ly,beq_eq_false_iff_ne->mT,not_or->rO,decide_eq_true_eq->yQ,decide_eq_decide->zj,of_decide_eq_false->QD,instBEqOfDecidableEq->Q0,beq_self_eq_true->Q8
open PySem renaming Str->aj,Addr->aw,Value->ax,wpAny->aF,Shared->aI,sizeLine->aN,model->aO,starEach->aR,tupleKeyHash->bF,backTo->cj,cLine->cB,Env->cZ,World->df,Around->dB,compareOp->dN,Program->eE,swapsWith->eG,Pos->ff,mainGlobals->fH,assignEach->fR,sizeLine_eq->ge,binaryOp->gK,codeAny->gL,argBest->gP,wpAny_mono->gZ,pyNext->g8,bindArgs->hG,NameKind->hU,sysModules->iu,Sem->iy,holding->iz,backToKw->iB,keywordEach->iC,attributeBase->i9,Keyword->ja,wpAny_truthy_bool->jK,assign->jM,tupleKind->kq,bootBuiltins->lv,behindInMarks->lx,Result->lz,FuncData->lB,bindL->lC,bindC->lD,wpAny_newObj_type->lF,atKey->lI,SetTable->lL,codeAny_builtin->lM,standAt->mV,getMethod->mX,mem_of_lookup->mZ,IsPart->m5,getItem->m6,callerA->na,plainId_quiet->nj,pyIter->oz,foldedSetIterable->oA,callWith->oE,sliceBounds->oG,valueAt->oK,wpAny_seqItems->oP,GenState->pZ,rawInt->p5,BindsTo->qZ,codeAny_mono->rf,tupleKind_room_in1->ro,DictEntry->rB,Walks->rD,wpAny_pyIter_list->rG,wpAny_tryCatch->rP,seqItems?->rQ,Model->um,letOwnedTupleGo->uo,wpAny_passesOwn->uq,wpAny_Call_Name_kw->uv,wpAny_typeOf->uy,setAdd->uE,wpAny_setState_of->uG,wpAny_of_eq->uK,lastMarks->yd,wpAny_call->yh,cellsFrom->yi,pick_run->ym,typeLookup->yo,subscripted->yr,call_meets->yv,call_meetsIn->yw,Params->yy,DefRec->yz,call->yA,relabel->yC,setSearchFrom->yW,wpAny_letGo->za,Within->Ef,builtinsNs->Ei,wpAny_Name->Ek,wpAny_execs_nil->El,wpAny_field->Ez,wpAny_call_entry->EB,slot_list_getitem->EE,typeIs_str->EF,typeIs_int->EG,wpAny_specialOf->EL,wpAny_standAt->EO,compEnvC->EQ,wpAny_forIn_list->E8,ofAClassStatement->E9,scanBound->Fb,wpAny_attempt->Fc,wpAny_isInstance->Fd,wpAny_updateSeq->Fe,wpAny_typeNameOfWhole_keyiter->Fh,wpAny_pyIter_keyiter->Fi,wpAny_isTrue_Compare1->Py,wpAny_execs_cons->PD,wpAny_assign_Name->PF,wpAny_pyNext_list_item->PH,wpAny_pyNext_list_end->PJ,noFill_tuple_add->PU,wpAny_callSpecial?_slot->P1,sliceRange_one->P5,wpAny_getItem_list_slice->P6,wpAny_Dict_empty->Qd,wpAny_Call_method->Qg,wpAny_comprehension_free->Qp,wpAny_pyIter_enum->Qq,codeAny_call_builtin->QT,carriedByValue->QV,searchCouldBeSeen->QW,wpAny_eqIsQuiet_tuple->QX,wpAny_storeSet_of->QZ,typeLookup_type->Q1,builtinLookup_eq_fast->Q2,getAttrByItsOwn->Q3,boundAndCalled->Q4,getattributeRaised->Q5,wpAny_notOrdered_dict->Q6,wpAny_dictEntries->Rc,wpAny_dictEpoch->Re,wpAny_isOneOf_keyiter->Rf,wpAny_setField->Rg,firstArgMember->Rj,size_of_entries->Rm
open Bool renaming true->ak,false->av,and_eq_true->fJ,not_true->iE,eq_iff_iff->mW,not_false->oQ,true_and->uH,false_or->EK,or_eq_true->ET,eq_false_iff->E5,and_false->P9,and_self->RE
open PySem.W renaming Frag->aV,findIn->cA,fnOf->eS,keepIn->gf,kia_one->jO,emptyDict->lA,instObj->mU,codeIn->m4,plainGet->oB,isFn->oC,hasDictIn->p8,makesIn->p9,nsIn->rK,mg_of->rL,plainOver->ur,lookIn->ye,methodObj->Eg,plainGet_of->En,takerIn->Eo,methodCall_KW->Ep,callWith_K->Ev,fd_plain->EM,OpenLaw->EN,handedIn->PL,kitOne->PM,kitx_list->PN,kitx_dict->PP,cellsFrom_some->PR,WalkO->Qo,kdl_call->Rp
open Pure renaming pure->bq
open List renaming mem_singleton->bN,replicate->bT,mem_map->bU,mem_cons->cH,range->cQ,lookup->dj,forall_mem_cons->dQ,length->dU,getElem?_eq_some_iff->eB,mem_append->eF,nodup_cons->eJ,map_append->eO,mem_range->eR,find?_cons->fg,foldl_cons->gw,append_nil->gM,take_length->gO,getD_eq_getElem?_getD->hV,all_eq_true->iD,map_congr_left->iG,any_cons->jP,take_succ->jQ,length_drop->ku,nodup_nil->kx,nodup_append->ky,take_sublist->lE,replicate_succ->lG,append_assoc->lH,take_of_length_le->lJ,any_eq_true->lO,set_cons_zero->nr,mem_flatMap->nu,mem_append_left->ox,getElem?_set_self->oy,flatten_cons->oH,length_singleton->oI,lookup_cons->oM,drop_zero->oN,flatMap_cons->oR,mem_filterMap->p6,getElem_mem->rF,length_mapIdx->rH,drop_eq_getElem_cons->rJ,take->rN,getElem?_replicate->ux,mem_iff_getElem?->uA,mem_of_mem_take->uB,find?_eq_none->uC,pairwise_map->uD,foldl_append->uF,filter_cons->uN,getElem?_of_mem->uP,flatMap_append->uQ,all_map->uR,filterMap_cons->ya,getElem?_take_of_lt->yj,reverse_cons->yt,getElem?_eq_none->yD,length_eq_zero_iff->yG,mem_iff_getElem->yH,getD->yI,drop_length->yK,take_append_drop->yS,length_tail->y7,take_add_one->zc,drop_of_length_le->zg,range'->zh,map_take->zi,mem_filter->Eh,getElem_inj->Ej,of_mem_zip->Ew,foldl->EJ,nodup_range->E2,mem_of_find?_eq_some->E4,map_inj_right->Fj,set_cons_succ->Fk,map_drop->Fm,range'_succ->Fn,range_succ->Fp,flatMap_nil->Fs,forall_mem_nil->Fu,any_eq_false->PK,append_inj'->Qr,ext_getElem?->Qs,getElem?_mapIdx->Qt,pairwise_iff_getElem->Qz,getElem?_drop->QF,mem_of_mem_drop->QG,drop_sublist->QH,find?_some->QI,nodup_iff_pairwise_ne->QK,filterMap_cons_some->QO,pairwise_lt_range->QP,all_cons->Ro,ext_getElem->Rs,drop->Rt,map_id'->Rv,map_id->Ry,range_eq_range'->Rz,find?_map->RA,find?_isSome->RC,length_eq_one_iff->RD
open Or renaming inr->ca,inl->cR
open PySem.Value renaming ref->ce,none->lq,bool->lr,type->lu,int->ui,str->uj,float->Ee,isInt->Ps,isStrOf->Pt,bytes->Pu
open Sum renaming inr->ci,inl->ou
open PySem.SetTable renaming below->cU,runEnd->dD,insertAt->dE,bits->fT,leap->jd,turns->nh,sizeAbove->oO,tooFull->uI,fresh->uJ,Probe->yR,grown->yT,has->EZ,fits->E1,slot->QB,fill->QC,layClean->QN
open PySem.PassesOwn renaming never->dq
open Ne renaming symm->dM
open PyProof.Rows renaming envOfC->dO,AllBare->kr,IntsAre->rA,IsTup->uk,callWith_type1->yc,Subscript_->yp,subscriptTail->yq,slot_tuple_getitem->EA,tail_any->EC,slicePart_none->PZ,subscriptTail_builtinR->P3,callWith_builtin1->Sd,boot_enumerate->Si
open List.cons renaming inj->eU
open PySem.PyData renaming str->fj,eqv->fK,canLay0->hW,depth->iF,canLayAll0->jc,eqvAll->kz,depthAll->lK,tuple->Qv,int->Qw,strOk->Ru
open PySem.SeqAt renaming shaped->fS
open Int renaming toNat_natCast->gj,eq_ofNat_of_zero_le->rT,zero_add->zd,le_refl->ze,emod_nonneg->Qx,emod_lt_of_pos->Qy
open Array renaming getElem?_eq_some_iff->gN,length_toList->jL,getD_eq_getD_getElem?->yP,mem_toList_iff->Em,toList->Pz,replicate->QJ,filterMap->QQ,forIn_toList->QU,getElem?_eq_none_iff->Rn,toArray_toList->Rq
open Nat renaming zero_le->g9,lt_irrefl->jJ,lt_or_ge->ng,zero_add->nq,succ_mul->oJ,le_of_lt->pY,lt_trans->rj,lt_succ_self->uu,le_succ->uw,ne_of_gt->yb,le_of_eq->yf,mul_le_mul->yE,succ_pos->yL,mod_lt->yM,le_add_right->yN,lt_succ_of_lt->yV,min_def->zf,min_le_right->Ex,not_lt->ER,add_assoc->EW,lt_succ_iff->EX,not_lt_zero->EY,mul_comm->Qb,lt_trichotomy->QA,min_eq_left->QE,sub_zero->Rx
open PySem.Heap renaming SameBut->iw,size_push->mY,get?_update_other->rh,get?_update_self->yX,dictOf_iff->y6,ExtBut->Fg
open False renaming elim->iA
open Sum.inr renaming inj->jI
open True renaming intro->jN
open PySem.F renaming plain_min_loop->lN,called_set->nk,slot_dict_get->rq,entry_dict_get->yx,slot_list_getattribute->yZ,entry_min_loop->y9,slot_dict_keyiterator_next->Ff,slot_tuple_add->PV,entry_tuple_add->PX,args_tuple_add_2->PY,slot_list_append->P8,slot_list_extend->P',slot_int_rmul->Qa,args_dict_get_2->Qe,args_dict_get_3->Qf,plainAttrs_dict->Qh,type_dict_get->Qi,plainAttrs_list->Qu,slot_dict_iter->Ra
open PySem.Str renaming ofString->m8,length->rg,empty->ut
open PySem.NameKind renaming free->nc,cell->yB
open PySem.Around renaming under_plainId->ni,under->Er
open ForInStep renaming yield->rC
open PySem.SetTable.layClean renaming free->rM
open ToString renaming toString->rR
open List.Sublist renaming nodup->rS,refl->Fq,cons->Sw,cons₂->Sx
open ForIn renaming forIn->uz
open MonadExcept renaming tryCatch->uL
open List.Pairwise renaming map->uO,imp_of_mem->E6,nil->Qn,filterMap->Sk
open PySem.Calls renaming spliced_cons->yg,spliced_nil->Eu,callWith_builtin->EH,evalArgs_plain->EI,Name_function_global->Pv
open PySem.Builtin.Slice renaming slicePlaces->yk,sliceAdjust->Ey,sliceApplied->P0,slicePartIndex->Se,sliceFields->Sf
open PySem.Builtin.Tuple renaming tupleExact->yn,tupleItemsOf->Sg
open PySem.Builtin.List renaming listTooLong->yu,listFitsIndex->Sh
open PySem.Builtin.Str renaming strSliceIndices->yF,occurrences->Rk,glued->Rl,tooLong->Sj,partsBetween->Su
open PySem.Walks renaming list->yJ,dictKeys->Rr
open PySem.SetTable.below renaming go->yO
open PySem.Shared renaming TypeIs->yU
open PySem.Heap.SameBut renaming update->yY,refl->ES
open Option.some renaming injEq->zb,inj->RM
open PySem.Code renaming isFrame->Et,frames->PQ
open PyProof.Rows.IsTup renaming new->ED
open PySem.Txt renaming slice->EU,join->EV
open PySem.SetTable.probe renaming go->E3
open PyProof.Rows.F renaming plain_set_update_loop->E7,entry_set_update_loop->QR
open PySem.Obj renaming putSet->Fa,mapSeq->P7,mapFields->Rh,data_mapFields->Ri
open PySem.CmpOp renaming In->Pw,NotIn->Px
open PySem.Heap.IsSliceOf renaming new->P2
open PySem.Heap.DictOf renaming new->Qc
open PySem.W.WData renaming int->Qj
open PySem.W.WShape renaming has->Qk
open PySem.W.Dflts renaming none->Ql,noKw->Qm
open PySem.Moved renaming trans->QS
open Prod.mk renaming inj->QY,injEq->Rw
open PySem.Builtin.Dict renaming updateFrom->Q7,showsAll->Rb,addKeywords->Sn,pairItems->So,selfAndRest->Sq,dictSlotNone->Sr
open PySem.Builtin.Builtins renaming bindParams->Q9
open PySem.Builtin.Range renaming rangeSize->RN
open PySem.EqNone renaming eq_none_none->RO,eq_none_bool->RP,eq_none_int->RQ,eq_none_str->RS,eq_bool_none->RT,eq_int_none->RV,eq_str_none->RX,ne_none_none->R0,ne_none_bool->R1,ne_none_int->R3,ne_none_str->R4,ne_bool_none->R5,ne_int_none->R7,ne_str_none->R9
open PySem.EqMixed renaming eq_bool_str->RU,eq_int_str->RW,eq_str_bool->RY,eq_str_int->RZ,ne_bool_str->R6,ne_int_str->R8,ne_str_bool->R',ne_str_int->Sa
open PySem.W.Looks renaming here->Sb
open PySem.Within renaming cons->Sc
open PySem.Builtin.Frozenset renaming updateFrom->Sl
open PySem.Builtin.Dict_items renaming ownsTuple->Ss
open PySem.Challenge renaming pw_shopbound_k33_ahead_and_gaps->Sv,rw_shopbound_k33_ahead_and_gaps->Sy
set_option hygiene false
local macro_rules
|`(.(a))=>`(Gam C_Facts C_Grounds C_Shop)
|`(.(b))=>`(bn fun _ _ _ _ _ _ _=>rfl)
|`(.(c))=>`(by omega)
|`(.(d))=>`(.tail _ (.tail _ (.tail _ (.tail _ (.head _)))))
|`(.(e))=>`(by decide)
|`(.(f))=>`(vC (.int 0))
|`(.(g))=>`(dC (kj V) hr (ai (DO.de (cP rfl (CompScope.of rfl rfl) (FvOk.of (N':=["row"]) (fv:=[af]) rfl) (bW (ah 0)) ⟨fun _ _ _ _ _=>⟨(aU 0 (show(["row"]:ac aj).Nodup by decide +kernel)),cK,(aJ (ah 0) aA)⟩⟩)) ay) ln1)
|`(.(h))=>`(fcD bs ss js us ls ks h kvs O A B P)
|`(.(i))=>`(vC (.int 1))
|`(.(j))=>`(bP bs ss js us ls ks h)
set_option bootstrap.genMatcherCode false
theorem oBd {α:Type u} {β:Type v} {o:au α} {f:α->au β} {b:β} (h:o.bind f=aa b):∃a,o=aa a/\f a=aa b:=Option.bind_eq_some_iff.mp h
theorem oMd {α:Type u} {β:Type v} {o:au α} {f:α->β} {b:β} (h:o.map f=aa b):∃a,o=aa a/\f a=b:=Option.map_eq_some_iff.mp h
noncomputable section
section
open PySem PySem.Spec PyProof.Rows
noncomputable def qb:=@Option.bind_some
noncomputable def qc:=@List.getElem?_cons_zero
noncomputable def qd:=@List.getElem?_cons_succ
noncomputable def qe:=@Option.map_some
noncomputable def qf:=@List.length_map
noncomputable def qg:=@List.mem_cons_self
noncomputable def qh:=@List.mem_cons_of_mem
noncomputable def qi:=@List.length_cons
noncomputable def qj:=@List.length_append
noncomputable def qk:=@List.getElem?_map
noncomputable def qm:=@List.length_nil
noncomputable def qo:=@List.map_cons
noncomputable def qp:=@List.map_map
noncomputable def qr:=@List.cons_append
noncomputable def qt:=@Bool.false_eq_true
noncomputable def qu:=@Bool.false_ne_true
noncomputable def qv:=@Heap.get?_push_of_some
noncomputable def qw:=@Heap.lt_size
noncomputable def qx:=@Nat.le_refl
noncomputable def qy:=@wpAny_bind
noncomputable def qz:=@List.getElem?_set_ne
noncomputable def qA:=@List.getElem?_append_left
noncomputable def qB:=@wpAny_pure
noncomputable def qC:=@List.size_toArray
noncomputable def qD:=@Nat.ne_of_lt
noncomputable def qE:=@List.getElem?_eq_getElem
noncomputable def qF:=@List.length_take
noncomputable def qG:=@Nat.lt_of_lt_of_le
noncomputable def qH:=@Heap.get?_push_size
noncomputable def qI:=@RM
noncomputable def qJ:=@Array.getElem?_toList
noncomputable def qK:=@List.not_mem_nil
noncomputable def qL:=@List.getElem?_append_right
noncomputable def qM:=@cH
noncomputable def qN:=@Nat.le_trans
noncomputable def qO:=@decide_eq_false
noncomputable def qP:=@List.map_nil
noncomputable def qQ:=@List.mem_of_getElem?
noncomputable def qR:=@List.mem_append_right
noncomputable def qS:=@List.nil_append
noncomputable def qT:=@decide_eq_true
noncomputable def qU:=@wpAny_holding
noncomputable def qV:=@List.length_range
noncomputable def qW:=@List.mem_map_of_mem
noncomputable def qX:=@if_pos
noncomputable def qY:=@if_neg
end
section
namespace L2
open PySem PySem.Spec PyProof.Rows
noncomputable abbrev Key:=Sum aq aj
noncomputable def nP:Key->ax->aT
 |.inl k,v=>Ps k v
 |.inr x,v=>Pt x v
noncomputable def IZ (w:df):Key->aq
 |.inl k=>hashInt k
 |.inr x=>hashStr w x
theorem iK:∀{k:Key} {v:ax},nP k v=ak->(∃i t,k=ou i/\v=ui i t)\/(∃x t,k=ci x/\v=uj x t)
 |.inl i,v,h=>by
  obtain⟨t,e⟩:=Value.isInt_shape (k:=i) (v:=v) h;exact .inl ⟨i,t,rfl,e⟩
 |.inr x,v,h=>by obtain⟨t,e⟩:=Value.isStrOf_shape (x:=x) (v:=v) h;exact .inr ⟨x,t,rfl,e⟩
theorem OX (i:aq) (t:Tok):nP (.inl i) (.int i t)=ak:=by simp[nP,Ps]
theorem LK (x:aj) (t:Tok):nP (.inr x) (.str x t)=ak:=by simp[nP,Pt]
theorem MO (a b:aq):decide ((ou a:Key)=ou b)=(a==b):=by
 by_cases e:a=b
 .subst e;simp
 .have h:¬(ou a:Key)=ou b:=fun q=>e (Sum.inl.inj q);rw[qO h];exact(mT.mpr e).symm
theorem OS (a b:aj):decide ((ci a:Key)=ci b)=decide (a=b):=by
 by_cases e:a=b
 .subst e;simp
 .have h:¬(ci a:Key)=ci b:=fun q=>e (jI q);rw[qO h,qO e]
theorem KS (a:aq) (b:aj):decide ((ou a:Key)=ci b)=av:=qO (fun q=>nomatch q)
theorem JT (a:aj) (b:aq):decide ((ci a:Key)=ou b)=av:=qO (fun q=>nomatch q)
noncomputable def cX (prog:eE) (w:df):PySem.KeyKind prog w Key where
 is:=nP
 hash:=IZ w
 inj:=fun v a b ha hb=>by
  rcases iK ha with⟨i,t,rfl,rfl⟩|⟨x,t,rfl,rfl⟩
  .rcases iK hb with⟨j,u,rfl,e⟩|⟨y,u,rfl,e⟩
   .injection e with e1 _;rw[e1]
   .exact nomatch e
  .rcases iK hb with⟨j,u,rfl,e⟩|⟨y,u,rfl,e⟩
   .exact nomatch e
   .injection e with e1 _;rw[e1]
 byValue:=fun k v h=>by rcases iK h with⟨i,t,rfl,rfl⟩|⟨x,t,rfl,rfl⟩<;>rfl
 pyHash:=fun hv h=>by
  rcases iK hv with⟨i,t,rfl,rfl⟩|⟨x,t,rfl,rfl⟩
  .exact wpAny_pyHash_int h
  .exact wpAny_pyHash_str h
 eqBool:=fun hu hv h=>by
  rcases iK hu with⟨i,t,rfl,rfl⟩|⟨x,t,rfl,rfl⟩
  .rcases iK hv with⟨j,u,rfl,rfl⟩|⟨y,u,rfl,rfl⟩
   .rw[MO] at h;exact wpAny_eqBool_int h
   .rw[KS] at h;exact SeqAt.EqAt.int_str i t y u _ _ _ _ h
  .rcases iK hv with⟨j,u,rfl,rfl⟩|⟨y,u,rfl,rfl⟩
   .rw[JT] at h;exact SeqAt.EqAt.str_int x t j u _ _ _ _ h
   .rw[OS] at h;exact wpAny_eqBool_str h
 «strs»:=fun k x t v h=>by
  rcases iK h with⟨i,u,rfl,e⟩|⟨y,u,rfl,e⟩
  .exact nomatch e
  .injection e with e1 _;subst e1;cases v<;>rfl
theorem F6 (prog:eE) (w:df) (i:aq) (t:Tok):(cX prog w).is (.inl i) (.int i t)=ak:=OX i t
theorem OR (prog:eE) (w:df) (x:aj) (t:Tok):(cX prog w).is (.inr x) (.str x t)=ak:=LK x t
inductive V where
 |non|bl (b:aT)|int (i:aq)|str (x:aj)|byt (b:bR UInt8)|flt (b:UInt64)|ref (a:aw)|ty (n:dz)
 deriving eN
noncomputable def bD:V->ax->Prop
 |.non,u=>u=lq
 |.bl b,u=>u=lr b
 |.int i,u=>∃t,u=ui i t
 |.str x,u=>∃t,u=uj x t
 |.byt b,u=>∃t,u=Pu b t
 |.flt b,u=>∃t,u=Ee b t
 |.ref a,u=>u=ce a
 |.ty n,u=>u=lu n
noncomputable abbrev bu:ac V->ac ax->Prop:=Paired bD
theorem bu.length {xs:ac V} {us:ac ax} (r:bu xs us):xs.length=us.length:=Paired.length r
theorem bu.get:∀{xs:ac V} {us:ac ax} {i:ao} {x:V},bu xs us->xs[i]?=aa x->∃u,us[i]?=aa u/\bD x u
 |_,_,_,_,.nil,e=>by simp at e
 |_,_,0,_,.cons r _,e=>by simp at e;subst e;exact⟨_,rfl,r⟩
 |_,_,i+1,x,.cons _ t,e=>by obtain⟨u,h1,h2⟩:=bu.get (i:=i) (x:=x) t (by simpa using e);exact⟨u,by simpa using h1,h2⟩
theorem bu.append:∀{xs ys:ac V} {us ws:ac ax},bu xs us->bu ys ws->bu (xs++ys) (us++ws)
 |_,_,_,_,.nil,s=>s
 |_,_,_,_,.cons r t,s=>.cons r (bu.append t s)
theorem bu.take:∀{xs:ac V} {us:ac ax} (n:ao),bu xs us->bu (xs.take n) (us.take n)
 |_,_,0,_=>.nil
 |_,_,_+1,.nil=>.nil
 |_,_,n+1,.cons r t=>.cons r (bu.take n t)
theorem bu.drop:∀{xs:ac V} {us:ac ax} (n:ao),bu xs us->bu (xs.drop n) (us.drop n)
 |_,_,0,r=>r
 |_,_,_+1,.nil=>.nil
 |_,_,n+1,.cons _ t=>bu.drop n t
noncomputable def fA:au V->au ax->Prop
 |some v,aa u=>bD v u
 |none,af=>True
 |_,_=>False
variable {κ:Type}
noncomputable def KV :ac (κ×V)->ac (κ×ax)->Prop:=Paired fun(p:κ×V) (q:κ×ax)=>p.1=q.1/\bD p.2 q.2
noncomputable def kV:Key->V
 |.inl i=>.int i
 |.inr x=>.str x
inductive HO where
 |lst (xs:ac V)
 |tup (xs:ac V)
 |dK (kvs:ac (Key×V))|dT (kvs:ac (ac Key×V))
 |set (S:aq->aT) (n:ao)
 |ins (C dx:aw) (fs:ac (aj×V))
 |own (x:aw)
 |xd (fs:ac (aj×V))
 |met (f x:aw)
 |rng (lo hi:aq)
 |frz (o:Obj) (u:HO)
 |tbl (ps:bR ax)
 |ext (φ:Heap->Prop)
noncomputable abbrev Hp:=aw->au HO
noncomputable def upd (H:Hp) (a:aw) (o:HO):Hp:=fun b=>if b=a then aa o else H b
variable {H:Hp} {a:aw}
theorem bB {o:HO} :upd H a o a=aa o:=by unfold upd;rw[qX rfl]
theorem aE {b:aw} {o:HO} (h:b≠a):upd H a o b=H b:=by unfold upd;rw[qY h]
theorem wk {b:aw} {o u:HO} (h:H a=aa o) (h':H b=aa u) (d:o≠u):a≠b:=by intro e;subst e;rw[h] at h';exact d (qI h')
theorem bK {b:aw} {o:HO} (h:H a=aa o) (h':H b=af):a≠b:=by intro e;subst e;rw[h] at h';cases h'
section
variable (P:eE) (w:df)
noncomputable def cI (H:Hp) (h:Heap) (a:aw):HO->Prop
 |.lst xs=>xs.length<=aN/\∃(its:ac ax) (n:ao),bu xs its/\h.get? a=aa {cls:=.type "list",data:=.seq its.toArray n}
 |.tup xs=>xs.length<=aN/\∃its:ac ax,bu xs its/\uk h a its.toArray
 |.dK kvs=>kvs.length<=aN/\(a==iu)=av/\∃vs,KV kvs vs/\h.DictOf (cX P w) a vs
 |.dT kvs=>kvs.length<=aN/\(a==iu)=av/\∃xs:ac (ac Key×aw×ax),
   Paired (fun(p:ac Key×V) (q:ac Key×aw×ax)=>p.1=q.1/\H q.2.1=aa (.tup (p.1.map kV))/\bD p.2 q.2.2) kvs xs /\
   ∃o es ep,h.get? a=aa o/\o.ExactDict/\o.data=.dict es ep/\es.toList=xs.map (entryOfKey (kq (cX P w)))/\(xs.map (·.1)).Nodup
 |.set S n=>h.SetOf (intKind P w) a S n
 |.ins C dx fs=>H dx=aa (.own a)/\fs.length<=1000/\dx≠a/\h.get? a=aa (mU C dx) /\
   ∃mA,h.Ns1 dx mA/\(∀f,fA (fs.lookup f) (mA f))/\Ef mA (fs.map (·.1))
 |.own _=>∃o,h.get? a=aa o
 |.xd fs=>∃mA,h.Ns1 a mA/\∀f,fA (fs.lookup f) (mA f)
 |.rng lo hi=>∃t u v,h.get? a=aa {cls:=.type "range",data:=.fields #[.int lo t,.int hi u,.int 1 v]}
 |.frz o u=>h.get? a=aa o/\cI H h a u
 |.tbl ps=>h.get? a=aa {cls:=.none,data:=.fields ps}
 |.met f x=>h.get? a=aa (Eg (.ref f) (.ref x))
 |.ext φ=>φ h/\(∃o,h.get? a=aa o)/\∀h1 h2:Heap,φ h1->(∀o,h1.get? a=aa o->h2.get? a=aa o)->φ h2
noncomputable def HOk (H:Hp) (h:Heap):Prop:=∀a o,H a=aa o->cI P w H h a o
end
variable {P:eE} {w:df} {H':Hp} {h':Heap}
section
variable {h:Heap} {o:HO}
theorem cI.lt (x:cI P w H h a o):a<h.objs.size:=by
 cases o with
 |lst xs=>obtain⟨_,_,_,_,e⟩:=x;exact qw e
 |tup xs=>obtain⟨_,_,_,p⟩:=x;exact p.lt
 |dK kvs=>obtain⟨_,_,_,_,o,_,_,e,_⟩:=x;exact qw e
 |dT kvs=>obtain⟨_,_,_,_,o,_,_,e,_⟩:=x;exact qw e
 |set S n=>obtain⟨o,_,_,_,e,_⟩:=x;exact qw e
 |ins C dx fs=>obtain⟨_,_,_,e,_⟩:=x;exact qw e
 |own y=>obtain⟨_,e⟩:=x;exact qw e
 |xd fs=>obtain⟨_,⟨_,_,_,e,_⟩,_⟩:=x;exact qw e
 |rng lo hi=>obtain⟨_,_,_,e⟩:=x;exact qw e
 |frz ob u=>obtain⟨e,_⟩:=x;exact qw e
 |tbl ps=>exact qw (show h.get? a=aa _ from x)
 |met f y=>exact qw (show h.get? a=aa _ from x)
 |ext φ=>obtain⟨_,⟨_,e⟩,_⟩:=x;exact qw e
theorem Paired.mapP {α β:Type} {F G:α->β->Prop}:∀{l₁:ac α} {l₂:ac β},Paired F l₁ l₂->(∀a b,F a b->G a b)->Paired G l₁ l₂
 |_,_,.nil,_=>.nil
 |_,_,.cons r t,f=>.cons (f _ _ r) (Paired.mapP t f)
theorem cI.stay (x:cI P w H h a o) (k:∀b u,(b=a\/H b=aa (.own a))->h.get? b=aa u->h'.get? b=aa u)
  (ho:∀b,H b=aa (.own a)->H' b=aa (.own a)) (ht:∀b xs,H b=aa (.tup xs)->H' b=aa (.tup xs)):cI P w H' h' a o:=by
 induction o with
 |lst xs=>obtain⟨z,its,n,r,e⟩:=x;exact⟨z,its,n,r,k _ _ (.inl rfl) e⟩
 |tup xs=>obtain⟨z,its,r,ob,e,c⟩:=x;exact⟨z,its,r,ob,k _ _ (.inl rfl) e,c⟩
 |dK kvs=>obtain⟨z,y,vs,r,ob,es,ep,e,c⟩:=x;exact⟨z,y,vs,r,ob,es,ep,k _ _ (.inl rfl) e,c⟩
 |dT kvs=>
  obtain⟨z,y,xs,r,ob,es,ep,e,c⟩:=x;exact⟨z,y,xs,Paired.mapP r fun p q z=>⟨z.1,ht _ _ z.2.1,z.2.2⟩,ob,es,ep,k _ _ (.inl rfl) e,c⟩
 |set S n=>obtain⟨ob,es,ep,t,e,c⟩:=x;exact⟨ob,es,ep,t,k _ _ (.inl rfl) e,c⟩
 |ins C dx fs=>
  obtain⟨d,z,ne,e,mA,⟨od,es,ep,e2,c⟩,r⟩:=x;exact⟨ho _ d,z,ne,k _ _ (.inl rfl) e,mA,⟨od,es,ep,k _ _ (.inr d) e2,c⟩,r⟩
 |own y=>obtain⟨ob,e⟩:=x;exact⟨ob,k _ _ (.inl rfl) e⟩
 |xd fs=>obtain⟨mA,⟨od,es,ep,e,c⟩,r⟩:=x;exact⟨mA,⟨od,es,ep,k _ _ (.inl rfl) e,c⟩,r⟩
 |rng lo hi=>obtain⟨t,u,v,e⟩:=x;exact⟨t,u,v,k _ _ (.inl rfl) e⟩
 |frz ob u ih=>obtain⟨e,q⟩:=x;exact⟨k _ _ (.inl rfl) e,ih q⟩
 |tbl ps=>
  have e:h.get? a=aa {cls:=.none,data:=.fields ps}:=x;show h'.get? a=aa {cls:=.none,data:=.fields ps};exact k a _ (.inl rfl) e
 |met f y=>
  have e:h.get? a=aa (Eg (.ref f) (.ref y)):=x;show h'.get? a=aa (Eg (.ref f) (.ref y));exact k a _ (.inl rfl) e
 |ext φ=>obtain⟨p,⟨o,e⟩,st⟩:=x;exact⟨st _ _ p fun o q=>k _ _ (.inl rfl) q,⟨o,k _ _ (.inl rfl) e⟩,st⟩
theorem HOk.lt (x:HOk P w H h) (e:H a=aa o):a<h.objs.size:=(x a o e).lt
theorem HOk.fresh (x:HOk P w H h) (e:h.objs.size<=a):H a=af:=by
 cases q:H a with
 |none=>rfl
 |some u=>exact bJ (qG (x.lt q) e) (jJ _)
theorem HOk.kept (x:HOk P w H h) (k:∀b u,h.get? b=aa u->h'.get? b=aa u):HOk P w H h':=fun a o e=>
 (x a o e).stay (fun b u _ q=>k b u q) (fun _ q=>q) fun _ _ q=>q
theorem HOk.laid (x:HOk P w H h) (k:∀b u,h.get? b=aa u->h'.get? b=aa u) (hp:h.objs.size<=a) (new:cI P w (upd H a o) h' a o):HOk P w (upd H a o) h':=fun b u e=>by
 have hn:=x.fresh hp;by_cases hb:b=a
 .subst hb;rw[bB] at e;cases e;exact new
 .rw[aE hb] at e;exact(x b u e).stay (fun c v _ q=>k c v q) (fun c q=>by rw[aE (bK q hn)];exact q) fun c xs q=>by rw[aE (bK q hn)];exact q
end
noncomputable def Rd (H:Hp) (a:aw) (u:HO):Prop:=H a=aa u\/∃o,H a=aa (.frz o u)
theorem Rd.ok {h:Heap} {u:HO} (r:Rd H a u) (x:HOk P w H h):cI P w H h a u:=by
 rcases r with r|⟨o,r⟩
 .exact x a u r
 .obtain⟨_,q⟩:=x a _ r;exact q
noncomputable def Mut:au HO->Prop
 |some (.lst _)=>True
 |some (.dK _)=>True
 |some (.dT _)=>True
 |some (.set _ _)=>True
 |some (.ins _ _ _)=>True
 |some (.ext _)=>True
 |_=>False
section
variable {h:Heap} {x e:aw} {o':HO}
theorem HOk.write (ok:HOk P w H h) (mu:Mut (H x)) (he:e=x\/H e=aa (.own x)) (k:∀b u,b≠e->h.get? b=aa u->h'.get? b=aa u) (heo:∃u,h'.get? e=aa u)
  (new:cI P w (upd H x o') h' x o'):HOk P w (upd H x o') h':=fun b u q=>by
 have nown:∀c y,H c=aa (.own y)->c≠x:=fun c y r z=>by subst z;rw[r] at mu;exact mu
 have ntup:∀c xs,H c=aa (.tup xs)->c≠x:=fun c xs r z=>by subst z;rw[r] at mu;exact mu
 by_cases hb:b=x
 .subst hb;rw[bB] at q;cases q;exact new
 .rw[aE hb] at q;by_cases hbe:b=e
  .have q':H b=aa (.own x):=by
    rcases he with z|z
    .exact bJ (hbe.trans z) hb
    .rw[hbe];exact z
   rw[q] at q';cases q';obtain⟨v,hv⟩:=heo;exact⟨v,by rw[hbe];exact hv⟩
  .refine(ok b u q).stay (fun c v hc r=>k c v ?_ r) (fun c r=>by rw[aE (nown c b r)];exact r) fun c xs r=>by rw[aE (ntup c xs r)];exact r
   rcases hc with rfl|hc
   .exact hbe
   .rintro rfl;rcases he with z|z
    .exact nown c b hc z
    .rw[hc] at z;cases z;exact hb rfl
end
structure Un (fs ex:ac aw) (H H':Hp) (h h':Heap):Prop where
 keep:∀b o,h.get? b=aa o->H b=af->b∉fs->b∉ex->h'.get? b=aa o
 slot:∀b o,h.get? b=aa o->H b=af->b∈fs->b∉ex->∃sl,h'.get? b=aa {o with slots:=sl}
 free:∀b o,h.get? b=aa o->H b=af->b∉ex->H' b=af
 there:∀b o,h.get? b=aa o->b∉ex->∃o',h'.get? b=aa o'
 tups:∀b xs,H b=aa (.tup xs)->H' b=aa (.tup xs)
 frzs:∀b o u,H b=aa (.frz o u)->H' b=aa (.frz o u)
 tbls:∀b ps,H b=aa (.tbl ps)->∃more,H' b=aa (.tbl (ps++more))
variable {H1 H2:Hp}
section
variable {fs fs' ex ex':ac aw} {h h1 h2:Heap} {x e:aw} {o:HO}
theorem Un.any (u:Un fs ex H H1 h h1) {b:aw} {ob:Obj} (q:h.get? b=aa ob) (n:H b=af) (hx:b∉ex):∃sl,h1.get? b=aa {ob with slots:=sl}:=by
 by_cases hb:b∈fs
 .exact u.slot b ob q n hb hx
 .exact⟨ob.slots,u.keep b ob q n hb hx⟩
theorem Un.kept (k:∀b u,h.get? b=aa u->h'.get? b=aa u):Un fs ex H H h h':=
 ⟨fun b ob q _ _ _=>k b ob q,fun b ob q _ _ _=>⟨ob.slots,k b ob q⟩,fun _ _ _ n _=>n,fun b ob q _=>⟨ob,k b ob q⟩,fun _ _ q=>q,fun _ _ _ q=>q,fun _ ps q=>⟨#[],by rw[q];simp⟩⟩
theorem Un.refl:Un fs ex H H h h:=Un.kept fun _ _ q=>q
theorem Un.laid (k:∀b u,h.get? b=aa u->h'.get? b=aa u) (hp:h.objs.size<=a) (hn:H a=af):Un fs ex H (upd H a o) h h' where
 keep:=fun b u q _ _ _=>k b u q
 slot:=fun b u q _ _ _=>⟨u.slots,k b u q⟩
 free:=fun b u q n _=>by rw[aE (qD (qG (qw q) hp))];exact n
 there:=fun b u q _=>⟨u,k b u q⟩
 tups:=fun b xs q=>by rw[aE (bK q hn)];exact q
 frzs:=fun b u xs q=>by rw[aE (bK q hn)];exact q
 tbls:=fun b ps q=>⟨#[],by rw[aE (bK q hn),q];simp⟩
theorem Un.write (mu:Mut (H x)) (he:e=x\/H e=aa (.own x)) (k:∀b u,b≠e->h.get? b=aa u->h'.get? b=aa u) (heo:∃u,h'.get? e=aa u):Un fs ex H (upd H x o) h h':=by
 have hx:∀b,H b=af->b≠x:=fun b n z=>by subst z;rw[n] at mu;exact mu
 have hb:∀b,H b=af->b≠e:=fun b n z=>by
  subst z;rcases he with r|r
  .exact hx b n r
  .rw[n] at r;cases r
 have hm:∀b u,H b=aa u->¬Mut (aa u)->b≠x:=fun b u q nm z=>by subst z;rw[q] at mu;exact nm mu
 refine⟨fun b u q n _ _=>k b u (hb b n) q,fun b u q n _ _=>⟨u.slots,k b u (hb b n) q⟩,fun b u q n _=>by rw[aE (hx b n)];exact n,fun b u q _=>?_,
  fun b xs q=>by rw[aE (hm b _ q fun z=>z)];exact q,fun b u xs q=>by rw[aE (hm b _ q fun z=>z)];exact q,fun b ps q=>⟨#[],by rw[aE (hm b _ q fun z=>z),q];simp⟩⟩
 by_cases hbe:b=e
 .subst hbe;exact heo
 .exact⟨u,k b u hbe q⟩
end
noncomputable def trk (h:Heap) (H:Hp):ac aw:=(cQ h.objs.size).filter fun a=>(H a).isSome
noncomputable def j9 (h:Heap) (H:Hp):Heap:=PySem.W.hideAll h (trk h H)
theorem My (h:Heap) (H:Hp):(j9 h H).objs.size=h.objs.size:=PySem.W.hideAll_size _ _
variable {o:Obj}
theorem Hq {h:Heap} {b:aw} (e:h.get? b=aa o) (n:H b=af):(j9 h H).get? b=aa o:=
 PySem.W.hideAll_get _ e fun hm=>by have q:(H b).isSome=ak:=(Eh.mp hm).2;rw[n] at q;simp at q
theorem Jg {h:Heap} {b:aw} (e:(j9 h H).get? b=aa o):h.get? b=aa o/\H b=af:=by
 have e':h.get? b=aa o:=PySem.W.of_hideAll (trk h H) e;refine⟨e',?_⟩;cases q:H b with
 |none=>rfl
 |some x=>
  have hm:b∈trk h H:=Eh.mpr ⟨eR.mpr (qw e'),by simp[q]⟩;have z:(j9 h H).get? b=af:=PySem.W.hideAll_none (trk h H) hm;rw[z] at e;cases e
noncomputable def Oc (g h:Heap) (L:aw):ac (aw×Obj):=(cQ h.objs.size).filterMap fun a=>if a=L\/(g.get? a).isSome=ak then af else (h.get? a).map fun o=>(a,o)
noncomputable def cc (g h:Heap) (L d:aw):ac (aw×Obj):=(Oc g h L).filter fun p=>decide (p.1≠d)
structure Mod (K:aV) (mg:aj->au ax) (base:Heap):Prop where
 kin:K.In base
 glob:base.Ns fH mg
 blt:∃mb,base.Ns Ei mb/\∀x:aj,x≠"__name__"->mb x=lv x
 nolimit:base.NoLimit
structure Cx where
 prog:eE
 w:df
 K:aV
 mg:aj->au ax
 base:Heap
 A:dB
 N:ac aj
 s₀:aI
 H₀:Hp
 env:cZ
 outer:ac cZ
 stack:ac cZ
 ex:ac aw
 fn:aj->aT
 calm:aT
 pn:ac (aw×Obj)
 xe:ax->aI->Prop
noncomputable def frs (l:ac cZ):ac aw:=l.filterMap (·.frame)
noncomputable abbrev Cx.fs (X:Cx):ac aw:=frs X.outer
noncomputable def Vis (sc:Scope) (x:aj):Prop:=sc.names.lookup x=aa .local\/sc.names.lookup x=aa .cell\/sc.names.lookup x=aa .free
noncomputable def Loc (sc:Scope) (x:aj):Prop:=sc.names.lookup x=aa .local\/sc.names.lookup x=aa .cell
noncomputable def NL (env:cZ) (h:Heap) (m:aj->au ax) (x:aj) (u:ax):Prop:=
 (env.kindOf x=aa .local/\m x=aa u)\/((env.kindOf x=aa .cell\/env.kindOf x=aa .free)/\∃c,env.cells.lookup x=aa c/\h.IsCell c (aa u))
structure Cx.Ok (X:Cx):Prop where
 mod:Mod X.K X.mg X.base
 kind:X.env.scope.kind=.function
 glob:X.env.globals=fH
 blt:X.env.builtins=Ei
 above:X.s₀.heap.objs.size<=X.env.locals
 inj:∀x y c,X.env.cells.lookup x=aa c->X.env.cells.lookup y=aa c->x=y
 has:∀x,(X.env.kindOf x=aa .cell\/X.env.kindOf x=aa .free)->∃c,X.env.cells.lookup x=aa c
 cab:∀x c,X.fn x=ak->X.env.cells.lookup x=aa c->X.s₀.heap.objs.size<=c
 hd:X.calm=ak->X.A.handled=af
 frames:X.A.frames=aa X.stack
 stk:X.stack=X.outer\/(X.stack=X.env::X.outer/\X.env.frame=aa X.env.locals)
 exf:∀b∈X.ex,b≠X.env.locals/\∀x c,X.env.cells.lookup x=aa c->c≠b
 bs:∀b o,X.base.get? b=aa o->X.s₀.heap.get? b=aa o/\X.H₀ b=af
 bsz:X.base.objs.size<=X.s₀.heap.objs.size
 noex:∀b o,X.base.get? b=aa o->b∉X.ex
 exfs:∀b∈X.ex,b∉X.fs
 funs:X.s₀.heap.FunFrames X.base X.outer
 frf:∀b∈X.fs,X.H₀ b=af
structure Inv (X:Cx) (pins:ac (aw×Obj)) (σ:ac (au V)) (H:Hp) (s:aI):Prop where
 ok:X.Ok
 os:s.os=X.s₀.os
 bare:kr s.gens
 base:Un X.fs X.ex X.H₀ H X.s₀.heap s.heap
 loc:∃m,s.heap.Ns X.env.locals m/\∀(i:ao) (x:aj) (v:V),X.N[i]?=aa x->σ[i]?=aa (aa v)->Vis X.env.scope x->∃u,bD v u/\NL X.env s.heap m x u
 cell:∀x c,X.env.cells.lookup x=aa c->∃v,s.heap.IsCell c v
 free:H X.env.locals=af
 freeC:∀x c,X.env.cells.lookup x=aa c->H c=af
 pin:∀p∈X.pn++pins,s.heap.get? p.1=aa p.2/\H p.1=af/\p.1≠X.env.locals/\p.1∉X.fs/\∀v,p.2.data≠.cell v
 hok:HOk X.prog X.w H s.heap
 len:σ.length=X.N.length
variable {X:Cx} {pins:ac (aw×Obj)} {s s':aI} {t' i j:ao} {d':Drawn} {N:ac aj} {x:aj} {A:dB} {E:ax->aI->Prop} {v:V} {u:ax}
section
variable {σ:ac (au V)}
theorem Cx.Ok.nofr (ok:X.Ok) {b:aw} (e:X.base.get? b=aa o):b∉X.fs:=fun hb=>by have:=(ok.funs.mem hb).1;rw[e] at this;cases this
theorem Inv.bs (I:Inv X pins σ H s):∀b o,X.base.get? b=aa o->s.heap.get? b=aa o/\H b=af:=fun b o e=>
 ⟨I.base.keep b o (I.ok.bs b o e).1 (I.ok.bs b o e).2 (I.ok.nofr e) (I.ok.noex b o e),I.base.free b o (I.ok.bs b o e).1 (I.ok.bs b o e).2 (I.ok.noex b o e)⟩
theorem Inv.bk (I:Inv X pins σ H s):∀b o,X.base.get? b=aa o->s.heap.get? b=aa o:=fun b o e=>(I.bs b o e).1
theorem Inv.mod (I:Inv X pins σ H s):Mod X.K X.mg X.base:=I.ok.mod
theorem Inv.kIn (I:Inv X pins σ H s):X.K.In s.heap:=I.ok.mod.kin.keeps I.bk
theorem Inv.lt (I:Inv X pins σ H s):X.env.locals<s.heap.objs.size:=let ⟨_,hn,_⟩:=I.loc;hn.lt
theorem Inv.sz (I:Inv X pins σ H s):X.s₀.heap.objs.size<=s.heap.objs.size:=qN I.ok.above (pY I.lt)
theorem Inv.nofs (I:Inv X pins σ H s) (h:s.heap.objs.size<=a):a∉X.fs:=fun hb=>by obtain⟨_,o,ho,_⟩:=I.ok.funs.mem hb;exact bJ (qG (qw ho) (qN I.sz h)) (jJ _)
theorem Inv.cne (I:Inv X pins σ H s):∀x c,X.env.cells.lookup x=aa c->c≠X.env.locals:=fun x c e z=>by obtain⟨v,o,ho,hd⟩:=I.cell x c e;obtain⟨m,⟨o',es,ep,ho',hd',_⟩,_⟩:=I.loc;rw[z,ho'] at ho;cases ho;rw[hd'] at hd;cases hd
theorem Inv.funs (I:Inv X pins σ H s):s.heap.FunFrames X.base X.outer:=by
 have all:∀(l:ac cZ),(∀b∈frs l,b∈X.fs)->X.s₀.heap.FunFrames X.base l->s.heap.FunFrames X.base l:=by
  intro l
  induction l with
  |nil=>intro _ _;trivial
  |cons env r ih=>
   intro hs hl;obtain⟨hk,⟨L,o,hf,hn,ho,hd⟩,hr⟩:=hl;have hL:L∈X.fs:=hs L (by unfold frs;rw[ya,hf];exact qg);obtain⟨sl,e⟩:=I.base.slot L o ho (I.ok.frf L hL) hL fun z=>I.ok.exfs L z hL;exact⟨hk,⟨L,_,hf,hn,e,hd⟩,ih (fun b hb=>hs b (by unfold frs;rw[ya,hf];exact qh _ hb)) hr⟩
 exact all X.outer (fun _ hb=>hb) I.ok.funs
theorem Inv.stack (I:Inv X pins σ H s):s.heap.FunFrames X.base X.stack:=by
 rcases I.ok.stk with e|⟨e,hf⟩
 .rw[e];exact I.funs
 .rw[e];obtain⟨m,hn,_⟩:=I.loc;refine .cons (by rw[I.ok.kind];decide) hf hn ?_ I.funs;exact Heap.get?_none_of_le (qN I.ok.bsz I.ok.above)
theorem Inv.stkSub (I:Inv X pins σ H s):∀b∈frs X.stack,b∈X.env.locals::X.fs:=fun b hb=>by
 rcases I.ok.stk with e|⟨e,hf⟩
 .rw[e] at hb;exact qh _ hb
 .rw[e] at hb;unfold frs at hb;rw[ya,hf] at hb;exact hb
theorem Inv.stkFree (I:Inv X pins σ H s):∀b∈frs X.stack,H b=af:=fun b hb=>by
 rcases cH.mp (I.stkSub b hb) with e|hb
 .rw[e];exact I.free
 .obtain⟨_,o,ho,_⟩:=I.ok.funs.mem hb;exact I.base.free b o ho (I.ok.frf b hb) fun z=>I.ok.exfs b z hb
theorem Inv.step {g':bR pZ} {ch:ac aw} (I:Inv X pins σ H s)
  (hch:∀b∈ch,(b∈X.ex\/X.s₀.heap.objs.size<=b)/\b≠X.env.locals/\(∀x c,X.env.cells.lookup x=aa c->c≠b)/\∀p∈X.pn++pins,p.1≠b)
  (keep:∀b o,b≠X.env.locals->b∉X.fs->b∉ch->s.heap.get? b=aa o->H b=af->h'.get? b=aa o)
  (slot:∀b o,b≠X.env.locals->b∈X.fs->b∉ch->s.heap.get? b=aa o->H b=af->∃sl,h'.get? b=aa {o with slots:=sl}) (free:∀b o,b∉ch->s.heap.get? b=aa o->H b=af->H' b=af)
  (there:∀b o,b∉ch->s.heap.get? b=aa o->∃o',h'.get? b=aa o')
  (tups:∀b xs,H b=aa (.tup xs)->H' b=aa (.tup xs)) (frzs:∀b o u,H b=aa (.frz o u)->H' b=aa (.frz o u)) (tbls:∀b ps,H b=aa (.tbl ps)->∃more,H' b=aa (.tbl (ps++more)))
  (ns:∀m,s.heap.Ns X.env.locals m->h'.Ns X.env.locals m) (hok:HOk X.prog X.w H' h') (hg:kr g') :
  Inv X pins σ H' {s with heap:=h',gens:=g',drawn:=d',toks:=t'}:=by
 have neL:∀b o,X.s₀.heap.get? b=aa o->b≠X.env.locals:=fun b o e=>qD (qG (qw e) I.ok.above);have neC:∀b o,X.s₀.heap.get? b=aa o->b∉X.ex->b∉ch:=fun b o e hx hb=>by
  rcases(hch b hb).1 with z|z
  .exact hx z
  .exact bJ (qG (qw e) z) (jJ _)
 have cellK:∀x c,X.env.cells.lookup x=aa c->∀v,s.heap.IsCell c v->h'.IsCell c v:=fun x c e v ⟨o,ho,hd⟩=>by
  have nch:c∉ch:=fun z=>(hch c z).2.2.1 x c e rfl;by_cases hc:c∈X.fs
  .obtain⟨sl,q⟩:=slot c o (I.cne x c e) hc nch ho (I.freeC x c e);exact⟨_,q,hd⟩
  .exact⟨o,keep c o (I.cne x c e) hc nch ho (I.freeC x c e),hd⟩
 refine⟨I.ok,I.os,hg,⟨fun b o e n hb hx=>?_,fun b o e n hb hx=>?_,fun b o e n hx=>?_,fun b o e hx=>?_,fun b xs e=>tups b xs (I.base.tups b xs e),fun b o xs e=>frzs b o xs (I.base.frzs b o xs e),fun b ps e=>?_⟩,?_,fun x c e=>?_,?_,fun x c e=>?_,fun p hp=>?_,hok,I.len⟩
 .exact keep b o (neL b o e) hb (neC b o e hx) (I.base.keep b o e n hb hx) (I.base.free b o e n hx)
 .obtain⟨sl,e1⟩:=I.base.slot b o e n hb hx;obtain⟨sl',e2⟩:=slot b _ (neL b o e) hb (neC b o e hx) e1 (I.base.free b o e n hx);exact⟨sl',e2⟩
 .obtain⟨o',e1⟩:=I.base.there b o e hx;exact free b o' (neC b o e hx) e1 (I.base.free b o e n hx)
 .obtain⟨o',e1⟩:=I.base.there b o e hx;exact there b o' (neC b o e hx) e1
 .obtain⟨m1,e1⟩:=I.base.tbls b ps e;obtain⟨m2,e2⟩:=tbls b _ e1;exact⟨m1++m2,by rw[e2,Array.append_assoc]⟩
 .obtain⟨m,hn,hl⟩:=I.loc;refine⟨m,ns m hn,fun i x v e1 e2 e3=>?_⟩;obtain⟨u,r,l⟩:=hl i x v e1 e2 e3;refine⟨u,r,?_⟩;rcases l with l|⟨k,c,e,z⟩
  .exact .inl l
  .exact .inr ⟨k,c,e,cellK x c e _ z⟩
 .obtain⟨v,z⟩:=I.cell x c e;exact⟨v,cellK x c e v z⟩
 .obtain⟨m,⟨o,_,_,ho,_⟩,_⟩:=I.loc;exact free _ o (fun z=>(hch _ z).2.1 rfl) ho I.free
 .obtain⟨v,o,ho,hd⟩:=I.cell x c e;exact free c o (fun z=>(hch c z).2.2.1 x c e rfl) ho (I.freeC x c e)
 .obtain⟨e,n,ne,nf,d⟩:=I.pin p hp;have nch:p.1∉ch:=fun z=>(hch p.1 z).2.2.2 p hp rfl;exact⟨keep p.1 p.2 ne nf nch e n,free p.1 p.2 nch e n,ne,nf,d⟩
theorem Inv.un (I:Inv X pins σ H s) (u:Un X.fs [] H H' s.heap h') (hok:HOk X.prog X.w H' h'):Inv X pins σ H' {s with heap:=h',toks:=t'}:=by
 obtain⟨m,⟨o,es,ep,ho,r⟩,_⟩:=id I.loc;obtain⟨sl,hL⟩:=u.any ho I.free (by simp);exact I.step (g':=s.gens) (d':=s.drawn) (ch:=[]) (fun _ z=>nomatch z) (fun b o _ hb _ e n=>u.keep b o e n hb (by simp)) (fun b o _ hb _ e n=>u.slot b o e n hb (by simp)) (fun b o _ e n=>u.free b o e n (by simp)) (fun b o _ e=>u.there b o e (by simp)) u.tups u.frzs u.tbls (fun m' hm=>by obtain⟨o',es',ep',ho',r'⟩:=hm;rw[ho] at ho';cases ho';exact⟨_,es',ep',hL,r'⟩) hok I.bare
theorem Inv.call {g':bR pZ} {ch:ac aw} (I:Inv X pins σ H s) (u:Un (frs X.stack) ch H H' s.heap h') (hok:HOk X.prog X.w H' h') (hg:kr g')
  (hch:∀b∈ch,(b∈X.ex\/X.s₀.heap.objs.size<=b)/\b≠X.env.locals/\(∀x c,X.env.cells.lookup x=aa c->c≠b)/\∀p∈X.pn++pins,p.1≠b) :
  Inv X pins σ H' {s with heap:=h',gens:=g',drawn:=d',toks:=t'}:=by
 obtain⟨m,⟨o,es,ep,ho,r⟩,_⟩:=id I.loc;obtain⟨sl,hL⟩:=u.any ho I.free fun z=>(hch _ z).2.1 rfl;exact I.step (ch:=ch) hch (fun b o hL hb hc e n=>u.keep b o e n (fun z=>(cH.mp (I.stkSub b z)).elim hL hb) hc) (fun b o _ _ hc e n=>u.any e n hc) (fun b o hc e n=>u.free b o e n hc) (fun b o hc e=>u.there b o e hc) u.tups u.frzs u.tbls (fun m' hm=>by obtain⟨o',es',ep',ho',r'⟩:=hm;rw[ho] at ho';cases ho';exact⟨_,es',ep',hL,r'⟩) hok hg
theorem Inv.turned {it:aw} (I:Inv X pins σ H s) (k:∀b o,b≠it->s.heap.get? b=aa o->h'.get? b=aa o) (hn:H it=af) (hL:it≠X.env.locals)
  (h1:it∈X.ex\/X.s₀.heap.objs.size<=it) (h2:∀x c,X.env.cells.lookup x=aa c->c≠it) (h3:∀p∈X.pn++pins,p.1≠it):Inv X pins σ H {s with heap:=h',toks:=t'}:=by
 have nit:∀b u,H b=aa u->b≠it:=fun b u e z=>by rw[z,hn] at e;cases e
 refine I.step (g':=s.gens) (d':=s.drawn) (ch:=[it]) (fun b hb=>?_) (fun b o _ _ hc e _=>k b o (fun z=>hc (by simp[z])) e) (fun b o _ _ hc e _=>⟨o.slots,k b o (fun z=>hc (by simp[z])) e⟩) (fun _ _ _ _ n=>n)
  (fun b o hc e=>⟨o,k b o (fun z=>hc (by simp[z])) e⟩) (fun _ _ e=>e) (fun _ _ _ e=>e) (fun b ps e=>⟨#[],by rw[e];simp⟩) (fun m hm=>?_) (fun b u e=>?_) I.bare
 .have e:b=it:=by simpa using hb
  subst e;exact⟨h1,hL,h2,h3⟩
 .obtain⟨o,es,ep,ho,r⟩:=hm;exact⟨o,es,ep,k _ o (dM hL) ho,r⟩
 .refine(I.hok b u e).stay (fun c v hc q=>k c v ?_ q) (fun _ q=>q) fun _ _ q=>q;rcases hc with z|z
  .rw[z];exact nit b u e
  .exact nit c _ z
theorem Inv.tok (I:Inv X pins σ H s) (t:ao):Inv X pins σ H {s with toks:=t}:=I.un (h':=s.heap) (t':=t) Un.refl I.hok
theorem Inv.kept {t':ao} (I:Inv X pins σ H s) (k:∀b u,s.heap.get? b=aa u->h'.get? b=aa u):Inv X pins σ H {s with heap:=h',toks:=t'}:=I.un (Un.kept k) (I.hok.kept k)
theorem Inv.laid {a:aw} {o:HO} {t':ao} (I:Inv X pins σ H s) (k:∀b u,s.heap.get? b=aa u->h'.get? b=aa u) (hp:s.heap.objs.size<=a) (new:cI X.prog X.w (upd H a o) h' a o) :
  Inv X pins σ (upd H a o) {s with heap:=h',toks:=t'}:=I.un (Un.laid k hp (I.hok.fresh hp)) (I.hok.laid k hp new)
theorem Inv.write {x e:aw} {o:HO} {t':ao} (I:Inv X pins σ H s) (mu:Mut (H x)) (he:e=x\/H e=aa (.own x)) (k:∀b u,b≠e->s.heap.get? b=aa u->h'.get? b=aa u) (heo:∃u,h'.get? e=aa u)
  (new:cI X.prog X.w (upd H x o) h' x o):Inv X pins σ (upd H x o) {s with heap:=h',toks:=t'}:=I.un (Un.write mu he k heo) (I.hok.write mu he k heo new)
theorem Inv.pins_of {pins':ac (aw×Obj)} (I:Inv X pins σ H s) (h:∀p∈pins',s.heap.get? p.1=aa p.2/\H p.1=af/\p.1≠X.env.locals/\p.1∉X.fs/\∀v,p.2.data≠.cell v):Inv X pins' σ H s:=
 ⟨I.ok,I.os,I.bare,I.base,I.loc,I.cell,I.free,I.freeC,fun p hp=>(eF.mp hp).elim (fun z=>I.pin p (ox _ z)) (h p),I.hok,I.len⟩
theorem Az (hN:N.Nodup) (a:N[i]?=aa x) (b:N[j]?=aa x):i=j:=by obtain⟨h1,e1⟩:=eB.mp a;obtain⟨h2,e2⟩:=eB.mp b;exact(Ej hN).mp (e1.trans e2.symm)
theorem BX {M:um} {Q:lw->aI->Prop} (I:Inv X pins σ H s) (hN:X.N.Nodup) (hi:X.N[i]?=aa x) (hx:Loc X.env.scope x) (r:bD v u)
  (h:∀s',Inv X pins (σ.set i (aa v)) H s'->(∃a,iw a s.heap s'.heap/\(a=X.env.locals\/X.env.cells.lookup x=aa a))->Q () s') (hf:X.fn x=ak\/X.env.scope.names.lookup x=aa .local:=by first|exact .inl rfl|exact .inr rfl|assumption):aF M A (storeName X.env x u) Q E s:=by
 obtain⟨m,hn,hl⟩:=id I.loc;have hcls:(X.env.scope.kind==.class || (X.env.scope.kind==.module && X.env.locals != X.env.globals))=av:=by rw[I.ok.kind];rfl
 have hiσ:i < σ.length:=by rw[I.len];exact(eB.mp hi).1
 have cne:=I.cne;have tracked:∀{a:aw} {h':Heap},(∃o,s.heap.get? a=aa o/\H a=af)->iw a s.heap h'->HOk X.prog X.w H h':=fun {a h'} ha hs b ob e=>by
  obtain⟨_,_,hfree⟩:=ha;refine(I.hok b ob e).stay (fun c w' hc q=>(hs.2 c ?_).trans q) (fun _ q=>q) fun _ _ q=>q;rintro rfl;rcases hc with rfl|hc
  .rw[hfree] at e;cases e
  .rw[hfree] at hc;cases hc
 rcases hx with hk|hk
 .refine wpAny_storeName_local hk hn (fun h' hn' hs=>?_) hcls;obtain⟨oL,_,_,hoL,_⟩:=id hn;refine h _ ⟨I.ok,I.os,I.bare,⟨fun b o e n hb hx=>?_,fun b o e n hb hx=>?_,I.base.free,fun b o e hx=>?_,I.base.tups,I.base.frzs,I.base.tbls⟩,⟨_,hn',fun j y v' e1 e2 e3=>?_⟩,fun y c e=>?_,I.free,I.freeC,fun p hp=>?_,tracked ⟨oL,hoL,I.free⟩ hs,by simpa using I.len⟩ ⟨_,hs,.inl rfl⟩
  .exact(hs.2 b (qD (qG (qw e) I.ok.above))).trans (I.base.keep b o e n hb hx)
  .obtain⟨sl,e1⟩:=I.base.slot b o e n hb hx;exact⟨sl,(hs.2 b (qD (qG (qw e) I.ok.above))).trans e1⟩
  .obtain⟨o',e1⟩:=I.base.there b o e hx;exact⟨o',(hs.2 b (qD (qG (qw e) I.ok.above))).trans e1⟩
  .by_cases hj:j=i
   .subst hj;rw[hi] at e1;cases e1;rw[oy hiσ] at e2;cases e2;exact⟨u,r,.inl ⟨hk,by simp⟩⟩
   .rw[qz (dM hj)] at e2;obtain⟨u',r',q⟩:=hl j y v' e1 e2 e3;refine⟨u',r',?_⟩;rcases q with⟨k,e⟩|⟨k,c,e,z⟩
    .refine .inl ⟨k,?_⟩;have:y≠x:=fun e=>hj (Az hN e1 (e▸hi));simp[this,e]
    .exact .inr ⟨k,c,e,z.sameBut hs (cne y c e)⟩
  .obtain⟨w',z⟩:=I.cell y c e;exact⟨w',z.sameBut hs (cne y c e)⟩
  .obtain⟨e,n,ne,nf,d⟩:=I.pin p hp;exact⟨(hs.2 p.1 ne).trans e,n,ne,nf,d⟩
 .have hfn:X.fn x=ak:=by
   rcases hf with z|z
   .exact z
   .rw[z] at hk;cases hk
  obtain⟨c,hc⟩:=I.ok.has x (.inl hk);obtain⟨w',z⟩:=I.cell x c hc;refine wpAny_storeName_cell I.ok.kind hk hc z (fun h' hc' hs=>?_);obtain⟨oc,hoc,hocd⟩:=id z;refine h {s with heap:=h'} ⟨I.ok,I.os,I.bare,⟨fun b o e n hb hx=>?_,fun b o e n hb hx=>?_,I.base.free,fun b o e hx=>?_,I.base.tups,I.base.frzs,I.base.tbls⟩,⟨m,hn.sameBut hs (dM (cne x c hc)),fun j y v' e1 e2 e3=>?_⟩,fun y c' e=>?_,I.free,I.freeC,fun p hp=>?_,tracked ⟨oc,hoc,I.freeC x c hc⟩ hs,by simpa using I.len⟩ ⟨c,hs,.inr hc⟩
  .exact(hs.2 b (qD (qG (qw e) (I.ok.cab x c hfn hc)))).trans (I.base.keep b o e n hb hx)
  .obtain⟨sl,e1⟩:=I.base.slot b o e n hb hx;exact⟨sl,(hs.2 b (qD (qG (qw e) (I.ok.cab x c hfn hc)))).trans e1⟩
  .obtain⟨o',e1⟩:=I.base.there b o e hx;exact⟨o',(hs.2 b (qD (qG (qw e) (I.ok.cab x c hfn hc)))).trans e1⟩
  .by_cases hj:j=i
   .subst hj;rw[hi] at e1;cases e1;rw[oy hiσ] at e2;cases e2;exact⟨u,r,.inr ⟨.inl hk,c,hc,hc'⟩⟩
   .rw[qz (dM hj)] at e2;obtain⟨u',r',q⟩:=hl j y v' e1 e2 e3;refine⟨u',r',?_⟩;rcases q with q|⟨k,c',e,z'⟩
    .exact .inl q
    .refine .inr ⟨k,c',e,z'.sameBut hs ?_⟩;rintro rfl;exact hj (Az hN e1 (I.ok.inj _ _ _ e hc▸hi))
  .by_cases hcc:c'=c
   .subst hcc;exact⟨_,hc'⟩
   .obtain⟨w2,z2⟩:=I.cell y c' e;exact⟨w2,z2.sameBut hs hcc⟩
  .obtain⟨e,n,ne,nf,d⟩:=I.pin p hp;refine⟨(hs.2 p.1 ?_).trans e,n,ne,nf,d⟩;intro q;rw[q,hoc] at e;have q':oc=p.2:=qI e;exact d w' (by rw[←q'];exact hocd)
theorem zZ {M:um} {Q:lw->aI->Prop} (I:Inv X pins σ H s) (hN:X.N.Nodup) (hi:X.N[i]?=aa x) (hx:Loc X.env.scope x) (r:bD v u)
  (h:∀s',Inv X pins (σ.set i (aa v)) H s'->Q () s') (hf:X.fn x=ak\/X.env.scope.names.lookup x=aa .local:=by first|exact .inl rfl|exact .inr rfl|assumption):aF M A (storeName X.env x u) Q E s:=
 BX I hN hi hx r (fun s' I' _=>h s' I') hf
theorem Inv.call' {ch:ac aw} (I:Inv X pins σ H s) (ho:s'.os=s.os) (u:Un (frs X.stack) ch H H' s.heap s'.heap) (hok:HOk X.prog X.w H' s'.heap) (hg:kr s'.gens)
  (hch:∀b∈ch,(b∈X.ex\/X.s₀.heap.objs.size<=b)/\b≠X.env.locals/\(∀x c,X.env.cells.lookup x=aa c->c≠b)/\∀p∈X.pn++pins,p.1≠b):Inv X pins σ H' s':=by
 obtain⟨h',g',d',t',o'⟩:=s';have e:o'=s.os:=ho;subst e;exact I.call (g':=g') (t':=t') (d':=d') u hok hg hch
end
noncomputable abbrev XK:=ax->au aw->Hp->Prop
noncomputable abbrev St:=ac (au V)
noncomputable abbrev VK:=V->Hp->Prop
noncomputable abbrev TE:=St->Hp->VK->Prop
noncomputable abbrev TT:=St->Hp->(aT->Hp->Prop)->Prop
noncomputable abbrev TA:=St->Hp->(ac V->Hp->Prop)->Prop
structure Ends where
 nx:St->Hp->Prop
 rt:VK
 bk:St->Hp->Prop:=fun _ _=>False
 ct:St->Hp->Prop:=fun _ _=>False
noncomputable abbrev TS:=Ends->St->Hp->Prop
noncomputable def EP (X:Cx) (pins:ac (aw×Obj)) (σ:St) (Q:VK) (u:ax) (s':aI):Prop:=∃v H',Inv X pins σ H' s'/\bD v u/\Q v H'
noncomputable def TP (X:Cx) (pins:ac (aw×Obj)) (σ:St) (Q:aT->Hp->Prop) (b:aT) (s':aI):Prop:=∃H',Inv X pins σ H' s'/\Q b H'
noncomputable def AP (X:Cx) (pins:ac (aw×Obj)) (σ:St) (Q:ac V->Hp->Prop) (us:ac ax) (s':aI):Prop:=∃vs H',Inv X pins σ H' s'/\bu vs us/\Q vs H'
noncomputable def SP (X:Cx) (pins:ac (aw×Obj)) (D:Ends) (f:Flow) (s':aI):Prop:=
 match f with
 |.next=>∃σ' H',Inv X pins σ' H' s'/\D.nx σ' H'
 |.brk=>∃σ' H',Inv X pins σ' H' s'/\D.bk σ' H'
 |.cont=>∃σ' H',Inv X pins σ' H' s'/\D.ct σ' H'
 |.ret u=>∃v σ' H',Inv X pins σ' H' s'/\bD v u/\D.rt v H'
noncomputable def PE (X:Cx) (e:Expr) (t:TE):Prop:=
 ∀(pins:ac (aw×Obj)) (s:aI) (σ:St) (H:Hp) (Q:VK),Inv X pins σ H s->t σ H Q->aF (aO X.prog X.w) X.A (eval e X.env) (EP X pins σ Q) X.xe s
noncomputable def PT (X:Cx) (e:Expr) (t:TT):Prop:=
 ∀(pins:ac (aw×Obj)) (s:aI) (σ:St) (H:Hp) (Q:aT->Hp->Prop),Inv X pins σ H s->t σ H Q->aF (aO X.prog X.w) X.A (isTrue e X.env (eval e X.env)) (TP X pins σ Q) X.xe s
noncomputable def PW (X:Cx) (e:Expr) (t:TT):Prop:=
 ∀(whole:iy ax) (pins:ac (aw×Obj)) (s:aI) (σ:St) (H:Hp) (Q:aT->Hp->Prop),Inv X pins σ H s->t σ H Q->aF (aO X.prog X.w) X.A (isTrue e X.env whole) (TP X pins σ Q) X.xe s
variable {e:Expr}
theorem PW.pt {t:TT} (h:PW X e t):PT X e t:=h _
noncomputable def PA (X:Cx) (es:ac Expr) (t:TA):Prop:=
 ∀(pos:ff) (pins:ac (aw×Obj)) (s:aI) (σ:St) (H:Hp) (Q:ac V->Hp->Prop),Inv X pins σ H s->t σ H Q->aF (aO X.prog X.w) X.A (spliced (cj pos (aR es X.env))) (AP X pins σ Q) X.xe s
noncomputable def PS (X:Cx) (st:Stmt) (t:TS):Prop:=
 ∀(pins:ac (aw×Obj)) (s:aI) (σ:St) (H:Hp) (D:Ends),Inv X pins σ H s->t D σ H->aF (aO X.prog X.w) X.A (exec st X.env) (SP X pins D) X.xe s
noncomputable def PSs (X:Cx) (st:ac Stmt) (t:TS):Prop:=
 ∀(pins:ac (aw×Obj)) (s:aI) (σ:St) (H:Hp) (D:Ends),Inv X pins σ H s->t D σ H->aF (aO X.prog X.w) X.A (execs st X.env) (SP X pins D) X.xe s
variable {α:Type}
theorem thn {t:iy α} {Q Q':α->aI->Prop} {M:um} (h:aF M A t Q E s) (hQ:∀a s,Q a s->Q' a s):aF M A t Q' E s:=gZ h hQ fun _ _ x=>x
variable {b:Expr} {ta tb:TE} {σ:St} {pos:ff} {Q:ax->aI->Prop} {op:CmpOp}
section
theorem bin {a:Expr} (ha:PE X a ta) (hb:PE X b tb) {R:V->V->Hp->Prop} (I:Inv X pins σ H s) (h:ta σ H fun x H1=>tb σ H1 fun y H2=>R x y H2)
  {Q:α->aI->Prop} {f:ax->ax->iy α} 
  (hf:∀v u s2 x y H2,Inv X pins σ H2 s2->bD x v->bD y u->R x y H2->aF (aO X.prog X.w) X.A (f v u) Q X.xe s2) :
  aF (aO X.prog X.w) X.A (eval a X.env) (fun v s₁=>aF (aO X.prog X.w) X.A (eval b X.env) (fun u s₂=>aF (aO X.prog X.w) X.A (f v u) Q X.xe s₂) X.xe s₁) X.xe s:=by
 refine thn (ha pins s σ H _ I h) fun v s1 ⟨x,H1,I1,r1,q1⟩=>?_;refine thn (hb pins s1 σ H1 _ I1 q1) fun u s2 ⟨y,H2,I2,r2,q2⟩=>?_;exact hf v u s2 x y H2 I2 r1 r2 q2
noncomputable def BI (i:ao):TE:=fun σ H Q=>∃v,σ[i]?=aa (aa v)/\Q v H
noncomputable def tC (v:V):TE:=fun _ H Q=>Q v H
theorem gn (hN:X.N[i]?=aa x) (hv:Vis X.env.scope x) (hd:(x==("__debug__":aj))=av:=by decide) (hcd:(x==("__classdict__":aj))=av:=by decide):PE X (.Name x pos) (BI i):=by
 intro pins s σ H Q I h;obtain⟨v,e,h⟩:=h;obtain⟨m,hn,hl⟩:=I.loc;obtain⟨u,r,l⟩:=hl i x v hN e hv;have fin:EP X pins σ Q u s:=⟨v,H,I,r,h⟩;rcases l with⟨hk,hm⟩|⟨hk,c,hc,hcell⟩
 .exact Ek (wpAny_loadName_local I.ok.kind hk hn hm fin) hd
 .rcases hk with hk|hk
  .exact Ek (wpAny_loadName_cell I.ok.kind hk hc hcell fin) hd
  .exact Ek (wpAny_loadName_free I.ok.kind hk hc hcell fin hcd) hd
theorem Ab {i j pos}:PE X (.Constant (.int i) j pos) (tC (.int i)):=fun _ _ _ H _ I h=>wpAny_Constant_int ⟨.int i,H,I.tok _,⟨_,rfl⟩,h⟩
theorem Hl {b j pos}:PE X (.Constant (.bool b) j pos) (tC (.bl b)):=fun _ _ _ H _ I h=>Constant_bool ⟨.bl b,H,I,rfl,h⟩
theorem La {j pos}:PE X (.Constant .none j pos) (tC .non):=fun _ _ _ H _ I h=>Constant_none ⟨.non,H,I,rfl,h⟩
theorem J4 {x j pos}:PE X (.Constant (.str x) j pos) (tC (.str x)):=fun _ _ _ H _ I h=>Calls.Constant_str ⟨.str x,H,I.tok _,⟨_,rfl⟩,h⟩
noncomputable def Gl (X:Cx) (x:aj):Prop:=X.env.kindOf x=aa .globalImplicit
theorem wR (I:Inv X pins σ H s) (hg:Gl X x) (hm:X.mg x=aa u) (h:Q u s)
  (hd:(x==("__debug__":aj))=av:=by decide):aF (aO X.prog X.w) X.A (eval (.Name x pos) X.env) Q E s:=
 Pv I.ok.kind hg (Calls.loadGlobal_global (by rw[I.ok.glob];exact I.mod.glob.keeps I.bk) hm h) hd
theorem lQ (I:Inv X pins σ H s) (hg:Gl X x) (hm:X.mg x=af) (hv:lv x=aa u) (h:Q u s)
  (hn:x≠"__name__":=by decide) (hd:(x==("__debug__":aj))=av:=by decide):aF (aO X.prog X.w) X.A (eval (.Name x pos) X.env) Q E s:=by
 obtain⟨mb,h1,h2⟩:=I.mod.blt;exact Pv I.ok.kind hg (Calls.loadGlobal_builtin (by rw[I.ok.glob];exact I.mod.glob.keeps I.bk) hm (by rw[I.ok.blt];exact h1.keeps I.bk) ((h2 x hn).trans hv) h) hd
theorem O0 (hg:Gl X x) (hm:X.mg x=aa u) (r:bD v u) (hd:(x==("__debug__":aj))=av:=by decide):PE X (.Name x pos) (tC v):=
 fun _ _ _ H _ I h=>wR I hg hm ⟨v,H,I,r,h⟩ hd
theorem JA (hg:Gl X x) (hm:X.mg x=af) (hv:lv x=aa u) (r:bD v u) (hn:x≠"__name__":=by decide) (hd:(x==("__debug__":aj))=av:=by decide):PE X (.Name x pos) (tC v):=
 fun _ _ _ H _ I h=>lQ I hg hm hv ⟨v,H,I,r,h⟩ hn hd
variable {a:Expr}
noncomputable def PC (X:Cx) (op:CmpOp) (a b:Expr) (t:TE):Prop:=
 ∀(pins:ac (aw×Obj)) (s:aI) (σ:St) (H:Hp) (Q:VK),Inv X pins σ H s->t σ H Q->
  aF (aO X.prog X.w) X.A (eval a X.env) (fun v s₁=>aF (aO X.prog X.w) X.A (eval b X.env) (fun u s₂=>aF (aO X.prog X.w) X.A (dN op v u) (EP X pins σ Q) X.xe s₂) X.xe s₁) X.xe s
theorem Pd (b:Expr) (h:op≠.In) (h2:op≠.NotIn):lx op b=av:=by
 have e1:(op==Pw)=av:=by cases op<;>first|rfl|exact bJ rfl h
 have e2:(op==Px)=av:=by cases op<;>first|rfl|exact bJ rfl h2
 cases b<;>simp[lx,e1,e2]
noncomputable def tB (t:TE):TT:=fun σ H Q=>t σ H fun x H1=>∃c,x=.bl c/\Q c H1
theorem RI {t:TE} (h:PC X op a b t) (h1:lx op b=av:=by first|exact Pd _ .(e) .(e)|rfl):PT X (.Compare a [op] [b] pos) (tB t):=by intro pins s σ H Q I hw;refine Py (thn (h pins s σ H _ I hw) fun v s1 h1=>thn h1 fun u s2 h2=>thn h2 fun c s3 ⟨x,H1,I1,r1,q1⟩=>?_) h1;obtain⟨d,rfl,q⟩:=q1;cases r1;exact jK ⟨H1,I1,q⟩
theorem HG {t:TE} (h:PE X e t) (he:∀whole,isTrue e X.env whole=(do let v ←whole;mV e.pos;iz [v] (truthy v)):=by intro _;rfl):PT X e (tB t):=by intro pins s σ H Q I hw;refine isTrue_plain (thn (h pins s σ H _ I hw) fun v s1 ⟨x,H1,I1,r1,q1⟩=>?_) (he _);obtain⟨d,rfl,q⟩:=q1;cases r1;exact jK ⟨H1,I1,q⟩
variable {tA tB':TT} {cc:ac Expr}
noncomputable def Iy (t u:TT):TT:=fun σ H Q=>t σ H fun c H1=>if c=ak then u σ H1 Q else Q av H1
noncomputable def tOr (t u:TT):TT:=fun σ H Q=>t σ H fun c H1=>if c=ak then Q ak H1 else u σ H1 Q
noncomputable def GN (t:TT):TT:=fun σ H Q=>t σ H fun c H1=>Q (!c) H1
theorem OI (ha:PT X a tA):PW X (.BoolOp .And [a] pos) tA:=by
 intro wh pins s σ H Q I h;refine isTrue_and (thn (ha pins s σ H Q I h) fun c s1 e=>?_);cases c with
 |true=>exact isTrue_and_nil e
 |false=>exact e
theorem Oj (ha:PT X a tA):PW X (.BoolOp .Or [a] pos) tA:=by
 intro wh pins s σ H Q I h;refine isTrue_or (thn (ha pins s σ H Q I h) fun c s1 e=>?_);cases c with
 |false=>exact isTrue_or_nil e
 |true=>exact e
theorem K2 (ha:PT X a tA) (hb:PW X (.BoolOp .And (b::cc) pos) tB'):PW X (.BoolOp .And (a::b::cc) pos) (Iy tA tB'):=by
 intro wh pins s σ H Q I h;refine isTrue_and (thn (ha pins s σ H _ I h) fun c s1 ⟨H1,I1,q1⟩=>?_);cases c with
 |true=>exact hb wh pins s1 σ H1 Q I1 q1
 |false=>exact⟨H1,I1,q1⟩
theorem J5 (ha:PT X a tA) (hb:PW X (.BoolOp .Or (b::cc) pos) tB'):PW X (.BoolOp .Or (a::b::cc) pos) (tOr tA tB'):=by
 intro wh pins s σ H Q I h;refine isTrue_or (thn (ha pins s σ H _ I h) fun c s1 ⟨H1,I1,q1⟩=>?_);cases c with
 |true=>exact⟨H1,I1,q1⟩
 |false=>exact hb wh pins s1 σ H1 Q I1 q1
theorem Mn (ha:PT X a tA):PT X (.UnaryOp .Not a pos) (GN tA):=by intro pins s σ H Q I h;exact isTrue_not (ha pins s σ H (fun c H1=>Q (!c) H1) I h)
noncomputable def OA (ta tb:TE):TE:=fun σ H Q=>ta σ H fun x H1=>∃c,x=.bl c/\if c=ak then tb σ H1 Q else Q (.bl av) H1
noncomputable def JE (ta tb:TE):TE:=fun σ H Q=>ta σ H fun x H1=>∃c,x=.bl c/\if c=ak then Q (.bl ak) H1 else tb σ H1 Q
noncomputable def FI (ta:TE):TE:=fun σ H Q=>ta σ H fun x H1=>∃c,x=.bl c/\Q (.bl (!c)) H1
theorem GB {op} {t:TE} (h:PE X a t):PE X (.BoolOp op [a] pos) t:=fun pins s σ H Q I hw=>BoolOp_one (h pins s σ H Q I hw)
theorem Ge (ha:PE X a ta) (hb:PE X (.BoolOp .And (b::cc) pos) tb):PE X (.BoolOp .And (a::b::cc) pos) (OA ta tb):=by
 intro pins s σ H Q I h;refine BoolOp_and (thn (ha pins s σ H _ I h) fun v s1 ⟨x,H1,I1,r1,q1⟩=>?_);obtain⟨c,rfl,q1⟩:=q1;cases r1;refine jK ?_;cases c with
 |true=>exact hb pins s1 σ H1 Q I1 q1
 |false=>exact⟨.bl av,H1,I1,rfl,q1⟩
theorem KW (ha:PE X a ta) (hb:PE X (.BoolOp .Or (b::cc) pos) tb):PE X (.BoolOp .Or (a::b::cc) pos) (JE ta tb):=by
 intro pins s σ H Q I h;refine BoolOp_or (thn (ha pins s σ H _ I h) fun v s1 ⟨x,H1,I1,r1,q1⟩=>?_);obtain⟨c,rfl,q1⟩:=q1;cases r1;refine jK ?_;cases c with
 |false=>exact hb pins s1 σ H1 Q I1 q1
 |true=>exact⟨.bl ak,H1,I1,rfl,q1⟩
theorem Lu (ha:PE X a ta):PE X (.UnaryOp .Not a pos) (FI ta):=by intro pins s σ H Q I h;refine UnaryOp_ (thn (ha pins s σ H _ I h) fun v s1 ⟨x,H1,I1,r1,q1⟩=>?_);obtain⟨c,rfl,q1⟩:=q1;cases r1;exact not_of (jK ⟨.bl (!c),H1,I1,rfl,q1⟩)
noncomputable def tIf (t:TT) (ta tb:TE):TE:=fun σ H Q=>t σ H fun c H1=>if c=ak then ta σ H1 Q else tb σ H1 Q
theorem G8 {c:Expr} (hc:PT X c tA) (ha:PE X a ta) (hb:PE X b tb):PE X (.IfExp c a b pos) (tIf tA ta tb):=by
 intro pins s σ H Q I h;refine wpAny_IfExp (thn (hc pins s σ H _ I h) fun d s1 ⟨H1,I1,q1⟩=>?_);cases d with
 |true=>exact ha pins s1 σ H1 Q I1 q1
 |false=>exact hb pins s1 σ H1 Q I1 q1
end
noncomputable def SqL (K:aV) (H:Hp) (a:aw) (xs:ac V):Prop:=
 Rd H a (.lst xs) \/
  ∃(o:Obj) (its:bR ax) (n:ao),K.lookup a=aa o/\o.cls=.type "list"/\o.dict=af/\o.data=.seq its n/\its.size<=aN/\bu xs its.toList
noncomputable def SqT (K:aV) (H:Hp) (a:aw) (xs:ac V):Prop:=
 Rd H a (.tup xs) \/
  ∃(o:Obj) (its:bR ax) (n:ao),K.lookup a=aa o/\o.cls=.type "tuple"/\o.data=.seq its n/\its.size<=aN/\bu xs its.toList
noncomputable def LG:ax->au V
 |.none=>aa .non
 |.bool b=>aa (.bl b)
 |.int i _=>aa (.int i)
 |.str x _=>aa (.str x)
 |.bytes b _=>aa (.byt b)
 |.float b _=>aa (.flt b)
 |.ref a=>aa (.ref a)
 |.type n=>aa (.ty n)
 |_=>af
theorem bD.abs {x:V} (r:bD x u):LG u=aa x:=by
 cases x with
 |non=>cases r;rfl
 |bl _=>cases r;rfl
 |int _=>obtain⟨t,rfl⟩:=r;rfl
 |str _=>obtain⟨t,rfl⟩:=r;rfl
 |byt _=>obtain⟨t,rfl⟩:=r;rfl
 |flt _=>obtain⟨t,rfl⟩:=r;rfl
 |ref _=>cases r;rfl
 |ty _=>cases r;rfl
variable {y:V}
theorem bD.inj {x:V} (r:bD x u) (q:bD y u):x=y:=qI (r.abs.symm.trans q.abs)
theorem bu.inj:∀{xs ys:ac V} {us:ac ax},bu xs us->bu ys us->xs=ys
 |_,_,_,.nil,.nil=>rfl
 |_,_,_,.cons r t,.cons r' t'=>by rw[r.inj r',bu.inj t t']
variable {ys:ac V}
section
variable {xs:ac V}
theorem Inv.list (I:Inv X pins σ H s) (h:SqL X.K H a xs):∃its:ac ax,bu xs its/\PlainL s.heap a its.toArray/\xs.length<=aN:=by
 rcases h with h|⟨o,its,n,hk,hc,hd,hs,hz,r⟩
 .obtain⟨z,its,n,r,e⟩:=h.ok I.hok;exact⟨its,r,⟨_,n,e,rfl,rfl,rfl⟩,z⟩
 .refine⟨its.toList,r,⟨o,n,I.kIn a o hk,hc,hd,by simpa using hs⟩,?_⟩;have e:=r.length;simp only[jL] at e;omega
theorem Inv.tuple (I:Inv X pins σ H s) (h:SqT X.K H a xs):∃its:ac ax,bu xs its/\uk s.heap a its.toArray/\xs.length<=aN:=by
 rcases h with h|⟨o,its,n,hk,hc,hs,hz,r⟩
 .obtain⟨z,its,r,p⟩:=h.ok I.hok;exact⟨its,r,p,z⟩
 .refine⟨its.toList,r,⟨o,I.kIn a o hk,hc,n,by simpa using hs⟩,?_⟩;have e:=r.length;simp only[jL] at e;omega
theorem Inv.list_inj (I:Inv X pins σ H s) (h:SqL X.K H a xs) (h':SqL X.K H a ys):xs=ys:=by
 obtain⟨its,r,⟨o,n,e,_,_,d⟩,_⟩:=I.list h;obtain⟨its',r',⟨o',n',e',_,_,d'⟩,_⟩:=I.list h';rw[e] at e';cases e';rw[d] at d';injection d' with d1 _;have:its=its':=by simpa using cw Pz d1
 subst this;exact r.inj r'
theorem Inv.tuple_inj (I:Inv X pins σ H s) (h:SqT X.K H a xs) (h':SqT X.K H a ys):xs=ys:=by
 obtain⟨its,r,⟨o,e,_,n,d⟩,_⟩:=I.tuple h;obtain⟨its',r',⟨o',e',_,n',d'⟩,_⟩:=I.tuple h';rw[e] at e';cases e';rw[d] at d';injection d' with d1 _;have:its=its':=by simpa using cw Pz d1
 subst this;exact r.inj r'
end
noncomputable abbrev Cx.wish (X:Cx) (E:ax->aI->Prop):Cx:={X with xe:=E}
noncomputable abbrev Cx.nox (X:Cx):Cx:=X.wish fun _ _=>False
theorem Cx.Ok.wish (ok:X.Ok) (E:ax->aI->Prop):(X.wish E).Ok:=
 ⟨ok.mod,ok.kind,ok.glob,ok.blt,ok.above,ok.inj,ok.has,ok.cab,ok.hd,ok.frames,ok.stk,ok.exf,ok.bs,ok.bsz,ok.noex,ok.exfs,ok.funs,ok.frf⟩
theorem Cx.Ok.unwish (ok:(X.wish E).Ok):X.Ok:=
 ⟨ok.mod,ok.kind,ok.glob,ok.blt,ok.above,ok.inj,ok.has,ok.cab,ok.hd,ok.frames,ok.stk,ok.exf,ok.bs,ok.bsz,ok.noex,ok.exfs,ok.funs,ok.frf⟩
theorem Inv.wish (I:Inv X pins σ H s) (E:ax->aI->Prop):Inv (X.wish E) pins σ H s:=⟨I.ok.wish E,I.os,I.bare,I.base,I.loc,I.cell,I.free,I.freeC,I.pin,I.hok,I.len⟩
theorem Inv.unwish (I:Inv (X.wish E) pins σ H s):Inv X pins σ H s:=⟨I.ok.unwish,I.os,I.bare,I.base,I.loc,I.cell,I.free,I.freeC,I.pin,I.hok,I.len⟩
theorem SP.unwish {D:Ends} {f:Flow} {s':aI} (h:SP (X.wish E) pins D f s'):SP X pins D f s':=by
 cases f with
 |next=>obtain⟨σ',H',I,q⟩:=h;exact⟨σ',H',I.unwish,q⟩
 |brk=>obtain⟨σ',H',I,q⟩:=h;exact⟨σ',H',I.unwish,q⟩
 |cont=>obtain⟨σ',H',I,q⟩:=h;exact⟨σ',H',I.unwish,q⟩
 |ret u=>obtain⟨v,σ',H',I,r,q⟩:=h;exact⟨v,σ',H',I.unwish,r,q⟩
theorem PSs.nox {st:ac Stmt} {t:TS} (h:PSs X.nox st t):PSs X st t:=fun pins s σ H D I hw=>
 gZ (h pins s σ H D (I.wish _) hw) (fun _ _ q=>q.unwish) fun _ _ z=>iA z
variable {st:Stmt} {te:TE} {tc:TT}
section
variable {cc:ac Stmt} {t u:TS}
noncomputable def L9:TS:=fun D σ H=>D.nx σ H
noncomputable def JS (t u:TS):TS:=fun D σ H=>t {D with nx:=u D} σ H
theorem FC:PSs X [] L9:=fun _ _ σ H _ I h=>El ⟨σ,H,I,h⟩
theorem JX (h1:PS X st t) (h2:PSs X cc u):PSs X (st::cc) (JS t u):=by
 intro pins s σ H D I h;refine PD (thn (h1 pins s σ H {D with nx:=u D} I h) fun f s1 q=>?_);cases f with
 |next=>
  obtain⟨σ',H',I',q⟩:=q;exact h2 pins s1 σ' H' D I' q
 |ret v=>exact q
 |brk=>exact q
 |cont=>exact q
theorem Gx (h1:PS X st t):PSs X [st] t:=by
 intro pins s σ H D I h;refine PD (thn (h1 pins s σ H D I h) fun f s1 q=>?_);cases f with
 |next=>exact El q
 |ret v=>exact q
 |brk=>exact q
 |cont=>exact q
theorem Inv.quiet (I:Inv X pins σ H s):interactive X.env=av:=by simp[interactive,I.ok.kind]
noncomputable def OP (te:TE):TS:=fun D σ H=>te σ H fun _ H1=>D.nx σ H1
theorem xF (he:PE X e te) (hs:eG e af pos.line X.env=bq av:=by rfl):PS X (.Expr e pos) (OP te):=by intro pins s σ H D I h;exact wpAny_Expr_any (thn (he pins s σ H _ I h) fun v s1 ⟨x,H1,I1,r1,q1⟩=>⟨σ,H1,I1,q1⟩) I.quiet hs
noncomputable def KY (te:TE):TS:=fun D σ H=>te σ H D.rt
theorem LY (he:PE X e te):PS X (.Return (aa e) pos) (KY te):=by intro pins s σ H D I h;exact wpAny_Return_some (thn (he pins s σ H _ I h) fun v s1 ⟨x,H1,I1,r1,q1⟩=>⟨x,σ,H1,I1,r1,q1⟩)
noncomputable def Gw (c:TT) (t u:TS):TS:=fun D σ H=>c σ H fun b H1=>if b=ak then t D σ H1 else u D σ H1
theorem J7 {c:Expr} {a b:ac Stmt} (hc:PT X c tc) (ha:PSs X a t) (hb:PSs X b u):PS X (.If c a b pos) (Gw tc t u):=by
 intro pins s σ H D I h;refine wpAny_If (thn (hc pins s σ H _ I h) fun d s1 ⟨H1,I1,q1⟩=>?_);cases d with
 |true=>exact ha pins s1 σ H1 D I1 q1
 |false=>exact hb pins s1 σ H1 D I1 q1
end
noncomputable abbrev TG:=V->St->Hp->(St->Hp->Prop)->Prop
noncomputable abbrev TGs:=ac V->St->Hp->(St->Hp->Prop)->Prop
noncomputable def PG (X:Cx) (target:Expr) (t:TG):Prop:=
 ∀(pins:ac (aw×Obj)) (s:aI) (σ:St) (H:Hp) (v:V) (u:ax) (Q:St->Hp->Prop),Inv X pins σ H s->bD v u->t v σ H Q->
  aF (aO X.prog X.w) X.A (jM target X.env u) (fun _ s'=>∃σ' H',Inv X pins σ' H' s'/\Q σ' H') X.xe s
noncomputable def PGs (X:Cx) (ts:ac Expr) (t:TGs):Prop:=
 ∀(pins:ac (aw×Obj)) (s:aI) (σ:St) (H:Hp) (vs:ac V) (us:ac ax) (Q:St->Hp->Prop),Inv X pins σ H s->bu vs us->t vs σ H Q->
  aF (aO X.prog X.w) X.A (assignInOrder ((fR ts X.env).map (·.2)) us) (fun _ s'=>∃σ' H',Inv X pins σ' H' s'/\Q σ' H') X.xe s
variable {es:ac Expr} {n:ao} {tg:Expr} {pos':ff}
noncomputable def pA (i:ao):TG:=fun v σ H Q=>Q (σ.set i (aa v)) H
theorem G0 (hN:X.N.Nodup) (hi:X.N[i]?=aa x) (hx:Loc X.env.scope x) (hf:X.fn x=ak\/X.env.scope.names.lookup x=aa .local:=by first|exact .inl rfl|exact .inr rfl|assumption):PG X (.Name x pos) (pA i):=by intro pins s σ H v u Q I r h;exact PF (zZ I hN hi hx r (fun s' I'=>⟨_,H,I',h⟩) hf)
noncomputable def ON:TGs:=fun vs σ H Q=>vs=[]/\Q σ H
noncomputable def Kh (t:TG) (u:TGs):TGs:=fun vs σ H Q=>∃v r,vs=v::r/\t v σ H fun σ' H'=>u r σ' H' Q
theorem ML:PGs X [] ON:=by intro pins s σ H vs us Q I r h;obtain⟨e,h⟩:=h;subst e;cases r;exact assignInOrder_nil ⟨σ,H,I,h⟩
theorem MS {t:TG} {u:TGs} (h1:PG X e t) (h2:PGs X es u)
  (hs:(fR (e::es) X.env).map (·.2)=jM e X.env::(fR es X.env).map (·.2):=by rfl):PGs X (e::es) (Kh t u):=by
 intro pins s σ H vs us Q I r h;obtain⟨v,vr,e1,h⟩:=h;subst e1;cases r with
 |cons r rr=>
  rw[hs];refine assignInOrder_cons (thn (h1 pins s σ H _ _ _ I r h) fun _ s1 ⟨σ1,H1,I1,q1⟩=>?_);exact h2 pins s1 σ1 H1 _ _ Q I1 rr q1
noncomputable def Jm (K:aV) (n:ao) (t:TGs):TG:=fun v σ H Q=>∃a xs,v=.ref a/\SqT K H a xs/\xs.length=n/\t xs σ H Q
theorem O1 {k:ao} {t:TGs} (hc:X.calm=ak) (h:PGs X es t)
  (hn:(fR es X.env).length=n:=by rfl) (hst:(fR es X.env).findIdx? (·.1)=af:=by rfl):PG X (.Tuple es k pos) (Jm X.K n t):=by
 intro pins s σ H v u Q I r hw;obtain⟨a,xs,e1,hq,hl,hw⟩:=hw;subst e1;cases r;obtain⟨its,rv,ht,hz⟩:=I.tuple hq;refine assign_Tuple_tuple (I.ok.hd hc) ht (by simp[hn,←hl,rv.length]) hst fun h' hx=>?_;have I1:Inv X pins σ H {s with heap:=h'}:=I.kept (t':=s.toks) fun b o e=>hx b o (qD (qw e)) e;exact h pins _ σ H xs _ Q I1 (by simpa using rv) hw
noncomputable def oW (te:TE) (g:TG):TS:=fun D σ H=>te σ H fun x H1=>g x σ H1 D.nx
theorem MM {g:TG} (he:PE X e te) (hg:PG X tg g) (hs:swapsWithSole [tg] e pos.line X.env=bq av:=by rfl) (hw:swappedStores [tg] e X.env=bq af:=by rfl)
  (h1:(fR [tg] X.env).map (·.2)=[jM tg X.env]:=by rfl):PS X (.Assign [tg] e pos) (oW te g):=by
 intro pins s σ H D I h;refine wpAny_Assign_stores (thn (he pins s σ H _ I h) fun v s1 ⟨x,H1,I1,r1,q1⟩=>?_) hs hw;rw[h1];exact thn (hg pins s1 σ H1 x v _ I1 r1 q1) fun _ s2 q=>q
theorem nG (hN:X.N.Nodup) (hi:X.N[i]?=aa x) (hx:Loc X.env.scope x) (he:PE X e te) (hs:eG e (aa (.Name x pos')) pos.line X.env=bq av:=by rfl) (hf:X.fn x=ak\/X.env.scope.names.lookup x=aa .local:=by first|exact .inl rfl|exact .inr rfl|assumption) :
  PS X (.Assign [.Name x pos'] e pos) (oW te (pA i)):=by
 intro pins s σ H D I h;refine wpAny_Assign_Name (thn (he pins s σ H _ I h) fun v s1 ⟨y,H1,I1,r1,q1⟩=>?_) hs;exact zZ I1 hN hi hx r1 (fun s2 I2=>⟨_,H1,I2,q1⟩) hf
structure It where
 go:ao->Hp->Prop
 yld:ao->Hp->V->Hp->Prop
 stop:ao->Hp->Prop
noncomputable def gX (X:Cx) (pins:ac (aw×Obj)) (H:Hp) (b:aw):Prop:=
 H b=af/\b≠X.env.locals/\b∉X.fs/\(b∈X.ex\/X.s₀.heap.objs.size<=b)/\(∀x c,X.env.cells.lookup x=aa c->c≠b)/\∀p∈X.pn++pins,p.1≠b
theorem Inv.fpOk {b:aw} (I:Inv X pins σ H s) (hb:s.heap.objs.size<=b) (hn:H' b=af):gX X pins H' b:=by
 refine⟨hn,yb (qG I.lt hb),I.nofs hb,.inr (qN I.sz hb),fun x c e z=>?_,fun p hp z=>?_⟩
 .obtain⟨v,q⟩:=I.cell x c e;exact bJ (qG q.lt (by rw[z];exact hb)) (jJ _)
 .exact bJ (qG (qw (I.pin p hp).1) (by rw[z];exact hb)) (jJ _)
structure Turn (P:eE) (w:df) (K:aV) (tg:Expr) (J:It) (fp:ac aw) (it:aw) (tn:ao->Heap->Prop):Prop where
 mem:it∈fp
 obj:∀i h,tn i h->∀b∈fp,∃o,h.get? b=aa o/\∀v,o.data≠.cell v
 keep:∀i h h',tn i h->(∀b∈fp,∀o,h.get? b=aa o->h'.get? b=aa o)->tn i h'
 item:∀(X:Cx),X.prog=P->X.w=w->X.K=K->X.calm=ak->∀(i:ao) (pins:ac (aw×Obj)) (s:aI) (σ:St) (H:Hp) (E:ax->aI->Prop),Inv X pins σ H s->(∀b∈fp,gX X pins H b)->tn i s.heap->J.go i H->
  aF (aO P w) X.A (g8 (.ref it)) (fun r s1=>∃u,r=aa u /\
   aF (aO P w) X.A (uo tg (.ref it) u) (fun _ s2=>∃x H',Inv X pins σ H' s2/\bD x u/\J.yld i H x H'/\tn (i+1) s2.heap/\∀b∈fp,H' b=af) E s1) E s
 done:∀(X:Cx),X.prog=P->X.w=w->X.K=K->X.calm=ak->∀(i:ao) (pins:ac (aw×Obj)) (s:aI) (σ:St) (H:Hp) (E:ax->aI->Prop),Inv X pins σ H s->(∀b∈fp,gX X pins H b)->tn i s.heap->J.stop i H->
  aF (aO P w) X.A (g8 (.ref it)) (fun r s1=>r=af/\Inv X pins σ H s1) E s
 self:∀(A:dB) (i:ao) (s:aI) (Q:ax->aI->Prop) (E:ax->aI->Prop),tn i s.heap->Q (.ref it) s->aF (aO P w) A (oz (.ref it)) Q E s
noncomputable abbrev TI:=St->Hp->(It->Hp->Prop)->Prop
noncomputable def PIE (X:Cx) (pins:ac (aw×Obj)) (σ:St) (tg:Expr) (R:It->Hp->Prop) (itv:ax) (s2:aI):Prop:=
 ∃(it:aw) (fp:ac aw) (tn:ao->Heap->Prop) (J:It) (H':Hp),itv=.ref it/\Inv X pins σ H' s2/\Turn X.prog X.w X.K tg J fp it tn/\tn 0 s2.heap/\(∀b∈fp,gX X pins H' b)/\R J H'
noncomputable def PI (X:Cx) (tg iter:Expr) (wi:TI):Prop:=
 ∀(pins:ac (aw×Obj)) (s:aI) (σ:St) (H:Hp) (R:It->Hp->Prop),Inv X pins σ H s->wi σ H R->
  aF (aO X.prog X.w) X.A (eval iter X.env) (fun v s1=>aF (aO X.prog X.w) X.A (oz v) (PIE X pins σ tg R) X.xe s1) X.xe s
theorem pL {M:um} {it:aw} {n:dz} {vs:bR ax} {Q:lw->aI->Prop} (ho:s.heap.get? it=aa o) (hc:o.cls=.type n) (hd:o.data=.fields vs)
  (hn:["enumerate","zip","dict_itemiterator","dict_reverseitemiterator","odict_iterator","itertools.zip_longest","itertools.pairwise"].contains n=av) (hQ:Q () s):aF M A (uo tg (.ref it) u) Q E s:=by
 unfold uo;cases tg<;>first
  |exact qB hQ
  |(cases u<;>first
    |exact qB hQ
    |(refine qy (wpAny_load ho ?_);rw[hc,hd];show aF M A (if (["enumerate","zip","dict_itemiterator","dict_reverseitemiterator","odict_iterator","itertools.zip_longest","itertools.pairwise"].contains n && vs[0]?==aa (p5 _))=ak then _ else _) Q E s;rw[qY (by intro h;rw[hn,Bool.false_and] at h;cases h)];exact qB hQ))
noncomputable def Itl (K:aV) (a:aw):It:=
 ⟨fun i H=>∃xs x,SqL K H a xs/\xs[i]?=aa x,fun i H x H'=>H'=H/\∀xs,SqL K H a xs->xs[i]?=aa x,fun i H=>∃xs,SqL K H a xs/\xs.length<=i⟩
noncomputable def Itt (K:aV) (a:aw):It:=
 ⟨fun i H=>∃xs x,SqT K H a xs/\xs[i]?=aa x,fun i H x H'=>H'=H/\∀xs,SqT K H a xs->xs[i]?=aa x,fun i H=>∃xs,SqT K H a xs/\xs.length<=i⟩
noncomputable def Itr (lo:aq) (n:ao):It:=⟨fun i _=>i<n,fun i H x H'=>H'=H/\x=.int (lo+i),fun i _=>n<=i⟩
variable {K:aV}
theorem L3 (a it:aw):Turn P w K tg (Itl K a) [it] it (fun i h=>h.IsListIter it a i) where
 mem:=by simp
 obj:=fun i h st b hb=>by
  have e:b=it:=by simpa using hb
  subst e;obtain⟨o,e,c,d⟩:=st;exact⟨o,e,fun v z=>by rw[d] at z;cases z⟩
 keep:=fun i h h' st k=>st.at fun o e=>k it (by simp) o e
 item:=by intro X hP hw hK hc i pins s σ H E I hf st hg;subst hP hw hK;obtain⟨xs,x,hq,hx⟩:=hg;obtain⟨its,rv,p,hz⟩:=I.list hq;obtain⟨u,hu,ru⟩:=rv.get hx;obtain⟨f0,f1,f2,f3,f4,f5⟩:=hf it (by simp);refine PH st p.isList (x:=u) (by simpa using hu) fun h' st' sb=>?_;have I1:Inv X pins σ H {s with heap:=h'}:=I.turned (t':=s.toks) (fun b o hb e=>(sb.2 b hb).trans e) f0 f1 f3 f4 f5;obtain⟨o,e,c,d⟩:=id st';exact⟨u,rfl,pL (s:={s with heap:=h'}) e c d .(e) ⟨x,H,I1,ru,⟨rfl,fun ys hy=>by rw[I.list_inj hy hq];exact hx⟩,st',fun b hb=>(hf b hb).1⟩⟩
 done:=by intro X hP hw hK hc i pins s σ H E I hf st hg;subst hP hw hK;obtain⟨xs,hq,hx⟩:=hg;obtain⟨its,rv,p,hz⟩:=I.list hq;obtain⟨f0,f1,f2,f3,f4,f5⟩:=hf it (by simp);have hl:=rv.length;exact PJ (I.ok.hd hc) st p.isList (by simp;omega) fun h' eb=>⟨rfl,I.turned (t':=s.toks) (fun b o hb e=>eb b o hb e) f0 f1 f3 f4 f5⟩
 self:=fun _ _ _ _ _ st h=>wpAny_pyIter_listiter st h
theorem Nx (a it:aw):Turn P w K tg (Itt K a) [it] it (fun i h=>h.IsTupleIter it a i) where
 mem:=by simp
 obj:=fun i h st b hb=>by
  have e:b=it:=by simpa using hb
  subst e;obtain⟨o,e,c,d⟩:=st;exact⟨o,e,fun v z=>by rw[d] at z;cases z⟩
 keep:=fun i h h' st k=>st.at fun o e=>k it (by simp) o e
 item:=by intro X hP hw hK hc i pins s σ H E I hf st hg;subst hP hw hK;obtain⟨xs,x,hq,hx⟩:=hg;obtain⟨its,rv,p,hz⟩:=I.tuple hq;obtain⟨u,hu,ru⟩:=rv.get hx;obtain⟨f0,f1,f2,f3,f4,f5⟩:=hf it (by simp);refine wpAny_pyNext_tuple_item st (show s.heap.IsTuple a its.toArray from p) (x:=u) (by simpa using hu) fun h' st' sb=>?_;have I1:Inv X pins σ H {s with heap:=h'}:=I.turned (t':=s.toks) (fun b o hb e=>(sb.2 b hb).trans e) f0 f1 f3 f4 f5;obtain⟨o,e,c,d⟩:=id st';exact⟨u,rfl,pL (s:={s with heap:=h'}) e c d .(e) ⟨x,H,I1,ru,⟨rfl,fun ys hy=>by rw[I.tuple_inj hy hq];exact hx⟩,st',fun b hb=>(hf b hb).1⟩⟩
 done:=by intro X hP hw hK hc i pins s σ H E I hf st hg;subst hP hw hK;obtain⟨xs,hq,hx⟩:=hg;obtain⟨its,rv,p,hz⟩:=I.tuple hq;obtain⟨f0,f1,f2,f3,f4,f5⟩:=hf it (by simp);have hl:=rv.length;exact wpAny_pyNext_tuple_end (I.ok.hd hc) st (show s.heap.IsTuple a its.toArray from p) (by simp;omega) fun h' eb=>⟨rfl,I.turned (t':=s.toks) (fun b o hb e=>eb b o hb e) f0 f1 f3 f4 f5⟩
 self:=fun _ _ _ _ _ st h=>wpAny_pyIter_tupleiter st h
theorem Ip (it:aw) (lo:aq) (n:ao):Turn P w K tg (Itr lo n) [it] it (fun i h=>IsRangeIter h it (lo+(i:ao)*1) ((n:aq)-(i:ao)) 1) where
 mem:=by simp
 obj:=fun i h st b hb=>by
  have e:b=it:=by simpa using hb
  subst e;exact⟨_,st,fun v z=>by have z':Data.fields _=Data.cell v:=z;cases z'⟩
 keep:=fun i h h' st k=>k it (by simp) _ st
 item:=by intro X hP hw hK hc i pins s σ H E I hf st hg;subst hP hw hK;obtain⟨f0,f1,f2,f3,f4,f5⟩:=hf it (by simp);have W:=Walks.range (prog:=X.prog) (w:=X.w) (I.ok.hd hc) it lo 1 n;refine W.item i s _ _ hg st fun v h' tk hv st' kk=>?_;obtain⟨t,rfl⟩:=hv;have I1:Inv X pins σ H {s with heap:=h',toks:=tk}:=I.turned (fun b o hb e=>kk b o (by simpa using hb) e) f0 f1 f3 f4 f5;refine⟨_,rfl,pL (s:={s with heap:=h',toks:=tk}) (n:="range_iterator") st' rfl rfl .(e) ⟨.int (lo+i),H,I1,⟨t,?_⟩,⟨rfl,rfl⟩,st',fun b hb=>(hf b hb).1⟩⟩;rw[Int.mul_one]
 done:=by intro X hP hw hK hc i pins s σ H E I hf st hg;subst hP hw hK;obtain⟨f0,f1,f2,f3,f4,f5⟩:=hf it (by simp);exact wpAny_pyNext_range_end (I.ok.hd hc) st (by have:n<=i:=hg;omega) fun h' eb=>⟨rfl,I.turned (t':=s.toks) (fun b o hb e=>eb b o hb e) f0 f1 f3 f4 f5⟩
 self:=fun _ _ _ _ _ st h=>wpAny_pyIter_rangeiter st h
variable {lo:aq} {p:ff} {fp:ac aw} {iter:Expr} {body:ac Stmt} {wi:TI}
theorem B7 {R:It->Hp->Prop} {hi:aq} {t u v:Tok} {tk:ao} (I:Inv X pins σ H s) (h1 : -(2 ^ 62)<=lo) (h2:lo<2 ^ 62) (h3 : -(2 ^ 62)<=hi) (h4:hi<2 ^ 62)
  (q:R (Itr lo (hi-lo).toNat) H):aF (aO X.prog X.w) X.A (oz (.ref s.heap.objs.size)) (PIE X pins σ tg R) E {s with heap:=s.heap.push {cls:=.type "range",data:=.fields #[.int lo t,.int hi u,.int 1 v]},toks:=tk}:=by
 refine wpAny_pyIter_range (IsRange.new ..) (small_one h1 h2 h3 h4) ?_;have I1:Inv X pins σ H {s with heap:=s.heap.push {cls:=.type "range",data:=.fields #[.int lo t,.int hi u,.int 1 v]},toks:=tk}:=I.kept fun b o e=>qv _ e;refine⟨(s.heap.push {cls:=.type "range",data:=.fields #[.int lo t,.int hi u,.int 1 v]}).objs.size,[(s.heap.push {cls:=.type "range",data:=.fields #[.int lo t,.int hi u,.int 1 v]}).objs.size],_,_,H,rfl,
  I1.kept (t':=tk) fun b o e=>qv _ e,Ip _ lo (hi-lo).toNat,?_,fun b hb=>?_,q⟩
 .have e1:lo+((0:ao):aq)*1=lo:=by simp
  have e2:(((hi-lo).toNat:ao):aq)-((0:ao):aq)=RN lo hi 1:=by rw[rangeSize_one];split<;>omega
  show IsRangeIter _ _ (lo+((0:ao):aq)*1) ((((hi-lo).toNat:ao):aq)-((0:ao):aq)) 1;rw[e1,e2];exact qH _ rfl
 .have e:b=(s.heap.push {cls:=.type "range",data:=.fields #[.int lo t,.int hi u,.int 1 v]}).objs.size:=by simpa using hb
  subst e;exact I1.fpOk (qx _) (I1.hok.fresh (qx _))
noncomputable def IA (ta:TA):TI:=fun σ H R=>ta σ H fun vs H1=>∃j:aq,vs=[.int j] /\ -(2 ^ 62)<=j/\j<2 ^ 62/\R (Itr 0 j.toNat) H1
noncomputable def Pf (ta:TA):TI:=fun σ H R=>ta σ H fun vs H1=>∃i j:aq,vs=[.int i,.int j]/\(-(2 ^ 62)<=i/\i<2 ^ 62 /\ -(2 ^ 62)<=j/\j<2 ^ 62)/\R (Itr i (j-i).toNat) H1
theorem FZ {a:Expr} {ta:TA} (hg:Gl X "range") (hm:X.mg "range"=af) (ha:PA X [a] ta) (hs:aR [a] X.env=[(av,eval a X.env)]:=by rfl):PI X tg (.Call (.Name "range" p) [a] [] pos) (IA ta):=by
 intro pins s σ H R I h;refine Call_ (lQ I hg hm boot_range (yc (thn (ha pos pins s σ H _ I h) fun us s1 ⟨vs,H1,I1,r1,q1⟩=>?_) hs rfl));obtain⟨j,e,q1,q2,q⟩:=q1;subst e;cases r1 with
 |cons r rr=>
  cases rr;obtain⟨t,rfl⟩:=r;exact call_range_1 (B7 I1 .(c) .(c) q1 q2 (by simpa using q))
theorem Gd {a:Expr} {ta:TA} (hg:Gl X "range") (hm:X.mg "range"=af) (ha:PA X [a,b] ta) (hs:aR [a,b] X.env=[(av,eval a X.env),(av,eval b X.env)]:=by rfl) (hs2:aR [b] X.env=[(av,eval b X.env)]:=by rfl) :
  PI X tg (.Call (.Name "range" p) [a,b] [] pos) (Pf ta):=by
 intro pins s σ H R I h;refine Call_ (lQ I hg hm boot_range (yc (thn (ha pos pins s σ H _ I h) fun us s1 ⟨vs,H1,I1,r1,q1⟩=>?_) (by rw[hs,hs2]) (by rw[hs2];rfl)));obtain⟨i,j,e,⟨q1,q2,q3,q4⟩,q⟩:=q1;subst e;cases r1 with
 |cons r rr=>
  cases rr with
  |cons r' rr=>
   cases rr;obtain⟨t,rfl⟩:=r;obtain⟨t',rfl⟩:=r';exact call_range_2 (B7 I1 q1 q2 q3 q4 q)
noncomputable def N0 (wi:TI) (g:TG) (tb:TS):TS:=fun D σ H=>wi σ H fun J H1=>∃W:ao->ao->St->Hp->Prop,(∃m,W 0 m σ H1)/\∀i m σ H,W i m σ H->
 (J.stop i H/\D.nx σ H)\/(J.go i H/\∃N:St->Hp->Prop,(∀σ' H',N σ' H'->∃m',m'<m/\W (i+1) m' σ' H')/\∀x H',J.yld i H x H'->g x σ H' fun σ2 H2=>tb {D with nx:=N,ct:=N,bk:=D.nx} σ2 H2)
noncomputable def pc (fp:ac aw) (h:Heap):ac (aw×Obj):=fp.filterMap fun b=>(h.get? b).map fun o=>(b,o)
theorem ti {h:Heap} {b:aw} (hb:b∈fp) (e:h.get? b=aa o):(b,o)∈pc fp h:=p6.mpr ⟨b,hb,by rw[e];rfl⟩
theorem Ol {h:Heap} {p:aw×Obj} (hp:p∈pc fp h):p.1∈fp/\h.get? p.1=aa p.2:=by
 obtain⟨b,hb,e⟩:=p6.mp hp;cases q:h.get? b with
 |none=>rw[q] at e;cases e
 |some o=>
  rw[q] at e;have e':(b,o)=p:=qI e;subst e';exact⟨hb,q⟩
theorem Inv.pinned (I:Inv X pins σ H s) (hf:∀b∈fp,gX X pins H b) (ho:∀b∈fp,∃o,s.heap.get? b=aa o/\∀v,o.data≠.cell v):Inv X (pins++pc fp s.heap) σ H s:=
 I.pins_of fun p hp=>(eF.mp hp).elim (fun z=>I.pin p (qR _ z)) fun z=>by obtain⟨hb,e⟩:=Ol z;obtain⟨f0,f1,f2,_⟩:=hf p.1 hb;obtain⟨o,e',d⟩:=ho p.1 hb;rw[e] at e';cases e';exact⟨e,f0,f1,f2,d⟩
theorem Inv.unpinned {pl:ac (aw×Obj)} (I:Inv X (pins++pl) σ H s):Inv X pins σ H s:=I.pins_of fun p hp=>I.pin p (qR _ (ox _ hp))
theorem Oe {g:TG} {tb:TS} (hp:PassesOwn (aO X.prog X.w) X.A X.env X.xe) (hc:X.calm=ak) (hi:PI X tg iter wi) (hg:PG X tg g) (hb:PSs X body tb)
  (hs:∀x,oA iter X.env x=bq x:=by intro _;rfl):PS X (.For tg iter body [] pos) (N0 wi g tb):=by
 intro pins s σ H D I h;refine wpAny_For (thn (hi pins s σ H _ I h) fun v s1 h1=>thn h1 fun itv s2 h2=>?_) hs;obtain⟨it,fp,tn,J,H2,e,I2,T,st2,f2,W,⟨m0,w0⟩,turn⟩:=h2;subst e;have stat:∀{H':Hp},(∀b∈fp,H' b=af)->∀b∈fp,gX X pins H' b:=fun hn b hb=>⟨hn b hb,(f2 b hb).2⟩;refine codeAny_forLoop_any (fun n s'=>∃i σ' H',Inv X pins σ' H' s'/\tn i s'.heap/\(∀b∈fp,H' b=af)/\W i n σ' H') ?_ m0 ⟨0,σ,H2,I2,st2,fun b hb=>(f2 b hb).1,w0⟩;rintro n s3 ⟨i,σ3,H3,I3,st3,fr3,w3⟩;rcases turn i n σ3 H3 w3 with⟨stop,qn⟩|⟨go,N,hN,step⟩
 .refine uq hp (thn (T.done X rfl rfl rfl hc i pins s3 σ3 H3 X.xe I3 (stat fr3) st3 stop) fun r s4 ⟨hr,I4⟩=>?_);subst hr;exact El ⟨σ3,H3,I4,qn⟩
 .refine uq hp (thn (T.item X rfl rfl rfl hc i pins s3 σ3 H3 X.xe I3 (stat fr3) st3 go) fun r s4 ⟨u,hr,h4⟩=>?_);subst hr;refine uq hp (thn h4 fun _ s5 ⟨x,H5,I5,r5,y5,st5,fr5⟩=>?_);have I5':=I5.pinned (stat fr5) (T.obj _ _ st5);refine uq hp (thn (hg _ s5 σ3 H5 x u _ I5' r5 (step x H5 y5)) fun _ s6 ⟨σ6,H6,I6,q6⟩=>?_);refine uq hp (thn (hb _ s6 σ6 H6 _ I6 q6) fun f s7 q7=>?_);have again:∀{σ7:St} {H7:Hp},Inv X (pins++pc fp s5.heap) σ7 H7 s7->N σ7 H7->∃m,m<n/\∃i σ' H',Inv X pins σ' H' s7/\tn i s7.heap/\(∀b∈fp,H' b=af)/\W i m σ' H':=fun {σ7 H7} I7 n7=>by obtain⟨m',hm,w7⟩:=hN σ7 H7 n7;refine⟨m',hm,i+1,σ7,H7,I7.unpinned,T.keep _ _ _ st5 fun b hb o e=>(I7.pin (b,o) (qR _ (qR _ (ti hb e)))).1,fun b hb=>?_,w7⟩;obtain⟨o,e,d⟩:=T.obj _ _ st5 b hb;exact(I7.pin (b,o) (qR _ (qR _ (ti hb e)))).2.1
  cases f with
  |next=>obtain⟨σ7,H7,I7,n7⟩:=q7;exact again I7 n7
  |cont=>obtain⟨σ7,H7,I7,n7⟩:=q7;exact again I7 n7
  |brk=>obtain⟨σ7,H7,I7,q7⟩:=q7;exact⟨σ7,H7,I7.unpinned,q7⟩
  |ret v=>obtain⟨x7,σ7,H7,I7,r7,q7⟩:=q7;exact⟨x7,σ7,H7,I7.unpinned,r7,q7⟩
noncomputable abbrev R2:=V->V->Hp->VK->Prop
noncomputable def OpR (X:Cx) (f:ax->ax->iy ax) (r:R2):Prop:=
 ∀(pins:ac (aw×Obj)) (s:aI) (σ:St) (H:Hp) (x y:V) (v u:ax) (Q:VK),Inv X pins σ H s->bD x v->bD y u->r x y H Q->
  aF (aO X.prog X.w) X.A (f v u) (EP X pins σ Q) X.xe s
noncomputable def UnR (X:Cx) (f:ax->iy ax) (r:V->Hp->VK->Prop):Prop:=
 ∀(pins:ac (aw×Obj)) (s:aI) (σ:St) (H:Hp) (x:V) (v:ax) (Q:VK),Inv X pins σ H s->bD x v->r x H Q->
  aF (aO X.prog X.w) X.A (f v) (EP X pins σ Q) X.xe s
noncomputable def gu (X:Cx) (f:ax) (r:ac V->Hp->VK->Prop):Prop:=
 ∀(pins:ac (aw×Obj)) (s:aI) (σ:St) (H:Hp) (xs:ac V) (us:ac ax) (Q:VK),Inv X pins σ H s->bu xs us->r xs H Q->
  aF (aO X.prog X.w) X.A (call f us) (EP X pins σ Q) X.xe s
noncomputable def tOp (r:R2) (ta tb:TE):TE:=fun σ H Q=>ta σ H fun x H1=>tb σ H1 fun y H2=>r x y H2 Q
noncomputable def tUn (r:V->Hp->VK->Prop) (ta:TE):TE:=fun σ H Q=>ta σ H fun x H1=>r x H1 Q
noncomputable def rI (C:aq->aq->Prop) (g:aq->aq->V):R2:=fun x y H Q=>∃i j,x=.int i/\y=.int j/\C i j/\Q (g i j) H
noncomputable def rI0 (g:aq->aq->V):R2:=fun x y H Q=>∃i j,x=.int i/\y=.int j/\Q (g i j) H
noncomputable def rU (g:aq->V):V->Hp->VK->Prop:=fun x H Q=>∃i,x=.int i/\Q (g i) H
section
variable {a c:Expr} {tc:TE}
theorem wI (ha:PE X a ta) (hb:PE X b tb) {R:V->V->Hp->Prop} (I:Inv X pins σ H s)
  (h:ta σ H fun x H1=>tb σ H1 fun y H2=>R x y H2) {f:ax->ax->iy ax} 
  (hf:∀v u s2 x y H2,Inv X pins σ H2 s2->bD x v->bD y u->R x y H2->aF (aO X.prog X.w) X.A (f v u) Q X.xe s2) :
  aF (aO X.prog X.w) X.A (eval a X.env) (fun v s₁=>aF (aO X.prog X.w) X.A (eval b X.env) (fun u s₂=>aF (aO X.prog X.w) X.A (f v u) Q X.xe s₂) X.xe s₁) X.xe s:=by
 refine thn (ha pins s σ H _ I h) fun v s1 ⟨x,H1,I1,r1,q1⟩=>?_;refine thn (hb pins s1 σ H1 _ I1 q1) fun u s2 ⟨y,H2,I2,r2,q2⟩=>?_;exact hf v u s2 x y H2 I2 r1 r2 q2
theorem O3 {op:Operator} {r:R2} (ho:OpR X (gK op) r) (ha:PE X a ta) (hb:PE X b tb):PE X (.BinOp a op b pos) (tOp r ta tb):=by intro pins s σ H Q I h;exact wpAny_BinOp (wI ha hb I h fun v u s2 x y H2 I2 rx ry q=>ho pins s2 σ H2 x y v u Q I2 rx ry q)
theorem Hb {op:UnaryOp} {r:V->Hp->VK->Prop} (ho:UnR X (unaryOp op) r) (ha:PE X a ta):PE X (.UnaryOp op a pos) (tUn r ta):=by intro pins s σ H Q I h;exact UnaryOp_ (thn (ha pins s σ H _ I h) fun v s1 ⟨x,H1,I1,r1,q1⟩=>ho pins s1 σ H1 x v Q I1 r1 q1)
theorem opI {f:ax->ax->iy ax} {C:aq->aq->Prop} {g:aq->aq->aq} 
  (rule:∀(i j:aq) (t u:Tok) (s:aI) (Q:ax->aI->Prop) (E:ax->aI->Prop),C i j->Q (.int (g i j) s.toks) {s with toks:=s.toks+1}->aF (aO X.prog X.w) X.A (f (.int i t) (.int j u)) Q E s) :
  OpR X f (rI C fun i j=>.int (g i j)):=by
 intro pins s σ H x y v u Q I rx ry h;obtain⟨i,j,rfl,rfl,hc,q⟩:=h;obtain⟨t,rfl⟩:=rx;obtain⟨t',rfl⟩:=ry;exact rule i j t t' s _ _ hc ⟨.int (g i j),H,I.tok _,⟨_,rfl⟩,q⟩
theorem Ar {f:ax->ax->iy ax} {g:aq->aq->aq} 
  (rule:∀(i j:aq) (t u:Tok) (s:aI) (Q:ax->aI->Prop) (E:ax->aI->Prop),Q (.int (g i j) s.toks) {s with toks:=s.toks+1}->aF (aO X.prog X.w) X.A (f (.int i t) (.int j u)) Q E s) :
  OpR X f (rI0 fun i j=>.int (g i j)):=by
 intro pins s σ H x y v u Q I rx ry h;obtain⟨i,j,rfl,rfl,q⟩:=h;obtain⟨t,rfl⟩:=rx;obtain⟨t',rfl⟩:=ry;exact rule i j t t' s _ _ ⟨.int (g i j),H,I.tok _,⟨_,rfl⟩,q⟩
theorem ua {f:ax->ax->iy ax} {g:aq->aq->aT} 
  (rule:∀(i j:aq) (t u:Tok) (s:aI) (Q:ax->aI->Prop) (E:ax->aI->Prop),Q (.bool (g i j)) s->aF (aO X.prog X.w) X.A (f (.int i t) (.int j u)) Q E s) :
  OpR X f (rI0 fun i j=>.bl (g i j)):=by
 intro pins s σ H x y v u Q I rx ry h;obtain⟨i,j,rfl,rfl,q⟩:=h;obtain⟨t,rfl⟩:=rx;obtain⟨t',rfl⟩:=ry;exact rule i j t t' s _ _ ⟨.bl (g i j),H,I,rfl,q⟩
noncomputable def GD (i j:aq):Prop:=0<j/\j<1073741824
noncomputable def KB (i j:aq):Prop:=0<=j/\j<=1000000/\i.natAbs<2 ^ 64
noncomputable def t5 (i j:aq):Prop:=(-(2 ^ 64)<i/\i<2 ^ 64)\/(-(2 ^ 64)<j/\j<2 ^ 64)
theorem t5.ok {i j:aq} (h:t5 i j):IntMulOk i j:=by
 rcases h with⟨h1,h2⟩|⟨h1,h2⟩
 .exact .of_left (intBits_le_64 h1 h2)
 .exact .of_right (intBits_le_64 h1 h2)
theorem Jt:OpR X (gK .Add) (rI0 fun i j=>.int (i+j)):=Ar fun _ _ _ _ _ _ _ q=>add_int q
theorem O5:OpR X (gK .Sub) (rI0 fun i j=>.int (i-j)):=Ar fun _ _ _ _ _ _ _ q=>sub_int q
theorem Ho:OpR X (gK .Mult) (rI t5 fun i j=>.int (i*j)):=opI fun _ _ _ _ _ _ _ hc q=>mul_int q hc.ok
theorem IW:OpR X (gK .FloorDiv) (rI GD fun i j=>.int (i / j)):=opI fun i j _ _ _ _ _ hc q=>by have h1:(0:aq)<j:=hc.1;have h2:j<1073741824:=hc.2;exact floordiv_int .(c) (by rw[Int.fdiv_eq_ediv_of_nonneg i .(c)];exact q) (.inl (PyProof.noPylong_small .(c)))
theorem Ox:OpR X (gK .Mod) (rI (fun _ j=>0<j) fun i j=>.int (i%j)):=opI fun i j _ _ _ _ _ hc q=>by have h1:(0:aq)<j:=hc;exact mod_int' .(c) (by rw[Int.fmod_eq_emod_of_nonneg i .(c)];exact q)
theorem HI:OpR X (gK .Pow) (rI KB fun i j=>.int (i ^ j.toNat)):=opI fun _ _ _ _ _ _ _ hc q=>pow_int_small hc.1 hc.2.1 hc.2.2 q
theorem unI {f:ax->iy ax} {g:aq->aq} 
  (rule:∀(i:aq) (t:Tok) (s:aI) (Q:ax->aI->Prop) (E:ax->aI->Prop),Q (.int (g i) s.toks) {s with toks:=s.toks+1}->aF (aO X.prog X.w) X.A (f (.int i t)) Q E s) :
  UnR X f (rU fun i=>.int (g i)):=by
 intro pins s σ H x v Q I rx h;obtain⟨i,rfl,q⟩:=h;obtain⟨t,rfl⟩:=rx;exact rule i t s _ _ ⟨.int (g i),H,I.tok _,⟨_,rfl⟩,q⟩
theorem L5:UnR X (unaryOp .USub) (rU fun i=>.int (-i)):=unI fun _ _ _ _ _ q=>neg_int q
end
noncomputable def xK:V->V->aT
 |.non,.non=>ak|.non,.int _=>ak|.int _,.non=>ak|.non,.bl _=>ak|.bl _,.non=>ak|.non,.str _=>ak|.str _,.non=>ak
 |.int _,.int _=>ak|.bl _,.bl _=>ak|.str _,.str _=>ak|.byt _,.byt _=>ak
 |.int _,.str _=>ak|.str _,.int _=>ak|.bl _,.str _=>ak|.str _,.bl _=>ak
 |_,_=>av
noncomputable def rEq:R2:=fun x y H Q=>xK x y=ak/\Q (.bl (decide (x=y))) H
noncomputable def rNe:R2:=fun x y H Q=>xK x y=ak/\Q (.bl (!decide (x=y))) H
theorem z4 {i j:aq} :decide (V.int i=V.int j)=(i==j):=by rw[mW];simp
theorem DR {i j:aT} :decide (V.bl i=V.bl j)=(i==j):=by rw[mW];simp
theorem AJ {i j:aj} :decide (V.str i=V.str j)=(i==j):=by rw[mW];simp
theorem Bu {i j:bR UInt8} :decide (V.byt i=V.byt j)=(i.toList==j.toList):=by rw[mW];cases i;cases j;simp
variable {r':R2} {op':CmpOp}
section
variable {a c:Expr} {tc:TE}
theorem cY {Q:VK} {k k':aT} (I:Inv X pins σ H s) (q:Q (.bl k) H) (e:k=k'):EP X pins σ Q (.bool k') s:=by subst e;exact⟨.bl k,H,I,rfl,q⟩
theorem He:OpR X (dN .Eq) rEq:=by
 intro pins s σ H x y v u Q I rx ry h;obtain⟨hs,q⟩:=h;cases x with
 |non=>
  cases rx;cases y with
  |non=>cases ry;exact RO (cY I q (by simp))
  |bl j=>cases ry;exact RP (cY I q (by simp))
  |int j=>obtain⟨t',rfl⟩:=ry;exact RQ (cY I q (by simp))
  |str j=>obtain⟨t',rfl⟩:=ry;exact RS (cY I q (by simp))
  |_=>exact bJ (show av=ak from hs) qu
 |bl i=>
  cases rx;cases y with
  |non=>cases ry;exact RT (cY I q (by simp))
  |bl j=>cases ry;exact eq_bool (cY I q DR)
  |str j=>obtain⟨t',rfl⟩:=ry;exact RU (cY I q (by simp))
  |_=>exact bJ (show av=ak from hs) qu
 |int i=>
  obtain⟨t,rfl⟩:=rx;cases y with
  |non=>cases ry;exact RV (cY I q (by simp))
  |int j=>obtain⟨t',rfl⟩:=ry;exact eq_int (cY I q z4)
  |str j=>obtain⟨t',rfl⟩:=ry;exact RW (cY I q (by simp))
  |_=>exact bJ (show av=ak from hs) qu
 |str i=>
  obtain⟨t,rfl⟩:=rx;cases y with
  |non=>cases ry;exact RX (cY I q (by simp))
  |bl j=>cases ry;exact RY (cY I q (by simp))
  |int j=>obtain⟨t',rfl⟩:=ry;exact RZ (cY I q (by simp))
  |str j=>obtain⟨t',rfl⟩:=ry;exact eq_str (cY I q AJ)
  |_=>exact bJ (show av=ak from hs) qu
 |byt i=>
  obtain⟨t,rfl⟩:=rx;cases y with
  |byt j=>obtain⟨t',rfl⟩:=ry;exact PySem.W.eq_bytes (cY I q Bu)
  |_=>exact bJ (show av=ak from hs) qu
 |_=>cases y<;>exact bJ (show av=ak from hs) qu
theorem No:OpR X (dN .NotEq) rNe:=by
 intro pins s σ H x y v u Q I rx ry h;obtain⟨hs,q⟩:=h;cases x with
 |non=>
  cases rx;cases y with
  |non=>cases ry;exact R0 (cY I q (by simp))
  |bl j=>cases ry;exact R1 (cY I q (by simp))
  |int j=>obtain⟨t',rfl⟩:=ry;exact R3 (cY I q (by simp))
  |str j=>obtain⟨t',rfl⟩:=ry;exact R4 (cY I q (by simp))
  |_=>exact bJ (show av=ak from hs) qu
 |bl i=>
  cases rx;cases y with
  |non=>cases ry;exact R5 (cY I q (by simp))
  |bl j=>cases ry;exact ne_bool (cY I q (cw not DR))
  |str j=>obtain⟨t',rfl⟩:=ry;exact R6 (cY I q (by simp))
  |_=>exact bJ (show av=ak from hs) qu
 |int i=>
  obtain⟨t,rfl⟩:=rx;cases y with
  |non=>cases ry;exact R7 (cY I q (by simp))
  |int j=>obtain⟨t',rfl⟩:=ry;exact ne_int (cY I q (cw not z4))
  |str j=>obtain⟨t',rfl⟩:=ry;exact R8 (cY I q (by simp))
  |_=>exact bJ (show av=ak from hs) qu
 |str i=>
  obtain⟨t,rfl⟩:=rx;cases y with
  |non=>cases ry;exact R9 (cY I q (by simp))
  |bl j=>cases ry;exact R' (cY I q (by simp))
  |int j=>obtain⟨t',rfl⟩:=ry;exact Sa (cY I q (by simp))
  |str j=>obtain⟨t',rfl⟩:=ry;exact ne_str (cY I q (cw not AJ))
  |_=>exact bJ (show av=ak from hs) qu
 |byt i=>
  obtain⟨t,rfl⟩:=rx;cases y with
  |byt j=>obtain⟨t',rfl⟩:=ry;exact PySem.W.ne_bytes (cY I q (cw not Bu))
  |_=>exact bJ (show av=ak from hs) qu
 |_=>cases y<;>exact bJ (show av=ak from hs) qu
theorem LN:OpR X (dN .Lt) (rI0 fun i j=>.bl (decide (i<j))):=ua fun _ _ _ _ _ _ _ q=>lt_int q
theorem JP:OpR X (dN .LtE) (rI0 fun i j=>.bl (decide (i<=j))):=ua fun _ _ _ _ _ _ _ q=>le_int q
theorem Pa:OpR X (dN .Gt) (rI0 fun i j=>.bl (decide (j<i))):=ua fun _ _ _ _ _ _ _ q=>gt_int q
theorem Om:OpR X (dN .GtE) (rI0 fun i j=>.bl (decide (j<=i))):=ua fun _ _ _ _ _ _ _ q=>ge_int q
theorem Kq:OpR X (dN .Lt) (fun x y H Q=>∃i j,x=.str i/\y=.str j/\Q (.bl (decide (i.cps.toList<j.cps.toList))) H):=by intro pins s σ H x y v u Q I rx ry h;obtain⟨i,j,rfl,rfl,q⟩:=h;obtain⟨t,rfl⟩:=rx;obtain⟨t',rfl⟩:=ry;exact lt_str (cY I q rfl)
theorem Lh:OpR X (dN .Is) (fun x y H Q=>y=.non/\Q (.bl (decide (x=.non))) H):=by
 intro pins s σ H x y v u Q I rx ry h;obtain⟨rfl,q⟩:=h;cases ry;refine is_none_gen (cY I q ?_);cases x<;>first
  |(cases rx;rfl)
  |(obtain⟨t,rfl⟩:=rx;rfl)
theorem NA:OpR X (dN .IsNot) (fun x y H Q=>y=.non/\Q (.bl (!decide (x=.non))) H):=by
 intro pins s σ H x y v u Q I rx ry h;obtain⟨rfl,q⟩:=h;cases ry;refine isnot_none_gen (cY I q ?_);cases x<;>first
  |(cases rx;rfl)
  |(obtain⟨t,rfl⟩:=rx;rfl)
theorem OpR.or {f:ax->ax->iy ax} {r:R2} (h:OpR X f r) (h':OpR X f r'):OpR X f (fun x y H Q=>r x y H Q\/r' x y H Q):=by
 intro pins s σ H x y v u Q I rx ry q;rcases q with q|q
 .exact h pins s σ H x y v u Q I rx ry q
 .exact h' pins s σ H x y v u Q I rx ry q
theorem cr (b:Expr) (h:op≠.In:=by decide) (h2:op≠.NotIn:=by decide):lx op b=av:=by
 have e1:(op==Pw)=av:=by cases op<;>first|rfl|exact bJ rfl h
 have e2:(op==Px)=av:=by cases op<;>first|rfl|exact bJ rfl h2
 cases b<;>simp[lx,e1,e2]
theorem Go {r:R2} (ho:OpR X (dN op) r) (ha:PE X a ta) (hb:PE X b tb) (hm:lx op b=av):PE X (.Compare a [op] [b] pos) (tOp r ta tb):=by intro pins s σ H Q I h;exact wpAny_Compare1 (wI ha hb I h fun v u s2 x y H2 I2 rx ry q=>ho pins s2 σ H2 x y v u Q I2 rx ry q) hm
noncomputable def Aj (t:TE):TT:=fun σ H Q=>t σ H fun x H'=>∃k,x=.bl k/\Q k H'
theorem N2 {r:R2} (ho:OpR X (dN op) r) (ha:PE X a ta) (hb:PE X b tb) (hm:lx op b=av):PT X (.Compare a [op] [b] pos) (Aj (tOp r ta tb)):=by
 intro pins s σ H Q I h;refine Py (thn (ha pins s σ H _ I h) fun v s1 ⟨x,H1,I1,r1,q1⟩=>thn (hb pins s1 σ H1 _ I1 q1) fun u s2 ⟨y,H2,I2,r2,q2⟩=>
  thn (ho pins s2 σ H2 x y v u _ I2 r1 r2 q2) fun c s3 ⟨z,H3,I3,r3,k,e,q3⟩=>?_) hm
 subst e;cases r3;exact jK ⟨H3,I3,q3⟩
noncomputable def u0 (r r':R2) (ta tb tc:TE):TE:=fun σ H Q=>ta σ H fun x H1=>tb σ H1 fun y H2=>r x y H2 fun z H3=>∃k,z=.bl k /\
 (if k=ak then tc σ H3 fun w' H4=>r' y w' H4 Q else Q (.bl av) H3)
theorem Hj {r:R2} (ho:OpR X (dN op) r) (ho':OpR X (dN op') r') (ha:PE X a ta) (hb:PE X b tb) (hc:PE X c tc)
  (hm:yd [op,op'] [b,c]=av:=by with_unfolding_all rfl):PE X (.Compare a [op,op'] [b,c] pos) (u0 r r' ta tb tc):=by
 intro pins s σ H Q I h;refine Compare_chain (thn (ha pins s σ H _ I h) fun v s1 ⟨x,H1,I1,r1,q1⟩=>chain_link (thn (hb pins s1 σ H1 _ I1 q1) fun u s2 ⟨y,H2,I2,r2,q2⟩=>
  thn (ho pins s2 σ H2 x y v u _ I2 r1 r2 q2) fun d s3 ⟨z,H3,I3,r3,k,e,q3⟩=>?_)) hm
 subst e;cases r3;refine jK ?_;cases k with
 |false=>exact ite_ff ⟨.bl av,H3,I3,rfl,q3⟩
 |true=>exact ite_tt (chain_last (thn (hc pins s3 σ H3 _ I3 q3) fun w' s4 ⟨z',H4,I4,r4,q4⟩=>ho' pins s4 σ H4 y z' u w' Q I4 r2 r4 q4))
theorem Kt {r:R2} (ho:OpR X (dN op) r) (ho':OpR X (dN op') r') (ha:PE X a ta) (hb:PE X b tb) (hc:PE X c tc)
  (hm:yd [op,op'] [b,c]=av:=by with_unfolding_all rfl):PT X (.Compare a [op,op'] [b,c] pos) (Aj (u0 r r' ta tb tc)):=by
 intro pins s σ H Q I h;refine isTrue_chain (thn (ha pins s σ H _ I h) fun v s1 ⟨x,H1,I1,r1,q1⟩=>test_link (thn (hb pins s1 σ H1 _ I1 q1) fun u s2 ⟨y,H2,I2,r2,q2⟩=>
  thn (ho pins s2 σ H2 x y v u _ I2 r1 r2 q2) fun d s3 ⟨z,H3,I3,r3,k,e,q3⟩=>?_)) hm
 subst e;cases r3;refine jK ?_;cases k with
 |false=>
  obtain⟨k',e',q'⟩:=q3;cases e';exact ite_ff ⟨H3,I3,q'⟩
 |true=>
  refine ite_tt (test_last (thn (hc pins s3 σ H3 _ I3 q3) fun w' s4 ⟨z',H4,I4,r4,q4⟩=>thn (ho' pins s4 σ H4 y z' u w' _ I4 r2 r4 q4) fun d' s5 ⟨z2,H5,I5,r5,k2,e2,q5⟩=>?_));subst e2;cases r5;exact jK ⟨H5,I5,q5⟩
theorem sG:(aN:ao)<2 ^ 63:=by rw[ge];decide
theorem Oo:OpR X (gK .Add) (fun x y H Q=>∃i j,x=.str i/\y=.str j/\i.length+j.length<=aN/\Q (.str (i++j)) H):=by intro pins s σ H x y v u Q I rx ry h;obtain⟨i,j,rfl,rfl,hz,q⟩:=h;obtain⟨t,rfl⟩:=rx;obtain⟨t',rfl⟩:=ry;exact add_str (fun t' tk=>⟨.str (i++j),H,I.tok _,⟨_,rfl⟩,q⟩) hz
theorem ij {x:V} {us:ac ax} (r:bu [x] us):∃u,us=[u]/\bD x u:=by
 cases r with
 |cons r1 r2=>cases r2;exact⟨_,rfl,r1⟩
theorem xn {x:V} {us:ac ax} (r:bu [x,y] us):∃u w',us=[u,w']/\bD x u/\bD y w':=by
 cases r with
 |cons r1 r2=>
  cases r2 with
  |cons r3 r4=>cases r4;exact⟨_,_,rfl,r1,r3⟩
theorem J3 (hc:X.calm=ak):gu X (.builtin "max") (fun xs H Q=>∃i j,xs=[.int i,.int j]/\Q (.int (if j > i then j else i)) H):=by
 intro pins s σ H xs us Q I r h;obtain⟨i,j,rfl,q⟩:=h;obtain⟨u,w',rfl,⟨t,rfl⟩,⟨t',rfl⟩⟩:=xn r;refine max_two_ints (I.ok.hd hc) fun h' tk k=>⟨_,H,I.kept k,?_,q⟩;by_cases hj:j > i
 .rw[qX hj,qX hj];exact⟨_,rfl⟩
 .rw[qY hj,qY hj];exact⟨_,rfl⟩
theorem LC (hc:X.calm=ak):gu X (.builtin "min") (fun xs H Q=>∃i j,xs=[.int i,.int j]/\Q (.int (if j<i then j else i)) H):=by
 intro pins s σ H xs us Q I r h;obtain⟨i,j,rfl,q⟩:=h;obtain⟨u,w',rfl,⟨t,rfl⟩,⟨t',rfl⟩⟩:=xn r;refine min_two_ints (I.ok.hd hc) fun h' tk k=>⟨_,H,I.kept k,?_,q⟩;by_cases hj:j<i
 .rw[qX hj,qX hj];exact⟨_,rfl⟩
 .rw[qY hj,qY hj];exact⟨_,rfl⟩
noncomputable def Lv (K:aV) (x:V) (H:Hp) (n:ao):Prop:=
 match x with
 |.str y=>y.length<=aN/\n=y.length
 |.byt y=>y.size<=aN/\n=y.size
 |.ref p=>(∃xs,SqL K H p xs/\n=xs.length)\/∃xs,SqT K H p xs/\n=xs.length
 |_=>False
theorem F7:gu X (.builtin "len") (fun xs H Q=>∃x n,xs=[x]/\Lv X.K x H n/\Q (.int n) H):=by
 intro pins s σ H xs us Q I r h;obtain⟨x,n,rfl,e,q⟩:=h;obtain⟨u,rfl,rx⟩:=ij r;have hl:=sG;have hs:aN=16777216:=ge;cases x with
 |str y=>
  obtain⟨t,rfl⟩:=rx;obtain⟨hy,e'⟩:y.length<=aN/\n=y.length:=e;subst e';exact len_str .(c) ⟨.int _,H,I.tok _,⟨_,rfl⟩,q⟩
 |byt y=>
  obtain⟨t,rfl⟩:=rx;obtain⟨hy,e'⟩:y.size<=aN/\n=y.size:=e;subst e';exact PySem.W.len_bytes .(c) ⟨.int _,H,I.tok _,⟨_,rfl⟩,q⟩
 |ref p=>
  cases rx;have e':(∃xs,SqL X.K H p xs/\n=xs.length)\/∃xs,SqT X.K H p xs/\n=xs.length:=e;rcases e' with⟨xs,hx,e'⟩|⟨xs,hx,e'⟩
  .subst e';obtain⟨its,r',pl,hz⟩:=I.list hx;have hlen:=r'.length;exact Calls.call_len_list pl.isList (by simp only[qC];omega) ⟨.int xs.length,H,I.tok _,⟨_,by simp only[qC];rw[hlen]⟩,q⟩
  .subst e';obtain⟨its,r',pl,hz⟩:=I.tuple hx;have hlen:=r'.length;exact len_tuple pl (by simp only[qC];omega) ⟨.int xs.length,H,I.tok _,⟨_,by simp only[qC];rw[hlen]⟩,q⟩
 |_=>exact(show False from e).elim
end
structure ObjM (h:Heap) (x dx C:aw) (mA:aj->au ax):Prop where
 obj:h.get? x=aa (mU C dx)
 ns:h.Ns1 dx mA
 ne:dx≠x
variable {dx:aw} {mA:aj->au ax}
theorem LW {h:Heap} (n:h.Ns1 dx mA):∃od,h.get? dx=aa od/\∀name,ye name od=aa (mA name):=by
 obtain⟨o,es,ep,ho,hd,hk,_,hm⟩:=n;refine⟨o,ho,fun name=>?_⟩;have e:=hm name;unfold nsFind findBy at e;rw[←Array.find?_toList] at e;unfold ye;rw[hd];dsimp only;split
 .rename_i y q;rw[q] at e;exact cw aa e
 .rename_i q;rw[q] at e;have a:es.toList.any (·.refKey)=av:=by rw[PK];intro y hy;obtain⟨z,t,hkey⟩:=hk y (Em.mp hy);simp[DictEntry.refKey,hkey]
  have a':¬es.toList.any (·.refKey)=ak:=by rw[a];exact qu
  rw[qY a'];exact cw aa e
variable {C:aw}
theorem ObjM.look {h:Heap} {x:aw} (I:ObjM h x dx C mA):∃od,PySem.W.InstAt h x (mU C dx) C (aa od)/\∀name,ye name od=aa (mA name):=
 let ⟨od,ho,hl⟩:=LW I.ns
 ⟨od,⟨I.obj,rfl,rfl,ho⟩,hl⟩
variable {prog:eE} {name:aj} {pl:iy aT} {ns:ac aj} {kw:ac (aj×ax)}
section
variable {x f:aw} {v:ax}
theorem HM {expr:aT} (X:K.In s.heap) (I:ObjM s.heap x dx C mA) (hg:oB K C name=ak) (hh:p8 K C=ak)
  (ha:cA K (.ref C) name=aa af) (hv:mA name=aa v) (hv':PL v=ak) (h:Q v {s with toks:=s.toks+1}) :
  aF (aO prog w) A (getAttr (.ref x) name expr) Q E s:=by
 obtain⟨od,J,hl⟩:=I.look;exact PySem.W.get_value X J (En hg).1 (PySem.W.findObj_own hh ha rfl (by rw[hl,hv])) hv' h
theorem IP {Q:ax×ac ax->aI->Prop} (X:K.In s.heap) (I:ObjM s.heap x dx C mA) (hg:oB K C name=ak)
  (hf:cA K (.ref C) name=aa (aa (.ref f))) (ht:oC K (.ref f)=ak) (hv:mA name=af) (h:Q (.ref f,[.ref x]) s) :
  aF (aO prog w) A (mX (.ref x) name pl) Q E s:=by
 obtain⟨od,J,hl⟩:=I.look;exact PySem.W.method_fn X J (En hg).1 (En hg).2 hf (ly.mp ht) (by show(ye name od).map (·.isSome)=aa av;rw[hl,hv];rfl) h
theorem K5 {Q:lw->aI->Prop} (X:K.In s.heap) (I:ObjM s.heap x dx C mA)
  (hs:cA K (.ref C) "__setattr__"=aa (aa (.builtin "object.__setattr__"))) (hp:ur K C=ak) (ht:Eo K C name=aa af) (hh:p8 K C=ak)
  (hw:Ef mA ns) (hsz:ns.length<=aN)
  (h:∀h',ObjM h' x dx C (fun y=>if y=name then aa v else mA y)->iw dx s.heap h'->Q () {s with heap:=h',toks:=s.toks+2}) :
  aF (aO prog w) A (setAttr (.ref x) name v) Q E s:=by
 obtain⟨od,J,hl⟩:=I.look;refine PySem.W.set_plain X J hs (PySem.W.osa_open (s:={s with toks:=s.toks+1}) (r:=af) X J hp ht fun b=>?_);obtain⟨cd,hc,hd'⟩:=PySem.W.any_some hh;have hx:s.heap.get? x=aa ⟨.ref C,aa dx,.plain,#[]⟩:=I.obj;refine qy (qB (qy (qy (wpAny_loadPart hx (qy (Sb (s:={s with toks:=s.toks+1}) (PySem.W.looks_clsIn X hc) ?_))))));rw[hd'];refine qB (a:=aa dx) (qy (qB (qy ?_)));refine wpAny_nsSet1 (s:={s with toks:=s.toks+1}) I.ns fun h' hn2 hs2=>?_;obtain⟨oD,esD,epD,hoD,hdD,hcD⟩:=hn2.count (Sc name v hw);refine qy (wpAny_lookBehind hoD (by rw[hdD];exact pastItsLine_dict (qN hcD (by rw[qi];omega))) ?_);exact qB (h _ ⟨(hs2.2 _ (dM I.ne)).trans I.obj,hn2,I.ne⟩ hs2)
theorem HB {R:lz->aI->Prop} {vs:ac ax} (X:K.In s.heap) (hm:p9 K C=ak)
  (hi:cA K (.ref C) "__init__"=aa (aa (.ref f))) (hf:PySem.W.typeIn K (.ref f)=aa (.type "function"))
  (h:gL (aO prog w) (A.under (.builtin "type.__call__" ⟨.ref C::vs,kw⟩)) (.call (.ref f) ⟨.ref (s.heap.objs.size+1)::vs,kw⟩) (PySem.W.InitBack (s.heap.objs.size+1) R)
   {s with heap:=(s.heap.push lA).push (mU C s.heap.objs.size)}) :
  gL (aO prog w) A (.call (.ref C) ⟨vs,kw⟩) R s:=by
 obtain⟨hh,g,d,t,os⟩:=s;exact PySem.W.make_core (PySem.W.makes_of X hm) (PySem.W.looks_findIn X hi) (fun self=>PySem.W.bind_fn X self hf) (.inl rfl) h
end
noncomputable def fB (f:aj) (v:V):ac (aj×V)->ac (aj×V)
 |[]=>[(f,v)]
 |(g,x)::r=>if g=f then (g,v)::r else (g,x)::fB f v r
theorem D0 (f g:aj) (v:V):∀fs:ac (aj×V),(fB f v fs).lookup g=if g=f then aa v else fs.lookup g
 |[]=>by
  show dj g [(f,v)]=_;by_cases h:g=f
  .have hb:(g==f)=ak:=ly.mpr h;simp only[dj,hb,qX h]
  .have hb:(g==f)=av:=mT.mpr h;simp only[dj,hb,qY h]
 |(k,x)::r=>by
  have ih:=D0 f g v r;rw[show fB f v ((k,x)::r)=(if k=f then (k,v)::r else (k,x)::fB f v r) from rfl];by_cases hk:k=f
  .rw[qX hk];by_cases h:g=k
   .have hb:(g==k)=ak:=ly.mpr h;simp only[dj,hb,qX (h.trans hk)]
   .have hb:(g==k)=av:=mT.mpr h;simp only[dj,hb,qY (fun e:g=f=>h (e.trans hk.symm))]
  .rw[qY hk];by_cases h:g=k
   .have hb:(g==k)=ak:=ly.mpr h;simp only[dj,hb,qY (fun e:g=f=>hk (h.symm.trans e))]
   .have hb:(g==k)=av:=mT.mpr h;simp only[dj,hb];exact ih
theorem wu (f:aj) (v:V):∀fs:ac (aj×V),f∈(fB f v fs).map (·.1)/\∀g,g∈fs.map (·.1)->g∈(fB f v fs).map (·.1)
 |[]=>⟨by simp[fB],fun g h=>by simp at h⟩
 |(k,x)::r=>by
  obtain⟨i1,i2⟩:=wu f v r;rw[show fB f v ((k,x)::r)=(if k=f then (k,v)::r else (k,x)::fB f v r) from rfl];by_cases hk:k=f
  .rw[qX hk];subst hk;exact⟨by simp,fun g h=>by simpa using h⟩
  .rw[qY hk];refine⟨?_,fun g h=>?_⟩
   .rw[qo];exact qh _ i1
   .rw[qo] at h ⊢;rcases cH.mp h with e|e
    .exact cH.mpr (.inl e)
    .exact qh _ (i2 g e)
theorem Bz (f:aj) (v:V):∀fs:ac (aj×V),(fB f v fs).length<=fs.length+1
 |[]=>by simp[fB]
 |(k,x)::r=>by
  have ih:=Bz f v r;rw[show fB f v ((k,x)::r)=(if k=f then (k,v)::r else (k,x)::fB f v r) from rfl];by_cases hk:k=f
  .rw[qX hk,qi,qi];omega
  .rw[qY hk,qi,qi];omega
theorem fA.some_of {o:au ax} (r:fA (aa v) o):∃u,o=aa u/\bD v u:=by
 cases o with
 |none=>exact(show False from r).elim
 |some u=>exact⟨u,rfl,r⟩
theorem fA.none_of {o:au ax} (r:fA af o):o=af:=by
 cases o with
 |none=>rfl
 |some u=>exact(show False from r).elim
theorem OC (r:bD v u):PL u=ak:=by
 cases v with
 |non=>cases(show u=lq from r);rfl
 |bl b=>cases(show u=lr b from r);rfl
 |int i=>obtain⟨t,e⟩:=(show ∃t,u=ui i t from r);cases e;rfl
 |str x=>obtain⟨t,e⟩:=(show ∃t,u=uj x t from r);cases e;rfl
 |byt b=>obtain⟨t,e⟩:=(show ∃t,u=Pu b t from r);cases e;rfl
 |flt b=>obtain⟨t,e⟩:=(show ∃t,u=Ee b t from r);cases e;rfl
 |ref a=>cases(show u=ce a from r);rfl
 |ty n=>cases(show u=lu n from r);rfl
section
variable {h:Heap} {fs fs':ac (aj×V)}
theorem tZ (hok:HOk P w H h) (e:H a=aa (.ins C dx fs)):∃mA,ObjM h a dx C mA/\(∀f,fA (fs.lookup f) (mA f))/\Ef mA (fs.map (·.1))/\fs.length<=1000/\H dx=aa (.own a):=by obtain⟨d,z,ne,ob,mA,n,r,q⟩:=(show cI P w H h a (.ins C dx fs) from hok a _ e);exact⟨mA,⟨ob,n,ne⟩,r,q,z,d⟩
end
structure Cls (K:aV) (C:aw):Prop where
 pg:oB K C ut=ak
 hd:p8 K C=ak
 po:ur K C=ak
 sa:cA K (.ref C) "__setattr__"=aa (aa (.builtin "object.__setattr__"))
theorem Cls.get (c:Cls K C) (f:aj):oB K C f=ak:=c.pg
noncomputable def kF (K:aV) (C:aw) (f:aj):Prop:=cA K (.ref C) f=aa af
theorem kF.taker {K:aV} {C:aw} {f:aj} (n:kF K C f):Eo K C f=aa af:=by unfold Eo;rw[show cA K (.ref C) f=aa af from n];rfl
structure Meth (K:aV) (C:aw) (m:aj) (f:aw):Prop where
 at_:cA K (.ref C) m=aa (aa (.ref f))
 fn:oC K (.ref f)=ak
 kp:gf K (.ref f)=ak
variable {m:aj} {env:cZ}
section
variable {fs:ac (aj×V)} {f:aj}
theorem Ou {b:aT} (I:Inv X pins σ H s) (e:H a=aa (.ins C dx fs)) (c:Cls X.K C) (n:kF X.K C f) (l:fs.lookup f=aa v)
  (h:∀u s',Inv X pins σ H s'->bD v u->Q u s'):aF (aO X.prog X.w) A (getAttr (.ref a) f b) Q E s:=by
 obtain⟨mA,O,r,_,_,_⟩:=tZ I.hok e;obtain⟨u,hu,ru⟩:=fA.some_of (v:=v) (o:=mA f) (by rw[←l];exact r f);exact HM I.kIn O (c.get f) c.hd n hu (OC ru) (h u _ (I.tok _) ru)
theorem xf {g:aw} {Q:ax×ac ax->aI->Prop} (I:Inv X pins σ H s) (e:H a=aa (.ins C dx fs)) (c:Cls X.K C) (k:Meth X.K C m g) (l:fs.lookup m=af)
  (h:Q (.ref g,[.ref a]) s):aF (aO X.prog X.w) A (mX (.ref a) m pl) Q E s:=by
 obtain⟨mA,O,r,_,_,_⟩:=tZ I.hok e;have hn:mA m=af:=fA.none_of (by rw[←l];exact r m);exact IP I.kIn O (c.get m) k.at_ k.fn hn h
theorem LP {Q:lw->aI->Prop} (I:Inv X pins σ H s) (e:H a=aa (.ins C dx fs)) (c:Cls X.K C) (n:kF X.K C f) (hl:fs.length<1000) (ry:bD y u)
  (h:∀s',Inv X pins σ (upd H a (.ins C dx (fB f y fs))) s'->Q () s'):aF (aO X.prog X.w) A (setAttr (.ref a) f u) Q E s:=by
 obtain⟨mA,O,r,wi,_,ho⟩:=tZ I.hok e;have hz:(fs.map (·.1)).length<=aN:=by rw[qf,ge];omega
 refine K5 I.kIn O c.sa c.po n.taker c.hd wi hz fun h' O' sb=>h _ ?_;have hd:∃o,h'.get? dx=aa o:=let ⟨o,_,_,e',_⟩:=O'.ns;⟨o,e'⟩
 refine I.write (x:=a) (e:=dx) (by rw[e];exact jN) (.inr ho) (fun b q hb z=>(sb.2 b hb).trans z) hd ?_;refine⟨by rw[aE O.ne];exact ho,?_,O.ne,O'.obj,_,O'.ns,fun g=>?_,fun g hg=>?_⟩
 .have:=Bz f y fs;omega
 .show fA ((fB f y fs).lookup g) (if g=f then aa u else mA g);rw[D0];by_cases q:g=f
  .rw[qX q,qX q];exact ry
  .rw[qY q,qY q];exact r g
 .by_cases q:g=f
  .rw[q];exact(wu f y fs).1
  .refine(wu f y fs).2 g (wi g fun z=>hg ?_);show(if g=f then aa u else mA g)=af;rw[qY q];exact z
theorem Inv.made (I:Inv X pins σ H s):Inv X pins σ (upd (upd H s.heap.objs.size (.own (s.heap.objs.size+1))) (s.heap.objs.size+1) (.ins C s.heap.objs.size []))
  {s with heap:=(s.heap.push lA).push (mU C s.heap.objs.size)}:=by
 have e1:(s.heap.push lA).get? s.heap.objs.size=aa lA:=qH s.heap rfl;have e2:((s.heap.push lA).push (mU C s.heap.objs.size)).get? (s.heap.objs.size+1)=aa (mU C s.heap.objs.size):=by
  have:=qH (s.heap.push lA) (o:=mU C s.heap.objs.size) rfl
  rwa [mY] at this
 have e3:(s.heap.push lA).Ns s.heap.objs.size (fun _=>af):=⟨lA,#[],_,e1,rfl,(fun e he=>bJ he (by simp)),fun _=>rfl⟩;have I1:=I.laid (a:=s.heap.objs.size) (o:=.own (s.heap.objs.size+1)) (h':=s.heap.push lA) (t':=s.toks) (fun b u q=>qv _ q) (qx _) ⟨_,e1⟩;refine I1.laid (a:=s.heap.objs.size+1) (o:=.ins C s.heap.objs.size []) (t':=s.toks) (fun b u q=>qv _ q) (yf (mY _ _)) ?_;have ne:s.heap.objs.size≠s.heap.objs.size+1:=qD (uu _);refine⟨by rw[aE ne,bB],g9 _,ne,e2,fun _=>af,(Heap.Ns1.of_empty e3).at fun o q=>qv _ q,fun _=>jN,fun y hy=>bJ rfl hy⟩
theorem Hn (hb:i9 e f env (eval e env)=eval e env)
  (h:aF (aO prog w) A (eval e env) (fun o s₁=>aF (aO prog w) A (getAttr o f ak) Q E s₁) E s):aF (aO prog w) A (eval (.Attribute e f pos) env) Q E s:=
 Attribute_any_ h (by rw[arm_eval_Attribute,hb])
end
noncomputable def M0 (K:aV) (ta:TE) (f:aj):TE:=fun σ H Q=>ta σ H fun x H1=>∃a C dx fs v,x=.ref a/\H1 a=aa (.ins C dx fs)/\Cls K C/\kF K C f/\fs.lookup f=aa v/\Q v H1
noncomputable def HF (K:aV) (ta tv:TE) (f:aj):TS:=fun D σ H=>tv σ H fun y H1=>ta σ H1 fun x H2=>∃a C dx fs,x=.ref a/\H2 a=aa (.ins C dx fs)/\Cls K C/\kF K C f/\fs.length<1000 /\
 D.nx σ (upd H2 a (.ins C dx (fB f y fs)))
variable {value:Expr} {tpos apos:ff} {tv:TE}
section
variable {o:Expr} {f:aj}
theorem tF (he:PE X e ta) (hb:i9 e f X.env (eval e X.env)=eval e X.env):PE X (.Attribute e f pos) (M0 X.K ta f):=by intro pins s σ H Q I h;refine Hn hb (thn (he pins s σ H _ I h) fun u s1 ⟨x,H1,I1,rx,a,C,dx,fs,v,ex,ea,c,n,l,q⟩=>?_);subst ex;obtain rfl:u=ce a:=rx;exact Ou I1 ea c n l fun u' s2 I2 ru=>⟨v,H1,I2,ru,q⟩
theorem pr (ha:PE X o ta) (hv:PE X value tv) (hs:eG value (aa (.Attribute o f pos')) pos.line X.env=bq av):PS X (.Assign [.Attribute o f pos'] value pos) (HF X.K ta tv f):=by intro pins s σ H D I h;refine plainObj_wpAny_Assign_Attribute (thn (hv pins s σ H _ I h) fun u s1 ⟨y,H1,I1,ry,q⟩=>thn (ha pins s1 σ H1 _ I1 q) fun ov s2 ⟨x,H2,I2,rx,a,C,dx,fs,ex,ea,c,n,l,q2⟩=>?_) hs;subst ex;obtain rfl:ov=ce a:=rx;exact LP I2 ea c n l ry fun s3 I3=>⟨σ,_,I3,q2⟩
theorem RK {args:ac Expr} (he:PE X e te) (I:Inv X pins σ H s)
  (h:te σ H fun x H1=>∃a C dx fs g,x=.ref a/\H1 a=aa (.ins C dx fs)/\Cls X.K C/\Meth X.K C m g/\fs.lookup m=af /\
   ∀s1,Inv X pins σ H1 s1->aF (aO X.prog X.w) X.A (oE pos (.ref g) [.ref a] (cj pos (aR args X.env)) (iB pos (iC [] X.env))) Q X.xe s1)
  (ht:eval (.Call (.Attribute e m apos) args [] pos) X.env=(do
   let ov ←eval e X.env
   mV apos.atName
   let (f,first) ←iz [ov] (mX ov m pl)
   oE pos f first (cj pos (aR args X.env)) (iB pos (iC [] X.env)))) :
  aF (aO X.prog X.w) X.A (eval (.Call (.Attribute e m apos) args [] pos) X.env) Q X.xe s:=by
 refine Ep (pl:=pl) (thn (he pins s σ H _ I h) fun u s1 ⟨x,H1,I1,rx,a,C,dx,fs,g,ex,ea,c,k,l,q⟩=>?_) ht;subst ex;obtain rfl:u=ce a:=rx;exact xf I1 ea c k l (q s1 I1)
end
section
variable {c:ax} {b:aT}
inductive TyOf (K:aV) (H:Hp):V->ax->Prop where
 |non:TyOf K H .non (.type "NoneType")
 |bl (x:aT):TyOf K H (.bl x) (.type "bool")
 |int (i:aq):TyOf K H (.int i) (.type "int")
 |str (x:aj):TyOf K H (.str x) (.type "str")
 |flt (x:UInt64):TyOf K H (.flt x) (.type "float")
 |lst {a:aw} {xs:ac V} (e:H a=aa (.lst xs)):TyOf K H (.ref a) (.type "list")
 |frz {a:aw} {o:Obj} {xs:ac V} (e:H a=aa (.frz o (.lst xs))):TyOf K H (.ref a) (.type "list")
 |tup {a:aw} {xs:ac V} (e:H a=aa (.tup xs)):TyOf K H (.ref a) (.type "tuple")
 |dK {a:aw} {kvs:ac (Key×V)} (e:H a=aa (.dK kvs)):TyOf K H (.ref a) (.type "dict")
 |dT {a:aw} {kvs:ac (ac Key×V)} (e:H a=aa (.dT kvs)):TyOf K H (.ref a) (.type "dict")
 |ins {a C dx:aw} {fs:ac (aj×V)} (e:H a=aa (.ins C dx fs)) (cl:Cls K C) (ha:cA K (.ref C) "__class__"=aa (aa (.builtin "object.__class__")))
   (hn:PySem.W.specialIn K (.builtin "object.__class__") "__get__"=aa (aa (.builtin "getset_descriptor.__get__"))) (htk:PySem.W.takesIn K (.builtin "object.__class__")=aa ak)
   (hm:PySem.W.mroIn K C (.type "object")=aa ak):TyOf K H (.ref a) (.ref C)
theorem Nn {x:V} {t:ax} (I:Inv X pins σ H s) (rx:bD x u) (ty:TyOf X.K H x t) (e:PM X.K t c=aa b) (h:∀tk,Q (.bool b) {s with toks:=tk}) :
  aF (aO X.prog X.w) A (call (.builtin "isinstance") [u,c]) Q E s:=by
 cases ty with
 |non=>cases(show u=lq from rx);exact jO PySem.W.kitx_none I.kIn jN e (fun z=>nomatch z) h
 |bl y=>cases(show u=lr y from rx);exact jO PySem.W.kitx_bool I.kIn jN e (fun z=>nomatch z) h
 |int i=>obtain⟨t,q⟩:=(show ∃t,u=ui i t from rx);cases q;exact jO PySem.W.kitx_int I.kIn jN e (fun z=>nomatch z) h
 |str y=>obtain⟨t,q⟩:=(show ∃t,u=uj y t from rx);cases q;exact jO PySem.W.kitx_str I.kIn jN e (fun z=>nomatch z) h
 |flt y=>obtain⟨t,q⟩:=(show ∃t,u=Ee y t from rx);cases q;exact jO PySem.W.kitx_float I.kIn jN e (fun z=>nomatch z) h
 | @lst a xs ea=>
  cases(show u=ce a from rx);obtain⟨_,_,n,_,h1⟩:=(show cI X.prog X.w H s.heap a (.lst xs) from I.hok a _ ea);exact jO PN I.kIn ⟨_,h1,rfl⟩ e (fun z=>nomatch z) h
 | @frz a ob xs ea=>
  cases(show u=ce a from rx);obtain⟨_,_,_,n,_,h1⟩:=(show cI X.prog X.w H s.heap a (.frz ob (.lst xs)) from I.hok a _ ea);exact jO PN I.kIn ⟨_,h1,rfl⟩ e (fun z=>nomatch z) h
 | @tup a xs ea=>
  cases(show u=ce a from rx);obtain⟨_,_,_,p⟩:=(show cI X.prog X.w H s.heap a (.tup xs) from I.hok a _ ea);obtain⟨o,h1,h2,_⟩:=p;exact jO PySem.W.kitx_tuple I.kIn ⟨o,h1,h2⟩ e (fun z=>nomatch z) h
 | @dK a kvs ea=>
  cases(show u=ce a from rx);obtain⟨_,_,vs,_,p⟩:=(show cI X.prog X.w H s.heap a (.dK kvs) from I.hok a _ ea);obtain⟨o,es,ep,h1,h2,_⟩:=p;exact jO PP I.kIn ⟨o,h1,h2.1⟩ e (fun z=>nomatch z) h
 | @dT a kvs ea=>
  cases(show u=ce a from rx);obtain⟨_,_,xs,_,o,es,ep,h1,h2,_⟩:=(show cI X.prog X.w H s.heap a (.dT kvs) from I.hok a _ ea);exact jO PP I.kIn ⟨o,h1,h2.1⟩ e (fun z=>nomatch z) h
 | @ins a C dx fs ea cl ha hn htk hm=>
  cases(show u=ce a from rx);obtain⟨mA,O,_⟩:=tZ I.hok ea;obtain⟨od,J,_⟩:=O.look;exact jO (PySem.W.kitx_own (cl.get _) cl.hd ha hn htk hm) I.kIn J e (fun z=>nomatch z) h
end
structure Room (k:ao) (A:dB):Prop where
 hd:A.handled=af
 dp:A.depth+3*k+5<recursionLimit
 un:A.units+16*k+200<cB
theorem Room.mono {k:ao} (r:Room k A) (h:j<=k):Room j A:=⟨r.hd,by have:=r.dp;omega,by have:=r.un;omega⟩
theorem Room.deeper {k:ao} (r:Room (k+1) A) (env:cZ):Room k (A.deeper env):=
 ⟨r.hd,by have:=r.dp;show A.depth+1+3*k+5 < _;omega,by have:=r.un;show A.units+3+16*k+200 < _;omega⟩
theorem Iu {us:ac ax} :(A.under (.builtin "type.__call__" ⟨.ref C::us,kw⟩)).depth=A.depth+1:=by
 first|rfl|simp[Er,Code.weight,Code.isCreation,Code.isGuard,Code.isCaller,PQ,Et,guardIds]
theorem LQ {us:ac ax} :(A.under (.builtin "type.__call__" ⟨.ref C::us,kw⟩)).units=A.units+1:=by
 first|rfl|simp[Er,Code.cUnits,PQ,Et]
theorem Room.make {k:ao} (r:Room (k+1) A) (C:aw) (us:ac ax) (kw:ac (aj×ax)):Room k (A.under (.builtin "type.__call__" ⟨.ref C::us,kw⟩)):=
 ⟨r.hd,by have:=r.dp;rw[Iu];omega,by have:=r.un;rw[LQ];omega⟩
theorem Room.depth {k:ao} (r:Room k A):A.depth<recursionLimit:=by have:=r.dp;omega
noncomputable def zt:TA:=fun _ H Q=>Q [] H
noncomputable def Il (ta:TE) (tr:TA):TA:=fun σ H Q=>ta σ H fun x H1=>tr σ H1 fun xs H2=>Q (x::xs) H2
section
variable {t:TA}
theorem lR:PA X [] zt:=fun _ _ _ _ H Q I h=>Eu ⟨[],H,I,.nil,h⟩
theorem kB (ha:PE X e te) (hr:PA X es t) (hs:aR (e::es) X.env=(av,eval e X.env)::aR es X.env:=by rfl):PA X (e::es) (Il te t):=by intro pos pins s σ H Q I h;rw[hs];show aF _ _ (spliced ((av,eval e X.env)::cj pos (aR es X.env))) _ _ s;refine yg (thn (ha pins s σ H _ I h) fun u s1 ⟨x,H1,I1,r1,q1⟩=>?_);exact thn (hr pos pins s1 σ H1 _ I1 q1) fun us s2 ⟨xs,H2,I2,r2,q2⟩=>⟨x::xs,H2,I2,.cons r1 r2,q2⟩
noncomputable def Ma (t:TA):TE:=fun σ H Q=>t σ H fun xs H1=>xs.length<=aN/\∀p,H1 p=af->Q (.ref p) (upd H1 p (.tup xs))
noncomputable def NR (t:TA):TE:=fun σ H Q=>t σ H fun xs H1=>xs.length<=aN/\∀p,H1 p=af->Q (.ref p) (upd H1 p (.lst xs))
theorem JQ {x1} (h:PA X es t):PE X (.Tuple es x1 pos) (Ma t):=by intro pins s σ H Q I hq;refine wpAny_Tuple_spliced (thn (h pos pins s σ H _ I hq) fun us s1 ⟨xs,H1,I1,r,z,q⟩=>⟨by rw[←r.length];exact z,?_⟩);have hf:H1 s1.heap.objs.size=af:=I1.hok.fresh (qx _);refine⟨.ref s1.heap.objs.size,upd H1 s1.heap.objs.size (.tup xs),I1.laid (t':=s1.toks) (fun b u e=>qv _ e) (qx _) ?_,rfl,q _ hf⟩;exact⟨z,us,r,⟨_,qH _ rfl,rfl,_,rfl⟩⟩
theorem Pc (h:PA X es t):PE X (.List es pos) (NR t):=by intro pins s σ H Q I hq;refine wpAny_List_spliced (thn (h pos pins s σ H _ I hq) fun us s1 ⟨xs,H1,I1,r,z,q⟩=>⟨by rw[←r.length];exact z,?_⟩);have hf:H1 s1.heap.objs.size=af:=I1.hok.fresh (qx _);refine⟨.ref s1.heap.objs.size,upd H1 s1.heap.objs.size (.lst xs),I1.laid (t':=s1.toks) (fun b u e=>qv _ e) (qx _) ?_,rfl,q _ hf⟩;exact⟨z,us,0,r,qH _ rfl⟩
end
noncomputable abbrev Sp:=ac V->Hp->VK->XK->Prop
noncomputable abbrev CXT:=ac cZ->Hp->aI->XK->ax->aI->Prop
structure Env0 (P:eE) (w:df) (K:aV) (mg:aj->au ax) (base:Heap) (A:dB) (outer:ac cZ) (s:aI) (H:Hp):Prop where
 frames:A.frames=aa outer
 mod:Mod K mg base
 bs:∀b o,base.get? b=aa o->s.heap.get? b=aa o/\H b=af
 bsz:base.objs.size<=s.heap.objs.size
 funs:s.heap.FunFrames base outer
 frf:∀b∈frs outer,H b=af
 hok:HOk P w H s.heap
 bare:kr s.gens
noncomputable def CE (outer:ac cZ) (P:eE) (w:df) (H:Hp) (s:aI) (Q:VK) (u:ax) (s':aI):Prop:=
 ∃v H',s'.os=s.os/\kr s'.gens/\Un (frs outer) [] H H' s.heap s'.heap/\HOk P w H' s'.heap/\bD v u/\Q v H'
noncomputable def CR (CX:CXT) (outer:ac cZ) (P:eE) (w:df) (H:Hp) (s:aI) (Q:VK) (E:XK) (r:lz) (s':aI):Prop:=
 match r with
 |.ok (.ret u)=>CE outer P w H s Q u s'
 |.ok _=>False
 |.error e=>CX outer H s E e s'
structure FnOk (P:eE) (w:df) (K:aV) (mg:aj->au ax) (base:Heap) (CX:CXT) (k:ao) (f:aw) (fd:lB) (ps:ac aj) (sp:Sp):Prop where
 len:∀vs H Q E,sp vs H Q E->vs.length=ps.length
 run:∀(A:dB) (outer:ac cZ) (s:aI) (H:Hp) (args:Args) (us:ac ax) (vs:ac V) (Q:VK) (E:XK),Room k A->Env0 P w K mg base A outer s H->qZ s fd args (ps.zip us)->bu vs us->sp vs H Q E->
  gL (aO P w) A (.call (.ref f) args) (CR CX outer P w H s Q E) s
variable {mg:aj->au ax} {base:Heap} {CX:CXT} {fd:lB} {ps:ac aj} {sp:Sp}
theorem FnOk.imp {k:ao} {f:aw} {sp':Sp} (F:FnOk P w K mg base CX k f fd ps sp)
  (h:∀vs H Q E,sp' vs H Q E->sp vs H Q E):FnOk P w K mg base CX k f fd ps sp':=
 ⟨fun vs H Q E q=>F.len vs H Q E (h _ _ _ _ q),fun A outer s H args us vs Q E hr he hb hv hs=>F.run A outer s H args us vs Q E hr he hb hv (h _ _ _ _ hs)⟩
variable {outer:ac cZ}
theorem Env0.make (e:Env0 P w K mg base A outer s H) (C:aw) (us:ac ax) (kw:ac (aj×ax)) :
  Env0 P w K mg base (A.under (.builtin "type.__call__" ⟨.ref C::us,kw⟩)) outer s H:=⟨by first|exact e.frames|(simpa[Er,Code.envs,Et,pushEnvs] using e.frames),e.mod,e.bs,e.bsz,e.funs,e.frf,e.hok,e.bare⟩
theorem Inv.env0 (I:Inv X pins σ H s):Env0 X.prog X.w X.K X.mg X.base X.A X.stack s H:=
 ⟨I.ok.frames,I.ok.mod,I.bs,qN I.ok.bsz I.sz,I.stack,I.stkFree,I.hok,I.bare⟩
theorem Inv.after {Q:VK} (I:Inv X pins σ H s) (h:CE X.stack X.prog X.w H s Q u s'):EP X pins σ Q u s':=by obtain⟨v,H',os,bare,un,hok,r,q⟩:=h;obtain⟨hh,g,d,t,os'⟩:=s';obtain rfl:os'=s.os:=os;exact⟨v,H',I.call (h':=hh) (g':=g) (d':=d) (t':=t) (ch:=[]) un hok bare (fun b z=>bJ z (by simp)),r,q⟩
noncomputable def HA (sp:Sp) (dvs:ac V) (E:XK) (t:TA):TE:=fun σ H Q=>t σ H fun vs H1=>sp (vs++dvs) H1 Q E
noncomputable def Ai (C:aw) (m:aj) (sp:Sp) (dvs:ac V) (E:XK) (ta:TE) (t:TA):TE:=fun σ H Q=>ta σ H fun x H1=>∃a dx fs,x=.ref a/\H1 a=aa (.ins C dx fs)/\fs.lookup m=af /\
 t σ H1 fun vs H2=>sp (x::(vs++dvs)) H2 Q E
noncomputable def Ju (C:aw) (sp:Sp) (dvs:ac V) (E:XK) (t:TA):TE:=fun σ H Q=>t σ H fun vs H1=>∀x dx,H1 x=af->H1 dx=af->dx≠x->
 sp (.ref x::(vs++dvs)) (upd (upd H1 dx (.own x)) x (.ins C dx [])) (fun v H2=>v=.non/\Q (.ref x) H2) E
noncomputable def fP (K:aV) (fd:lB) (ps:ac aj) (ds:ac ax):Prop:=
 ∀(s:aI) (us:ac ax),K.In s.heap->(us++ds).length=ps.length->qZ s fd ⟨us,[]⟩ (ps.zip (us++ds))
theorem fP.all (h:∀us:ac ax,us.length=ps.length->hG fd ⟨us,[]⟩=bq (ps.zip us)):fP K fd ps []:=fun s us _ hl=>by rw[gM] at hl ⊢;exact .of_eq (h us hl)
noncomputable def mM (CX:CXT) (X:Cx) (E:XK):Prop:=∀(pins:ac (aw×Obj)) (σ:St) (H:Hp) (s:aI) (e:ax) (s':aI),Inv X pins σ H s->CX X.stack H s E e s'->X.xe e s'
variable {dvs vs:ac V}
section
variable {k:ao} {f:aw} {ds:ac ax} {E:XK} {o:Expr} {t:TA}
theorem vA {Q:VK} {us:ac ax} (F:FnOk X.prog X.w X.K X.mg X.base CX k f fd ps sp) (hr:Room k X.A) (hb:fP X.K fd ps ds) (hd:bu dvs ds) (hx:mM CX X E)
  (I:Inv X pins σ H s) (r:bu vs us) (h:sp (vs++dvs) H Q E):aF (aO X.prog X.w) X.A (call (.ref f) us) (EP X pins σ Q) X.xe s:=by
 have r2:bu (vs++dvs) (us++ds):=r.append hd;have hl:(us++ds).length=ps.length:=by rw[←r2.length];exact F.len _ _ _ _ h
 refine yh (rf (F.run X.A X.stack s H ⟨us,[]⟩ (us++ds) (vs++dvs) Q E hr I.env0 (hb s us I.kIn hl) r2 h) fun r s' hq=>?_);cases r with
 |error e=>exact hx pins σ H s e s' I hq
 |ok fl=>
  cases fl with
  |ret u=>exact I.after hq
  |next=>exact iA hq
  |brk=>exact iA hq
  |cont=>exact iA hq
theorem zw (F:FnOk X.prog X.w X.K X.mg X.base CX k f fd ps sp) (hr:Room k X.A) (hg:Gl X x) (hm:X.mg x=aa (.ref f)) (hk:gf X.K (.ref f)=ak) (hb:fP X.K fd ps ds) (hd:bu dvs ds) (hx:mM CX X E)
  (ha:PA X (e::es) t) (hdb:(x==("__debug__":aj))=av:=by decide) (he:aR (e::es) X.env=(av,eval e X.env)::aR es X.env:=by rfl) (hpl:(cj pos (aR es X.env)).any (·.1)=av:=by rfl) :
  PE X (.Call (.Name x p) (e::es) [] pos) (HA sp dvs E t):=by
 intro pins s σ H Q I h;refine uv (wR I hg hm ?_ hdb);refine Ev (h₀:=X.base) I.ok.mod.kin hk (thn (ha pos pins s σ H _ I h) fun us s1 ⟨vs,H1,I1,r,q⟩=>⟨I1.kIn,?_⟩) he hpl;exact vA F hr hb hd hx I1 r q
theorem Dj (he:PE X o ta) (c:Cls X.K C) (hm:Meth X.K C m f) (F:FnOk X.prog X.w X.K X.mg X.base CX k f fd ps sp) (hr:Room k X.A) (hb:fP X.K fd ps ds) (hd:bu dvs ds) (hx:mM CX X E) (ha:PA X (e::es) t)
  (hst:aR (e::es) X.env=(av,eval e X.env)::aR es X.env:=by rfl) (hpl:(cj pos (aR es X.env)).any (·.1)=av:=by rfl)
  (ht:eval (.Call (.Attribute o m apos) (e::es) [] pos) X.env=(do
   let ov ←eval o X.env
   mV apos.atName
   let (f,first) ←iz [ov] (mX ov m pl)
   oE pos f first (cj pos (aR (e::es) X.env)) (iB pos (iC [] X.env))):=by rfl) :
  PE X (.Call (.Attribute o m apos) (e::es) [] pos) (Ai C m sp dvs E ta t):=by
 intro pins s σ H Q I h;refine Ep (pl:=pl) (thn (he pins s σ H _ I h) fun u s1 ⟨x,H1,I1,rx,a,dx,fs,ex,ea,l,q⟩=>?_) ht;subst ex;obtain rfl:u=ce a:=rx;refine xf I1 ea c hm l ?_;refine Ev (first:=[.ref a]) (h₀:=X.base) I.ok.mod.kin hm.kp (thn (ha pos pins s1 σ H1 _ I1 q) fun us s2 ⟨vs,H2,I2,r,q2⟩=>⟨I2.kIn,?_⟩) hst hpl;exact vA (us:=.ref a::us) (vs:=.ref a::vs) F hr hb hd hx I2 (.cons rfl r) q2
theorem FM (he:PE X o ta) (c:Cls X.K C) (hm:Meth X.K C m f) (F:FnOk X.prog X.w X.K X.mg X.base CX k f fd ps sp) (hr:Room k X.A) (hb:fP X.K fd ps ds) (hd:bu dvs ds) (hx:mM CX X E)
  (ht:eval (.Call (.Attribute o m apos) [] [] pos) X.env=(do
   let ov ←eval o X.env
   mV apos.atName
   let (f,first) ←iz [ov] (mX ov m pl)
   oE pos f first (cj pos (aR [] X.env)) (iB pos (iC [] X.env))):=by rfl) :
  PE X (.Call (.Attribute o m apos) [] [] pos) (Ai C m sp dvs E ta zt):=by
 intro pins s σ H Q I h;refine Ep (pl:=pl) (thn (he pins s σ H _ I h) fun u s1 ⟨x,H1,I1,rx,a,dx,fs,ex,ea,l,q⟩=>?_) ht;subst ex;obtain rfl:u=ce a:=rx;refine xf I1 ea c hm l ?_;exact PySem.W.callWith_K0 (first:=[.ref a]) I1.kIn hm.kp (vA (us:=[.ref a]) (vs:=[.ref a]) F hr hb hd hx I1 (.cons rfl .nil) q)
structure Mk (K:aV) (C f:aw):Prop where
 makes:p9 K C=ak
 init:cA K (.ref C) "__init__"=aa (aa (.ref f))
 fn:oC K (.ref f)=ak
 kp:gf K (.ref C)=ak
theorem MT {Q:VK} {us:ac ax} (M:Mk X.K C f) (F:FnOk X.prog X.w X.K X.mg X.base CX k f fd ps sp) (hr:Room (k+1) X.A) (hb:fP X.K fd ps ds) (hd:bu dvs ds)
  (hx:mM CX X E) (I:Inv X pins σ H s) (r:bu vs us)
  (h:∀x dx,H x=af->H dx=af->dx≠x->sp (.ref x::(vs++dvs)) (upd (upd H dx (.own x)) x (.ins C dx [])) (fun v H2=>v=.non/\Q (.ref x) H2) E) :
  aF (aO X.prog X.w) X.A (call (.ref C) us) (EP X pins σ Q) X.xe s:=by
 have hq:=h (s.heap.objs.size+1) s.heap.objs.size (I.hok.fresh (uw _)) (I.hok.fresh (qx _)) (qD (uu _));have I2:=Inv.made (C:=C) I;have r2:bu (V.ref (s.heap.objs.size+1)::(vs++dvs)) (ce (s.heap.objs.size+1)::(us++ds)):=.cons rfl (r.append hd);have hl:(ce (s.heap.objs.size+1)::us++ds).length=ps.length:=by have e:=r2.length;rw[F.len _ _ _ _ hq] at e;exact e.symm
 refine yh (HB (f:=f) I.kIn M.makes M.init (ly.mp M.fn) (rf (F.run _ X.stack _ _ ⟨ce (s.heap.objs.size+1)::us,[]⟩ (ce (s.heap.objs.size+1)::(us++ds)) _ _ E (hr.make C us [])
  (I2.env0.make C us []) (hb _ (ce (s.heap.objs.size+1)::us) I2.kIn hl) r2 hq) fun r s' hq'=>?_))
 cases r with
 |error e=>exact hx pins σ _ _ e s' I2 hq'
 |ok fl=>
  cases fl with
  |ret u=>
   obtain⟨v,H',I3,rv,ev,q3⟩:=I2.after hq';subst ev;exact⟨rv,⟨V.ref (s.heap.objs.size+1),H',I3,rfl,q3⟩⟩
  |next=>exact iA hq'
  |brk=>exact iA hq'
  |cont=>exact iA hq'
theorem xY (M:Mk X.K C f) (F:FnOk X.prog X.w X.K X.mg X.base CX k f fd ps sp) (hr:Room (k+1) X.A) (hg:Gl X x) (hm:X.mg x=aa (.ref C)) (hb:fP X.K fd ps ds) (hd:bu dvs ds) (hx:mM CX X E)
  (ha:PA X (e::es) t) (hdb:(x==("__debug__":aj))=av:=by decide) (he:aR (e::es) X.env=(av,eval e X.env)::aR es X.env:=by rfl) (hpl:(cj pos (aR es X.env)).any (·.1)=av:=by rfl) :
  PE X (.Call (.Name x p) (e::es) [] pos) (Ju C sp dvs E t):=by
 intro pins s σ H Q I h;refine uv (wR I hg hm ?_ hdb);refine Ev (h₀:=X.base) I.ok.mod.kin M.kp (thn (ha pos pins s σ H _ I h) fun us s1 ⟨vs,H1,I1,r,q⟩=>⟨I1.kIn,?_⟩) he hpl;exact MT M F hr hb hd hx I1 r q
end
structure FnScope (N P:ac aj) (sc:Scope):Prop where
 kind:sc.kind=.function
 co:sc.isCoroutine=av
 gen:sc.isGenerator=av
 nd:N.Nodup
 pre:N.take P.length=P
 par:∀x∈P,sc.names.lookup x=aa .local\/sc.names.lookup x=aa .cell
 nofree:∀y∈sc.names,y.2≠.free
theorem BQ {kindOf:aj->au hU} {x:aj}:∀{binds:ac (aj×ax)} {m:aj->au ax},(∀v,(x,v)∉binds)->lC kindOf binds m x=m x
 |[],_,_=>rfl
 |(n,v)::r,m,h=>by
  unfold lC;rw[BQ fun w hw=>h w (qh _ hw)];split
  .have:x≠n:=by rintro rfl;exact h v qg
   simp[this]
  .rfl
theorem Co {kindOf:aj->au hU} {x:aj}:∀{binds:ac (aj×ax)} {m:aj->au ax},(∀v,(x,v)∉binds)->lD kindOf binds m x=m x
 |[],_,_=>rfl
 |(n,v)::r,m,h=>by
  unfold lD;rw[Co fun w hw=>h w (qh _ hw)];split
  .rfl
  .have:x≠n:=by rintro rfl;exact h v qg
   simp[this]
theorem Bf {kindOf:aj->au hU} {x:aj} {v:ax}:∀{P:ac aj} {vs:ac ax} {i:ao} {m:aj->au ax},P.Nodup->P[i]?=aa x->vs[i]?=aa v->kindOf x=aa .local->
  lC kindOf (P.zip vs) m x=aa v
 |[],_,_,_,_,h,_,_=>by simp at h
 |_::_,[],_,_,_,_,h,_=>by simp at h
 |p::P,w::vs,0,m,nd,h1,h2,hk=>by
  simp at h1 h2;subst h1;subst h2;show lC kindOf ((p,w)::P.zip vs) m p=_;unfold lC;rw[BQ fun v hv=>(eJ.mp nd).1 (Ew hv).1,qX hk];simp
 |p::P,w::vs,i+1,m,nd,h1,h2,hk=>by show lC kindOf ((p,w)::P.zip vs) m x=_;unfold lC;exact Bf (i:=i) (eJ.mp nd).2 (by simpa using h1) (by simpa using h2) hk
theorem CI {kindOf:aj->au hU} {x:aj} {v:ax}:∀{P:ac aj} {vs:ac ax} {i:ao} {m:aj->au ax},P.Nodup->P[i]?=aa x->vs[i]?=aa v->kindOf x≠aa .local->
  lD kindOf (P.zip vs) m x=aa v
 |[],_,_,_,_,h,_,_=>by simp at h
 |_::_,[],_,_,_,_,h,_=>by simp at h
 |p::P,w::vs,0,m,nd,h1,h2,hk=>by
  simp at h1 h2;subst h1;subst h2;show lD kindOf ((p,w)::P.zip vs) m p=_;unfold lD;rw[Co fun v hv=>(eJ.mp nd).1 (Ew hv).1,qY hk];simp
 |p::P,w::vs,i+1,m,nd,h1,h2,hk=>by show lD kindOf ((p,w)::P.zip vs) m x=_;unfold lD;exact CI (i:=i) (eJ.mp nd).2 (by simpa using h1) (by simpa using h2) hk
noncomputable def dR (N:ac aj) (vs:ac V):St:=vs.map aa++bT (N.length-vs.length) af
noncomputable def e7 (CX:CXT) (P:eE) (w:df) (K:aV) (mg:aj->au ax) (base:Heap) (N:ac aj) (qual:aj) (scope:Scope) (f:aw) (cd:ax) (A:dB) (outer:ac cZ) (s:aI) (H:Hp) (E:XK):Cx where
 prog:=P
 w:=w
 K:=K
 mg:=mg
 base:=base
 A:=A.deeper (dO qual scope s.heap.objs.size f cd)
 N:=N
 s₀:=s
 H₀:=H
 env:=dO qual scope s.heap.objs.size f cd
 outer:=outer
 stack:=dO qual scope s.heap.objs.size f cd::outer
 ex:=[]
 calm:=ak
 fn:=fun _=>ak
 pn:=[]
 xe:=fun e s'=>aF (aO P w) (A.deeper (dO qual scope s.heap.objs.size f cd)) (leaving (dO qual scope s.heap.objs.size f cd) e) (fun _ s''=>CX outer H s E e s'') (fun e' s''=>CX outer H s E e' s'') s'
variable {sc:Scope}
theorem DF (h:sc.names.lookup x=aa .cell):∃c,(yi n sc.names []).lookup x=aa c:=by have q:=PR sc.names n [] (.inl h);exact oF.mp q
variable {qual:aj} {scope:Scope} {cd:ax}
theorem M7 {f:aw} {s1:aI} {E:XK} {us:ac ax} 
  (S:FnScope N ps scope) (hd:A.handled=af) (e0:Env0 P w K mg base A outer s H) (hl:vs.length=ps.length) (r:bu vs us)
  (x:InCallC s s.heap.objs.size (lC (dO qual scope s.heap.objs.size f cd).kindOf (ps.zip us) fun _=>af) (yi (s.heap.objs.size+1) scope.names []) (lD (dO qual scope s.heap.objs.size f cd).kindOf (ps.zip us) fun _=>af) s1) :
  Inv (e7 CX P w K mg base N qual scope f cd A outer s H E) [] (dR N vs) H s1:=by
 have hpl:ps.length<=N.length:=by have:=cw dU S.pre;rw[qF] at this;omega
 obtain⟨h1,tk,rfl,hk⟩:=x.done;have noA:∀b:aw,b∉(e7 CX P w K mg base N qual scope f cd A outer s H E).ex:=fun b z=>bJ (show b∈([]:ac aw) from z) (by simp);refine⟨⟨e0.mod,S.kind,rfl,rfl,qx _,fun y z c h1 h2=>?_,fun y hy=>?_,fun y c _ h=>?_,fun _=>hd,Around.frames_deeper e0.frames,.inr ⟨rfl,rfl⟩,fun b z=>bJ z (noA b),e0.bs,e0.bsz,fun b _ _=>noA b,fun b z=>bJ z (noA b),e0.funs,e0.frf⟩,
  rfl,e0.bare,Un.kept hk,⟨_,x.toInCall.ns,fun i y v h1 h2 h3=>?_⟩,fun y c h=>⟨_,x.cell y c h⟩,e0.hok.fresh (qx _),fun y c h=>?_,fun p hp=>bJ (show p∈([]:ac (aw×Obj)) from hp) (by simp),e0.hok.kept hk,?_⟩
 .exact name_of_addr x.apart (mZ h1) (mZ h2)
 .have hy:scope.names.lookup y=aa .cell\/scope.names.lookup y=aa .free:=hy;rcases hy with hy|hy
  .exact DF hy
  .exact bJ rfl (S.nofree _ (mZ hy))
 .exact pY (x.above y c (mZ h))
 .have hi:i<vs.length:=by
   unfold dR at h2;by_cases hi:i<vs.length
   .exact hi
   .rw[qL (by simpa using hi)] at h2;rw[ux] at h2;split at h2<;>cases h2
  have ha:vs[i]?=aa v:=by
   unfold dR at h2;rw[qA (by simpa using hi),qk] at h2;cases e:vs[i]? with
   |none=>rw[e] at h2;cases h2
   |some a=>rw[e] at h2;cases h2;rfl
  obtain⟨u,hu,rv⟩:=r.get ha;have hp:ps[i]?=aa y:=by rw[←S.pre,yj .(c)];exact h1
  have ndP:ps.Nodup:=by rw[←S.pre];exact S.nd.sublist (lE _ _)
  refine⟨u,rv,?_⟩;rcases S.par y (qQ hp) with k|k
  .exact .inl ⟨k,Bf ndP hp hu k⟩
  .obtain⟨c,e⟩:=DF (n:=s.heap.objs.size+1) k;refine .inr ⟨.inl k,c,e,?_⟩;have q:=x.cell y c e;rw[CI ndP hp hu (by show scope.names.lookup y≠_;rw[k];decide)] at q;exact q
 .exact e0.hok.fresh (pY (x.above y c (mZ h)))
 .unfold dR;show _=N.length;rw[qj,qf,List.length_replicate];omega
variable {doc pm cdv ct oc:ax} {an od:au aw} {osl:bR (au ax)}
theorem Bt {k:ao} {f:aw} {params:Arguments} {dV kV:ax} 
  (lk:K.lookup f=aa ⟨oc,od,.func (eS name qual params body scope dV kV doc pm an cdv ct),osl⟩) (hcd:m4 K cdv qual=ak) (S:FnScope N ps scope)
  (len:∀vs H Q E,sp vs H Q E->vs.length=ps.length)
  (hbody:∀(A:dB) (outer:ac cZ) (s:aI) (H:Hp) (vs:ac V) (Q:VK) (E:XK),Room k (A.deeper (dO qual scope s.heap.objs.size f cdv))->sp vs H Q E->
   ∃t,PSs (e7 CX P w K mg base N qual scope f cdv A outer s H E) body t/\t {nx:=fun _ H'=>Q .non H',rt:=Q} (dR N vs) H) :
  FnOk P w K mg base CX (k+1) f (eS name qual params body scope dV kV doc pm an cdv ct) ps sp:=by
 refine⟨len,fun A outer s H args us vs Q E hr e0 hb r hsp=>?_⟩;have hl:=len _ _ _ _ hsp;have KX:K.In s.heap:=e0.mod.kin.keeps fun b o e=>(e0.bs b o e).1;have lim:s.heap.NoLimit:=e0.mod.nolimit.keeps fun b o e=>(e0.bs b o e).1;have hkind:∀y∈ps.zip us,scope.names.lookup y.1=aa .local\/(scope.names.lookup y.1=aa .cell/\((yi (s.heap.objs.size+1) scope.names []).lookup y.1).isSome=ak):=fun⟨n,v⟩ hy=>by
  rcases S.par n (Ew hy).1 with q|q
  .exact .inl q
  .exact .inr ⟨q,PR _ _ _ (.inl q)⟩
 refine codeAny_call_function hr.depth (KX _ _ lk) rfl S.co S.gen rfl (PySem.W.codeRec_of KX hcd) (hb _ _ _ _ ?_);refine wpAny_newFunctionEnv_cells S.kind hkind fun env he s1 x=>?_;subst he;refine⟨lim.keeps x.toInCall.keep,codeAny_func ?_⟩;obtain⟨t,ht,hq⟩:=hbody A outer s H vs Q E (hr.deeper _) hsp;have I:Inv (e7 CX P w K mg base N qual scope f cdv A outer s H E) [] (dR N vs) H s1:=M7 S hr.hd e0 hl r x;refine gZ (ht [] s1 (dR N vs) H _ I hq) (fun fl s' hs=>?_) fun e s' hs=>hs;have fin:∀{σ':St} {H':Hp} {v:V} {u:ax},Inv (e7 CX P w K mg base N qual scope f cdv A outer s H E) [] σ' H' s'->bD v u->Q v H'->CE outer P w H s Q u s':=
  fun {σ' H' v u} J rv q=>⟨v,H',J.os,J.bare,J.base,J.hok,rv,q⟩
 cases fl with
 |ret u=>
  obtain⟨v,σ',H',J,rv,q⟩:=hs;exact fin J rv q
 |next=>
  obtain⟨σ',H',J,q⟩:=hs;exact fin (v:=V.non) (u:=lq) J rfl q
 |brk=>
  obtain⟨_,_,_,q⟩:=hs;exact iA q
 |cont=>
  obtain⟨_,_,_,q⟩:=hs;exact iA q
variable {T:dz}
section
variable {t:TA} {id:dz} {r:ac V->Hp->VK->Prop}
noncomputable def tCB (r:ac V->Hp->VK->Prop) (t:TA):TE:=fun σ H Q=>t σ H fun vs H1=>r vs H1 Q
theorem Cm (hc:gu X (.builtin id) r) (hg:Gl X x) (hm:X.mg x=af) (hv:lv x=aa (.builtin id)) (ha:PA X (e::es) t) (hn:x≠"__name__":=by decide) (hdb:(x==("__debug__":aj))=av:=by decide)
  (he:aR (e::es) X.env=(av,eval e X.env)::aR es X.env:=by rfl) (hpl:(cj pos (aR es X.env)).any (·.1)=av:=by rfl):PE X (.Call (.Name x p) (e::es) [] pos) (tCB r t):=by
 intro pins s σ H Q I h;refine uv (lQ I hg hm hv ?_ hn hdb);exact Sd (thn (ha pos pins s σ H _ I h) fun us s1 ⟨vs,H1,I1,r1,q1⟩=>hc pins s1 σ H1 vs us Q I1 r1 q1) he hpl
theorem Cy (hc:gu X (.type T) r) (hg:Gl X x) (hm:X.mg x=af) (hv:lv x=aa (.type T)) (ha:PA X (e::es) t) (hn:x≠"__name__":=by decide) (hdb:(x==("__debug__":aj))=av:=by decide)
  (he:aR (e::es) X.env=(av,eval e X.env)::aR es X.env:=by rfl) (hpl:(cj pos (aR es X.env)).any (·.1)=av:=by rfl):PE X (.Call (.Name x p) (e::es) [] pos) (tCB r t):=by
 intro pins s σ H Q I h;refine uv (lQ I hg hm hv ?_ hn hdb);exact yc (thn (ha pos pins s σ H _ I h) fun us s1 ⟨vs,H1,I1,r1,q1⟩=>hc pins s1 σ H1 vs us Q I1 r1 q1) he hpl
end
variable {sl:aw} {vl vu:ax} {hi:au aq} {items:bR ax}
namespace HT
theorem cat_tup {t b:aw} {vs ws:ac ax} (ht:uk s.heap t vs.toArray) (hb:uk s.heap b ws.toArray) (hv:vs≠[])
  (h1:ws=[]->Q (.ref t) s) (h2:ws≠[]->Q (.ref s.heap.objs.size) {s with heap:=s.heap.push {cls:=.type "tuple",data:=.seq (vs++ws).toArray} })
  (hsz:vs.length+ws.length<=aN):aF (aO prog w) A (gK .Add (.ref t) (.ref b)) Q E s:=by
 obtain⟨⟨cls,dd,data,sl⟩,ho,hc,n,hd⟩:=id ht;obtain⟨⟨cls2,dd2,data2,sl2⟩,ho2,hc2,n2,hd2⟩:=id hb;simp only at hc hd hc2 hd2;subst hc hd hc2 hd2;have e:vs.toArray++ws.toArray=(vs++ws).toArray:=by simp
 by_cases hw:ws=[]
 .exact concat_meets ⟨_,ho,rfl⟩ ⟨_,ho2,rfl⟩ PU seq_tuple_add PV PX (PY _ _)
   (tuple_addW1 t b vs.toArray ws.toArray n n2 dd dd2 sl sl2 (by simpa using hv) (by simp[hw])) ⟨ho,ho2,h1 hw⟩
 .refine concat_meets ⟨_,ho,rfl⟩ ⟨_,ho2,rfl⟩ PU seq_tuple_add PV PX (PY _ _)
   (tuple_addW2 t b vs.toArray ws.toArray n n2 dd dd2 sl sl2 (by simpa using hv) (by simpa using hw) (by rw[qC,qC];exact hsz)) ⟨ho,ho2,?_⟩
  rw[e];exact h2 hw
noncomputable def sIx (n d:ao):au aq->ao
 |none=>d
 |some v=>if v<0 then (v+(n:aq)).toNat else min v.toNat n
theorem N7 (n d:ao) (hd:d<=n) (o:au aq):sIx n d o<=n:=by
 cases o with
 |none=>exact hd
 |some v=>
  show(if v<0 then (v+(n:aq)).toNat else min v.toNat n)<=n;by_cases hv:v<0
  .rw[qX hv];omega
  .rw[qY hv];exact Ex _ _
theorem zY (v:aq) (n d:ao):(if v<0 then max (v+(n:aq)) 0 else min v (n:aq))=((sIx n d (aa v):ao):aq):=by
 show(if v<0 then max (v+(n:aq)) 0 else min v (n:aq))=(((if v<0 then (v+(n:aq)).toNat else min v.toNat n):ao):aq);by_cases hv:v<0
 .simp only[qX hv];omega
 .simp only[qY hv];omega
theorem M6 (lo hi:au aq) (n:ao):Ey lo hi 1 (n:aq)=(((sIx n 0 lo:ao):aq),((sIx n n hi:ao):aq)):=by
 have h1:¬((1:aq)<0):=by omega
 unfold Ey;simp only[h1,dc];refine Prod.ext ?_ ?_
 .cases lo with
  |none=>rfl
  |some v=>exact zY v n 0
 .cases hi with
  |none=>rfl
  |some v=>exact zY v n n
theorem KN (i j:ao):yk (i:aq) (j:aq) 1=j-i:=by
 unfold yk;have h1:(1:aq) > 0:=by omega
 simp only[h1,c7,Int.ediv_one];split<;>omega
theorem Au {v:ax} {o:au aq} {Q:au aq->aI->Prop} (p:m5 v o) (h:Q o s):aF (aO prog w) A (Se v) Q E s:=by
 cases p with
 |none=>exact PZ h
 |int i t=>exact slicePart_int h
theorem Fy {lo:au aq} {Q:aq×aq×ao->aI->Prop} (hs:s.heap.IsSliceOf sl vl vu .none) (pl:m5 vl lo) (pu:m5 vu hi)
  (h:Q (((sIx n 0 lo:ao):aq),1,sIx n n hi-sIx n 0 lo) s):aF (aO prog w) A (P0 (.ref sl) (bq (n:aq))) Q E s:=by
 obtain⟨os,hos,hcs,hds⟩:=id hs;unfold P0 Sf;refine qy (qy (Ez hos hds (x:=vl) rfl (qy (Ez hos hds (x:=vu) rfl (qy (Ez hos hds (x:=.none) rfl (qB ?_)))))));refine qy (PZ ?_);show aF _ _ (if ((1:aq)==0)=ak then _ else _) _ _ s;rw[qY .(e)];refine qy (Au pl (qy (Au pu (qy (qB ?_)))));show aF _ _ (match Ey lo hi 1 (n:aq) with|(lo,hi)=>bq (lo,(1:aq),yk lo hi 1)) _ _ s;rw[M6 lo hi n];show aF _ _ (bq (((sIx n 0 lo:ao):aq),(1:aq),yk ((sIx n 0 lo:ao):aq) ((sIx n n hi:ao):aq) 1)) _ _ s;rw[KN];exact qB h
theorem J8 (xs:bR ax) (i k:ao):((cQ k).filterMap fun(m:ao)=>xs[((i:aq)+(m:aq)*1).toNat]?).toArray=((xs.toList.drop i).take k).toArray:=by
 have e:(fun(m:ao)=>xs[((i:aq)+(m:aq)*1).toNat]?)=fun m=>xs[i+m]?:=by
  funext m
  have:((i:aq)+(m:aq)*1).toNat=i+m:=by omega
  rw[this]
 rw[e];have:=ym xs i k;rw[List.filterMap_map] at this;have e2:((fun x=>xs[x]?) ∘ fun x=>i+x)=fun m=>xs[i+m]?:=rfl;rw[e2] at this;rw[this]
theorem getItem_tuple_cut {t:aw} {lo:au aq} (ht:uk s.heap t items) (hs:s.heap.IsSliceOf sl vl vu .none) (pl:m5 vl lo) (pu:m5 vu hi)
  (hw:¬(sIx items.size 0 lo=0/\sIx items.size items.size hi=items.size))
  (h:Q (.ref s.heap.objs.size) {s with heap:=s.heap.push {cls:=.type "tuple",data:=.seq ((items.toList.drop (sIx items.size 0 lo)).take (sIx items.size items.size hi-sIx items.size 0 lo)).toArray} })
  (hsz:items.size<=aN):aF (aO prog w) A (m6 (.ref t) (.ref sl)) Q E s:=by
 have htake:sizeOk (.seq ((items.toList.drop (sIx items.size 0 lo)).take (sIx items.size items.size hi-sIx items.size 0 lo)).toArray):=by show((items.toList.drop (sIx items.size 0 lo)).take (sIx items.size items.size hi-sIx items.size 0 lo)).toArray.size<=aN;rw[qC,qF,ku,jL];omega
 have hj:sIx items.size items.size hi<=items.size:=N7 _ _ (qx _) hi;obtain⟨os,hos,hcs,hds⟩:=id hs;have hTs:s.TypeIs (.ref sl) "slice":=⟨os,hos,hcs⟩;unfold m6
 try with_reducible refine qU ?_
 first|refine qy (qB ?_)|skip
 refine qy (wpAny_sequenceKey ht.typeIs .(e) ?_);refine qy (P1 (name:=m8 "__getitem__") ht.typeIs EA
  (EB EA ht.typeIs entry_tuple_getitem ?_ (args_tuple_getitem _ _)))
 show aF _ _ (Sg (.ref t) >>= _) _ _ s;refine qy (tupleItemsOf_ ht ?_);refine qy (uy hTs ?_);rw[qX .(e)];refine qy (Fy hs pl pu ?_);have hno:¬((((sIx items.size 0 lo:ao):aq)==0 && (1:aq)==1 && (sIx items.size items.size hi-sIx items.size 0 lo)==items.size)=ak):=by intro q;rw[fJ,fJ] at q;have q1:((sIx items.size 0 lo:ao):aq)=0:=eq_of_beq q.1.1;have q2:sIx items.size items.size hi-sIx items.size 0 lo=items.size:=eq_of_beq q.2;exact hw ⟨by omega,by omega⟩
 show aF _ _ (if (((sIx items.size 0 lo:ao):aq)==0 && (1:aq)==1 && (sIx items.size items.size hi-sIx items.size 0 lo)==items.size)=ak then _ else _) _ _ s;rw[qY hno,J8]
 first
  |exact qy (m:=yn _) (lF (qB ⟨_,rfl,qB h⟩) htake)
  |exact qy (m:=yn _) (lF (qy (qB (qB ⟨_,rfl,qB h⟩))) htake)
  |exact qy (qy (m:=yn _) (lF (qB (qB ⟨_,rfl,qB h⟩)) htake))
  |exact qy (qy (m:=yn _) (lF (qB ⟨_,rfl,qB h⟩) htake))
end HT
noncomputable abbrev TO:=St->Hp->(au aq->Hp->Prop)->Prop
noncomputable def PO (X:Cx) (e:au Expr) (t:TO):Prop:=
 ∀(pins:ac (aw×Obj)) (s:aI) (σ:St) (H:Hp) (Q:au aq->Hp->Prop),Inv X pins σ H s->t σ H Q->
  aF (aO X.prog X.w) X.A (evalPart e X.env) (fun u s'=>∃o H',Inv X pins σ H' s'/\m5 u o/\Q o H') X.xe s
noncomputable def HZ:TO:=fun _ H Q=>Q af H
noncomputable def Ky (t:TE):TO:=fun σ H Q=>t σ H fun x H1=>∃i,x=.int i/\Q (aa i) H1
variable {p2:ff}
section
variable {lo hi:au Expr} {tl th:TO}
theorem Hu:PO X af HZ:=by intro pins s σ H Q I h;rw[evalPart_none];exact qB ⟨af,H,I,.none,h⟩
theorem L6 (h:PE X e te):PO X (aa e) (Ky te):=by intro pins s σ H Q I hw;rw[evalPart_some];refine thn (h pins s σ H _ I hw) fun u s1 ⟨x,H1,I1,r1,q1⟩=>?_;obtain⟨i,rfl,q⟩:=q1;obtain⟨t,rfl⟩:=r1;exact⟨aa i,H1,I1,.int i t,q⟩
noncomputable def SlR (X:Cx) (r:V->au aq->au aq->Hp->VK->Prop):Prop:=
 ∀(pins:ac (aw×Obj)) (s:aI) (σ:St) (H:Hp) (x:V) (v vl vu:ax) (lo hi:au aq) (sl:aw) (Q:VK),Inv X pins σ H s->bD x v->s.heap.IsSliceOf sl vl vu .none->m5 vl lo->m5 vu hi->r x lo hi H Q->
  ∃T id,yo (.type T) "__getitem__"=bq (aa (.builtin id))/\s.TypeIs v T/\aF (aO X.prog X.w) X.A (m6 v (.ref sl)) (EP X pins σ Q) X.xe s
theorem SlR.or {r r':V->au aq->au aq->Hp->VK->Prop} (h:SlR X r) (h':SlR X r'):SlR X (fun x lo hi H Q=>r x lo hi H Q\/r' x lo hi H Q):=by
 intro pins s σ H x v vl vu lo hi sl Q I rx hs pl pu q;rcases q with q|q
 .exact h pins s σ H x v vl vu lo hi sl Q I rx hs pl pu q
 .exact h' pins s σ H x v vl vu lo hi sl Q I rx hs pl pu q
noncomputable def tSl (r:V->au aq->au aq->Hp->VK->Prop) (te:TE) (tl th:TO):TE:=fun σ H Q=>te σ H fun x H1=>tl σ H1 fun l H2=>th σ H2 fun u H3=>r x l u H3 Q
theorem IF {r:V->au aq->au aq->Hp->VK->Prop} (hr:SlR X r) (he:PE X e te) (hl:PO X lo tl) (hu:PO X hi th):PE X (.Subscript e (.Slice lo hi af p2) pos) (tSl r te tl th):=by intro pins s σ H Q I h;refine yp (thn (he pins s σ H _ I h) fun v s1 ⟨x,H1,I1,r1,q1⟩=>?_);refine wpAny_Slice (thn (hl pins s1 σ H1 _ I1 q1) fun vl s2 ⟨l,H2,I2,pl,q2⟩=>thn (hu pins s2 σ H2 _ I2 q2) fun vu s3 ⟨u,H3,I3,pu,q3⟩=>?_);rw[evalPart_none];refine qB ?_;have I4:Inv X pins σ H3 {s3 with heap:=s3.heap.push {cls:=.type "slice",data:=.fields #[vl,vu,.none]} }:=I3.kept (t':=s3.toks) fun b ob q=>qv _ q;obtain⟨T,id,hT,ht,hg⟩:=hr pins {s3 with heap:=s3.heap.push {cls:=.type "slice",data:=.fields #[vl,vu,.none]} } σ H3 x v vl vu l u s3.heap.objs.size Q I4 r1 (P2 ..) pl pu q3;show aF (aO X.prog X.w) X.A (yq e (.Slice lo hi af p2) v (.ref s3.heap.objs.size)) (EP X pins σ Q) X.xe {s3 with heap:=s3.heap.push {cls:=.type "slice",data:=.fields #[vl,vu,.none]} };exact EC (ops:=[.ref s3.heap.objs.size,v]) ht hT hg (by with_unfolding_all rfl)
noncomputable def kN (xs:ac V) (lo hi:au aq):ac V:=(xs.drop (HT.sIx xs.length 0 lo)).take (HT.sIx xs.length xs.length hi-HT.sIx xs.length 0 lo)
theorem Aq (xs:ac V) (lo hi:au aq):(kN xs lo hi).length<=xs.length:=by unfold kN;rw[qF,ku];omega
noncomputable def JF (K:aV):V->au aq->au aq->Hp->VK->Prop:=fun x lo hi H Q=>∃a xs,x=.ref a/\SqT K H a xs /\
 ¬(HT.sIx xs.length 0 lo=0/\HT.sIx xs.length xs.length hi=xs.length)/\∀p,H p=af->Q (.ref p) (upd H p (.tup (kN xs lo hi)))
theorem Oq:SlR X (JF X.K):=by
 intro pins s σ H x v vl vu lo hi sl Q I rx hs pl pu h;obtain⟨a,xs,rfl,hx,hw,q⟩:=h;cases rx;obtain⟨its,r,ht,hz⟩:=I.tuple hx;have hlen:its.toArray.size=xs.length:=by rw[qC];exact r.length.symm
 refine⟨"tuple",_,EA.lookup,ht.typeIs,?_⟩;refine HT.getItem_tuple_cut ht hs pl pu (by rw[hlen];exact hw) ?_ (by rw[hlen];exact hz);rw[hlen];refine⟨.ref s.heap.objs.size,_,I.laid (t':=s.toks) (o:=.tup (kN xs lo hi)) (fun b ob q=>qv _ q) (qx _) ?_,rfl,q _ (I.hok.fresh (qx _))⟩;exact⟨qN (Aq xs lo hi) hz,_,(r.drop (HT.sIx xs.length 0 lo)).take (HT.sIx xs.length xs.length hi-HT.sIx xs.length 0 lo),ED _ _⟩
noncomputable def Bc (K:aV):R2:=fun x y H Q=>∃a b xs ys,x=.ref a/\y=.ref b/\SqT K H a xs/\SqT K H b ys/\xs≠[]/\xs.length+ys.length<=aN /\
 (ys=[]->Q (.ref a) H)/\(ys≠[]->∀p,H p=af->Q (.ref p) (upd H p (.tup (xs++ys))))
theorem bu.nil_iff {xs:ac V} {us:ac ax} (r:bu xs us):us=[]↔xs=[]:=by
 cases r with
 |nil=>simp
 |cons _ _=>simp
theorem GU:OpR X (gK .Add) (Bc X.K):=by intro pins s σ H x y v u Q I rx ry h;obtain⟨a,b,xs,ys,rfl,rfl,ha,hb,hx,hz,q1,q2⟩:=h;cases rx;cases ry;obtain⟨its,r1,p1,_⟩:=I.tuple ha;obtain⟨its2,r2,p2,_⟩:=I.tuple hb;refine HT.cat_tup p1 p2 (fun z=>hx (r1.nil_iff.mp z)) (fun z=>⟨.ref a,H,I,rfl,q1 (r2.nil_iff.mp z)⟩) (fun z=>?_) (by rw[←r1.length,←r2.length];exact hz);refine⟨.ref s.heap.objs.size,_,I.laid (t':=s.toks) (o:=.tup (xs++ys)) (fun b ob q=>qv _ q) (qx _) ?_,rfl,q2 (fun w=>z (r2.nil_iff.mpr w)) _ (I.hok.fresh (qx _))⟩;exact⟨by rw[qj];exact hz,_,r1.append r2,ED _ _⟩
end
noncomputable def ixN (n:ao) (i:aq):au ao:=if 0<=i then (if i<n then aa i.toNat else af) else if -(n:aq)<=i then aa (i+n).toNat else af
noncomputable def atI (xs:ac α) (i:aq):au α:=(ixN xs.length i).bind fun j=>xs[j]?
theorem LB {i:aq} (h:ixN n i=aa j):seqIndex? i n=aa j/\j<n /\ -(n:aq)<=i/\i<n:=by
 unfold ixN at h;by_cases h0:0<=i
 .rw[qX h0] at h;by_cases h1:i<n
  .rw[qX h1] at h;have e:i.toNat=j:=qI h;exact⟨by rw[seqIndex_of h0 h1,e],by omega,by omega,h1⟩
  .rw[qY h1] at h;cases h
 .rw[qY h0] at h;by_cases h1 : -(n:aq)<=i
  .rw[qX h1] at h;have e:(i+n).toNat=j:=qI h;exact⟨by rw[seqIndex_neg .(c) h1,e],by omega,h1,by omega⟩
  .rw[qY h1] at h;cases h
theorem xN {xs:ac α} {i:aq} {v:α} (h:atI xs i=aa v):∃j,seqIndex? i xs.length=aa j/\xs[j]?=aa v/\j<xs.length /\ -(xs.length:aq)<=i/\i<xs.length:=by
 unfold atI at h;cases e:ixN xs.length i with
 |none=>rw[e] at h;cases h
 |some j=>
  rw[e] at h;obtain⟨h1,h2,h3,h4⟩:=LB e;exact⟨j,h1,h,h2,h3,h4⟩
theorem jz {xs:ac α} {v:α} (h:xs[j]?=aa v):atI xs (j:aq)=aa v:=by
 have hj:j<xs.length:=(eB.mp h).1;have e:ixN xs.length (j:aq)=aa j:=by unfold ixN;rw[qX .(c),qX .(c)];simp
 unfold atI;rw[e];exact h
noncomputable def Cr (b:Expr):Prop:=∀o i,yr b av o i=operate [o,i] (m6 o i)
noncomputable def IxR (X:Cx) (r:R2):Prop:=
 ∀(value slice:Expr) (pins:ac (aw×Obj)) (s:aI) (σ:St) (H:Hp) (x y:V) (v u:ax) (Q:VK),Inv X pins σ H s->bD x v->bD y u->r x y H Q->
  yr slice av v u=operate [v,u] (m6 v u)->aF (aO X.prog X.w) X.A (yq value slice v u) (EP X pins σ Q) X.xe s
noncomputable def MtR (X:Cx) (id:dz) (r:V->ac V->Hp->VK->Prop):Prop:=
 ∀(pins:ac (aw×Obj)) (s:aI) (σ:St) (H:Hp) (x:V) (xs:ac V) (v:ax) (us:ac ax) (Q:VK),Inv X pins σ H s->bD x v->bu xs us->r x xs H Q->
  aF (aO X.prog X.w) X.A (call (.builtin id) (v::us)) (EP X pins σ Q) X.xe s
variable {cpos:ff}
section
variable {a:Expr}
theorem IxR.or {r:R2} (h:IxR X r) (h':IxR X r'):IxR X (fun x y H Q=>r x y H Q\/r' x y H Q):=by
 intro value slice pins s σ H x y v u Q I rx ry q hs;rcases q with q|q
 .exact h value slice pins s σ H x y v u Q I rx ry q hs
 .exact h' value slice pins s σ H x y v u Q I rx ry q hs
theorem Kl {r:R2} (hr:IxR X r) (ha:PE X a ta) (hb:PE X b tb) (hs:Cr b):PE X (.Subscript a b pos) (tOp r ta tb):=by intro pins s σ H Q I h;exact yp (wI ha hb I h fun v u s2 x y H2 I2 rx ry q=>hr a b pins s2 σ H2 x y v u Q I2 rx ry q (hs _ _))
noncomputable def zk (K:aV):R2:=fun x y H Q=>∃p xs i v,x=.ref p/\y=.int i/\SqL K H p xs/\atI xs i=aa v/\Q v H
noncomputable def Bd (K:aV):R2:=fun x y H Q=>∃p xs i v,x=.ref p/\y=.int i/\SqT K H p xs/\atI xs i=aa v/\Q v H
noncomputable def Dc:R2:=fun x y H Q=>∃z i c,x=.str z/\y=.int i/\z.length<=aN/\atI z.cps.toList i=aa c/\Q (.str ⟨#[c]⟩) H
theorem MH:IxR X (zk X.K):=by
 intro value slice pins s σ H x y v u Q I rx ry h hs;obtain⟨p,xs,i,z,rfl,rfl,hq,he,q⟩:=h;cases rx;obtain⟨t,rfl⟩:=ry;obtain⟨its,r,pl,hz⟩:=I.list hq;obtain⟨j,h1,h2,h3,h4,h5⟩:=xN he;obtain⟨w,ew,rw'⟩:=r.get h2;have hl:=r.length;have hn:=sG;have fin:EP X pins σ Q w s:=⟨z,H,I,rw',q⟩;by_cases h0:0<=i
 .have hj:i.toNat=j:=by rw[seqIndex_of h0 h5] at h1;exact qI h1
  exact item_listR pl.isList h0 .(c) (by rw[hj];simpa using ew) fin hs
 .have hj:(i+(its.toArray.size:aq)).toNat=j:=by rw[seqIndex_neg .(c) h4] at h1;rw[qC,←hl];exact qI h1
  exact P3 (x:=w) pl.isList.typeIs EE.lookup
   (wpAny_getItem_list_neg (Q:=fun r s'=>r=w/\EP X pins σ Q r s') pl.isList .(c) (by rw[qC]<;>omega) .(c) (by rw[hj];simpa using ew) ⟨rfl,fin⟩) hs
theorem Lz:IxR X (Bd X.K):=by
 intro value slice pins s σ H x y v u Q I rx ry h hs;obtain⟨p,xs,i,z,rfl,rfl,hq,he,q⟩:=h;cases rx;obtain⟨t,rfl⟩:=ry;obtain⟨its,r,pl,hz⟩:=I.tuple hq;obtain⟨j,h1,h2,h3,h4,h5⟩:=xN he;obtain⟨w,ew,rw'⟩:=r.get h2;have hl:=r.length;have hn:=sG;have fin:EP X pins σ Q w s:=⟨z,H,I,rw',q⟩;exact P3 (x:=w) pl.typeIs slot_tuple_getitem.lookup
  (getItem_tuple (j:=j) (Q:=fun r s'=>r=w/\EP X pins σ Q r s') pl .(c) .(c) (by rw[qC,←hl];exact h1) (by simpa using ew) ⟨rfl,fin⟩) hs
theorem Lc:IxR X Dc:=by
 intro value slice pins s σ H x y v u Q I rx ry h hs;obtain⟨z,i,c,rfl,rfl,hz,he,q⟩:=h;obtain⟨t,rfl⟩:=rx;obtain⟨t',rfl⟩:=ry;obtain⟨j,h1,h2,h3,h4,h5⟩:=xN he;have hl:z.cps.toList.length=z.length:=by simp[rg]
 rw[hl] at h1 h4 h5;have hn:=sG;exact EC (EF s z t) slot_str_getitem.lookup (getItem_str (c:=c) (by have e1:decide (i < -(2 ^ 63:aq))=av:=qO .(c);have e2:decide (i ≥ 2 ^ 63)=av:=qO .(c);rw[e1,e2,Bool.or_false]) (by rw[h1];simpa using h2) ⟨.str ⟨#[c]⟩,H,I.tok _,⟨_,rfl⟩,q⟩) hs
noncomputable def rIx (K:aV):R2:=fun x y H Q=>zk K x y H Q\/Bd K x y H Q\/Dc x y H Q
theorem KZ:IxR X (rIx X.K):=MH.or (Lz.or Lc)
theorem Fx (lo hi:au aq) (n:ao):(oG lo hi af n).1=((HT.sIx n 0 lo:ao):aq)/\(oG lo hi af n).2.1=((HT.sIx n n hi:ao):aq)/\(oG lo hi af n).2.2=1:=by
 refine⟨?_,?_,rfl⟩
 .cases lo with
  |none=>simp[oG,HT.sIx]
  |some i=>
   simp only[oG,HT.sIx,P4,show(1:aq) > 0 by decide,c7];by_cases h:i<0
   .simp only[h,c7]<;>omega
   .simp only[h,dc]<;>omega
 .cases hi with
  |none=>simp[oG,HT.sIx]
  |some i=>
   simp only[oG,HT.sIx,P4,show(1:aq) > 0 by decide,c7];by_cases h:i<0
   .simp only[h,c7]<;>omega
   .simp only[h,dc]<;>omega
theorem OD (its:ac ax) (lo hi:au aq):slicePick its.toArray lo hi af=((its.drop (HT.sIx its.length 0 lo)).take (HT.sIx its.length its.length hi-HT.sIx its.length 0 lo)).toArray:=by obtain⟨h1,h2,h3⟩:=Fx lo hi its.toArray.size;unfold slicePick;rw[h1,h2,h3];simp only[P5,ym,qC]<;>rfl
noncomputable def Hr (K:aV):V->au aq->au aq->Hp->VK->Prop:=fun x lo hi H Q=>∃a xs,x=.ref a/\SqL K H a xs/\∀p,H p=af->Q (.ref p) (upd H p (.lst (kN xs lo hi)))
theorem Lb:SlR X (Hr X.K):=by intro pins s σ H x v vl vu lo hi sl Q I rx hs pl pu h;obtain⟨a,xs,rfl,hx,q⟩:=h;cases rx;obtain⟨its,r,ht,hz⟩:=I.list hx;have hlen:=r.length;refine⟨"list",_,EE.lookup,ht.isList.typeIs,?_⟩;refine P6 ht.isList hs pl pu .none (by simp) ?_ (by rw[qC]<;>omega);rw[OD,←hlen];refine⟨.ref s.heap.objs.size,_,I.laid (t':=s.toks) (o:=.lst (kN xs lo hi)) (fun b ob q=>qv _ q) (qx _) ?_,rfl,q _ (I.hok.fresh (qx _))⟩;exact⟨qN (Aq xs lo hi) hz,_,0,(r.drop (HT.sIx xs.length 0 lo)).take (HT.sIx xs.length xs.length hi-HT.sIx xs.length 0 lo),qH _ rfl⟩
theorem GX:gu X (.type "tuple") (fun xs H Q=>∃p ys,xs=[.ref p]/\((SqL X.K H p ys/\∀l,H l=af->Q (.ref l) (upd H l (.tup ys)))\/(SqT X.K H p ys/\Q (.ref p) H))):=by
 intro pins s σ H xs us Q I r h;obtain⟨p,ys,rfl,h⟩:=h;obtain⟨u,rfl,rx⟩:=ij r;cases rx;rcases h with⟨hq,q⟩|⟨hq,q⟩
 .obtain⟨its,r',pl,hz⟩:=I.list hq;have hlen:=r'.length;refine call_tuple_list pl.isList (fun h' kp=>?_) (by simp only[qC]<;>omega);have I1:Inv X pins σ H {s with heap:=h'}:=I.kept (t':=s.toks) kp;have I2:Inv X pins σ (upd H h'.objs.size (.tup ys)) {s with heap:=h'.push {cls:=.type "tuple",data:=.seq its.toArray} } :=
   I1.laid (t':=s.toks) (fun b o e=>qv _ e) (qx _) (show cI X.prog X.w _ _ _ (.tup ys) from⟨hz,its,r',ED _ _⟩)
  exact⟨.ref h'.objs.size,_,I2,rfl,q _ (I1.hok.fresh (qx _))⟩
 .obtain⟨its,r',pl,hz⟩:=I.tuple hq;exact call_tuple_same pl ⟨.ref p,H,I,rfl,q⟩
noncomputable def tyV (K:aV) (T:dz) (x:V) (H:Hp):Prop:=match x with
 |.str _=>T="str"
 |.int _=>T="int"
 |.ref p=>(T="list"/\∃xs,SqL K H p xs)\/(T="tuple"/\∃o,K.lookup p=aa o/\o.cls=.type "tuple"/\o.dict=af) \/
   (T="dict"/\((∃kvs,H p=aa (.dK kvs))\/∃kvs,H p=aa (.dT kvs)))\/(T="set"/\∃S n,H p=aa (.set S n))
 |_=>False
theorem Gy {x:V} {v:ax} (I:Inv X pins σ H s) (r:bD x v) (ty:tyV X.K T x H) :
  s.TypeIs v T/\∀a,v=.ref a->∃ob,s.heap.get? a=aa ob/\ob.dict=af:=by
 cases x with
 |str z=>
  obtain⟨t,rfl⟩:=r;cases(show T="str" from ty);exact⟨EF s z t,fun _ e=>nomatch e⟩
 |int i=>
  obtain⟨t,rfl⟩:=r;cases(show T="int" from ty);exact⟨EG s i t,fun _ e=>nomatch e⟩
 |ref p=>
  cases r;rcases ty with⟨rfl,xs,hq⟩|⟨rfl,o,hk,hc,hd⟩|⟨rfl,hk⟩|⟨rfl,S,n,hk⟩
  .obtain⟨its,_,pl,_⟩:=I.list hq;refine⟨pl.isList.typeIs,fun a e=>?_⟩;cases e;obtain⟨o,n,e,c,hd,_⟩:=pl;exact⟨o,e,hd⟩
  .refine⟨⟨o,I.kIn p o hk,hc⟩,fun a e=>?_⟩;cases e;exact⟨o,I.kIn _ o hk,hd⟩
  .have z:∃o,s.heap.get? p=aa o/\o.ExactDict:=by
    rcases hk with⟨kvs,hk⟩|⟨kvs,hk⟩
    .obtain⟨_,_,_,_,o,_,_,e,ex,_⟩:=I.hok p _ hk;exact⟨o,e,ex⟩
    .obtain⟨_,_,_,_,o,_,_,e,ex,_⟩:=I.hok p _ hk;exact⟨o,e,ex⟩
   obtain⟨o,e,ex⟩:=z;refine⟨⟨o,e,ex.1⟩,fun a e2=>?_⟩;cases e2;exact⟨o,e,ex.2.1⟩
  .obtain⟨o,_,_,_,e,ex,_⟩:=I.hok p _ hk;refine⟨⟨o,e,ex.1⟩,fun a e2=>?_⟩;cases e2;exact⟨o,e,ex.2.1⟩
 |_=>exact iA ty
noncomputable def tBM (K:aV) (T:dz) (r:V->ac V->Hp->VK->Prop) (to:TE) (t:TA):TE:=fun σ H Q=>to σ H fun x H1=>tyV K T x H1/\t σ H1 fun xs H2=>r x xs H2 Q
variable {o:Expr} {to:TE} {t:TA} {id:dz} {r:V->ac V->Hp->VK->Prop}
theorem vZ (pa:PlainAttrs T) (slot:Slot T name id) (hty:typeOf (.builtin id)=bq (.type "method_descriptor")) (hm:MtR X id r) (ho:PE X o to) (ha:PA X (e::es) t)
  (hbase:i9 o name X.env (eval o X.env)=eval o X.env:=by rfl)
  (hfew:((cj cpos (aR (e::es) X.env)).all (fun x=>!x.1) && (iB cpos (iC [] X.env)).all (fun x=>x.1.isSome)
   && decide ((e::es).length+([]:ac ja).length+(if ([]:ac ja).isEmpty then 0 else 1)<30))=ak:=by rfl)
  (hline:(apos.endLine==cpos.line)=ak:=by rfl) (hs:aR (e::es) X.env=(av,eval e X.env)::aR es X.env:=by rfl) (hplain:(cj cpos (aR es X.env)).any (·.1)=av:=by rfl) :
  PE X (.Call (.Attribute o name apos) (e::es) [] cpos) (tBM X.K T r to t):=by
 intro pins s σ H Q I h;refine wpAny_Call_method_late hbase hfew hline rfl (thn (ho pins s σ H _ I h) fun v s1 ⟨x,H1,I1,r1,ty,q1⟩=>?_);obtain⟨h1,h2⟩:=Gy I1 r1 ty;refine⟨T,id,pa,slot,hty,h1,h2,?_⟩;have hA:=ha cpos pins s1 σ H1 _ I1 q1;rw[hs] at hA ⊢;refine EH (by show(av || (cj cpos (aR es X.env)).any (·.1))=av;rw[hplain]<;>rfl) (EI ?_);exact thn hA fun us s2 ⟨vs,H2,I2,r2,q2⟩=>hm pins s2 σ H2 x vs v us Q I2 r1 r2 q2
end
noncomputable def MtM (X:Cx) (id:dz) (r:V->ac V->Hp->VK->Prop):Prop:=
 ∀(pins:ac (aw×Obj)) (s:aI) (σ:St) (H:Hp) (x:V) (xs:ac V) (v:ax) (us:ac ax) (Q:VK),Inv X pins σ H s->bD x v->bu xs us->r x xs H Q->
  aF (aO X.prog X.w) X.A (call (.builtin id) (v::us)) (EP X pins σ Q) X.xe s
theorem bu.one:∀{x:V} {us:ac ax},bu [x] us->∃u,us=[u]/\bD x u
 |_,_,.cons r .nil=>⟨_,rfl,r⟩
theorem bu.reverse {xs:ac V} {us:ac ax} (h:bu xs us):bu xs.reverse us.reverse:=by
 induction h with
 |nil=>exact .nil
 |cons r t ih=>rw[yt,yt];exact bu.append ih (.cons r .nil)
theorem bu.rep {xs:ac V} {us:ac ax} (h:bu xs us):∀k:ao,bu (bT k xs).flatten (bT k us).flatten
 |0=>.nil
 |k+1=>by rw[lG,lG,oH,oH];exact bu.append h (bu.rep h k)
theorem AL (its:ac ax):∀(k:ao) (acc:ac ax),
  EJ (fun x1 x2=>x1++x2) acc.toArray (bT k its.toArray)=(acc++(bT k its).flatten).toArray
 |0,acc=>by simp
 |k+1,acc=>by
  have e:acc.toArray++its.toArray=(acc++its).toArray:=by simp
  have e2:(acc++its)++(bT k its).flatten=acc++(bT (k+1) its).flatten:=by rw[lG,oH,lH]
  rw[←e2,←AL its k (acc++its),←e,lG,gw]
variable {l:aw} {its:ac ax}
section
variable {b:aw} {xs zs:ac V}
theorem Inv.lset {its':ac ax} {f:bR ax->bR ax} (I:Inv X pins σ H s) (hH:H l=aa (.lst xs))
  (e:s.heap.get? l=aa {cls:=.type "list",data:=.seq its.toArray n}) (hf:f its.toArray=its'.toArray) (hv:bu ys its') (hz:ys.length<=aN) :
  Inv X pins σ (upd H l (.lst ys)) {s with heap:=s.heap.update l (P7 f),toks:=t'}:=by
 have q:=PySem.IsL.update e f;rw[hf] at q;refine I.write (x:=l) (e:=l) (by rw[hH];exact trivial) (.inl rfl) (fun b' u hb hu=>(rh s.heap (P7 f) (dM hb)).trans hu) ⟨_,q⟩ ?_;exact⟨hz,its',_,hv,q⟩
theorem Inv.lnew (I:Inv X pins σ H s) (hv:bu ys its) (hz:ys.length<=aN) :
  Inv X pins σ (upd H s.heap.objs.size (.lst ys)) {s with heap:=s.heap.push {cls:=.type "list",data:=.seq its.toArray},toks:=t'} :=
 I.laid (fun _ _ q=>qv _ q) (qx _) ⟨hz,its,0,hv,qH _ rfl⟩
theorem Inv.fresh (I:Inv X pins σ H s):H s.heap.objs.size=af:=I.hok.fresh (qx _)
theorem Inv.lstM (I:Inv X pins σ H s) (hH:H l=aa (.lst xs)):xs.length<=aN/\∃(its:ac ax) (n:ao),bu xs its/\xs.length=its.length/\s.heap.get? l=aa {cls:=.type "list",data:=.seq its.toArray n}:=by obtain⟨z,its,n,r,e⟩:=I.hok l _ hH;exact⟨z,its,n,r,r.length,e⟩
theorem Bb (h:n<=aN):yu n=av:=by unfold yu;exact qO .(c)
end
noncomputable def MA:V->ac V->Hp->VK->Prop:=fun x vs H Q=>∃l xs y,x=.ref l/\vs=[y]/\H l=aa (.lst xs)/\xs.length<aN/\Q .non (upd H l (.lst (xs++[y])))
theorem BG:MtM X "list.append" MA:=by intro pins s σ H x vs v us Q I rx rv h;obtain⟨l,xs,y,rfl,rfl,hH,hz,q⟩:=h;cases rx;obtain⟨u,rfl,ru⟩:=rv.one;obtain⟨z,its,n,r,hl,e⟩:=I.lstM hH;refine yv P8 ⟨_,e,rfl⟩ F.entry_list_append (F.args_list_append_2 _ _) (PySem.list_append l its.toArray n u (by rw[qC];omega)) ⟨e,?_⟩;refine⟨.non,_,I.lset (its':=its++[u]) hH e (by simp) (r.append (.cons ru .nil)) ?_,rfl,q⟩;rw[qj,oI];omega
noncomputable def NV:V->ac V->Hp->VK->Prop:=fun x vs H Q=>∃l b xs zs,x=.ref l/\vs=[.ref b]/\H l=aa (.lst xs)/\H b=aa (.lst zs)/\xs.length+zs.length<=aN/\Q .non (upd H l (.lst (xs++zs)))
theorem LM:MtM X "list.extend" NV:=by
 intro pins s σ H x vs v us Q I rx rv h;obtain⟨l,b,xs,zs,rfl,rfl,hH,hB,hz,q⟩:=h;cases rx;obtain⟨u,rfl,ru⟩:=rv.one;cases ru;obtain⟨z,its,n,r,hl,e⟩:=I.lstM hH;obtain⟨z2,its2,n2,r2,hl2,e2⟩:=I.lstM hB;have hsz:its.toArray.size+its2.toArray.size<=aN:=by rw[qC,qC];omega
 have hlong:¬(!its.toArray.isEmpty && yu (its.toArray.size+its2.toArray.size))=ak:=by rw[Bb hsz,P9];exact qu
 refine yv P' ⟨_,e,rfl⟩ F.entry_list_extend (F.args_list_extend_2 _ _)
  (AutoSeq1.list_extend_list_list_0 l its.toArray n b its2.toArray n2 hlong (by rw[qC];omega) .(c)) ⟨e,e2,?_⟩
 refine⟨.non,_,I.lset (its':=its++its2) hH e (by simp) (r.append r2) ?_,rfl,q⟩;rw[qj];omega
noncomputable def wM:R2:=fun x y H Q=>∃l b xs zs,x=.ref l/\y=.ref b/\H l=aa (.lst xs)/\H b=aa (.lst zs)/\xs.length+zs.length<=aN/\∀p,H p=af->Q (.ref p) (upd H p (.lst (xs++zs)))
theorem MU:OpR X (gK .Add) wM:=by
 intro pins s σ H x y v u Q I rx ry h;obtain⟨l,b,xs,zs,rfl,rfl,hH,hB,hz,q⟩:=h;cases rx;cases ry;obtain⟨z,its,n,r,hl,e⟩:=I.lstM hH;obtain⟨z2,its2,n2,r2,hl2,e2⟩:=I.lstM hB;refine PySem.P.add_list e e2 ?_ (by rw[qC,qC];omega);have ea:its.toArray++its2.toArray=(its++its2).toArray:=by simp
 rw[ea];exact⟨.ref _,_,I.lnew (t':=s.toks) (r.append r2) (by rw[qj];omega),rfl,q _ I.fresh⟩
noncomputable def DU:R2:=fun x y H Q=>∃l k xs,x=.ref l/\y=.int k/\H l=aa (.lst xs) /\ -(2 ^ 63)<=k/\k<2 ^ 63/\xs.length*k.toNat<=aN /\
 ∀p,H p=af->Q (.ref p) (upd H p (.lst (bT k.toNat xs).flatten))
theorem DX (xs:ac α) (k:ao):(bT k xs).flatten.length=k*xs.length:=by
 induction k with
 |zero=>simp
 |succ k ih=>rw[lG,oH,qj,ih,oJ,Nat.add_comm]
theorem Gk:OpR X (gK .Mult) DU:=by
 intro pins s σ H x y v u Q I rx ry h;obtain⟨l,k,xs,rfl,rfl,hH,h1,h2,hz,q⟩:=h;cases rx;obtain⟨t,rfl⟩:=ry;obtain⟨z,its,n,r,hl,e⟩:=I.lstM hH;have hlen:its.toArray.size*k.toNat<=aN:=by rw[qC,←hl];exact hz
 have hcap:¬its.toArray.size*k.toNat > (2 ^ 63-1) / 8:=by
  have:(aN:ao)<=(2 ^ 63-1) / 8:=by decide
  omega
 have hfit:¬(!Sh k)=ak:=by rw[fitsIndex_both h1 h2];exact qu
 have hlong:¬yu (its.toArray.size*k.toNat)=ak:=by rw[Bb hlen];exact qu
 have hnew:EJ (fun x1 x2=>x1++x2) #[] (bT (if its.toArray.isEmpty=ak then 0 else k.toNat) its.toArray)=(bT k.toNat its).flatten.toArray:=by
  have f0:∀m:ao,EJ (fun x1 x2=>x1++x2) #[] (bT m its.toArray)=(bT m its).flatten.toArray:=fun m=>by have:=AL its m [];rw[qS] at this;exact this
  rw[f0];cases its with
  |nil=>simp
  |cons a r'=>rw[qY (by simp)]
 refine wpAny_binaryOp_repeat_ref (T:="list") (U:="int") .(e) ⟨_,e,rfl⟩ (fun s'=>EG s' k t) noFill_list_mul F.fills_int_mul Qa repeat_list F.slot_int_index.lookup
  (yv Qa (EG s k t) F.entry_int_rmul (F.args_int_rmul_2 _ _) (int___rmul___int_list k t l its.toArray n)
   ⟨e,rfl,⟨_,e,rfl⟩,yv F.slot_list_mul ⟨_,e,rfl⟩ F.entry_list_mul (F.args_list_mul_2 _ _) (AutoListH.list___mul___list_int_3 l its.toArray n k t hfit hcap hlong) ⟨e,?_⟩⟩)
 rw[hnew];exact⟨.ref _,_,I.lnew (t':=s.toks) (r.rep k.toNat) (by rw[DX,Qb];exact hz),rfl,q _ I.fresh⟩
section
variable [eN κ]
noncomputable def gE (kvs:ac (κ×V)) (k:κ):au V:=(kvs.find? fun kv=>decide (kv.1=k)).map (·.2)
noncomputable def putK (kvs:ac (κ×V)) (k:κ) (v:V):ac (κ×V):=
 if (kvs.any fun kv=>decide (kv.1=k))=ak then kvs.map (fun kv=>if kv.1=k then (kv.1,v) else kv) else kvs++[(k,v)]
theorem t9 {p:κ×V} {r:ac (κ×V)} {k:κ} (e:p.1=k):gE (p::r) k=aa p.2:=by simp[gE,fg,e]
theorem rV {p:κ×V} {r:ac (κ×V)} {k:κ} (e:¬p.1=k):gE (p::r) k=gE r k:=by simp[gE,fg,e]
theorem BF (k:κ):∀kvs:ac (κ×V),(kvs.any fun kv=>decide (kv.1=k))=(gE kvs k).isSome
 |[]=>rfl
 |p::r=>by
  rw[jP];by_cases e:p.1=k
  .simp only[t9 e,qT e,Bool.true_or,Option.isSome_some]
  .rw[rV e,qO e,EK];exact BF k r
theorem Aw (kvs:ac (κ×V)) (k:κ) (v:V):(putK kvs k v).length<=kvs.length+1:=by
 unfold putK;split
 .rw[qf];omega
 .rw[qj,qi,qm];omega
theorem fA.isSome_eq {o:au V} {u:au ax} (r:fA o u):o.isSome=u.isSome:=by
 cases o with
 |none=>cases u with
  |none=>rfl
  |some _=>exact(show False from r).elim
 |some _=>cases u with
  |none=>exact(show False from r).elim
  |some _=>rfl
theorem fA.getD {o:au V} {u:au ax} {d:V} {d':ax} (r:fA o u) (rd:bD d d'):bD (o.getD d) (u.getD d'):=by
 cases o with
 |none=>cases u with
  |none=>exact rd
  |some _=>exact(show False from r).elim
 |some _=>cases u with
  |none=>exact(show False from r).elim
  |some _=>exact r
theorem KV.val {kvs:ac (κ×V)} {vs:ac (κ×ax)} (r:KV kvs vs) (k:κ):fA (gE kvs k) (oK vs k):=by
 unfold KV at r
 induction r with
 |nil=>exact jN
 | @cons p q ps qs h t ih=>
  obtain⟨h1,h2⟩:=h;by_cases e:p.1=k
  .have e':q.1=k:=h1.symm.trans e;have b:oK (q::qs) k=aa q.2:=by simp[oK,fg,e']
   rw[t9 e,b];exact h2
  .have e':¬q.1=k:=fun z=>e (h1.trans z);have b:oK (q::qs) k=oK qs k:=by simp[oK,fg,e']
   rw[rV e,b];exact ih
theorem KV.any {kvs:ac (κ×V)} {vs:ac (κ×ax)} (r:KV kvs vs) (k:κ):(kvs.any fun kv=>decide (kv.1=k))=vs.any fun kv=>decide (kv.1=k):=by
 unfold KV at r
 induction r with
 |nil=>rfl
 |cons h t ih=>rw[jP,jP,ih,h.1]
theorem KV.repl {kvs:ac (κ×V)} {vs:ac (κ×ax)} (r:KV kvs vs) (k:κ) (ry:bD y u) :
  KV (kvs.map fun kv=>if kv.1=k then (kv.1,y) else kv) (vs.map fun kv=>if kv.1=k then (kv.1,u) else kv):=by
 unfold KV at r ⊢
 induction r with
 |nil=>exact .nil
 | @cons p q ps qs h t ih=>
  rw[qo,qo];refine .cons ?_ ih;obtain⟨h1,h2⟩:=h;by_cases e:p.1=k
  .rw[qX e,qX (h1.symm.trans e)];exact⟨h1,ry⟩
  .rw[qY e,qY (fun z=>e (h1.trans z))];exact⟨h1,h2⟩
theorem KV.put {kvs:ac (κ×V)} {vs:ac (κ×ax)} (r:KV kvs vs) (k:κ) (ry:bD y u):KV (putK kvs k y) (stored vs k u):=by
 unfold putK stored;rw[r.any k];by_cases e:(vs.any fun kv=>decide (kv.1=k))=ak
 .rw[qX e,qX e];exact r.repl k ry
 .rw[qY e,qY e];exact Paired.snoc r ⟨rfl,ry⟩
theorem KV.keys {kvs:ac (κ×V)} {vs:ac (κ×ax)} (r:KV kvs vs):kvs.map (·.1)=vs.map (·.1):=by
 unfold KV at r
 induction r with
 |nil=>rfl
 |cons h t ih=>rw[qo,qo,ih,h.1]
theorem KV.length {kvs:ac (κ×V)} {vs:ac (κ×ax)} (r:KV kvs vs):kvs.length=vs.length:=Paired.length r
end
theorem ka {k:Key} (r:bD (kV k) u):(cX P w).is k u=ak:=by
 cases k with
 |inl i=>obtain⟨t,e⟩:=(show ∃t,u=ui i t from r);subst e;exact F6 P w i t
 |inr x=>obtain⟨t,e⟩:=(show ∃t,u=uj x t from r);subst e;exact OR P w x t
theorem CH {P:eE} {w:df}:∀{ks:ac Key} {us:ac ax},bu (ks.map kV) us->ItemsAre (cX P w) ks us
 |[],_,r=>by rw[qP] at r;cases r;exact .nil
 |k::ks,_,r=>by
  rw[qo] at r;cases r with
  |cons h t=>exact .cons (ka h) (CH t)
noncomputable abbrev KT (H:Hp):ac (ac Key×V)->ac (ac Key×aw×ax)->Prop:=Paired fun p q=>p.1=q.1/\H q.2.1=aa (.tup (p.1.map kV))/\bD p.2 q.2.2
theorem KT.val {kvs:ac (ac Key×V)} {xs:ac (ac Key×aw×ax)} (r:KT H kvs xs) (k:ac Key):fA (gE kvs k) ((lI xs k).map (·.2)):=by
 induction r with
 |nil=>exact jN
 | @cons p q ps qs h t ih=>
  obtain⟨h1,_,h2⟩:=h;by_cases e:p.1=k
  .have e':q.1=k:=h1.symm.trans e;have b:lI (q::qs) k=aa q.2:=by simp[lI,fg,e']
   rw[t9 e,b];exact h2
  .have e':¬q.1=k:=fun z=>e (h1.trans z);have b:lI (q::qs) k=lI qs k:=by simp[lI,fg,e']
   rw[rV e,b];exact ih
theorem KT.repl {kvs:ac (ac Key×V)} {xs:ac (ac Key×aw×ax)} (r:KT H kvs xs) (k:ac Key) (ry:bD y u) :
  KT H (kvs.map fun kv=>if kv.1=k then (kv.1,y) else kv) (xs.map (putAt k u)):=by
 induction r with
 |nil=>exact .nil
 | @cons p q ps qs h t ih=>
  rw[qo,qo];refine .cons ?_ ih;obtain⟨h1,h2,h3⟩:=h;unfold putAt;by_cases e:p.1=k
  .rw[qX e,qX (h1.symm.trans e)];exact⟨h1,h2,ry⟩
  .rw[qY e,qY (fun z=>e (h1.trans z))];exact⟨h1,h2,h3⟩
theorem KT.put {kvs:ac (ac Key×V)} {xs:ac (ac Key×aw×ax)} (r:KT H kvs xs) (k:ac Key) {b:aw} (hb:H b=aa (.tup (k.map kV))) (ry:bD y u) :
  KT H (putK kvs k y) (storedH xs k b u):=by
 have e:(kvs.any fun kv=>decide (kv.1=k))=(lI xs k).isSome:=by rw[BF,(r.val k).isSome_eq,m9]
 unfold putK storedH;rw[e];by_cases q:(lI xs k).isSome=ak
 .rw[qX q,qX q];exact r.repl k ry
 .rw[qY q,qY q];exact Paired.snoc r ⟨rfl,hb,ry⟩
theorem KT.keeps {kvs:ac (ac Key×V)} {xs:ac (ac Key×aw×ax)} (r:KT H kvs xs) (ht:∀b ys,H b=aa (.tup ys)->H' b=aa (.tup ys)):KT H' kvs xs:=
 Paired.mapP r fun _ _ z=>⟨z.1,ht _ _ z.2.1,z.2.2⟩
section
variable {h:Heap}
theorem De {u:HO} (ok:HOk P w H h) (e:Rd H a u):cI P w H h a u:=e.ok ok
theorem jx {kvs:ac (Key×V)} (ok:HOk P w H h) (e:Rd H a (.dK kvs)):kvs.length<=aN/\(a==iu)=av/\∃vs,KV kvs vs/\h.DictOf (cX P w) a vs:=
 show cI P w H h a (.dK kvs) from De ok e
theorem FX {kvs:ac (Key×V)} (ok:HOk P w H h) (e:H a=aa (.dK kvs)):kvs.length<=aN/\(a==iu)=av/\∃vs,KV kvs vs/\h.DictOf (cX P w) a vs:=jx ok (.inl e)
theorem jS {ks:ac Key} (ok:HOk P w H h) (e:H a=aa (.tup (ks.map kV))):(kq (cX P w)).is h ks a:=by obtain⟨_,its,r,o,h1,h2,n,h3⟩:=(show cI P w H h a (.tup (ks.map kV)) from ok a _ e);exact⟨o,its.toArray,n,h1,h2,h3,by simpa using CH r⟩
theorem i4 {kvs:ac (ac Key×V)} (ok:HOk P w H h) (e:Rd H a (.dT kvs)):kvs.length<=aN/\(a==iu)=av /\
  ∃xs,KT H kvs xs/\h.DictOfH (kq (cX P w)) a xs:=by
 obtain⟨z,y,xs,r,o,es,ep,h1,h2,h3,h4,h5⟩:=(show cI P w H h a (.dT kvs) from De ok e);refine⟨z,y,xs,r,o,es,ep,h1,h2,h3,h4,fun x hx=>?_,h5⟩;have all:∀{l:ac (ac Key×V)} {m:ac (ac Key×aw×ax)},KT H l m->∀x∈m,(kq (cX P w)).is h x.1 x.2.1:=by
  intro l m q
  induction q with
  |nil=>intro x hx;exact nomatch hx
  | @cons p q ps qs hq t ih=>
   intro x hx;rcases cH.mp hx with e|hx
   .subst e;exact jS ok (by rw[←hq.1];exact hq.2.1)
   .exact ih x hx
 exact all r x hx
theorem HX {kvs:ac (ac Key×V)} (ok:HOk P w H h) (e:H a=aa (.dT kvs)):kvs.length<=aN/\(a==iu)=av /\
  ∃xs,KT H kvs xs/\h.DictOfH (kq (cX P w)) a xs:=i4 ok (.inl e)
end
noncomputable def gc (H:Hp) (a:aw) (y:V) (r:au V):Prop:=
 (∃kvs k,Rd H a (.dK kvs)/\y=kV k/\r=gE kvs k)\/∃kvs k b,Rd H a (.dT kvs)/\y=.ref b/\H b=aa (.tup (k.map kV))/\r=gE kvs k
noncomputable def iY (H:Hp) (a:aw) (y v:V) (H':Hp):Prop:=
 (∃kvs k,H a=aa (.dK kvs)/\y=kV k/\kvs.length<aN/\H'=upd H a (.dK (putK kvs k v))) \/
 ∃kvs k b,H a=aa (.dT kvs)/\y=.ref b/\H b=aa (.tup (k.map kV))/\kvs.length<aN/\H'=upd H a (.dT (putK kvs k v))
theorem gc.k {kvs:ac (Key×V)} {k:Key} (e:H a=aa (.dK kvs)):gc H a (kV k) (gE kvs k):=.inl ⟨kvs,k,.inl e,rfl,rfl⟩
theorem gc.t {b:aw} {kvs:ac (ac Key×V)} {k:ac Key} (e:H a=aa (.dT kvs)) (eb:H b=aa (.tup (k.map kV))):gc H a (.ref b) (gE kvs k):=.inr ⟨kvs,k,b,.inl e,rfl,eb,rfl⟩
theorem iY.k {kvs:ac (Key×V)} {k:Key} (e:H a=aa (.dK kvs)) (hl:kvs.length<aN):iY H a (kV k) v (upd H a (.dK (putK kvs k v))):=.inl ⟨kvs,k,e,rfl,hl,rfl⟩
theorem iY.t {b:aw} {kvs:ac (ac Key×V)} {k:ac Key} (e:H a=aa (.dT kvs)) (eb:H b=aa (.tup (k.map kV))) (hl:kvs.length<aN) :
  iY H a (.ref b) v (upd H a (.dT (putK kvs k v))):=.inr ⟨kvs,k,b,e,rfl,eb,hl,rfl⟩
section
variable {r:ax} {o:au V}
theorem Inv.big (I:Inv X pins σ H s):iu<s.heap.objs.size:=by have h:fH<s.heap.objs.size:=(I.mod.glob.keeps I.bk).lt;exact rj .(e) h
theorem ND (hu:A.units+1<cB) (I:Inv X pins σ H s) (g:gc H a y (aa v)) (ry:bD y u) (h:∀w' s',Inv X pins σ H s'->bD v w'->Q w' s') :
  aF (aO X.prog X.w) A (m6 (.ref a) u) Q E s:=by
 rcases g with⟨kvs,k,e,ey,l⟩|⟨kvs,k,b,e,ey,eb,l⟩
 .subst ey;obtain⟨z,hd,vs,rel,dd⟩:=jx I.hok e;obtain⟨w',hw,rw'⟩:=fA.some_of (v:=v) (o:=oK vs k) (by rw[l];exact rel.val k);exact wpAny_getItem_of (ka ry) dd.mapOf hw (h w' _ (I.tok _) rw')
 .subst ey;cases(show u=ce b from ry);obtain⟨z,hd,xs,rel,dd⟩:=i4 I.hok e;obtain⟨w',hw,rw'⟩:=fA.some_of (v:=v) (o:=(lI xs k).map (·.2)) (by rw[l];exact rel.val k);obtain⟨p,hp,hp2⟩:=oMd hw;refine wpAny_getItem_heap (ro hu) (jS I.hok eb) dd hp ?_;rw[hp2];exact h w' _ (I.tok _) rw'
theorem Io (hu:A.units+1<cB) (I:Inv X pins σ H s) (g:gc H a y o) (ry:bD y u) (h:∀s',Inv X pins σ H s'->Q (.bool o.isSome) s') :
  aF (aO X.prog X.w) A (dN .In u (.ref a)) Q E s:=by
 rcases g with⟨kvs,k,e,ey,l⟩|⟨kvs,k,b,e,ey,eb,l⟩
 .subst ey;obtain⟨z,hd,vs,rel,dd⟩:=jx I.hok e;refine wpAny_in_of (ka ry) hd dd.mapOf ?_;rw[←(rel.val k).isSome_eq,←l];exact h _ (I.tok _)
 .subst ey;cases(show u=ce b from ry);obtain⟨z,hd,xs,rel,dd⟩:=i4 I.hok e;refine wpAny_in_heap (ro hu) (jS I.hok eb) hd dd ?_;have q:=(rel.val k).isSome_eq;rw[m9] at q;rw[←q,←l];exact h _ (I.tok _)
theorem MQ (hu:A.units+1<cB) (I:Inv X pins σ H s) (g:gc H a y o) (ry:bD y u) (h:∀s',Inv X pins σ H s'->Q (.bool (!o.isSome)) s') :
  aF (aO X.prog X.w) A (dN .NotIn u (.ref a)) Q E s:=by
 rcases g with⟨kvs,k,e,ey,l⟩|⟨kvs,k,b,e,ey,eb,l⟩
 .subst ey;obtain⟨z,hd,vs,rel,dd⟩:=jx I.hok e;refine wpAny_notIn_of (ka ry) hd dd.mapOf ?_;rw[←(rel.val k).isSome_eq,←l];exact h _ (I.tok _)
 .subst ey;cases(show u=ce b from ry);obtain⟨z,hd,xs,rel,dd⟩:=i4 I.hok e;refine wpAny_notIn_heap (ro hu) (jS I.hok eb) hd dd ?_;have q:=(rel.val k).isSome_eq;rw[m9] at q;rw[←q,←l];exact h _ (I.tok _)
theorem zE {ob:HO} (I:Inv X pins σ H s) (mu:Mut (H a)) (hs:iw a s.heap h') (he:∃q,h'.get? a=aa q) (new:cI X.prog X.w (upd H a ob) h' a ob) :
  Inv X pins σ (upd H a ob) {s with heap:=h',toks:=t'} :=
 I.write (x:=a) (e:=a) mu (.inl rfl) (fun b q hb z=>(hs.2 b hb).trans z) he new
theorem OB {kvs:ac (Key×V)} {vs:ac (Key×ax)} (z:kvs.length<=aN) (hd:(a==iu)=av) (rel:KV kvs vs) (dd:h'.DictOf (cX P w) a vs) :
  cI P w H' h' a (.dK kvs):=⟨z,hd,vs,rel,dd⟩
theorem Ig {Q:lw->aI->Prop} (hu:A.units+1<cB) (I:Inv X pins σ H s) (g:iY H a y v H') (ry:bD y u) (rv:bD v r) (h:∀s',Inv X pins σ H' s'->Q () s') :
  aF (aO X.prog X.w) A (setItem (.ref a) u r) Q E s:=by
 rcases g with⟨kvs,k,e,ey,l,eH⟩|⟨kvs,k,b,e,ey,eb,l,eH⟩
 .subst ey eH;obtain⟨z,hd,vs,rel,dd⟩:=FX I.hok e;have hz:vs.length<=aN:=by rw[←rel.length];exact z
  have hl:(putK kvs k v).length<=aN:=by have:=Aw kvs k v;omega
  refine wpAny_setItem_pairs (hsz:=hz) (ka ry) dd fun h' dd' hs=>h _ ?_;have he:∃q,h'.get? a=aa q:=let ⟨q,_,_,hq,_⟩:=dd';⟨q,hq⟩
  exact zE I (by rw[e];exact jN) hs he (OB hl hd (rel.put k rv) dd')
 .subst ey eH;cases(show u=ce b from ry);obtain⟨z,hd,xs,rel,dd⟩:=HX I.hok e;have hz:xs.length<=aN:=by rw[←Paired.length rel];exact z
  have hl:(putK kvs k v).length<=aN:=by have:=Aw kvs k v;omega
  refine wpAny_setItem_heap (hsz:=hz) (ro hu) (jS I.hok eb) dd fun h' dd' hs=>h _ ?_;obtain⟨q,es,ep,hq,h2,h3,h4,_,h5⟩:=dd';refine zE I (by rw[e];exact jN) hs ⟨q,hq⟩ ⟨hl,hd,_,(rel.put k eb rv).keeps fun c ys ec=>?_,q,es,ep,hq,h2,h3,h4,h5⟩;rw[aE (wk ec e (fun z=>nomatch z))];exact ec
end
noncomputable def uW (i:Expr):Prop:=∀ov iv,yr i av ov iv=operate [ov,iv] (m6 ov iv)
theorem NE {slice:Expr} {id:dz} 
  (hl:yo (.type T) "__getitem__"=bq (aa (.builtin id))) (hs:uW slice)
  (h:aF (aO prog w) A (eval value env) (fun o s₁=>aF (aO prog w) A (eval slice env) (fun i s₂=>s₂.TypeIs o T/\aF (aO prog w) A (m6 o i) Q E s₂) E s₁) E s) :
  aF (aO prog w) A (eval (.Subscript value slice pos) env) Q E s:=by
 refine yp (gZ h (fun o s₁ h₁=>gZ h₁ (fun i s₂ h₂=>?_) fun _ _ x=>x) fun _ _ x=>x);obtain⟨hT,h₂⟩:=h₂;unfold yq;refine qy ?_;rw[getitemInPython_of_ne hT.not_modules];refine qy (EL hT hl ?_);have fin:aF (aO prog w) A (yr slice av o i) (fun r s₃=>aF (aO prog w) A (letTemporaryGo value o r >>= fun _=>bq r) Q E s₃) E s₂:=by rw[hs o i];exact wpAny_operating (gZ h₂ (fun r s₃ h₃=>qy (wpAny_letTemporaryGo (qB h₃))) fun _ _ x=>x)
 first
  |exact qB (qy fin)
  |exact qy (qB (qy fin))
  |exact qy fin
theorem Hh {o:au V} (I:Inv X pins σ H s) (g:gc H a y o):s.TypeIs (.ref a) "dict":=by
 rcases g with⟨kvs,k,e,_,_⟩|⟨kvs,k,b,e,_,_,_⟩
 .obtain⟨_,_,vs,_,dd⟩:=jx I.hok e;exact dd.typeIs
 .obtain⟨_,_,xs,_,dd⟩:=i4 I.hok e;exact dd.typeIs
noncomputable def L1 (td ty:TE):TE:=fun σ H Q=>td σ H fun x H1=>ty σ H1 fun y H2=>∃a v,x=.ref a/\gc H2 a y (aa v)/\Q v H2
noncomputable def OH (td ty tv:TE):TS:=fun D σ H=>tv σ H fun v H1=>td σ H1 fun x H2=>ty σ H2 fun y H3=>∃a H4,x=.ref a/\iY H3 a y v H4/\D.nx σ H4
variable {td ty:TE}
section
variable {o i:Expr}
theorem Nd (hu:X.A.units+1<cB) (ho:PE X o td) (hi:PE X i ty) (hs:uW i):PE X (.Subscript o i pos) (L1 td ty):=by intro pins s σ H Q I h;refine NE PySem.F.slot_dict_getitem.lookup hs (thn (ho pins s σ H _ I h) fun u s1 ⟨x,H1,I1,rx,q1⟩=>thn (hi pins s1 σ H1 _ I1 q1) fun iv s2 ⟨y,H2,I2,ry,a,v,ex,g,q2⟩=>?_);subst ex;obtain rfl:u=ce a:=rx;exact⟨Hh I2 g,ND hu I2 g ry fun w' s3 I3 rw'=>⟨v,H2,I3,rw',q2⟩⟩
theorem uZ (hu:X.A.units+1<cB) (ho:PE X o td) (hi:PE X i ty) (hv:PE X value tv) (hs:eG value (aa (.Subscript o i pos')) pos.line X.env=bq av) :
  PS X (.Assign [.Subscript o i pos'] value pos) (OH td ty tv):=by
 intro pins s σ H D I h;refine wpAny_Assign_Subscript (thn (hv pins s σ H _ I h) fun r s1 ⟨v,H1,I1,rv,q1⟩=>thn (ho pins s1 σ H1 _ I1 q1) fun u s2 ⟨x,H2,I2,rx,q2⟩=>thn (hi pins s2 σ H2 _ I2 q2) fun iv s3 ⟨y,H3,I3,ry,a,H4,ex,g,q3⟩=>?_) hs;subst ex;obtain rfl:u=ce a:=rx;exact Ig hu I3 g ry rv fun s4 I4=>⟨σ,H4,I4,q3⟩
end
theorem Ly (h:Heap) (hb:iu<h.objs.size):cI P w H (h.push {cls:=.type "dict",data:=.dict #[]}) h.objs.size (.dK []):=
 ⟨g9 _,mT.mpr (dM (qD hb)),[],.nil,Qc h⟩
theorem GR (h:Heap) (hb:iu<h.objs.size):cI P w H (h.push {cls:=.type "dict",data:=.dict #[]}) h.objs.size (.dT []):=
 ⟨g9 _,mT.mpr (dM (qD hb)),[],.nil,_,#[],0,qH _ rfl,⟨rfl,rfl,rfl⟩,rfl,rfl,kx⟩
noncomputable def Mz:TE:=fun _ H Q=>∀p,H p=af->Q (.ref p) (upd H p (.dK []))
noncomputable def OL:TE:=fun _ H Q=>∀p,H p=af->Q (.ref p) (upd H p (.dT []))
theorem vq:PE X (.Dict [] [] pos) Mz:=fun pins s σ H Q I h=>
 Qd ⟨.ref s.heap.objs.size,_,I.laid (a:=s.heap.objs.size) (o:=.dK []) (t':=s.toks) (fun _ _ q=>qv _ q) (qx _) (Ly s.heap I.big),rfl,h _ (I.hok.fresh (qx _))⟩
theorem Ay:PE X (.Dict [] [] pos) OL:=fun pins s σ H Q I h=>
 Qd ⟨.ref s.heap.objs.size,_,I.laid (a:=s.heap.objs.size) (o:=.dT []) (t':=s.toks) (fun _ _ q=>qv _ q) (qx _) (GR s.heap I.big),rfl,h _ (I.hok.fresh (qx _))⟩
structure M1 (X:Cx) (o:Expr) (m:aj) (apos:ff) (e:Expr) (cpos:ff):Prop where
 base:i9 o m X.env (eval o X.env)=eval o X.env
 few:((cj cpos (aR [e] X.env)).all (fun x=>!x.1) && (iB cpos (iC [] X.env)).all (fun x=>x.1.isSome)
  && decide (([e]:ac Expr).length+([]:ac ja).length+(if ([]:ac ja).isEmpty then 0 else 1)<30))=ak
 line:(apos.endLine==cpos.line)=ak
 trees:cj cpos (aR [e] X.env)=[(av,eval e X.env)]
structure M2 (X:Cx) (o:Expr) (m:aj) (apos:ff) (e f:Expr) (cpos:ff):Prop where
 base:i9 o m X.env (eval o X.env)=eval o X.env
 few:((cj cpos (aR [e,f] X.env)).all (fun x=>!x.1) && (iB cpos (iC [] X.env)).all (fun x=>x.1.isSome)
  && decide (([e,f]:ac Expr).length+([]:ac ja).length+(if ([]:ac ja).isEmpty then 0 else 1)<30))=ak
 line:(apos.endLine==cpos.line)=ak
 trees:cj cpos (aR [e,f] X.env)=[(av,eval e X.env),(av,eval f X.env)]
noncomputable def IsD (H:Hp) (a:aw):Prop:=(∃kvs,Rd H a (.dK kvs))\/∃kvs,Rd H a (.dT kvs)
theorem Ds (I:Inv X pins σ H s) (d:IsD H a) :
  s.TypeIs (.ref a) "dict"/\(∀b,ce a=.ref b->∃ob,s.heap.get? b=aa ob/\ob.dict=af)/\(a==iu)=av:=by
 rcases d with⟨kvs,e⟩|⟨kvs,e⟩
 .obtain⟨_,hd,vs,_,dd⟩:=jx I.hok e;refine⟨dd.typeIs,fun b q=>?_,hd⟩;cases q;obtain⟨ob,_,_,h1,h2,_⟩:=dd;exact⟨ob,h1,h2.2.1⟩
 .obtain⟨_,hd,xs,_,dd⟩:=i4 I.hok e;refine⟨dd.typeIs,fun b q=>?_,hd⟩;cases q;obtain⟨ob,_,_,h1,h2,_⟩:=dd;exact⟨ob,h1,h2.2.1⟩
section
variable {d:V} {r:ax} {o:au V}
theorem HY (hu:A.units+1<cB) (I:Inv X pins σ H s) (g:gc H a y o) (ry:bD y u) (h:∀w' s',Inv X pins σ H s'->bD (o.getD .non) w'->Q w' s') :
  aF (aO X.prog X.w) A (call (.builtin "dict.get") [.ref a,u]) Q E s:=by
 rcases g with⟨kvs,k,e,ey,l⟩|⟨kvs,k,b,e,ey,eb,l⟩
 .subst ey;obtain⟨z,hd,vs,rel,dd⟩:=jx I.hok e;refine yw rq dd.typeIs yx (Qe _ _) (meets_dict_get (cX X.prog X.w) a (ka ry) hd) ⟨_,dd.mapOf,h _ _ (I.tok _) ?_⟩;rw[l];exact(rel.val k).getD rfl
 .subst ey;cases(show u=ce b from ry);obtain⟨z,hd,xs,rel,dd⟩:=i4 I.hok e;refine yw rq dd.typeIs yx (Qe _ _) (meetsH_dict_get (kq (cX X.prog X.w)) a b hd) ⟨ro hu,k,xs,jS I.hok eb,dd,h _ _ (I.tok _) ?_⟩;rw[l];exact(rel.val k).getD rfl
theorem KC (hu:A.units+1<cB) (I:Inv X pins σ H s) (g:gc H a y o) (ry:bD y u) (rd:bD d r) (h:∀w' s',Inv X pins σ H s'->bD (o.getD d) w'->Q w' s') :
  aF (aO X.prog X.w) A (call (.builtin "dict.get") [.ref a,u,r]) Q E s:=by
 rcases g with⟨kvs,k,e,ey,l⟩|⟨kvs,k,b,e,ey,eb,l⟩
 .subst ey;obtain⟨z,hd,vs,rel,dd⟩:=jx I.hok e;refine yw rq dd.typeIs yx (Qf _ _ _) (meets_dict_get_default (cX X.prog X.w) a (ka ry) hd r) ⟨_,dd.mapOf,h _ _ (I.tok _) ?_⟩;rw[l];exact(rel.val k).getD rd
 .subst ey;cases(show u=ce b from ry);obtain⟨z,hd,xs,rel,dd⟩:=i4 I.hok e;refine yw rq dd.typeIs yx (Qf _ _ _) (meetsH_dict_get_default (kq (cX X.prog X.w)) a b hd r) ⟨ro hu,k,xs,jS I.hok eb,dd,h _ _ (I.tok _) ?_⟩;rw[l];exact(rel.val k).getD rd
end
noncomputable def Jh (td ty:TE):TE:=fun σ H Q=>td σ H fun x H1=>∃a,x=.ref a/\IsD H1 a/\ty σ H1 fun y H2=>∃o,gc H2 a y o/\Q (o.getD .non) H2
noncomputable def Jl (td ty tx:TE):TE:=fun σ H Q=>td σ H fun x H1=>∃a,x=.ref a/\IsD H1 a/\ty σ H1 fun y H2=>tx σ H2 fun z H3=>∃o,gc H3 a y o/\Q (o.getD z) H3
section
variable {o f:Expr} {tx:TE}
theorem Nl (hu:X.A.units+1<cB) (ho:PE X o td) (he:PE X e ty) (m:M1 X o "get" apos e cpos):PE X (.Call (.Attribute o "get" apos) [e] [] cpos) (Jh td ty):=by intro pins s σ H Q I h;refine Qg m.base m.few m.line Qh rq Qi (thn (ho pins s σ H _ I h) fun u s1 ⟨x,H1,I1,rx,a,ex,d,q1⟩=>?_);subst ex;obtain rfl:u=ce a:=rx;obtain⟨t1,t2,_⟩:=Ds I1 d;refine⟨t1,t2,?_⟩;rw[m.trees];refine EH rfl (EI (yg (thn (he pins s1 σ H1 _ I1 q1) fun iv s2 ⟨y,H2,I2,ry,ov,g,q2⟩=>Eu ?_)));exact HY hu I2 g ry fun w' s3 I3 rw'=>⟨_,H2,I3,rw',q2⟩
theorem Kx (hu:X.A.units+1<cB) (ho:PE X o td) (he:PE X e ty) (hf:PE X f tx) (m:M2 X o "get" apos e f cpos):PE X (.Call (.Attribute o "get" apos) [e,f] [] cpos) (Jl td ty tx):=by
 intro pins s σ H Q I h;refine Qg m.base m.few m.line Qh rq Qi (thn (ho pins s σ H _ I h) fun u s1 ⟨x,H1,I1,rx,a,ex,d,q1⟩=>?_);subst ex;obtain rfl:u=ce a:=rx;obtain⟨t1,t2,_⟩:=Ds I1 d;refine⟨t1,t2,?_⟩;rw[m.trees];refine EH rfl (EI (yg (thn (he pins s1 σ H1 _ I1 q1) fun iv s2 ⟨y,H2,I2,ry,q2⟩=>
  yg (thn (hf pins s2 σ H2 _ I2 q2) fun fv s3 ⟨z,H3,I3,rz,ov,g,q3⟩=>Eu ?_))))
 exact KC hu I3 g ry rz fun w' s4 I4 rw'=>⟨_,H3,I4,rw',q3⟩
end
variable {q:eE} {loose:ac aj} {XP:(aj->au ax)->Heap->Prop} {YP:df->Heap->Prop}
namespace Att
open PySem PySem.W PySem.Calls PyProof.Rows
theorem Hk {P:yy} {h:Heap} :∀(ns:ac aq) (vs:ac ax),WellAll P h vs (ns.map Qj)->rA vs ns:=by
 intro ns
 induction ns with
 |nil=>
  intro vs w;rw[qP] at w;cases w;exact .nil
 |cons n ns ih=>
  intro vs w;rw[qo] at w;cases w with
  |cons a b=>
   cases a;exact .cons _ _ (ih _ b)
theorem AF {l:OpenLaw} (hn:l.most=aa n) {P:yy} {h:Heap} {args:ac WData} {vals:ac ax} 
  (hpre:l.row.toRowW.claim.pre args=ak) (hwl:WellAll P h vals args) :
  ∃a vs ns,vals=[ce a]/\args=[WData.list (ns.map Qj)]/\h.get? a=aa {cls:=.type "list",data:=.seq vs.toArray}/\rA vs ns/\ns.length<=n:=by
 have hsh:WShape.hasAll [] args [.list .int]=ak:=(pre_splitW hpre).1;have hc:l.pre.holds [] {args:=args}=ak:=(pre_splitW hpre).2;obtain⟨d,r,rfl,h1,h2⟩:=hasAllW_cons hsh;obtain rfl:=hasAllW_nil h2;obtain⟨xs,rfl,h3⟩:=hasW_list h1;obtain⟨ns,rfl⟩:=items_int h3;have hlen:ns.length<=n:=by
  unfold OpenLaw.pre at hc;have h4:(WTm.not (.lt (.lit (.int (n:aq))) (.len (.arg 0)))).holds [] {args:=[.list (ns.map .int)]}=ak:=by have h4:=(holds_andW hc).1;rw[hn] at h4;exact h4
  have h5:=condW_of h4 (w_not (w_lt w_lit (w_len_list (w_arg rfl))));rw[qf] at h5;refine Nat.le_of_not_lt fun q=>?_;have q':(n:aq)<((ns.length:ao):aq):=by omega
  first
   |(rw[qT q'] at h5;exact bJ h5 .(e))
   |(simp at h5;omega)
 cases hwl with
 |cons w1 w2=>
  cases w2;cases w1 with
  |list ho hall=>exact⟨_,_,ns,rfl,rfl,ho,Hk ns _ hall,hlen⟩
theorem zP (l:OpenLaw) (args:ac WData):l.row.toRowW.claim.post args (.bool ak) args=ak:=
 postW_of (r:=l.row.toRowW) (X:=(ak==ak))
  (show Qk [] (.bool ak) .bool=ak by first|rfl|decide|simp[Qk,WShape.arms,WShape.armsAll])
  (show(WTm.eq .res (.lit (.bool ak))).value [] {args:=args,res:=aa (.bool ak),after:=args}=aa (.bool (ak==ak)) from w_eq_bool (w_res rfl) w_lit) rfl
theorem RL {l:OpenLaw} {d:yz} 
  (hn:l.most=aa n) (hdf:d.params.defaults=[])
  (hbind:∀pm cd doc v:ax,hG (docDef d.name d.params d.body d.scope pm cd doc) ⟨[v],[]⟩=bq [(x,v)])
  (hx:d.scope.names.lookup x=aa .local\/d.scope.names.lookup x=aa .cell)
  (hk:d.scope.kind=.function) (hco:d.scope.isCoroutine=av) (hgen:d.scope.isGenerator=av)
  (body:∀(w:df) (s₀ s₁ s:aI) (mg mb:aj->au ax) (fa:aw) (o:Obj) (pm cd doc:ax) (a:aw) (vs:ac ax) (ns:ac aq),
   Ground q loose [] XP w s₀ mg mb s₁.heap->YP w s₁.heap->
   s₁.heap.get? fa=aa o->o.data=.func (docDef d.name d.params d.body d.scope pm cd doc)->s₁.heap.CodeRec cd d.name->mg d.name=aa (.ref fa)->
   s₁.heap.get? a=aa {cls:=.type "list",data:=.seq vs.toArray}->rA vs ns->ns.length<=n->
   s.gens=#[]->s.os=s₁.os->
   Fr s₁.heap s₁.heap.objs.size s.heap (lC (dO d.name d.scope s₁.heap.objs.size fa cd).kindOf [(x,.ref a)] fun _=>af)->
   Cl s₁.heap.objs.size (yi (s₁.heap.objs.size+1) d.scope.names []) s.heap (lD (dO d.name d.scope s₁.heap.objs.size fa cd).kindOf [(x,.ref a)] fun _=>af)->
   aF (aO l.prog w) (na.deeper (dO d.name d.scope s₁.heap.objs.size fa cd)) (execs d.body (dO d.name d.scope s₁.heap.objs.size fa cd))
    (fun f s'=>f=.ret (.bool ak)/\OldK s₁.heap s'.heap/\s'.os=s₁.os/\kr s'.gens) (fun _ _=>False) s) :
  WalkO q loose XP YP l.row.toRowW d [] (fun f vs=>yA f vs):=by
 intro w s₀ s₁ mg mb G Y fa o pm cd doc dV kV ho hd hcd hD hmg hg args vals as hpre hlay hrd hwl hlo;obtain rfl:dV=.none:=Ql hD hdf;obtain rfl:kV=.none:=Qm hD;obtain⟨a,vs,ns,rfl,rfl,hobj,hints,hlen⟩:=AF hn hpre hwl;refine enter_call ?_;refine call_cells_ret (o:=o) (by rw[depth_caller];decide) ho (EM hd) G.T.nolimit hcd (hbind pm cd doc (.ref a)) (fun y hy=>?_) (fun h₁ tk F X=>?_) hco hgen hk
 .obtain rfl:y=(x,ce a):=bN.mp hy;rcases hx with e|e
  .exact .inl e
  .exact .inr ⟨e,cellsFrom_some _ _ _ (.inl e)⟩
 .refine gZ (body w s₀ s₁ {s₁ with heap:=h₁,toks:=tk} mg mb fa o pm cd doc a vs ns G Y ho (EM hd) hcd hmg hobj hints hlen hg rfl F X) (fun f s' hq=>?_) (fun _ _ hq=>hq);obtain⟨rfl,h2,h3,h4⟩:=hq;exact⟨.inl ⟨.bool ak,.bool ak,[],rfl,fun _=>rfl,.bool ak,zP l _,fun _=>⟨Qn,fun _ hm=>(nomatch hm)⟩⟩,h2,h3,h4⟩
theorem attach_call {l:OpenLaw} {d:yz} 
  (hn:l.most=aa n) (hdf:d.params.defaults=[])
  (call:∀(w:df) (s₀ s₁:aI) (mg mb:aj->au ax) (fa:aw) (o:Obj) (pm cd doc:ax) (a:aw) (vs:ac ax) (ns:ac aq),
   Ground q loose [] XP w s₀ mg mb s₁.heap->YP w s₁.heap->
   s₁.heap.get? fa=aa o->o.data=.func (docDef d.name d.params d.body d.scope pm cd doc)->s₁.heap.CodeRec cd d.name->mg d.name=aa (.ref fa)->
   s₁.heap.get? a=aa {cls:=.type "list",data:=.seq vs.toArray}->rA vs ns->ns.length<=n->s₁.gens=#[]->
   gL (aO l.prog w) na (.call (.ref fa) ⟨[.ref a],[]⟩) (fun r s'=>r=.ok (.ret (.bool ak))/\OldK s₁.heap s'.heap/\s'.os=s₁.os/\kr s'.gens) s₁) :
  WalkO q loose XP YP l.row.toRowW d [] (fun f vs=>yA f vs):=by
 intro w s₀ s₁ mg mb G Y fa o pm cd doc dV kV ho hd hcd hD hmg hg args vals as hpre hlay hrd hwl hlo;obtain rfl:dV=.none:=Ql hD hdf;obtain rfl:kV=.none:=Qm hD;obtain⟨a,vs,ns,rfl,rfl,hobj,hints,hlen⟩:=AF hn hpre hwl;refine enter_call (rf (call w s₀ s₁ mg mb fa o pm cd doc a vs ns G Y ho (EM hd) hcd hmg hobj hints hlen hg) fun r s' hq=>?_);obtain⟨rfl,h2,h3,h4⟩:=hq;exact⟨.inl ⟨.bool ak,.bool ak,[],rfl,fun _=>rfl,.bool ak,zP l _,fun _=>⟨Qn,fun _ hm=>(nomatch hm)⟩⟩,h2,h3,h4⟩
section
variable {K:aV}
noncomputable def RG (h:Heap) (L d:aw):ac (aw×Obj):=(cQ h.objs.size).filterMap fun a=>if a=L\/a=d then af else (h.get? a).map fun o=>(a,o)
end
end Att
theorem Ao:∀{vs:ac ax} {ns:ac aq},rA vs ns->bu (ns.map V.int) vs
 |_,_,.nil=>.nil
 |_,_,.cons n t h=>.cons ⟨t,rfl⟩ (Ao h)
noncomputable def wq (H:Hp):Prop:=∀b,H b=af\/∃o xs,H b=aa (.frz o (.lst xs))
theorem Mt {mb:aj->au ax} {k:ao} {fa:aw} {s₁:aI} {vs:ac ax} {ns:ac aq} 
  (KX:K.In s₁.heap) (hns:s₁.heap.Ns fH mg) (hb:s₁.heap.Ns Ei mb) (hbb:∀x:aj,x≠"__name__"->mb x=lv x) (hlim:s₁.heap.NoLimit) (hg:s₁.gens=#[])
  (ha:s₁.heap.get? a=aa {cls:=.type "list",data:=.seq vs.toArray}) (hi:rA vs ns) (hl:ns.length<=aN) (hr:Room k na)
  (F:∀base:Heap,K.In base->base.Ns fH mg->FnOk P w K mg base CX k fa fd [x] sp) (hbind:∀(s:aI) (u:ax),qZ s fd ⟨[u],[]⟩ [(x,u)])
  (hsp:∀H:Hp,wq H->SqL K H a (ns.map V.int)->sp [.ref a] H (fun v _=>v=.bl ak) fun _ _ _=>False)
  (hCX:∀H e s',CX [] H s₁ (fun _ _ _=>False) e s'->False) :
  gL (aO P w) na (.call (.ref fa) ⟨[.ref a],[]⟩) (fun r s'=>r=.ok (.ret (.bool ak))/\OldK s₁.heap s'.heap/\s'.os=s₁.os/\kr s'.gens) s₁:=by
 have rv:=Ao hi;have lenV:=hi.length;have core:∀H:Hp,wq H->SqL K H a (ns.map V.int)->HOk P w H s₁.heap->(∀b,H b≠af->b=a)->(H a≠af->K.lookup a=af)->
   gL (aO P w) na (.call (.ref fa) ⟨[.ref a],[]⟩) (fun r s'=>r=.ok (.ret (.bool ak))/\OldK s₁.heap s'.heap/\s'.os=s₁.os/\kr s'.gens) s₁:=by
  intro H hO hS hok hA hK;have base_of:∀{b:aw} {o:Obj},s₁.heap.get? b=aa o->H b=af->(j9 s₁.heap H).get? b=aa o:=fun e n=>Hq e n;have noA:∀{b:aw} {o:Obj} {es:bR rB} {ep:ao},s₁.heap.get? b=aa o->o.data=.dict es ep->H b=af:=fun {b o es ep} e d=>by
   cases q:H b with
   |none=>rfl
   |some u=>
    have e':b=a:=hA b (by rw[q];simp);subst e';rw[ha] at e;cases e;have d':Data.seq vs.toArray _=Data.dict es ep:=d;cases d'
  have nsK:∀{b:aw} {m:aj->au ax},s₁.heap.Ns b m->(j9 s₁.heap H).Ns b m:=fun {b m} ⟨o,es,ep,e,d,r⟩=>⟨o,es,ep,base_of e (noA e d),d,r⟩;have hKb:K.In (j9 s₁.heap H):=fun b o e=>base_of (KX b o e) (by
   cases q:H b with
   |none=>rfl
   |some u=>
    have e':b=a:=hA b (by rw[q];simp);subst e';rw[hK (by rw[q];simp)] at e;cases e)
  have hM:Mod K mg (j9 s₁.heap H):=⟨hKb,nsK hns,⟨mb,nsK hb,hbb⟩,let ⟨mc,h1,h2⟩:=hlim;⟨mc,nsK h1,h2⟩⟩;have e0:Env0 P w K mg (j9 s₁.heap H) na [] s₁ H:=⟨rfl,hM,fun b o e=>Jg e,yf (My _ _),trivial,fun b hb=>bJ (show b∈([]:ac aw) from hb) (by simp),hok,.of_eq hg⟩;refine rf ((F _ hKb (nsK hns)).run na [] s₁ H ⟨[.ref a],[]⟩ [.ref a] [.ref a] _ _ hr e0 (hbind s₁ (.ref a)) (.cons rfl .nil) (hsp H hO hS)) fun r s' h=>?_;cases r with
  |error e=>exact(hCX H e s' h).elim
  |ok fl=>
   cases fl with
   |next=>exact iA h
   |brk=>exact iA h
   |cont=>exact iA h
   |ret u=>
    obtain⟨v,H',os,bare,un,hok',r',q⟩:=h;have q':v=.bl ak:=q;subst q';obtain rfl:u=lr ak:=r';refine⟨rfl,OldK.of_keep fun b o e=>?_,os,bare⟩;cases q:H b with
    |none=>exact un.keep b o e q (by intro z;exact bJ (show b∈([]:ac aw) from z) (by simp)) (by simp)
    |some u=>
     rcases hO b with z|⟨ob,xs,z⟩
     .rw[q] at z;cases z
     .have z2:=un.frzs b ob _ z;obtain⟨e1,_⟩:=hok b _ z;obtain⟨e2,_⟩:=hok' b _ z2;rw[e] at e1;cases e1;exact e2
 cases hk:K.lookup a with
 |some o=>
  have e:=KX a o hk;rw[ha] at e;cases e;refine core (fun _=>af) (fun _=>.inl rfl) (.inr ⟨_,vs.toArray,_,hk,rfl,rfl,rfl,by rw[qC,lenV];exact hl,by simpa using rv⟩) (fun b u z=>by have z':(af:au HO)=aa u:=z;cases z') (fun b z=>bJ rfl z) fun z=>bJ rfl z
 |none=>
  refine core (fun b=>if b=a then aa (.frz {cls:=.type "list",data:=.seq vs.toArray} (.lst (ns.map V.int))) else af) (fun b=>?_) (.inl (.inr ⟨{cls:=.type "list",data:=.seq vs.toArray},qX rfl⟩)) (fun b u z=>?_) (fun b z=>?_) fun _=>hk
  .by_cases hb:b=a
   .exact .inr ⟨_,_,qX hb⟩
   .exact .inl (qY hb)
  .by_cases hb:b=a
   .have z':=(qX hb).symm.trans z;cases z';subst hb;exact⟨ha,by rw[qf];exact hl,vs,_,rv,ha⟩
   .have z':=(qY hb).symm.trans z;cases z'
  .by_cases hb:b=a
   .exact hb
   .exact bJ (qY hb) z
noncomputable abbrev KOf {h:Heap} (_:K.In h):aV:=K
theorem walk_of {l:EN} {k:ao} {d:yz} {K:yy->aV} {CX:df->CXT} {sp:df->Sp} 
  (hn:l.most=aa n) (hn2:n<=aN) (hdf:d.params.defaults=[]) (hr:Room k na)
  (hY:∀(w:df) (h:Heap),YP w h->(K w.params).In h)
  (F:∀(w:df) (mg:aj->au ax) (fa:aw) (h:Heap),(K w.params).In h->h.Ns fH mg->mg d.name=aa (.ref fa)->
   ∃fd:lB,(∀(s:aI) (u:ax),qZ s fd ⟨[u],[]⟩ [(x,u)]) /\
    ∀base:Heap,(K w.params).In base->base.Ns fH mg->FnOk l.prog w (K w.params) mg base (CX w) k fa fd [x] (sp w))
  (hsp:∀(w:df) (H:Hp) (a:aw) (ns:ac aq),ns.length<=n->wq H->SqL (K w.params) H a (ns.map V.int)->sp w [.ref a] H (fun v _=>v=.bl ak) fun _ _ _=>False)
  (hCX:∀(w:df) (H:Hp) (s:aI) (e:ax) (s':aI),CX w [] H s (fun _ _ _=>False) e s'->False) :
  Qo q loose XP YP l.row.toRowW d [] (fun f vs=>yA f vs):=by
 refine Att.attach_call hn hdf fun w s₀ s₁ mg mb fa o pm cd doc a vs ns G Y ho hd hcd hmg hobj hints hlen hg=>?_;have KX:=hY w _ Y;obtain⟨fd,hb,hF⟩:=F w mg fa _ KX G.T.g hmg;exact Mt KX G.T.g G.T.b G.T.builtins G.T.nolimit hg hobj hints (qN hlen hn2) hr hF hb (fun H hO hS=>hsp w H a ns hlen hO hS) fun H e s'=>hCX w H s₁ e s'
noncomputable def cb (s:Stmt) (j:ao):Stmt:=match s with
 |.ClassDef _ _ _ body _ _ _ _ _ _ _=>body.getD j (.Pass ⟨0,0,0,0⟩)
 |_=>.Pass ⟨0,0,0,0⟩
noncomputable def eZ (s:Stmt):Arguments:=match s with
 |.FunctionDef _ a _ _ _ _ _ _ _ _=>a
 |_=>{posonlyargs:=[],args:=[],vararg:=af,kwonlyargs:=[],kw_defaults:=[],kwarg:=af,defaults:=[]}
noncomputable def c8 (s:Stmt):ac Stmt:=match s with
 |.FunctionDef _ _ b _ _ _ _ _ _ _=>b
 |_=>[]
noncomputable def aL (s:Stmt):Scope:=match s with
 |.FunctionDef _ _ _ _ _ _ sc _ _ _=>sc
 |_=>{kind:=.function,names:=[],isGenerator:=av,isCoroutine:=av}
noncomputable abbrev CX0:CXT:=fun _ _ _ _ _ _=>False
noncomputable abbrev E0:XK:=fun _ _ _=>False
theorem kK :mM CX0 X E0:=fun _ _ _ _ _ _ _ h=>h.elim
structure Fun (K:aV) (x qual:aj) (st:Stmt) (f:aw) (fd:lB):Prop where
 ex:∃(oc:ax) (od:au aw) (kV doc pm:ax) (an:au aw) (cdv ct:ax) (osl:bR (au ax)),
  fd=eS x qual (eZ st) (c8 st) (aL st) .none kV doc pm an cdv ct/\K.lookup f=aa ⟨oc,od,.func fd,osl⟩/\m4 K cdv qual=ak
 kp:gf K (.ref f)=ak
theorem Fun.ok {f:aw} {k:ao} (F:Fun K x qual st f fd) (S:FnScope N ps (aL st)) (len:∀vs H Q E,sp vs H Q E->vs.length=ps.length)
  (hbody:∀(cdv:ax) (A:dB) (outer:ac cZ) (s:aI) (H:Hp) (vs:ac V) (Q:VK) (E:XK),Room k (A.deeper (dO qual (aL st) s.heap.objs.size f cdv))->sp vs H Q E->
   ∃t,PSs (e7 CX0 P w K mg base N qual (aL st) f cdv A outer s H E).nox (c8 st) t/\t {nx:=fun _ H'=>Q .non H',rt:=Q} (dR N vs) H):FnOk P w K mg base CX0 (k+1) f fd ps sp:=by
 obtain⟨oc,od,kV,doc,pm,an,cdv,ct,osl,rfl,lk,hcd⟩:=F.ex;refine Bt lk hcd S len fun A outer s H vs Q E hr hsp=>?_;obtain⟨t,h,q⟩:=hbody cdv A outer s H vs Q E hr hsp;exact⟨t,h.nox,q⟩
theorem Fun.binds {f:aw} (F:Fun K x qual st f fd)
  (h:∀(kV doc pm:ax) (an:au aw) (cdv ct:ax) (us:ac ax),us.length=ps.length->hG (eS x qual (eZ st) (c8 st) (aL st) .none kV doc pm an cdv ct) ⟨us,[]⟩=bq (ps.zip us)):fP K fd ps []:=by
 obtain⟨oc,od,kV,doc,pm,an,cdv,ct,osl,rfl,lk,hcd⟩:=F.ex;exact .all (h kV doc pm an cdv ct)
theorem vB {f:aw} {kV:ax} (l:K.lookup f=aa ⟨oc,od,.func (eS x qual (eZ st) (c8 st) (aL st) .none kV doc pm an cdv ct),osl⟩)
  (c:m4 K cdv qual=ak) (k:gf K (.ref f)=ak):Fun K x qual st f (eS x qual (eZ st) (c8 st) (aL st) .none kV doc pm an cdv ct):=⟨⟨oc,od,kV,doc,pm,an,cdv,ct,osl,rfl,l,c⟩,k⟩
theorem pv (i:ao) (hN:X.N[i]?=aa x:=by rfl) (hv:Vis X.env.scope x:=by first|exact cR rfl|exact ca (cR rfl)|exact ca (ca rfl)) (hd:(x==("__debug__":aj))=av:=by decide)
  (hcd:(x==("__classdict__":aj))=av:=by decide):PE X (.Name x pos) (BI i):=gn hN hv hd hcd
theorem kQ {A B:Prop} (h:B):if av=ak then A else B:=by rw[qY qu];exact h
theorem lm {A B:Prop} (h:A):if ak=ak then A else B:=by rw[qX rfl];exact h
noncomputable def ba (H H':Hp):Prop:=∀b o,H b=aa o->H' b=aa o
theorem ba.refl (H:Hp):ba H H:=fun _ _ h=>h
theorem ba.trans (a:ba H H1) (b:ba H1 H2):ba H H2:=fun c o h=>b c o (a c o h)
theorem ba.free (e:ba H H') (h:H' l=af):H l=af:=by
 cases q:H l with
 |none=>rfl
 |some o=>
  rw[e l o q] at h;cases h
theorem ba.seq {xs:ac V} (e:ba H H') (h:SqL K H a xs):SqL K H' a xs:=by
 rcases h with(h|⟨o,h⟩)|h
 .exact .inl (.inl (e _ _ h))
 .exact .inl (.inr ⟨o,e _ _ h⟩)
 .exact .inr h
variable {elt:Expr} {ifs:ac Expr}
theorem KA {R:lz->aI->Prop} {target:Expr} {it acc:ax} (I:ao->aI->Prop)
  (turn:∀n s,I n s->aF (aO prog w) A (g8 it) (fun r s₁=>match r with
   |none=>R (.ok .next) s₁
   |some v=>aF (aO prog w) A (uo target it v) (fun _ s₁'=>aF (aO prog w) A (jM target env v) (fun _ s₂ =>
     aF (aO prog w) A (uz ifs ak fun c r=>if r=ak then do let ok ←isTrue c env (eval c env);bq (rC ok) else bq (rC r)) (fun ok s₃ =>
      if ok=ak then aF (aO prog w) A (eval elt env) (fun x s₄ =>
       aF (aO prog w) A (call (.builtin "list.append") [acc,x]) (fun _ s₅=>∃m,m<n/\I m s₅) (fun _ _=>False) s₄) (fun _ _=>False) s₃
      else ∃m,m<n/\I m s₃) (fun _ _=>False) s₂) (fun _ _=>False) s₁') (fun _ _=>False) s₁) (fun _ _=>False) s)
  (n:ao) (h:I n s) :
  gL (aO prog w) A (.compLoop (.ListComp elt [⟨target,iter,ifs,0⟩] scope pos) 0 it acc env) R s:=by
 refine codeAny_loop rfl I (fun n s hI=>?_) n h;show aF _ A ((compTurn (.ListComp elt [⟨target,iter,ifs,0⟩] scope pos) 0 it acc env).onRaise (fun x=>do noteFrame x env;theTreesLotGoes x)) _ _ s;refine wpAny_noted ?_;rw[compTurn_list];refine qy (EO (qy (gZ (turn n s hI) (fun r s₁ h₁=>?_) fun _ _ h'=>h'.elim)));cases r with
 |none=>exact qB h₁
 |some v=>
  refine qy (gZ h₁ (fun _ s₁' h₁'=>?_) fun _ _ h'=>h'.elim);refine qy (gZ h₁' (fun _ s₂ h₂=>qy (gZ h₂ (fun ok s₃ h₃=>?_) fun _ _ h'=>h'.elim)) fun _ _ h'=>h'.elim);cases ok with
  |false=>exact qB ⟨rfl,h₃⟩
  |true=>
   exact qy (qy (gZ h₃ (fun x s₄ h₄=>qy (gZ h₄ (fun _ s₅ h₅=>qB (qB ⟨rfl,h₅⟩)) fun _ _ h'=>h'.elim)) fun _ _ h'=>h'.elim))
noncomputable def iQ (X:Cx) (N':ac aj) (scope:Scope) (cl:ac (aj×aw)) (C:aw) (s₀:aI) (H₀:Hp) (fp:ac aw):Cx:=
 {X with N:=N',s₀:=s₀,H₀:=H₀,env:=EQ scope cl C X.env,outer:=X.stack,stack:=X.stack,ex:=fp,fn:=fun _=>av,pn:=[],xe:=fun _ _=>False}
noncomputable def fz (env:cZ):ac (aj×hU)->ac (aj×aw)->ac (aj×aw)
 |[],acc=>acc
 |(n,k)::r,acc=>fz env r (if k==.free then (match env.cells.lookup n with|some c=>(n,c)::acc|none=>acc) else acc)
theorem JV (h:∀y∈scope.names,y.2=.free->∃c,env.cells.lookup y.1=aa c):closureFor scope env=bq (fz env scope.names []):=by
 have all:∀(l:ac (aj×hU)) (acc:ac (aj×aw)),(∀y∈l,y.2=.free->∃c,env.cells.lookup y.1=aa c)->
   (uz l acc fun x r=>match x with
    |(name,kind)=>if kind==.free then do let c ←cellOf env name;bq (rC ((name,c)::r)) else bq (rC r):iy (ac (aj×aw)))=bq (fz env l acc):=by
  intro l
  induction l with
  |nil=>intro acc _;rfl
  |cons y r ih=>
   intro acc hl;obtain⟨n,k⟩:=y;rw[List.forIn_cons];have hr:∀y∈r,y.2=.free->∃c,env.cells.lookup y.1=aa c:=fun y hy=>hl y (qh _ hy);unfold fz;cases hk:(k==nc) with
   |false=>
    simp only[hk,qt,dc,pure_bind];exact ih acc hr
   |true=>
    obtain⟨c,hc⟩:=hl (n,k) qg (by simpa using hk);have hc':env.cells.lookup n=aa c:=hc;simp only[hk,c7,cellOf,hc',pure_bind];exact ih _ hr
 have e:=all scope.names [] h;exact Eq.trans (bind_pure _) e
theorem vG {env:cZ}:∀(l:ac (aj×hU)) (acc:ac (aj×aw)),(∀x c,acc.lookup x=aa c->env.cells.lookup x=aa c)->∀x c,(fz env l acc).lookup x=aa c->env.cells.lookup x=aa c
 |[],_,h=>h
 |(n,k)::r,acc,h=>by
  unfold fz;refine vG r _ ?_;split
  .split
   .rename_i c hc;intro x d hx;rw[oM] at hx;cases e:x==n with
    |true=>
     rw[e] at hx;have e':x=n:=by simpa using e
     have e2:c=d:=qI hx;rw[e',←e2];exact hc
    |false=>rw[e] at hx;exact h x d hx
   .exact h
  .exact h
theorem B1 {env:cZ}:∀(l:ac (aj×hU)) (acc:ac (aj×aw)) (x:aj),(acc.lookup x).isSome=ak->((fz env l acc).lookup x).isSome=ak
 |[],_,_,h=>h
 |(n,k)::r,acc,x,h=>by
  unfold fz;refine B1 r _ x ?_;split
  .split
   .rw[oM];split
    .rfl
    .exact h
   .exact h
  .exact h
theorem uY {env:cZ}:∀(l:ac (aj×hU)) (acc:ac (aj×aw)) (x:aj) (c:aw),(x,nc)∈l->env.cells.lookup x=aa c->((fz env l acc).lookup x).isSome=ak
 |[],_,_,_,h,_=>nomatch h
 |(n,k)::r,acc,x,c,h,hc=>by
  unfold fz;rcases cH.mp h with e|h
  .injection e with e1 e2;subst e1;subst e2;refine B1 r _ _ ?_;rw[qX (by rfl),hc];simp
  .exact uY r _ x c h hc
theorem tW {env:cZ}:∀(names:ac (aj×hU)) (x:aj) (k':hU),
  (names.map fun(n,k)=>if (k==nc && env.scope.kind==.function && env.kindOf n==aa .cell) then (n,yB) else (n,k)).lookup x=aa k'->
  names.lookup x=aa k'\/(k'=.cell/\names.lookup x=aa .free)
 |[],_,_,h=>by simp at h
 |(n,k)::r,x,k',h=>by
  have ih:=@tW env r x k';have h':dj x ((if (k==nc && env.scope.kind==.function && env.kindOf n==aa .cell)=ak then (n,yB) else (n,k))::(r.map fun(n,k)=>if (k==nc && env.scope.kind==.function && env.kindOf n==aa .cell) then (n,yB) else (n,k)))=aa k':=h;cases hx:x==n with
  |true=>
   by_cases hc:(k==nc && env.scope.kind==.function && env.kindOf n==aa .cell)=ak
   .rw[qX hc] at h';simp only[oM,hx] at h' ⊢;have hk:k=.free:=by simp only[fJ,ly] at hc;exact hc.1.1
    right
    exact⟨(qI h').symm,by rw[hk]⟩
   .rw[qY hc] at h';simp only[oM,hx] at h' ⊢;exact .inl h'
  |false=>
   have h2:dj x (r.map fun(n,k)=>if (k==nc && env.scope.kind==.function && env.kindOf n==aa .cell) then (n,yB) else (n,k))=aa k':=by
    by_cases hc:(k==nc && env.scope.kind==.function && env.kindOf n==aa .cell)=ak
    .rw[qX hc] at h';simpa only[oM,hx] using h'
    .rw[qY hc] at h';simpa only[oM,hx] using h'
   simp only[oM,hx];exact ih h2
structure CompScope (X:Cx) (scope:Scope):Prop where
 kind:scope.kind=.function
 nocell:∀y∈scope.names,y.2≠.cell
 names:∀y∈scope.names,y.2=.local->scope.names.lookup y.1=aa .local
 free:∀y∈scope.names,y.2=.free->X.env.kindOf y.1=aa .cell\/X.env.kindOf y.1=aa .free
noncomputable def ir (fv:ac (au ao)) (σ:St):St:=fv.map fun o=>o.bind fun j=>(σ[j]?).join
variable {N':ac aj} {fv:ac (au ao)}
theorem DV (I:Inv X pins σ H s) (S:CompScope X scope):closureFor scope X.env=bq (fz X.env scope.names []):=
 JV fun y hy hf=>I.ok.has y.1 (S.free y hy hf)
theorem K7 (I:Inv X pins σ H s) (S:CompScope X scope) (hf:∀b∈fp,gX X pins H b) (hlt:∀b∈fp,b<s.heap.objs.size) (hC:s.heap.objs.size<=C) :
  (iQ X N' scope (fz X.env scope.names []) C s H fp).Ok:=by
 have sub:=vG (env:=X.env) scope.names [] (fun x c h=>by simp at h);refine⟨I.ok.mod,S.kind,I.ok.glob,I.ok.blt,hC,fun x y c h1 h2=>I.ok.inj x y c (sub x c h1) (sub y c h2),fun x hx=>?_,fun x c h _=>by simp[iQ] at h,I.ok.hd,I.ok.frames,.inl rfl,fun b hb=>⟨?_,fun x c e=>?_⟩,I.bs,qN I.ok.bsz I.sz,
  fun b o e hb=>?_,fun b hb=>?_,I.stack,I.stkFree⟩
 .have hx':((yC scope X.env).names.lookup x=aa .cell\/(yC scope X.env).names.lookup x=aa .free):=hx;have hfr:scope.names.lookup x=aa .free:=by
   rcases hx' with h|h
   .rcases tW _ _ _ h with h|⟨_,h⟩
    .exact bJ rfl (S.nocell _ (mZ h))
    .exact h
   .rcases tW _ _ _ h with h|⟨h,_⟩
    .exact h
    .cases h
  have hm:=mZ hfr;obtain⟨c,hc⟩:=I.ok.has x (S.free _ hm rfl);exact oF.mp (uY _ _ x c hm hc)
 .exact qD (qG (hlt b hb) hC)
 .exact(hf b hb).2.2.2.2.1 x c (sub x c e)
 .rcases(hf b hb).2.2.2.1 with z|z
  .exact I.ok.noex b o e z
  .exact bJ (qG (qw e) I.ok.bsz) (ER.mpr z)
 .intro z;rcases cH.mp (I.stkSub b z) with e|e
  .exact(hf b hb).2.1 e
  .exact(hf b hb).2.2.1 e
theorem KR (I:Inv X pins σ H s) (S:CompScope X scope) (hf:∀b∈fp,gX X pins H b) (hlt:∀b∈fp,b<s.heap.objs.size) (hC:C=s.heap.objs.size) (hlen:fv.length=N'.length)
  (hfv:∀(i j:ao) x,N'[i]?=aa x->fv[i]?=aa (aa j)->X.N[j]?=aa x/\(X.env.kindOf x=aa .cell\/X.env.kindOf x=aa .free)/\scope.names.lookup x=aa .free) {m:aj->au ax} (hn:h'.Ns C m) (hk:∀b o,s.heap.get? b=aa o->h'.get? b=aa o) :
  Inv (iQ X N' scope (fz X.env scope.names []) C s H fp) [] (ir fv σ) H {s with heap:=h',toks:=t'}:=by
 have ok:=K7 (N':=N') I S hf hlt (C:=C) (yf hC.symm);have sub:=vG (env:=X.env) scope.names [] (fun x c h=>by simp at h);refine⟨ok,rfl,I.bare,Un.kept hk,⟨m,hn,fun i x v e1 e2 e3=>?_⟩,fun x c e=>?_,?_,fun x c e=>I.freeC x c (sub x c e),fun p hp=>?_,I.hok.kept hk,?_⟩
 .have e1':N'[i]?=aa x:=e1;have e2':(ir fv σ)[i]?=aa (aa v):=e2;unfold ir at e2';rw[qk] at e2';cases q:fv[i]? with
  |none=>rw[q] at e2';cases e2'
  |some o=>
   rw[q] at e2';cases o with
   |none=>cases e2'
   |some j=>
    have e2'':(σ[j]?).join=aa v:=by simpa using e2'
    obtain⟨hN,hkk,hfree⟩:=hfv i j x e1' q;have hσ:σ[j]?=aa (aa v):=by
     cases z:σ[j]? with
     |none=>rw[z] at e2'';cases e2''
     |some w=>rw[z] at e2'';cases w with
      |none=>cases e2''
      |some w'=>simp at e2'';rw[e2'']
    obtain⟨m0,hn0,hl⟩:=I.loc;obtain⟨u,r,l⟩:=hl j x v hN hσ (.inr hkk);refine⟨u,r,.inr ⟨?_,?_⟩⟩
    .rcases e3 with z|z|z
     .have z':(yC scope X.env).names.lookup x=aa .local:=z;rcases tW _ _ _ z' with y|⟨y,_⟩
      .rw[hfree] at y;cases y
      .cases y
     .exact .inl z
     .exact .inr z
    .rcases l with⟨k,_⟩|⟨_,c,hc,hcell⟩
     .rcases hkk with y|y
      .rw[k] at y;cases y
      .rw[k] at y;cases y
     .obtain⟨c',hc'⟩:=oF.mp (uY scope.names [] x c (mZ hfree) hc);have e:=sub x c' hc';rw[hc] at e;cases e;obtain⟨oc,ho,hd⟩:=hcell;exact⟨c,hc',oc,hk _ _ ho,hd⟩
 .obtain⟨v,oc,ho,hd⟩:=I.cell x c (sub x c e);exact⟨v,oc,hk _ _ ho,hd⟩
 .exact I.hok.fresh (yf hC.symm)
 .exact bJ (show p∈([]:ac (aw×Obj)) from hp) (by simp)
 .show(ir fv σ).length=N'.length;unfold ir;rw[qf,hlen]
theorem GZ (I:Inv X pins σ H s) {cl:ac (aj×aw)} (hf:∀b∈fp,gX X pins H b) (hC:s.heap.objs.size<=C) {σ':St} {pl:ac (aw×Obj)} 
  (J:Inv (iQ X N' scope cl C s H fp) pl σ' H' s') (hs:iw C s'.heap h'):Inv X pins σ H' {s' with heap:=h'}:=by
 have hCn:H' C=af:=J.free;refine I.call' (ch:=fp) (s':={s' with heap:=h'}) J.os ?_ ?_ J.bare fun b hb=>⟨(hf b hb).2.2.2.1,(hf b hb).2.1,(hf b hb).2.2.2.2.1,(hf b hb).2.2.2.2.2⟩
 .have U:Un (frs X.stack) fp H H' s.heap s'.heap:=J.base;have neC:∀b o,s.heap.get? b=aa o->b≠C:=fun b o e=>qD (qG (qw e) hC);refine⟨fun b o e n h1 h2=>?_,fun b o e n h1 h2=>?_,U.free,fun b o e h2=>?_,U.tups,U.frzs,U.tbls⟩
  .exact(hs.2 b (neC b o e)).trans (U.keep b o e n h1 h2)
  .obtain⟨sl,q⟩:=U.slot b o e n h1 h2;exact⟨sl,(hs.2 b (neC b o e)).trans q⟩
  .obtain⟨o',q⟩:=U.there b o e h2;exact⟨o',(hs.2 b (neC b o e)).trans q⟩
 .intro b u e;refine(J.hok b u e).stay (fun c v hc q=>(hs.2 c ?_).trans q) (fun _ q=>q) fun _ _ q=>q;rintro rfl;rcases hc with z|z
  .rw[←z,hCn] at e;cases e
  .rw[hCn] at z;cases z
noncomputable def PTs (X:Cx) (es:ac Expr) (t:TT):Prop:=
 ∀(pins:ac (aw×Obj)) (s:aI) (σ:St) (H:Hp) (Q:aT->Hp->Prop),Inv X pins σ H s->t σ H Q->
  aF (aO X.prog X.w) X.A (uz es ak fun c r=>if r=ak then do let ok ←isTrue c X.env (eval c X.env);bq (rC ok) else bq (rC r)) (TP X pins σ Q) X.xe s
noncomputable def F1:TT:=fun _ H Q=>Q ak H
theorem Gc :PTs X [] F1:=fun _ _ _ H _ I h=>wpAny_tests_nil ⟨H,I,h⟩
theorem JB {c:Expr} {t:TT} (hc:PT X c t):PTs X [c] t:=fun pins s σ H Q I h=>wpAny_tests_one (hc pins s σ H Q I h)
noncomputable def LcW (J:It) (g:TG) (tc:TT) (te:TE) (acc:aw) (Q:V->Hp->Prop) (σ0:St) (H1:Hp):Prop:=
 ∃W:ao->ao->ac V->St->Hp->Prop,(∃m,W 0 m [] σ0 (upd H1 acc (.lst [])))/\∀i m ys σ' H',W i m ys σ' H'->H' acc=aa (.lst ys) /\
  ((J.stop i H'/\Q (.ref acc) H')\/(J.go i H'/\∀x H2,J.yld i H' x H2->g x σ' H2 fun σ2 H3=>tc σ2 H3 fun b H4=>
   if b=ak then te σ2 H4 fun v H5=>H5 acc=aa (.lst ys)/\ys.length<aN/\∃m',m'<m/\W (i+1) m' (ys++[v]) σ2 (upd H5 acc (.lst (ys++[v])))
   else ∃m',m'<m/\W (i+1) m' ys σ2 H4))
noncomputable def tLC (wi:TI) (g:TG) (tc:TT) (te:TE) (fv:ac (au ao)):TE:=fun σ H Q=>wi σ H fun J H1=>∀acc,H1 acc=af->LcW J g tc te acc Q (ir fv σ) H1
noncomputable def PB (X:Cx) (N':ac aj) (scope:Scope) (tg:Expr) (ifs:ac Expr) (elt:Expr) (g:TG) (tc:TT) (te:TE):Prop:=
 ∀(cl:ac (aj×aw)) (C:aw) (s₀:aI) (H₀:Hp) (fp:ac aw),PG (iQ X N' scope cl C s₀ H₀ fp) tg g/\PTs (iQ X N' scope cl C s₀ H₀ fp) ifs tc/\PE (iQ X N' scope cl C s₀ H₀ fp) elt te
structure FvOk (X:Cx) (N':ac aj) (scope:Scope) (fv:ac (au ao)):Prop where
 len:fv.length=N'.length
 at':∀(i j:ao) x,N'[i]?=aa x->fv[i]?=aa (aa j)->X.N[j]?=aa x/\(X.env.kindOf x=aa .cell\/X.env.kindOf x=aa .free)/\scope.names.lookup x=aa .free
variable {py spos:ff}
section
variable {g:TG}
theorem Cc {s2:aI} {it:aw} {tn:ao->Heap->Prop} {J:It} {Q:VK} {RR:ax->aw->lz->aI->Prop} (hc:X.calm=ak) (S:CompScope X scope) (F:FvOk X N' scope fv) (hb:PB X N' scope tg ifs elt g tc te)
  (I2:Inv X pins σ H1 s2) (T:Turn X.prog X.w X.K tg J fp it tn) (st2:tn 0 s2.heap) (f2:∀b∈fp,gX X pins H1 b) (q:∀acc,H1 acc=af->LcW J g tc te acc Q (ir fv σ) H1)
  (hRR:∀(a C:aw) (H':Hp) (s':aI) (m:aj->au ax),s'.heap.Ns C m->(∀h',iw C s'.heap h'->Inv X pins σ H' {s' with heap:=h'})->gX X pins H' C->Q (.ref a) H'->RR (.ref a) C (.ok .next) s') :
  aF (aO X.prog X.w) X.A (newList []) (fun acc s₃=>aF (aO X.prog X.w) X.A (newFunctionEnv scope X.env.globals (fz X.env scope.names []) [] X.env.qual af .none (aa X.env)) (fun cenv s₄ =>
   gL (aO X.prog X.w) X.A (.compStart (.ListComp elt [⟨tg,iter,ifs,0⟩] scope pos) 0 (.ref it) acc {cenv with scope:=yC scope X.env}) (RR acc cenv.locals) s₄) X.xe s₃) X.xe s2:=by
 refine lF ?_;have hacc:H1 s2.heap.objs.size=af:=I2.fresh;have I3:Inv X pins σ (upd H1 s2.heap.objs.size (.lst [])) {s2 with heap:=s2.heap.push {cls:=.type "list",data:=.seq ([]:ac ax).toArray} }:=I2.lnew (t':=s2.toks) .nil (g9 _);generalize hs3:({s2 with heap:=s2.heap.push {cls:=.type "list",data:=.seq ([]:ac ax).toArray} }:aI)=s3 at I3 ⊢;have up:∀b o,s2.heap.get? b=aa o->s3.heap.get? b=aa o:=fun b o e=>by rw[←hs3];exact qv _ e
 have lt2:∀b∈fp,b<s2.heap.objs.size:=fun b hb=>by obtain⟨o,e,_⟩:=T.obj 0 _ st2 b hb;exact qw e
 have sz3:s2.heap.objs.size<s3.heap.objs.size:=by rw[←hs3];show _<(s2.heap.push _).objs.size;rw[mY];exact uu _
 have lt3:∀b∈fp,b<s3.heap.objs.size:=fun b hb=>rj (lt2 b hb) sz3;have f3:∀b∈fp,gX X pins (upd H1 s2.heap.objs.size (.lst [])) b:=fun b hb=>⟨by rw[aE (qD (lt2 b hb))];exact(f2 b hb).1,(f2 b hb).2⟩;have st3:tn 0 s3.heap:=T.keep _ _ _ st2 fun b _ o e=>up b o e;refine wpAny_newFunctionEnv S.nocell (by intro y hy;simp at hy) (fun h4 hn4 sb4=>?_) S.kind;have k4:∀b o,s3.heap.get? b=aa o->h4.get? b=aa o:=fun b o e=>(sb4.2 b (qD (qw e))).trans (qv _ e);have st4:tn 0 h4:=T.keep _ _ _ st3 fun b _ o e=>k4 b o e;have I4:=KR I3 S f3 lt3 (C:=s3.heap.objs.size) rfl F.len F.at' hn4 k4 (t':=s3.toks+([]:ac (aj×ax)).length);generalize hX:iQ X N' scope (fz X.env scope.names []) s3.heap.objs.size s3 (upd H1 s2.heap.objs.size (.lst [])) fp=X' at I4;obtain⟨bg,bt,be⟩:=hb (fz X.env scope.names []) s3.heap.objs.size s3 (upd H1 s2.heap.objs.size (.lst [])) fp;rw[hX] at bg bt be;have hprog:X'.prog=X.prog:=by rw[←hX];rfl
 have hw:X'.w=X.w:=by rw[←hX];rfl
 have hK:X'.K=X.K:=by rw[←hX];rfl
 have hA:X'.A=X.A:=by rw[←hX];rfl
 have hcalm:X'.calm=ak:=by rw[←hX];exact hc
 have hxe:X'.xe=fun _ _=>False:=by rw[←hX];rfl
 have henv:X'.env=EQ scope (fz X.env scope.names []) s3.heap.objs.size X.env:=by rw[←hX];rfl
 have stat:∀{H':Hp},(∀b∈fp,H' b=af)->∀b∈fp,gX X' [] H' b:=fun {H'} hn b hb=>by have f:=f3 b hb;have ok:=I4.ok;refine⟨hn b hb,(ok.exf b (by rw[←hX];exact hb)).1,ok.exfs b (by rw[←hX];exact hb),.inl (by rw[←hX];exact hb),fun x c e=>(ok.exf b (by rw[←hX];exact hb)).2 x c e,fun p hp=>?_⟩;rw[←hX] at hp;exact bJ (show p∈([]:ac (aw×Obj)) from hp) (by simp)
 obtain⟨W,⟨m0,w0⟩,turn⟩:=q s2.heap.objs.size hacc;have loop:∀s5:aI,s5={s3 with heap:=h4,toks:=s3.toks+([]:ac (aj×ax)).length} ->
   gL (aO X.prog X.w) X.A (.compLoop (.ListComp elt [⟨tg,iter,ifs,0⟩] scope pos) 0 (.ref it) (.ref s2.heap.objs.size) (EQ scope (fz X.env scope.names []) s3.heap.objs.size X.env))
    (RR (.ref s2.heap.objs.size) s3.heap.objs.size) s5:=by
  intro s5 hs5;refine KA (fun n s'=>∃i ys σ' H',Inv X' [] σ' H' s'/\tn i s'.heap/\(∀b∈fp,H' b=af)/\W i n ys σ' H') ?_ m0 ⟨0,[],ir fv σ,_,hs5▸I4,hs5▸st4,fun b hb=>(f3 b hb).1,w0⟩;rintro n s6 ⟨i,ys,σ6,H6,I6,st6,fr6,w6⟩;obtain⟨ha6,turn6⟩:=turn i n ys σ6 H6 w6;rw[←henv];rcases turn6 with⟨stop,qn⟩|⟨go,step⟩
  .have d:=T.done X' hprog hw hK hcalm i [] s6 σ6 H6 (fun _ _=>False) I6 (stat fr6) st6 stop;rw[hA] at d;refine thn d fun r s7 ⟨hr,I7⟩=>?_;subst hr;obtain⟨m7,hn7,_⟩:=I7.loc;have hl:X'.env.locals=s3.heap.objs.size:=by rw[henv];rfl
   refine hRR _ _ H6 s7 m7 (hl▸hn7) (fun h' hs'=>?_) ?_ qn
   .rw[←hX] at I7;exact GZ I3 f3 (qx _) I7 hs'
   .exact I3.fpOk (qx _) (by have:=I7.free;rw[hl] at this;exact this)
  .have d:=T.item X' hprog hw hK hcalm i [] s6 σ6 H6 (fun _ _=>False) I6 (stat fr6) st6 go;rw[hA] at d;refine thn d fun r s7 ⟨u,hr,h7⟩=>?_;subst hr;refine thn h7 fun _ s8 ⟨x,H8,I8,r8,y8,st8,fr8⟩=>?_;have I8':=I8.pinned (stat fr8) (T.obj _ _ st8);have dg:=bg _ s8 σ6 H8 x u _ I8' r8 (step x H8 y8);rw[hprog,hw,hA,hxe] at dg;refine thn dg fun _ s9 ⟨σ9,H9,I9,q9⟩=>?_;have dt:=bt _ s9 σ9 H9 _ I9 q9;rw[hprog,hw,hA,hxe] at dt;refine thn dt fun b s10 ⟨H10,I10,q10⟩=>?_;have again:∀{σ7:St} {H7:Hp} {s7:aI} {ys':ac V},Inv X' ([]++pc fp s8.heap) σ7 H7 s7->(∃m',m'<n/\W (i+1) m' ys' σ7 H7)->∃m,m<n/\∃i ys σ' H',Inv X' [] σ' H' s7/\tn i s7.heap/\(∀b∈fp,H' b=af)/\W i m ys σ' H':=fun {σ7 H7 s7 ys'} I7 n7=>by obtain⟨m',hm,w7⟩:=n7;refine⟨m',hm,i+1,ys',σ7,H7,I7.unpinned,T.keep _ _ _ st8 fun b hb o e=>(I7.pin (b,o) (qR _ (qR _ (ti hb e)))).1,fun b hb=>?_,w7⟩;obtain⟨o,e,_⟩:=T.obj _ _ st8 b hb;exact(I7.pin (b,o) (qR _ (qR _ (ti hb e)))).2.1
   cases b with
   |false=>
    rw[qY qu] at q10 ⊢;exact again I10 q10
   |true=>
    rw[qX rfl] at q10 ⊢;have de:=be _ s10 σ9 H10 _ I10 q10;rw[hprog,hw,hA,hxe] at de;refine thn de fun v s11 ⟨y,H11,I11,r11,ha11,hz11,n11⟩=>?_;have da:=BG _ s11 σ9 H11 (.ref s2.heap.objs.size) [y] (.ref s2.heap.objs.size) [v] (fun _ H'=>H'=upd H11 s2.heap.objs.size (.lst (ys++[y]))) I11 rfl (.cons r11 .nil) ⟨_,ys,y,rfl,rfl,ha11,hz11,rfl⟩;rw[hprog,hw,hA,hxe] at da;refine thn da fun _ s12 ⟨_,H12,I12,_,e12⟩=>?_;subst e12;exact again I12 n11
 exact codeAny_compStart_list (loop _ rfl) (T.self _ 0 _ _ _ st4 (loop _ rfl))
theorem DD (hc:X.calm=ak) (S:CompScope X scope) (F:FvOk X N' scope fv) (hi:PI X tg iter wi) (hb:PB X N' scope tg ifs elt g tc te) (hs:∀x,oA iter X.env x=bq x:=by intro _;rfl) :
  PE X (.ListComp elt [⟨tg,iter,ifs,0⟩] scope pos) (tLC wi g tc te fv):=by
 intro pins s σ H Q I h;rw[eval_ListComp];refine Qp (use:=af) rfl hs (DV I S) S.kind S.names (thn (hi pins s σ H _ I h) fun x s1 h1=>thn h1 fun itv s2 h2=>?_);obtain⟨it,fp,tn,J,H1,e,I2,T,st2,f2,q⟩:=h2;subst e;refine Cc (RR:=fun acc C=>compPost (aO X.prog X.w) X.A X.xe af (EP X pins σ Q) acc C) hc S F hb I2 T st2 f2 q ?_;intro a C H' s' m hn hI hCL hq;exact⟨m,hn,fun h' hs'=>⟨.ref a,H',hI h' hs',rfl,hq⟩⟩
theorem L' {y:aj} (hN:X.N.Nodup) (hy:X.N[i]?=aa y) (hyl:X.env.scope.names.lookup y=aa .local) (hc:X.calm=ak) (S:CompScope X scope) (F:FvOk X N' scope fv) (hi:PI X tg iter wi) (hb:PB X N' scope tg ifs elt g tc te)
  (hsw:eG (.ListComp elt [⟨tg,iter,ifs,0⟩] scope pos) (aa (.Name y py)) spos.line X.env=bq ak)
  (hs:∀x,oA iter X.env x=bq x:=by intro _;rfl) :
  PS X (.Assign [.Name y py] (.ListComp elt [⟨tg,iter,ifs,0⟩] scope pos) spos) (oW (tLC wi g tc te fv) (pA i)):=by
 intro pins s σ H D I h;rw[exec_Assign_Name_used _ _ _ _ hsw];refine qy (EO (qy ?_));show aF _ _ (do let _ ←comprehension (.ListComp elt [⟨tg,iter,ifs,0⟩] scope pos) scope X.env _ (newList []) av (eval iter X.env) (aa (jM (.Name y py) X.env))) _ _ s;refine qy (gZ (Qp (use:=aa (jM (.Name y py) X.env)) (Q:=fun _ s'=>SP X pins D .next s') rfl hs (DV I S) S.kind S.names
  (thn (hi pins s σ H _ I h) fun x s1 h1=>thn h1 fun itv s2 h2=>?_)) (fun _ s' hq=>qB (qB hq)) fun _ _ e=>e)
 obtain⟨it,fp,tn,J,H1,e,I2,T,st2,f2,q⟩:=h2;subst e;refine Cc (RR:=fun acc C=>compPost (aO X.prog X.w) X.A X.xe (aa (jM (.Name y py) X.env)) (fun _ s'=>SP X pins D .next s') acc C) hc S F hb I2 T st2 f2 q ?_;intro a C H' s' m hn hI hCL hq;show aF _ _ (jM (.Name y py) X.env (.ref a)) _ _ _;have I':Inv X pins σ H' s':=hI s'.heap (ES _ _);refine PF ?_;refine BX (v:=.ref a) I' hN hy (.inl hyl) rfl (fun s'' I'' hch=>?_) (.inr hyl);obtain⟨ad,hsb,had⟩:=hch;obtain⟨f0,f1,f2',f3,f4,f5⟩:=hCL;have hne:C≠ad:=by
  rcases had with z|z
  .rw[z];exact f1
  .exact fun e=>f4 y ad z e.symm
 refine⟨m,hn.sameBut hsb hne,fun h' hs'=>?_⟩;exact⟨_,H',I''.turned (t':=s''.toks) (fun b o hb e=>(hs'.2 b hb).trans e) f0 f1 f3 f4 f5,hq⟩
end
noncomputable def Its (x:aj):It:=⟨fun i _=>i<x.cps.size,fun i H v H'=>H'=H/\∃c,x.cps[i]?=aa c/\v=.str ⟨#[c]⟩,fun i _=>i=x.cps.size⟩
theorem OJ {M:um} {n:aj} {it:ax} {Q:lw->aI->Prop} (hQ:Q () s):aF M A (uo (.Name n p) it u) Q E s:=qB hQ
theorem Dk {n:aj} {ty:dz} (it:aw) (x:aj) (t:Tok)
  (W:∀A:dB,A.handled=af->rD P w A it [it] [it] x.cps.size (SignAt x) (fun i h=>h.IsStrIter it ty x t i))
  (sf:∀(A:dB) (i:ao) (s:aI) (Q:ax->aI->Prop) (E:ax->aI->Prop),s.heap.IsStrIter it ty x t i->Q (.ref it) s->aF (aO P w) A (oz (.ref it)) Q E s):Turn P w K (.Name n p) (Its x) [it] it (fun i h=>h.IsStrIter it ty x t i) where
 mem:=by simp
 obj:=fun i h st b hb=>by
  have e:b=it:=by simpa using hb
  subst e;obtain⟨o,e,c,d⟩:=st;exact⟨o,e,fun v z=>by rw[d] at z;cases z⟩
 keep:=fun i h h' st k=>by obtain⟨o,e,r⟩:=st;exact⟨o,k it (by simp) o e,r⟩
 item:=by intro X hP hw hK hc i pins s σ H E I hf st hg;subst hP hw hK;obtain⟨f0,f1,f2,f3,f4,f5⟩:=hf it (by simp);refine(W X.A (I.ok.hd hc)).item i s _ _ hg st fun v h' tk hv st' kk=>?_;obtain⟨c,u,hcc,rfl⟩:=hv;have I1:Inv X pins σ H {s with heap:=h',toks:=tk}:=I.turned (fun b o hb e=>kk b o (by simpa using hb) e) f0 f1 f3 f4 f5;exact⟨_,rfl,OJ ⟨.str ⟨#[c]⟩,H,I1,⟨_,rfl⟩,⟨rfl,c,hcc,rfl⟩,st',fun b hb=>(hf b hb).1⟩⟩
 done:=by intro X hP hw hK hc i pins s σ H E I hf st hg;subst hP hw hK;obtain⟨f0,f1,f2,f3,f4,f5⟩:=hf it (by simp);have hi:i=x.cps.size:=hg;subst hi;exact(W X.A (I.ok.hd hc)).done s _ _ st fun h' tk kk=>⟨rfl,I.turned (fun b o hb e=>kk b o (by simpa using hb) e) f0 f1 f3 f4 f5⟩
 self:=sf
noncomputable def NS (te:TE):TI:=fun σ H R=>te σ H fun v H1=>∃x,v=.str x/\R (Its x) H1
theorem J2 {n:aj} (he:PE X e te):PI X (.Name n p) e (NS te):=by
 intro pins s σ H R I h;refine thn (he pins s σ H _ I h) fun v s1 ⟨y,H1,I1,r1,q1⟩=>?_;obtain⟨x,e,q⟩:=q1;subst e;obtain⟨t,rfl⟩:=r1;have fin:∀(ty:dz) (o:Obj),(s1.heap.push o).IsStrIter s1.heap.objs.size ty x t 0->Turn X.prog X.w X.K (.Name n p) (Its x) [s1.heap.objs.size] s1.heap.objs.size (fun i h=>h.IsStrIter s1.heap.objs.size ty x t i)->
   PIE X pins σ (.Name n p) R (.ref s1.heap.objs.size) {s1 with heap:=s1.heap.push o}:=fun ty o st T=>by
  refine⟨s1.heap.objs.size,[s1.heap.objs.size],_,_,H1,rfl,I1.kept (t':=s1.toks) fun b o e=>qv _ e,T,st,fun b hb=>?_,q⟩;have e:b=s1.heap.objs.size:=by simpa using hb
  subst e;exact I1.fpOk (qx _) (I1.hok.fresh (qx _))
 cases ha:x.cps.all (· < 128)
 .exact wpAny_pyIter_wide ha (fin _ _ ⟨_,qH _ rfl,rfl,rfl⟩ (Dk _ x t (fun A' hA=>Walks.strWide hA _ x t) fun _ _ _ _ _ st h=>wpAny_pyIter_striter_wide st h))
 .exact wpAny_pyIter_ascii ha (fin _ _ ⟨_,qH _ rfl,rfl,rfl⟩ (Dk _ x t (fun A' hA=>Walks.strAscii hA _ x t) fun _ _ _ _ _ st h=>wpAny_pyIter_striter_ascii st h))
noncomputable def Ite (K:aV) (a:aw):It:=
 ⟨fun i H=>∃xs x,SqL K H a xs/\xs[i]?=aa x,fun i H v H'=>∃T x,v=.ref T/\H T=af/\H'=upd H T (.tup [.int i,x])/\∀xs,SqL K H a xs->xs[i]?=aa x,fun i H=>∃xs,SqL K H a xs/\xs.length<=i⟩
variable {elts:ac Expr}
theorem Gf {k1:ao} (e it a:aw) (hei:e≠it) :
  Turn P w K (.Tuple elts k1 pos) (Ite K a) [e,it] e (fun i h=>(∃old,IsEnum h e it i old)/\h.IsListIter it a i) where
 mem:=by simp
 obj:=fun i h st b hb=>by
  obtain⟨⟨old,he⟩,o,ho,c,d⟩:=st;rcases cH.mp hb with z|z
  .subst z;exact⟨_,he,fun v z=>by cases z⟩
  .have z':b=it:=by simpa using z
   subst z';exact⟨o,ho,fun v z=>by rw[d] at z;cases z⟩
 keep:=fun i h h' st k=>by obtain⟨⟨old,he⟩,hi⟩:=st;exact⟨⟨old,k e (by simp) _ he⟩,hi.at fun o x=>k it (by simp) o x⟩
 item:=by
  intro X hP hw hK hc i pins s σ H E I hf st hg;subst hP hw hK;obtain⟨xs,x,hq,hx⟩:=hg;obtain⟨its,rv,p,hz⟩:=I.list hq;obtain⟨u,hu,ru⟩:=rv.get hx;obtain⟨⟨old,he⟩,hit⟩:=st;obtain⟨e0,e1,e2,e3,e4,e5⟩:=hf e (by simp);obtain⟨f0,f1,f2,f3,f4,f5⟩:=hf it (by simp);have helt:e<s.heap.objs.size:=qw he;have hilt:it<s.heap.objs.size:=by obtain⟨_,x,_⟩:=hit;exact qw x
  refine wpAny_pyNext_enum_item he hit p.isList (x:=u) (by simpa using hu) hei fun h' ho hit' hT hsz hk=>?_;refine⟨_,rfl,wpAny_letOwnedTupleGo_enum ho fun h2 he2 hs2=>?_⟩;have hs2':iw e h' h2:=hs2;have kk:∀b o,b≠e->b≠it->s.heap.get? b=aa o->h2.get? b=aa o:=fun b o h1 h3 q=>(hs2'.2 b h1).trans (hk b o h1 h3 q);have hT2:h2.get? s.heap.objs.size=aa {cls:=.type "tuple",data:=.seq #[.int i s.toks,u]}:=(hs2'.2 _ (yb helt)).trans hT;have nH:H s.heap.objs.size=af:=I.fresh;have I1:Inv X pins σ (upd H s.heap.objs.size (.tup [.int i,x])) {s with heap:=h2,toks:=s.toks+1}:=by
   have ne:∀b o,H b=aa o->b≠e/\b≠it:=fun b o q=>⟨fun z=>(by rw[z,e0] at q;cases q),fun z=>(by rw[z,f0] at q;cases q)⟩;refine I.step (g':=s.gens) (d':=s.drawn) (ch:=[e,it]) (fun b hb=>?_) (fun b o _ _ hc q _=>kk b o (fun z=>hc (by simp[z])) (fun z=>hc (by simp[z])) q) (fun b o _ _ hc q _=>⟨o.slots,kk b o (fun z=>hc (by simp[z])) (fun z=>hc (by simp[z])) q⟩) (fun b o _ q n=>?_)
    (fun b o hc q=>⟨o,kk b o (fun z=>hc (by simp[z])) (fun z=>hc (by simp[z])) q⟩) (fun b ys q=>?_) (fun b o y q=>?_) (fun b ps q=>⟨#[],?_⟩) (fun m hm=>?_) (fun b v q=>?_) I.bare
   .rcases cH.mp hb with z|z
    .subst z;exact⟨e3,e1,e4,e5⟩
    .have z':b=it:=by simpa using z
     subst z';exact⟨f3,f1,f4,f5⟩
   .rw[aE (qD (qw q))];exact n
   .rw[aE (bK q nH)];exact q
   .rw[aE (bK q nH)];exact q
   .rw[aE (bK q nH),q];simp
   .obtain⟨o,es,ep,q,r⟩:=hm;exact⟨o,es,ep,kk _ o (dM e1) (dM f1) q,r⟩
   .by_cases hb:b=s.heap.objs.size
    .subst hb;rw[bB] at q;cases q;exact⟨by show 2<=aN;decide,[.int i s.toks,u],.cons ⟨_,rfl⟩ (.cons ru .nil),⟨_,hT2,rfl,_,rfl⟩⟩
    .rw[aE hb] at q;refine(I.hok b v q).stay (fun c v hc r=>?_) (fun c r=>by rw[aE (bK r nH)];exact r) fun c ys r=>by rw[aE (bK r nH)];exact r
     rcases hc with z|z
     .rw[z] at r ⊢;exact kk b v (ne b _ q).1 (ne b _ q).2 r
     .exact kk c v (ne c _ z).1 (ne c _ z).2 r
  refine⟨.ref s.heap.objs.size,_,I1,rfl,⟨_,x,rfl,nH,rfl,fun ys hy=>by rw[I.list_inj hy hq];exact hx⟩,⟨⟨_,by simpa using he2⟩,hit'.at fun o y=>(hs2'.2 it hei.symm).trans y⟩,fun b hb=>?_⟩;rcases cH.mp hb with z|z
  .subst z;rw[aE (qD helt)];exact e0
  .have z':b=it:=by simpa using z
   subst z';rw[aE (qD hilt)];exact f0
 done:=by intro X hP hw hK hc i pins s σ H E I hf st hg;subst hP hw hK;obtain⟨xs,hq,hx⟩:=hg;obtain⟨its,rv,p,hz⟩:=I.list hq;obtain⟨⟨old,he⟩,hit⟩:=st;obtain⟨f0,f1,f2,f3,f4,f5⟩:=hf it (by simp);have hl:=rv.length;exact wpAny_pyNext_enum_end (I.ok.hd hc) he hit p.isList (by simp;omega) fun h' eb=>⟨rfl,I.turned (t':=s.toks) (fun b o hb e=>eb b o hb e) f0 f1 f3 f4 f5⟩
 self:=fun A i s Q E st h=>by obtain⟨⟨old,he⟩,_⟩:=st;exact Qq he h
noncomputable def J0 (K:aV) (ta:TA):TI:=fun σ H R=>ta σ H fun vs H1=>∃a,vs=[.ref a]/\(∃xs,SqL K H1 a xs)/\R (Ite K a) H1
theorem Oy {a:Expr} {ta:TA} {k1:ao} (hg:Gl X "enumerate") (hm:X.mg "enumerate"=af) (ha:PA X [a] ta) (hs:aR [a] X.env=[(av,eval a X.env)]:=by rfl) :
  PI X (.Tuple elts k1 tpos) (.Call (.Name "enumerate" p) [a] [] pos) (J0 X.K ta):=by
 intro pins s σ H R I h;refine Call_ (lQ I hg hm Si (yc (thn (ha pos pins s σ H _ I h) fun us s1 ⟨vs,H1,I1,r1,q1⟩=>?_) hs rfl));obtain⟨l,e,⟨xs,hq⟩,q⟩:=q1;subst e;obtain⟨u,rfl,r2⟩:=ij r1;cases r2;obtain⟨its,rv,pl,hz⟩:=I1.list hq;refine call_enumerate_list pl.isList fun h' he hit hsz hk=>?_;have I2:Inv X pins σ H1 {s1 with heap:=h'}:=I1.kept (t':=s1.toks) hk;refine Qq he ?_;refine⟨s1.heap.objs.size+1,[s1.heap.objs.size+1,s1.heap.objs.size],_,_,H1,rfl,I2,Gf _ _ l (Nat.succ_ne_self _),⟨⟨_,he⟩,hit⟩,fun b hb=>?_,q⟩;rcases cH.mp hb with z|z
 .subst z;exact I1.fpOk (uw _) (I1.hok.fresh (uw _))
 .have z':b=s1.heap.objs.size:=by simpa using z
  subst z';exact I1.fpOk (qx _) (I1.hok.fresh (qx _))
inductive D where
 |non|bl (b:aT)|int (i:aq)|str (x:aj)|tup (l:ac D)|lst (l:ac D)|scr (ns:ac aq)
 |dk (l:ac (Key×D))|dt (l:ac (ac Key×D))|fdt (l:ac (ac Key×D))|ins (c:aj) (fs:ac (aj×D))|ty (n:dz)
noncomputable def eW:Key->D
 |.inl i=>.int i
 |.inr x=>.str x
structure Cn where
 cls:aj->au aw
 self:au aw:=af
mutual
inductive Rep (Γ:Cn) (K:aV) (G:Hp):V->D->Prop where
 |non:Rep Γ K G .non .non
 |bl (b:aT):Rep Γ K G (.bl b) (.bl b)
 |int (i:aq):Rep Γ K G (.int i) (.int i)
 |str (x:aj):Rep Γ K G (.str x) (.str x)
 |ty (n:dz):Rep Γ K G (.ty n) (.ty n)
 |tup {a:aw} {vs:ac V} {ds:ac D}:G a=aa (.tup vs)->Reps Γ K G vs ds->Rep Γ K G (.ref a) (.tup ds)
 |lst {a:aw} {vs:ac V} {ds:ac D}:G a=aa (.lst vs)->Reps Γ K G vs ds->Rep Γ K G (.ref a) (.lst ds)
 |scr {a:aw} {ns:ac aq}:SqL K G a (ns.map V.int)->Rep Γ K G (.ref a) (.scr ns)
 |dk {a:aw} {us:ac (Key×V)} {kvs:ac (Key×D)}:G a=aa (.dK us)->us.map (·.1)=kvs.map (·.1)->Reps Γ K G (us.map (·.2)) (kvs.map (·.2))->Rep Γ K G (.ref a) (.dk kvs)
 |dt {a:aw} {us:ac (ac Key×V)} {kvs:ac (ac Key×D)}:G a=aa (.dT us)->us.map (·.1)=kvs.map (·.1)->Reps Γ K G (us.map (·.2)) (kvs.map (·.2))->Rep Γ K G (.ref a) (.dt kvs)
 |fdt {a:aw} {o:Obj} {us:ac (ac Key×V)} {kvs:ac (ac Key×D)}:G a=aa (.frz o (.dT us))->us.map (·.1)=kvs.map (·.1)->Reps Γ K G (us.map (·.2)) (kvs.map (·.2))->Rep Γ K G (.ref a) (.fdt kvs)
 |ins {a C dx:aw} {c:aj} {us:ac (aj×V)} {fs:ac (aj×D)}:G a=aa (.ins C dx us)->Γ.cls c=aa C->us.map (·.1)=fs.map (·.1)->Reps Γ K G (us.map (·.2)) (fs.map (·.2))->Rep Γ K G (.ref a) (.ins c fs)
inductive Reps (Γ:Cn) (K:aV) (G:Hp):ac V->ac D->Prop where
 |nil:Reps Γ K G [] []
 |cons {v:V} {d:D} {vs:ac V} {ds:ac D}:Rep Γ K G v d->Reps Γ K G vs ds->Reps Γ K G (v::vs) (d::ds)
end
variable {Γ:Cn} {G G' G1:Hp}
section
variable {G2:Hp}
mutual
theorem Rep.mono:∀{v:V} {d:D},Rep Γ K G v d->ba G G'->Rep Γ K G' v d
 |_,_,.non,_=>.non
 |_,_,.bl b,_=>.bl b
 |_,_,.int i,_=>.int i
 |_,_,.str x,_=>.str x
 |_,_,.ty x,_=>.ty x
 |_,_,.tup h r,s=>.tup (s _ _ h) (r.mono s)
 |_,_,.lst h r,s=>.lst (s _ _ h) (r.mono s)
 |_,_,.scr h,s=>.scr (s.seq h)
 |_,_,.dk h e r,s=>.dk (s _ _ h) e (r.mono s)
 |_,_,.fdt h e r,s=>.fdt (s _ _ h) e (r.mono s)
 |_,_,.dt h e r,s=>.dt (s _ _ h) e (r.mono s)
 |_,_,.ins h c e r,s=>.ins (s _ _ h) c e (r.mono s)
theorem Reps.mono:∀{vs:ac V} {ds:ac D},Reps Γ K G vs ds->ba G G'->Reps Γ K G' vs ds
 |_,_,.nil,_=>.nil
 |_,_,.cons h r,s=>.cons (h.mono s) (r.mono s)
end
mutual
theorem Rep.re {Γ':Cn} (hc:Γ'.cls=Γ.cls):∀{v:V} {d:D},Rep Γ K G v d->Rep Γ' K G v d
 |_,_,.non=>.non
 |_,_,.bl b=>.bl b
 |_,_,.int i=>.int i
 |_,_,.str x=>.str x
 |_,_,.ty x=>.ty x
 |_,_,.tup h r=>.tup h (r.re hc)
 |_,_,.lst h r=>.lst h (r.re hc)
 |_,_,.scr h=>.scr h
 |_,_,.dk h e r=>.dk h e (r.re hc)
 |_,_,.fdt h e r=>.fdt h e (r.re hc)
 |_,_,.dt h e r=>.dt h e (r.re hc)
 |_,_,.ins h c e r=>.ins h (by rw[hc];exact c) e (r.re hc)
theorem Reps.re {Γ':Cn} (hc:Γ'.cls=Γ.cls):∀{vs:ac V} {ds:ac D},Reps Γ K G vs ds->Reps Γ' K G vs ds
 |_,_,.nil=>.nil
 |_,_,.cons h r=>.cons (h.re hc) (r.re hc)
end
theorem Reps.length:∀{vs:ac V} {ds:ac D},Reps Γ K G vs ds->vs.length=ds.length
 |_,_,.nil=>rfl
 |_,_,.cons _ r=>by rw[qi,qi,r.length]
theorem Reps.get:∀{vs:ac V} {ds:ac D} {i:ao} {d:D},Reps Γ K G vs ds->ds[i]?=aa d->∃v,vs[i]?=aa v/\Rep Γ K G v d
 |_,_,_,_,.nil,e=>by simp at e
 |_,_,0,_,.cons r _,e=>by simp at e;subst e;exact⟨_,rfl,r⟩
 |_,_,i+1,d,.cons _ t,e=>by obtain⟨u,h1,h2⟩:=Reps.get (i:=i) (d:=d) t (by simpa using e);exact⟨u,by simpa using h1,h2⟩
theorem Reps.append:∀{vs ws:ac V} {ds es:ac D},Reps Γ K G vs ds->Reps Γ K G ws es->Reps Γ K G (vs++ws) (ds++es)
 |_,_,_,_,.nil,s=>s
 |_,_,_,_,.cons r t,s=>.cons r (t.append s)
theorem Reps.take:∀{vs:ac V} {ds:ac D} (n:ao),Reps Γ K G vs ds->Reps Γ K G (vs.take n) (ds.take n)
 |_,_,0,_=>.nil
 |_,_,_+1,.nil=>.nil
 |_,_,n+1,.cons r t=>.cons r (t.take n)
theorem Reps.drop:∀{vs:ac V} {ds:ac D} (n:ao),Reps Γ K G vs ds->Reps Γ K G (vs.drop n) (ds.drop n)
 |_,_,0,r=>r
 |_,_,_+1,.nil=>.nil
 |_,_,n+1,.cons _ t=>t.drop n
theorem Reps.ints:∀(ns:ac aq),Reps Γ K G (ns.map V.int) (ns.map D.int)
 |[]=>.nil
 |n::r=>.cons (.int n) (Reps.ints r)
theorem Reps.rep {vs:ac V} {ds:ac D} (h:Reps Γ K G vs ds):∀k:ao,Reps Γ K G (bT k vs).flatten (bT k ds).flatten
 |0=>.nil
 |k+1=>by rw[lG,lG,oH,oH];exact h.append (Reps.rep h k)
noncomputable def kyV:V->aT
 |.int _=>ak
 |.str _=>ak
 |_=>av
noncomputable def kyT:HO->aT
 |.tup vs=>vs.all kyV
 |_=>av
structure Step (G H G' H':Hp):Prop where
 hh:ba H H'
 gg:ba G G'
 gh:ba G' H'
 out:∀a o,H a=aa o->kyT o=av->G' a=G a
theorem Step.refl (gh:ba G H):Step G H G H:=⟨.refl _,.refl _,gh,fun _ _ _ _=>rfl⟩
theorem Step.trans (a:Step G H G1 H1) (b:Step G1 H1 G2 H2):Step G H G2 H2:=
 ⟨a.hh.trans b.hh,a.gg.trans b.gg,b.gh,fun c o e k=>(b.out c o (a.hh c o e) k).trans (a.out c o e k)⟩
theorem Step.new {p:aw} {o:HO} (gh:ba G H) (hp:H p=af):Step G H (upd G p o) (upd H p o):=by
 have gp:G p=af:=gh.free hp;refine⟨fun b u e=>?_,fun b u e=>?_,fun b u e=>?_,fun b u e _=>?_⟩
 .rw[aE (bK e hp)];exact e
 .rw[aE (bK e gp)];exact e
 .by_cases hb:b=p
  .subst hb;rw[bB] at e ⊢;exact e
  .rw[aE hb] at e ⊢;exact gh b u e
 .rw[aE (bK e hp)]
theorem Step.newOwn {p:aw} {o:HO} (gh:ba G H) (hp:H p=af):Step G H G (upd H p o):=by
 refine⟨fun b u e=>?_,.refl _,fun b u e=>?_,fun _ _ _ _=>rfl⟩
 .rw[aE (bK e hp)];exact e
 .rw[aE (bK (gh b u e) hp)];exact gh b u e
end
inductive Fld where
 |d (d:D)|k (kvs:ac (Key×D))|t (kvs:ac (ac Key×D))
inductive Slot where
 |sh (d:D)
 |own (ds:ac D)
 |obj (c:aj) (fs:ac (aj×D))
 |objd (c:aj) (fs:ac (aj×D)) (n:aj) (kvs:ac (Key×D))
 |odk (kvs:ac (Key×D))
 |odt (kvs:ac (ac Key×D))
 |tlo (ds es:ac D)
 |pin (a:aw)
 |oll (dss:ac (ac D))
 |fo (s:aT) (c:aj) (fs:ac (aj×Fld))
noncomputable abbrev bG:=ac (au Slot)
noncomputable def fX:D->aT
 |.non=>ak
 |.bl _=>ak
 |.int _=>ak
 |.str _=>ak
 |_=>av
noncomputable def mS (H:Hp):ac aw->ac (ac V)->Prop
 |[],[]=>True
 |p::ps,vs::vss=>H p=aa (.lst vs)/\mS H ps vss
 |_,_=>False
noncomputable def pE (Γ:Cn) (K:aV) (G:Hp):ac (ac V)->ac (ac D)->Prop
 |[],[]=>True
 |vs::vss,ds::dss=>Reps Γ K G vs ds/\pE Γ K G vss dss
 |_,_=>False
theorem mS.mem {H:Hp}:∀{ps:ac aw} {vss:ac (ac V)},mS H ps vss->∀b∈ps,∃o,H b=aa o/\kyT o=av
 |[],_,_,b,hb=>by cases hb
 |p::ps,[],h,b,hb=>h.elim
 |p::ps,vs::vss,h,b,hb=>by
  rcases cH.mp hb with rfl|hb
  .exact⟨_,h.1,rfl⟩
  .exact h.2.mem b hb
theorem mS.stay {H H':Hp}:∀{ps:ac aw} {vss:ac (ac V)},mS H ps vss->(∀b∈ps,H' b=H b)->mS H' ps vss
 |[],[],_,_=>trivial
 |[],_::_,h,_=>h.elim
 |p::ps,[],h,_=>h.elim
 |p::ps,vs::vss,h,e=>⟨(e p qg).trans h.1,h.2.stay fun b hb=>e b (qh _ hb)⟩
theorem pE.map {Γ:Cn} {K:aV} {G G':Hp} (f:∀{vs:ac V} {ds:ac D},Reps Γ K G vs ds->Reps Γ K G' vs ds):∀{vss:ac (ac V)} {dss:ac (ac D)},pE Γ K G vss dss->pE Γ K G' vss dss
 |[],[],_=>trivial
 |[],_::_,h=>h.elim
 |_::_,[],h=>h.elim
 |_::_,_::_,h=>⟨f h.1,h.2.map f⟩
inductive FldR (Γ:Cn) (K:aV) (G H:Hp):V->Fld->ac aw->Prop where
 |d {v:V} {d:D}:Rep Γ K G v d->FldR Γ K G H v (.d d) []
 |k {q:aw} {us:ac (Key×V)} {kvs:ac (Key×D)}:H q=aa (.dK us)->us.map (·.1)=kvs.map (·.1)->Reps Γ K G (us.map (·.2)) (kvs.map (·.2))->FldR Γ K G H (.ref q) (.k kvs) [q]
 |t {q:aw} {us:ac (ac Key×V)} {kvs:ac (ac Key×D)}:H q=aa (.dT us)->us.map (·.1)=kvs.map (·.1)->Reps Γ K G (us.map (·.2)) (kvs.map (·.2))->FldR Γ K G H (.ref q) (.t kvs) [q]
inductive FldsR (Γ:Cn) (K:aV) (G H:Hp):ac V->ac Fld->ac aw->Prop where
 |nil:FldsR Γ K G H [] [] []
 |cons {v:V} {f:Fld} {p:ac aw} {vs:ac V} {fs:ac Fld} {ps:ac aw}:FldR Γ K G H v f p->FldsR Γ K G H vs fs ps->FldsR Γ K G H (v::vs) (f::fs) (p++ps)
theorem FldR.mem {v:V} {f:Fld} {p:ac aw} (r:FldR Γ K G H v f p):∀b∈p,∃o,H b=aa o/\kyT o=av:=by
 cases r with
 |d _=>intro b hb;cases hb
 |k h _ _=>intro b hb;rw[bN.mp hb];exact⟨_,h,rfl⟩
 |t h _ _=>intro b hb;rw[bN.mp hb];exact⟨_,h,rfl⟩
theorem FldR.stay {f:Fld} {p:ac aw} (r:FldR Γ K G H v f p) (gg:ba G G') (hh:∀b∈p,H' b=H b):FldR Γ K G' H' v f p:=by
 cases r with
 |d h=>exact .d (h.mono gg)
 |k h a c=>exact .k ((hh _ qg).trans h) a (c.mono gg)
 |t h a c=>exact .t ((hh _ qg).trans h) a (c.mono gg)
theorem FldR.uniq {f:Fld} {p q:ac aw} (r:FldR Γ K G H v f p) (s:FldR Γ K G H v f q):p=q:=by cases r<;>cases s<;>rfl
theorem FldsR.mem:∀{vs:ac V} {fs:ac Fld} {ps:ac aw},FldsR Γ K G H vs fs ps->∀b∈ps,∃o,H b=aa o/\kyT o=av
 |_,_,_,.nil,b,hb=>by cases hb
 |_,_,_,.cons r t,b,hb=>(eF.mp hb).elim (r.mem b) (t.mem b)
theorem FldsR.stay:∀{vs:ac V} {fs:ac Fld} {ps:ac aw},FldsR Γ K G H vs fs ps->ba G G'->(∀b∈ps,H' b=H b)->FldsR Γ K G' H' vs fs ps
 |_,_,_,.nil,_,_=>.nil
 |_,_,_,.cons r t,gg,hh=>.cons (r.stay gg fun b hb=>hh b (ox _ hb)) (t.stay gg fun b hb=>hh b (qR _ hb))
theorem FldsR.uniq:∀{vs:ac V} {fs:ac Fld} {ps qs:ac aw},FldsR Γ K G H vs fs ps->FldsR Γ K G H vs fs qs->ps=qs
 |_,_,_,_,.nil,.nil=>rfl
 |_,_,_,_,.cons r t,.cons r' t'=>by rw[r.uniq r',t.uniq t']
theorem Bs:∀{ps qs:ac aw},ps.map V.ref=qs.map V.ref->ps=qs
 |[],[],_=>rfl
 |[],_::_,h=>by cases h
 |_::_,[],h=>by cases h
 |p::ps,q::qs,h=>by have h1:=eU h;rw[V.ref.inj h1.1,Bs h1.2]
inductive SR (Γ:Cn) (K:aV) (H₀ G H:Hp):Slot->V->ac aw->Prop where
 |sh {d:D} {v:V}:Rep Γ K G v d->SR Γ K H₀ G H (.sh d) v []
 |own {a:aw} {vs:ac V} {ds:ac D}:H₀ a=af->G a=af->H a=aa (.lst vs)->Reps Γ K G vs ds->SR Γ K H₀ G H (.own ds) (.ref a) [a]
 |obj {c:aj} {a C dx:aw} {vs:ac (aj×V)} {fs:ac (aj×D)}:Γ.cls c=aa C->H₀ a=af->G a=af->H a=aa (.ins C dx vs)->vs.map (·.1)=fs.map (·.1)->Reps Γ K G (vs.map (·.2)) (fs.map (·.2))->Γ.self=aa a->SR Γ K H₀ G H (.obj c fs) (.ref a) [a]
 |objd {c n:aj} {a C dx p:aw} {vs:ac (aj×V)} {fs:ac (aj×D)} {us:ac (Key×V)} {kvs:ac (Key×D)}:Γ.cls c=aa C->H₀ a=af->G a=af->H a=aa (.ins C dx (vs++[(n,.ref p)]))->vs.map (·.1)=fs.map (·.1)->Reps Γ K G (vs.map (·.2)) (fs.map (·.2))->
   H₀ p=af->G p=af->H p=aa (.dK us)->us.map (·.1)=kvs.map (·.1)->Reps Γ K G (us.map (·.2)) (kvs.map (·.2))->Γ.self=aa a->SR Γ K H₀ G H (.objd c fs n kvs) (.ref a) [a,p]
 |odk {a:aw} {us:ac (Key×V)} {kvs:ac (Key×D)}:H₀ a=af->G a=af->H a=aa (.dK us)->us.map (·.1)=kvs.map (·.1)->Reps Γ K G (us.map (·.2)) (kvs.map (·.2))->SR Γ K H₀ G H (.odk kvs) (.ref a) [a]
 |odt {a:aw} {us:ac (ac Key×V)} {kvs:ac (ac Key×D)}:H₀ a=af->G a=af->H a=aa (.dT us)->us.map (·.1)=kvs.map (·.1)->Reps Γ K G (us.map (·.2)) (kvs.map (·.2))->SR Γ K H₀ G H (.odt kvs) (.ref a) [a]
 |tlo {t p:aw} {vs ws:ac V} {ds es:ac D}:H₀ p=af->G p=af->H p=aa (.lst ws)->G t=aa (.tup (vs++[.ref p]))->Reps Γ K G vs ds->Reps Γ K G ws es->SR Γ K H₀ G H (.tlo ds es) (.ref t) [p]
 |pin (a:aw):SR Γ K H₀ G H (.pin a) (.ref a) []
 |oll {a:aw} {ps:ac aw} {vss:ac (ac V)} {dss:ac (ac D)}:(∀b∈a::ps,H₀ b=af/\G b=af)->(a::ps).Nodup->H a=aa (.lst (ps.map V.ref))->mS H ps vss->pE Γ K G vss dss->SR Γ K H₀ G H (.oll dss) (.ref a) (a::ps)
 |fo {s:aT} {c:aj} {a C dx:aw} {vs:ac (aj×V)} {fs:ac (aj×Fld)} {ps:ac aw}:(s=ak->Γ.self=aa a)->Γ.cls c=aa C->(∀b∈a::ps,H₀ b=af/\G b=af)->(a::ps).Nodup->H a=aa (.ins C dx vs)->vs.map (·.1)=fs.map (·.1)->FldsR Γ K G H (vs.map (·.2)) (fs.map (·.2)) ps->SR Γ K H₀ G H (.fo s c fs) (.ref a) (a::ps)
variable {H₀:Hp}
section
variable {s:Slot}
theorem SR.fpt (r:SR Γ K H₀ G H s v fp):∀b∈fp,H₀ b=af/\G b=af/\∃o,H b=aa o/\kyT o=av:=by
 cases r with
 |sh r=>intro b hb;cases hb
 |own h1 h2 h3 _=>intro b hb;rw[bN.mp hb];exact⟨h1,h2,_,h3,rfl⟩
 |obj _ h1 h2 h3 _ _ _=>intro b hb;rw[bN.mp hb];exact⟨h1,h2,_,h3,rfl⟩
 |objd _ h1 h2 h3 _ _ q1 q2 q3 _ _ _=>
  intro b hb;rcases cH.mp hb with rfl|hb
  .exact⟨h1,h2,_,h3,rfl⟩
  .rw[bN.mp hb];exact⟨q1,q2,_,q3,rfl⟩
 |odk h1 h2 h3 _ _=>intro b hb;rw[bN.mp hb];exact⟨h1,h2,_,h3,rfl⟩
 |odt h1 h2 h3 _ _=>intro b hb;rw[bN.mp hb];exact⟨h1,h2,_,h3,rfl⟩
 |tlo h1 h2 h3 _ _ _=>intro b hb;rw[bN.mp hb];exact⟨h1,h2,_,h3,rfl⟩
 |pin a=>intro b hb;cases hb
 |oll h1 h2 h3 h4 _=>
  intro b hb;refine⟨(h1 b hb).1,(h1 b hb).2,?_⟩;rcases cH.mp hb with rfl|hb
  .exact⟨_,h3,rfl⟩
  .exact h4.mem b hb
 |fo _ _ h1 h2 h3 _ h4=>
  intro b hb;refine⟨(h1 b hb).1,(h1 b hb).2,?_⟩;rcases cH.mp hb with rfl|hb
  .exact⟨_,h3,rfl⟩
  .exact h4.mem b hb
theorem SR.stay (r:SR Γ K H₀ G H s v fp) (gg:ba G G') (hg:∀b∈fp,G' b=af) (hh:∀b∈fp,H' b=H b):SR Γ K H₀ G' H' s v fp:=by
 cases r with
 |sh r=>exact .sh (r.mono gg)
 |own h1 h2 h3 h4=>exact .own h1 (hg _ (bN.mpr rfl)) ((hh _ (bN.mpr rfl)).trans h3) (h4.mono gg)
 |obj c h1 h2 h3 h4 h5 hs=>exact .obj c h1 (hg _ (bN.mpr rfl)) ((hh _ (bN.mpr rfl)).trans h3) h4 (h5.mono gg) hs
 |objd c h1 h2 h3 h4 h5 q1 q2 q3 q4 q5 hs=>
  exact .objd c h1 (hg _ qg) ((hh _ qg).trans h3) h4 (h5.mono gg) q1 (hg _ (qh _ qg)) ((hh _ (qh _ qg)).trans q3) q4 (q5.mono gg) hs
 |odk h1 h2 h3 h4 h5=>exact .odk h1 (hg _ (bN.mpr rfl)) ((hh _ (bN.mpr rfl)).trans h3) h4 (h5.mono gg)
 |odt h1 h2 h3 h4 h5=>exact .odt h1 (hg _ (bN.mpr rfl)) ((hh _ (bN.mpr rfl)).trans h3) h4 (h5.mono gg)
 |pin a=>exact .pin a
 |oll h1 h2 h3 h4 h5=>exact .oll (fun b hb=>⟨(h1 b hb).1,hg b hb⟩) h2 ((hh _ qg).trans h3) (h4.stay fun b hb=>hh b (qh _ hb)) (h5.map fun r=>r.mono gg)
 |fo y c h1 h2 h3 h4 h5=>exact .fo y c (fun b hb=>⟨(h1 b hb).1,hg b hb⟩) h2 ((hh _ qg).trans h3) h4 (h5.stay gg fun b hb=>hh b (qh _ hb))
 |tlo h1 h2 h3 h4 h5 h6=>exact .tlo h1 (hg _ (bN.mpr rfl)) ((hh _ (bN.mpr rfl)).trans h3) (gg _ _ h4) (h5.mono gg) (h6.mono gg)
theorem SR.stepS (r:SR Γ K H₀ G H s v fp) (t:Step G H G' H'):SR Γ K H₀ G' H' s v fp:=r.stay t.gg (fun b hb=>by
 obtain⟨_,h2,o,h3,h4⟩:=r.fpt b hb;exact(t.out b o h3 h4).trans h2) (fun b hb=>by
 obtain⟨_,_,o,h3,_⟩:=r.fpt b hb;rw[h3];exact t.hh b o h3)
end
theorem SR.uniq {Γ:Cn} {K:aV} {H₀ G H:Hp} {s:Slot} {v:V} {fp fq:ac aw} (r:SR Γ K H₀ G H s v fp) (q:SR Γ K H₀ G H s v fq):fp=fq:=by
 cases r with
 |sh r=>cases q;rfl
 |own h1 h2 h3 _=>cases q;rfl
 |obj _ h1 h2 h3 _ _ _=>cases q;rfl
 |objd _ h1 h2 h3 _ _ q1 q2 q3 _ _ _=>
  cases q with
  |objd _ _ _ k3 _ _ _ _ _ _ _ _=>
   rw[h3] at k3;have z:=(HO.ins.inj (qI k3)).2.2;have z2:=(Qr z rfl).2;cases z2;rfl
 |odk h1 h2 h3 _ _=>cases q;rfl
 |odt h1 h2 h3 _ _=>cases q;rfl
 |pin a=>cases q;rfl
 |oll _ _ h3 _ _=>
  cases q with
  |oll _ _ k3 _ _=>
   rw[h3] at k3;rw[Bs (HO.lst.inj (qI k3))]
 |fo _ _ _ _ h3 _ h5=>
  cases q with
  |fo _ _ _ _ k3 _ k5=>
   rw[h3] at k3;cases k3;rw[h5.uniq k5]
 |tlo _ _ _ h4 _ _=>
  cases q with
  |tlo _ _ _ k4 _ _=>
   rw[h4] at k4;have z:=HO.tup.inj (qI k4);have z2:=(Qr z rfl).2;cases z2;rfl
structure EnvRel (Γ:Cn) (K:aV) (H₀ G H:Hp) (ρ:bG) (σ:St):Prop where
 len:ρ.length=σ.length
 sl:∃fps:ao->ac aw,(∀(i:ao) s,ρ[i]?=aa (aa s)->∃v,σ[i]?=aa (aa v)/\SR Γ K H₀ G H s v (fps i)) /\
  ∀(i j:ao) s t,i≠j->ρ[i]?=aa (aa s)->ρ[j]?=aa (aa t)->∀b∈fps i,b∉fps j
structure At (Γ:Cn) (K:aV) (G₀ H₀ G H:Hp) (ρ:bG) (σ:St):Prop where
 st:Step G₀ H₀ G H
 env:EnvRel Γ K H₀ G H ρ σ
noncomputable def fm (ρ:bG):Prop:=∀(i:ao) s,ρ[i]?=aa (aa s)->∃d,s=.sh d
variable {G₀:Hp} {ρ:bG} {fp':ac aw} {d:D} {ds:ac D} {ws:ac V}
theorem EnvRel.ofSh (len:ρ.length=σ.length) (no:fm ρ) (sh:∀(i:ao) d,ρ[i]?=aa (aa (.sh d))->∃v,σ[i]?=aa (aa v)/\Rep Γ K G v d):EnvRel Γ K H₀ G H ρ σ :=
 ⟨len,fun _=>[],fun i s e=>by obtain⟨d,rfl⟩:=no i s e;obtain⟨v,h1,h2⟩:=sh i d e;exact⟨v,h1,.sh h2⟩,fun _ _ _ _ _ _ _ b hb=>by cases hb⟩
theorem EnvRel.sh (E:EnvRel Γ K H₀ G H ρ σ) (i:ao) (d:D) (e:ρ[i]?=aa (aa (.sh d))):∃v,σ[i]?=aa (aa v)/\Rep Γ K G v d:=by
 obtain⟨fps,h,_⟩:=E.sl;obtain⟨v,h1,h2⟩:=h i _ e;generalize fps i=fp at h2;cases h2 with
 |sh r=>exact⟨v,h1,r⟩
theorem EnvRel.own (E:EnvRel Γ K H₀ G H ρ σ) (i:ao) (ds:ac D) (e:ρ[i]?=aa (aa (.own ds))):∃a vs,σ[i]?=aa (aa (.ref a))/\H₀ a=af/\G a=af/\H a=aa (.lst vs)/\Reps Γ K G vs ds:=by
 obtain⟨fps,h,_⟩:=E.sl;obtain⟨v,h1,h2⟩:=h i _ e;generalize fps i=fp at h2;cases h2 with
 |own q1 q2 q3 q4=>exact⟨_,_,h1,q1,q2,q3,q4⟩
theorem At.gh (A:At Γ K G₀ H₀ G H ρ σ):ba G H:=A.st.gh
theorem At.step (A:At Γ K G₀ H₀ G H ρ σ) (s:Step G H G' H'):At Γ K G₀ H₀ G' H' ρ σ:=by
 obtain⟨fps,h,ap⟩:=A.env.sl;exact⟨A.st.trans s,A.env.len,fps,fun i t e=>by obtain⟨v,h1,h2⟩:=h i t e;exact⟨v,h1,h2.stepS s⟩,ap⟩
theorem At.put (A:At Γ K G₀ H₀ G H ρ σ) {s':Slot} {v':V} 
  (hfp:fp=[]\/∃s v,ρ[i]?=aa (aa s)/\σ[i]?=aa (aa v)/\SR Γ K H₀ G H s v fp)
  (hH:∀b o,H b=aa o->b∉fp->H' b=aa o) (hS:SR Γ K H₀ G' H' s' v' fp') (hn:∀b∈fp',b∈fp\/H b=af)
  (gg:ba G G') (gh:ba G' H') (out:∀b o,H b=aa o->b∉fp->kyT o=av->G' b=G b) (out2:∀b∈fp,H₀ b=af):At Γ K G₀ H₀ G' H' (ρ.set i (aa s')) (σ.set i (aa v')):=by
 obtain⟨fps,h,ap⟩:=A.env.sl;have hl:=A.env.len;have old:∀b∈fp,∀j t,j≠i->ρ[j]?=aa (aa t)->b∉fps j:=fun b hb j t hj e=>by
  rcases hfp with rfl|⟨s,v,h1,h2,h3⟩
  .cases hb
  .obtain⟨v2,h4,h5⟩:=h i s h1;rw[h2] at h4;cases h4;have efp:fp=fps i:=h3.uniq h5;subst efp;exact ap i j s t (dM hj) h1 e b hb
 have slj:∀(j:ao) t,j≠i->ρ[j]?=aa (aa t)->∃v,σ[j]?=aa (aa v)/\SR Γ K H₀ G' H' t v (fps j):=fun j t hj e=>by
  obtain⟨v,h1,h2⟩:=h j t e;refine⟨v,h1,h2.stay gg (fun b hb=>?_) (fun b hb=>?_)⟩
  .obtain⟨_,q2,o,q3,q4⟩:=h2.fpt b hb;exact(out b o q3 (fun z=>old b z j t hj e hb) q4).trans q2
  .obtain⟨_,_,o,q3,_⟩:=h2.fpt b hb;rw[q3];exact hH b o q3 fun z=>old b z j t hj e hb
 have no2:∀b o,H₀ b=aa o->b∉fp:=fun b o e z=>by rw[out2 b z] at e;cases e
 have hst:Step G₀ H₀ G' H':=⟨fun b o e=>hH b o (A.st.hh b o e) (no2 b o e),A.st.gg.trans gg,gh,fun b o e k=>(out b o (A.st.hh b o e) (no2 b o e) k).trans (A.st.out b o e k)⟩;refine⟨hst,by simp[hl],fun j=>if j=i then fp' else fps j,fun j t e=>?_,fun j k t u hjk e1 e2 b hb=>?_⟩
 .by_cases hj:j=i
  .subst hj;have hlt:j < ρ.length:=by
    rcases ng j ρ.length with q|q
    .exact q
    .rw[yD (by simp;omega)] at e;cases e
   rw[oy hlt] at e;cases e;show ∃v,_/\SR _ _ _ _ _ _ v (if j=j then fp' else fps j);rw[qX rfl];exact⟨v',by rw[oy .(c)],hS⟩
  .rw[qz (dM hj)] at e ⊢;show ∃v,_/\SR _ _ _ _ _ _ v (if j=i then fp' else fps j);rw[qY hj];exact slj j t hj e
 .have cross:∀{k:ao} {u:Slot},k≠i->ρ[k]?=aa (aa u)->∀b∈fp',b∉fps k:=fun {k u} hk e b hb hb2=>by
   rcases hn b hb with z|z
   .exact old b z k u hk e hb2
   .obtain⟨v,_,q⟩:=h k u e;obtain⟨_,_,o,q3,_⟩:=q.fpt b hb2;rw[z] at q3;cases q3
  replace hb:b∈(if j=i then fp' else fps j):=hb
  show b∉(if k=i then fp' else fps k);by_cases hj:j=i
  .subst hj;have hk:k≠j:=dM hjk;rw[qX rfl] at hb;rw[qY hk];rw[qz hjk] at e2;exact cross hk e2 b hb
  .rw[qY hj] at hb;rw[qz (dM hj)] at e1;by_cases hk:k=i
   .subst hk;rw[qX rfl];exact fun z=>cross hj e1 b z hb
   .rw[qY hk];rw[qz (dM hk)] at e2;exact ap j k t u hjk e1 e2 b hb
theorem At.setSh (A:At Γ K G₀ H₀ G H ρ σ) (r:Rep Γ K G v d):At Γ K G₀ H₀ G H (ρ.set i (aa (.sh d))) (σ.set i (aa v)):=
 A.put (fp:=[]) (fp':=[]) (.inl rfl) (fun b o e _=>e) (.sh r) (fun b hb=>by cases hb) (.refl _) A.gh (fun _ _ _ _ _=>rfl) (fun b hb=>by cases hb)
theorem At.setOwn (A:At Γ K G₀ H₀ G H ρ σ) (ha:H a=af) (r:Reps Γ K G vs ds):At Γ K G₀ H₀ G (upd H a (.lst vs)) (ρ.set i (aa (.own ds))) (σ.set i (aa (.ref a))):=by have h0:H₀ a=af:=A.st.hh.free ha;have hg:G a=af:=A.gh.free ha;refine A.put (fp:=[]) (fp':=[a]) (.inl rfl) (fun b o e _=>by rw[aE (bK e ha)];exact e) (.own h0 hg bB r) (fun b hb=>.inr (by rw[bN.mp hb];exact ha)) (.refl _) (fun b o e=>?_) (fun _ _ _ _ _=>rfl) (fun b hb=>by cases hb);rw[aE (bK e hg)];exact A.gh b o e
theorem OF {l:ac α} {x:α} (h:l[i]?=aa x):l.set i x=l:=by
 apply Qs;intro j;by_cases hj:j=i
 .subst hj;rw[oy (eB.mp h).1,h]
 .rw[qz (dM hj)]
theorem At.ch (A:At Γ K G₀ H₀ G H ρ σ) {s s':Slot} (hi:ρ[i]?=aa (aa s)) (hv:σ[i]?=aa (aa v)) (hs:SR Γ K H₀ G H s v fp)
  (hH:∀b o,H b=aa o->b∉fp->H' b=aa o) (hS:SR Γ K H₀ G' H' s' v fp') (hn:∀b∈fp',b∈fp\/H b=af)
  (gg:ba G G') (gh:ba G' H') (out:∀b o,H b=aa o->b∉fp->kyT o=av->G' b=G b):At Γ K G₀ H₀ G' H' (ρ.set i (aa s')) σ:=by
 have:=A.put (i:=i) (.inr ⟨s,v,hi,hv,hs⟩) hH hS hn gg gh out fun b hb=>(hs.fpt b hb).1
 rwa [OF hv] at this
theorem At.get (A:At Γ K G₀ H₀ G H ρ σ) {s:Slot} (hi:ρ[i]?=aa (aa s)):∃v fp,σ[i]?=aa (aa v)/\SR Γ K H₀ G H s v fp:=by obtain⟨fps,h,_⟩:=A.env.sl;obtain⟨v,h1,h2⟩:=h i s hi;exact⟨v,_,h1,h2⟩
theorem At.chOwn (A:At Γ K G₀ H₀ G H ρ σ) {es:ac D} (hi:ρ[i]?=aa (aa (.own ds))) (ha:σ[i]?=aa (aa (.ref a))) (r:Reps Γ K G ws es):At Γ K G₀ H₀ G (upd H a (.lst ws)) (ρ.set i (aa (.own es))) σ:=by
 obtain⟨v,fp,h1,h2⟩:=A.get hi;rw[ha] at h1;cases h1;cases h2 with
 |own q1 q2 q3 q4=>
  refine A.ch hi ha (.own q1 q2 q3 q4) (fun b o e hb=>?_) (.own q1 q2 bB r) (fun b hb=>.inl hb) (.refl _) (fun b o e=>?_) (fun _ _ _ _ _=>rfl)
  .rw[aE (fun z=>hb (bN.mpr z))];exact e
  .rw[aE (bK e q2)];exact A.gh b o e
theorem At.freeze (A:At Γ K G₀ H₀ G H ρ σ) (hi:ρ[i]?=aa (aa (.own ds))):∃G',ba G G'/\At Γ K G₀ H₀ G' H (ρ.set i (aa (.sh (.lst ds)))) σ:=by
 obtain⟨v,fp,h1,h2⟩:=A.get hi;cases h2 with
 |own q1 q2 q3 q4=>
  rename_i a vs;have sm:ba G (upd G a (.lst vs)):=fun b o e=>by rw[aE (bK e q2)];exact e
  refine⟨upd G a (.lst vs),sm,A.ch hi h1 (.own q1 q2 q3 q4) (fun b o e hb=>e) (.sh (.lst bB (q4.mono sm))) (fun b hb=>by cases hb) sm (fun b o e=>?_) (fun b o e hb _=>?_)⟩
  .by_cases hb:b=a
   .subst hb;rw[bB] at e;cases e;exact q3
   .rw[aE hb] at e;exact A.gh b o e
  .rw[aE (fun z=>hb (bN.mpr z))]
mutual
inductive NewL (H G:Hp):V->D->Prop where
 |flat {v:V} {d:D}:fX d=ak->NewL H G v d
 |tup {a:aw} {vs:ac V} {ds:ac D}:G a=aa (.tup vs)->NewLs H G vs ds->NewL H G (.ref a) (.tup ds)
 |lst {a:aw} {vs:ac V} {ds:ac D}:G a=aa (.lst vs)->H a=af->NewLs H G vs ds->NewL H G (.ref a) (.lst ds)
inductive NewLs (H G:Hp):ac V->ac D->Prop where
 |nil:NewLs H G [] []
 |cons {v:V} {d:D} {vs:ac V} {ds:ac D}:NewL H G v d->NewLs H G vs ds->NewLs H G (v::vs) (d::ds)
end
inductive Fl where
 |nx|bk|ct|rt (d:D)|ow (ds:ac D)|nw (d:D)|od (kvs:ac (Key×D))
noncomputable abbrev FE:=bG->au D
noncomputable abbrev FT:=bG->au aT
noncomputable abbrev FA:=bG->au (ac D)
noncomputable abbrev FS:=bG->au (Fl×bG)
inductive TD (Γ:Cn) (K:aV) (f:FE) (σ:St) (H:Hp) (Q:VK):Prop where
 |mk:∀G₀ H₀ G ρ d,At Γ K G₀ H₀ G H ρ σ->f ρ=aa d->(∀v G' H',Step G H G' H'->Rep Γ K G' v d->Q v H')->TD Γ K f σ H Q
inductive TDt (Γ:Cn) (K:aV) (f:FT) (σ:St) (H:Hp) (Q:aT->Hp->Prop):Prop where
 |mk:∀G₀ H₀ G ρ b,At Γ K G₀ H₀ G H ρ σ->f ρ=aa b->(∀G' H',Step G H G' H'->Q b H')->TDt Γ K f σ H Q
inductive TDa (Γ:Cn) (K:aV) (f:FA) (σ:St) (H:Hp) (Q:ac V->Hp->Prop):Prop where
 |mk:∀G₀ H₀ G ρ ds,At Γ K G₀ H₀ G H ρ σ->f ρ=aa ds->(∀vs G' H',Step G H G' H'->Reps Γ K G' vs ds->Q vs H')->TDa Γ K f σ H Q
noncomputable def Ir (Γ:Cn) (K:aV) (E:Ends) (H₀ G' H':Hp) (σ':St):Fl->Prop
 |.nx=>E.nx σ' H'
 |.bk=>E.bk σ' H'
 |.ct=>E.ct σ' H'
 |.rt d=>∀v,Rep Γ K G' v d->E.rt v H'
 |.ow ds=>∀p vs,H₀ p=af->G' p=af->H' p=aa (.lst vs)->Reps Γ K G' vs ds->E.rt (.ref p) H'
 |.nw d=>∀v,Rep Γ K G' v d->NewL H₀ G' v d->E.rt v H'
 |.od kvs=>∀p us,H₀ p=af->G' p=af->H' p=aa (.dK us)->us.map (·.1)=kvs.map (·.1)->Reps Γ K G' (us.map (·.2)) (kvs.map (·.2))->E.rt (.ref p) H'
inductive TDs (Γ:Cn) (K:aV) (g:FS) (E:Ends) (σ:St) (H:Hp):Prop where
 |mk:∀G₀ H₀ G ρ fl ρ',At Γ K G₀ H₀ G H ρ σ->g ρ=aa (fl,ρ')->(∀σ' G' H',ba G G'->At Γ K G₀ H₀ G' H' ρ' σ'->Ir Γ K E H₀ G' H' σ' fl)->TDs Γ K g E σ H
inductive TDo (Γ:Cn) (K:aV) (f:FA) (σ:St) (H:Hp) (Q:VK):Prop where
 |mk:∀G₀ H₀ G ρ ds,At Γ K G₀ H₀ G H ρ σ->f ρ=aa ds->(∀p vs G' H',Step G H G' H'->H' p=af->Reps Γ K G' vs ds->Q (.ref p) (upd H' p (.lst vs)))->TDo Γ K f σ H Q
structure DE (Γ:Cn) (X:Cx) (e:Expr) (f:FE):Prop where
 out:PE X e (TD Γ X.K f)
structure DT (Γ:Cn) (X:Cx) (e:Expr) (f:FT):Prop where
 out:PT X e (TDt Γ X.K f)
structure DW (Γ:Cn) (X:Cx) (e:Expr) (f:FT):Prop where
 out:PW X e (TDt Γ X.K f)
structure DA (Γ:Cn) (X:Cx) (es:ac Expr) (f:FA):Prop where
 out:PA X es (TDa Γ X.K f)
structure DS (Γ:Cn) (X:Cx) (st:Stmt) (g:FS):Prop where
 out:PS X st (TDs Γ X.K g)
structure DSs (Γ:Cn) (X:Cx) (st:ac Stmt) (g:FS):Prop where
 out:PSs X st (TDs Γ X.K g)
structure DO (Γ:Cn) (X:Cx) (e:Expr) (f:FA):Prop where
 out:PE X e (TDo Γ X.K f)
variable {fa fb fc f:FE}
section
variable {a c:Expr}
theorem PE.imp {t t':TE} (h:PE X e t) (i:∀σ H Q,t' σ H Q->t σ H Q):PE X e t':=fun pins s σ H Q I q=>h pins s σ H Q I (i _ _ _ q)
theorem PT.imp {t t':TT} (h:PT X e t) (i:∀σ H Q,t' σ H Q->t σ H Q):PT X e t':=fun pins s σ H Q I q=>h pins s σ H Q I (i _ _ _ q)
theorem PW.imp {t t':TT} (h:PW X e t) (i:∀σ H Q,t' σ H Q->t σ H Q):PW X e t':=fun wh pins s σ H Q I q=>h wh pins s σ H Q I (i _ _ _ q)
theorem PA.imp {t t':TA} (h:PA X es t) (i:∀σ H Q,t' σ H Q->t σ H Q):PA X es t':=fun p pins s σ H Q I q=>h p pins s σ H Q I (i _ _ _ q)
theorem PS.imp {t t':TS} (h:PS X st t) (i:∀E σ H,t' E σ H->t E σ H):PS X st t':=fun pins s σ H E I q=>h pins s σ H E I (i _ _ _ q)
theorem PSs.imp {st:ac Stmt} {t t':TS} (h:PSs X st t) (i:∀E σ H,t' E σ H->t E σ H):PSs X st t':=fun pins s σ H E I q=>h pins s σ H E I (i _ _ _ q)
noncomputable def vSh (i:ao):FE:=fun ρ=>match ρ[i]? with
 |some (aa (.sh d))=>aa d
 |_=>af
theorem Ll (h:vSh i ρ=aa d):ρ[i]?=aa (aa (.sh d)):=by
 unfold vSh at h;split at h
 .rename_i e;cases h;exact e
 .cases h
theorem ah (i:ao) (hN:X.N[i]?=aa x:=by rfl) (hv:Vis X.env.scope x:=by first|exact cR rfl|exact ca (cR rfl)|exact ca (ca rfl)) (hd:(x==("__debug__":aj))=av:=by decide)
  (hcd:(x==("__classdict__":aj))=av:=by decide):DE Γ X (.Name x pos) (vSh i):=⟨(gn hN hv hd hcd).imp fun σ H Q ⟨G₀,H₀,G,ρ,d,A,h,k⟩=>by
 obtain⟨v,h1,h2⟩:=A.env.sh i d (Ll h);exact⟨v,h1,k v G H (.refl A.gh) h2⟩⟩
noncomputable def vC (d:D):FE:=fun _=>aa d
theorem TD.const (r:∀G,Rep Γ X.K G v d) (h:PE X e (tC v)):DE Γ X e (vC d):=⟨h.imp fun σ H Q ⟨G₀,H₀,G,ρ,d',A,h,k⟩=>by cases h;exact k v G H (.refl A.gh) (r G)⟩
theorem aA {i j}:DE Γ X (.Constant (.int i) j pos) (vC (.int i)):=TD.const (fun _=>.int i) Ab
theorem dF {i j}:DE Γ X (.Constant (.bool i) j pos) (vC (.bl i)):=TD.const (fun _=>.bl i) Hl
theorem il {j}:DE Γ X (.Constant .none j pos) (vC .non):=TD.const (fun _=>.non) La
theorem dH {i j}:DE Γ X (.Constant (.str i) j pos) (vC (.str i)):=TD.const (fun _=>.str i) J4
theorem iq {i:aq} {t:Tok} (hg:Gl X x) (hm:X.mg x=aa (.int i t)) (hd:(x==("__debug__":aj))=av:=by decide):DE Γ X (.Name x pos) (vC (.int i)):=TD.const (fun _=>.int i) (O0 hg hm ⟨t,rfl⟩ hd)
noncomputable def b2 (g:D->D->au D) (fa fb:FE):FE:=fun ρ=>(fa ρ).bind fun x=>(fb ρ).bind fun y=>g x y
noncomputable def b1 (g:D->au D) (fa:FE):FE:=fun ρ=>(fa ρ).bind g
noncomputable def f9 (Γ:Cn) (K:aV) (g:D->D->au D) (r:R2):Prop:=
 ∀{G H v u x y z},ba G H->Rep Γ K G v x->Rep Γ K G u y->g x y=aa z->∀Q:VK,(∀w G' H',Step G H G' H'->Rep Γ K G' w z->Q w H')->r v u H Q
theorem TD.two {g:D->D->au D} {r:R2} (hr:f9 Γ X.K g r):∀σ H Q,TD Γ X.K (b2 g fa fb) σ H Q->tOp r (TD Γ X.K fa) (TD Γ X.K fb) σ H Q:=by
 rintro σ H Q ⟨G₀,H₀,G,ρ,d,A,h,k⟩;unfold b2 at h;cases ha:fa ρ with
 |none=>rw[ha] at h;cases h
 |some x=>
  cases hb:fb ρ with
  |none=>rw[ha] at h;simp only[qb,hb,Option.bind_none] at h;cases h
  |some y=>
   simp only[ha,hb,qb] at h;refine⟨G₀,H₀,G,ρ,x,A,ha,fun v G1 H1 s1 r1=>⟨G₀,H₀,G1,ρ,y,A.step s1,hb,fun u G2 H2 s2 r2=>?_⟩⟩;exact hr s2.gh (r1.mono s2.gg) r2 h Q fun w G' H' s r=>k w G' H' ((s1.trans s2).trans s) r
theorem l0 {op:Operator} {g:D->D->au D} {r:R2} (ho:OpR X (gK op) r) (hr:f9 Γ X.K g r) (ha:DE Γ X a fa) (hb:DE Γ X b fb):DE Γ X (.BinOp a op b pos) (b2 g fa fb):=⟨(O3 ho ha.1 hb.1).imp (TD.two hr)⟩
noncomputable def bi:D->D->au D
 |.int i,.int j=>aa (.int (i+j))
 |.str x,.str y=>if x.length+y.length<=aN then aa (.str (x++y)) else af
 |.lst x,.lst y=>if x.length+y.length<=aN then aa (.lst (x++y)) else af
 |_,_=>af
noncomputable def mJ:D->D->au D
 |.int i,.int j=>aa (.int (i-j))
 |_,_=>af
noncomputable def jt (x:aj) (n:ao):aj:=⟨(bT n x.cps.toList).flatten.toArray⟩
noncomputable def di:D->D->au D
 |.int i,.int j=>if (-(2 ^ 64)<i/\i<2 ^ 64)\/(-(2 ^ 64)<j/\j<2 ^ 64) then aa (.int (i*j)) else af
 |.lst x,.int j=>if -(2 ^ 63)<=j/\j<2 ^ 63/\x.length*j.toNat<=aN then aa (.lst (bT j.toNat x).flatten) else af
 |.str x,.int j=>if 0<=j/\j<1000/\x.length<1000 then aa (.str (jt x j.toNat)) else af
 |_,_=>af
noncomputable def kU:D->D->au D
 |.int i,.int j=>if 0<j/\j<1073741824 then aa (.int (i / j)) else af
 |_,_=>af
noncomputable def eP:D->D->au D
 |.int i,.int j=>if 0<j then aa (.int (i%j)) else af
 |_,_=>af
noncomputable def jY:D->D->au D
 |.int i,.int j=>if 0<=j/\j<=1000000/\i.natAbs<2 ^ 64 then aa (.int (i ^ j.toNat)) else af
 |_,_=>af
theorem Rep.int_inv {i:aq} (r:Rep Γ K G v (.int i)):v=.int i:=by cases r;rfl
theorem Rep.str_inv {i:aj} (r:Rep Γ K G v (.str i)):v=.str i:=by cases r;rfl
theorem Rep.bl_inv {i:aT} (r:Rep Γ K G v (.bl i)):v=.bl i:=by cases r;rfl
theorem Rep.lst_inv (r:Rep Γ K G v (.lst ds)):∃a vs,v=.ref a/\G a=aa (.lst vs)/\Reps Γ K G vs ds:=by cases r;exact⟨_,_,rfl,by assumption,by assumption⟩
theorem Rep.tup_inv (r:Rep Γ K G v (.tup ds)):∃a vs,v=.ref a/\G a=aa (.tup vs)/\Reps Γ K G vs ds:=by cases r;exact⟨_,_,rfl,by assumption,by assumption⟩
theorem Rep.scr_inv {ns:ac aq} (r:Rep Γ K G v (.scr ns)):∃a,v=.ref a/\SqL K G a (ns.map V.int):=by cases r;exact⟨_,rfl,by assumption⟩
theorem kJ {Q:VK} (gh:ba G H) (r:Reps Γ K G vs ds) (k:∀w G' H',Step G H G' H'->Rep Γ K G' w (.lst ds)->Q w H'):∀p,H p=af->Q (.ref p) (upd H p (.lst vs)):=fun p hp=>by have s:=Step.new (o:=.lst vs) gh hp;exact k _ _ _ s (.lst bB (r.mono s.gg))
theorem tm {Q:VK} (gh:ba G H) (r:Reps Γ K G vs ds) (k:∀w G' H',Step G H G' H'->Rep Γ K G' w (.tup ds)->Q w H'):∀p,H p=af->Q (.ref p) (upd H p (.tup vs)):=fun p hp=>by have s:=Step.new (o:=.tup vs) gh hp;exact k _ _ _ s (.tup bB (r.mono s.gg))
theorem Ib :f9 Γ K bi (fun x y H Q=>(rI0 (fun i j=>V.int (i+j)) x y H Q\/(∃i j,x=.str i/\y=.str j/\i.length+j.length<=aN/\Q (.str (i++j)) H))\/wM x y H Q):=by
 intro G H v u x y z gh r1 r2 h Q k;unfold bi at h;split at h
 .cases h;cases r1.int_inv;cases r2.int_inv;exact .inl (.inl ⟨_,_,rfl,rfl,k _ G H (.refl gh) (.int _)⟩)
 .split at h
  .cases h;cases r1.str_inv;cases r2.str_inv;exact .inl (.inr ⟨_,_,rfl,rfl,by assumption,k _ G H (.refl gh) (.str _)⟩)
  .cases h
 .split at h
  .rename_i hz;cases h;obtain⟨a,vs,rfl,ha,ra⟩:=r1.lst_inv;obtain⟨b,us,rfl,hb,rb⟩:=r2.lst_inv;exact .inr ⟨a,b,vs,us,rfl,rfl,gh _ _ ha,gh _ _ hb,by rw[ra.length,rb.length];exact hz,kJ gh (ra.append rb) k⟩
  .cases h
 .cases h
theorem Ja:OpR X (gK .Add) (fun x y H Q=>(rI0 (fun i j=>V.int (i+j)) x y H Q\/(∃i j,x=.str i/\y=.str j/\i.length+j.length<=aN/\Q (.str (i++j)) H))\/wM x y H Q):=(Jt.or Oo).or MU
theorem bI (ha:DE Γ X a fa) (hb:DE Γ X b fb):DE Γ X (.BinOp a .Add b pos) (b2 bi fa fb):=l0 Ja Ib ha hb
theorem Ko {g:D->D->au D} {o:aq->aq->aq} (hg:∀x y z,g x y=aa z->∃i j,x=.int i/\y=.int j/\z=.int (o i j)):f9 Γ K g (rI0 fun i j=>V.int (o i j)):=by intro G H v u x y z gh r1 r2 h Q k;obtain⟨i,j,rfl,rfl,rfl⟩:=hg x y z h;cases r1.int_inv;cases r2.int_inv;exact⟨_,_,rfl,rfl,k _ G H (.refl gh) (.int _)⟩
theorem wG {g:D->D->au D} {C:aq->aq->Prop} {o:aq->aq->aq} (hg:∀x y z,g x y=aa z->∃i j,x=.int i/\y=.int j/\C i j/\z=.int (o i j)):f9 Γ K g (rI C fun i j=>V.int (o i j)):=by intro G H v u x y z gh r1 r2 h Q k;obtain⟨i,j,rfl,rfl,hc,rfl⟩:=hg x y z h;cases r1.int_inv;cases r2.int_inv;exact⟨_,_,rfl,rfl,hc,k _ G H (.refl gh) (.int _)⟩
theorem vK (ha:DE Γ X a fa) (hb:DE Γ X b fb):DE Γ X (.BinOp a .Sub b pos) (b2 mJ fa fb):=l0 O5 (Ko fun x y z h=>by unfold mJ at h;split at h<;>cases h;exact⟨_,_,rfl,rfl,rfl⟩) ha hb
theorem pf (ha:DE Γ X a fa) (hb:DE Γ X b fb):DE Γ X (.BinOp a .FloorDiv b pos) (b2 kU fa fb):=l0 IW (wG fun x y z h=>by
 unfold kU at h;split at h
 .split at h<;>cases h;exact⟨_,_,rfl,rfl,by assumption,rfl⟩
 .cases h) ha hb
theorem gG (ha:DE Γ X a fa) (hb:DE Γ X b fb):DE Γ X (.BinOp a .Mod b pos) (b2 eP fa fb):=l0 Ox (wG fun x y z h=>by
 unfold eP at h;split at h
 .split at h<;>cases h;exact⟨_,_,rfl,rfl,by assumption,rfl⟩
 .cases h) ha hb
theorem sR (ha:DE Γ X a fa) (hb:DE Γ X b fb):DE Γ X (.BinOp a .Pow b pos) (b2 jY fa fb):=l0 HI (wG fun x y z h=>by
 unfold jY at h;split at h
 .split at h<;>cases h;exact⟨_,_,rfl,rfl,by assumption,rfl⟩
 .cases h) ha hb
theorem z5 (a:bR ao):∀(k:ao) (acc:ac ao),(bT k a).foldl (·++·) acc.toArray=(acc++(bT k a.toList).flatten).toArray
 |0,acc=>by simp
 |k+1,acc=>by
  rw[lG,gw,lG,oH,←lH,←z5 a k (acc++a.toList)]
  congr 1
  simp
noncomputable def CO:R2:=fun x y H Q=>∃z n,x=.str z/\y=.int n/\0<=n/\n<1000/\z.length<1000/\Q (.str (jt z n.toNat)) H
theorem ME:OpR X (gK .Mult) CO:=by
 intro pins s σ H x y v u Q I rx ry h;obtain⟨z,n,rfl,rfl,h0,h1,h2,q⟩:=h;obtain⟨t,rfl⟩:=rx;obtain⟨t',rfl⟩:=ry;have hl:z.length*n.toNat<=1000000:=qN (yE (pY h2) (show n.toNat<=1000 by omega)) .(e);have e0:(bT n.toNat z.cps).foldl (·++·) #[]=(jt z n.toNat).cps:=by have:=z5 z.cps n.toNat [];simpa[jt] using this
 refine PySem.P.mul_str ?_ (fun h _=>?_) (fun _ _=>?_) ?_
 .rw[qO .(c),qO .(c)];rfl
 .have e:(z.length:aq)*n=((z.length*n.toNat:ao):aq):=by rw[Int.natCast_mul];congr 1;omega
  have:(z.length:aq)<=(2 ^ 63-1:aq) / n:=Int.le_ediv_of_mul_le .(c) (by rw[e];omega);omega
 .unfold Sj;exact qO (by have:=ge;omega)
 .split
  .have:n=0:=by omega
   subst this;exact⟨by decide,⟨.str _,H,I.tok _,⟨_,rfl⟩,by simpa[jt,ut] using q⟩⟩
  .split
   .rename_i hc;have ez:jt z n.toNat=z:=by
     rcases ET _ _▸hc with e|e
     .have:n=1:=by simpa using e
      subst this;simp[jt]
     .have hz:z.cps=#[]:=by
       have:z.cps.size=0:=by simpa[rg] using e
       exact Array.eq_empty_of_size_eq_zero this
      cases z;simp only at hz;subst hz;simp[jt]
    exact⟨.str _,H,I,⟨_,rfl⟩,by rw[←ez];exact q⟩
   .rw[e0];refine⟨?_,⟨.str _,H,I.tok _,⟨_,rfl⟩,q⟩⟩;have e1:(jt z n.toNat).length=n.toNat*z.length:=by show(bT n.toNat z.cps.toList).flatten.toArray.size=_;rw[qC,DX];simp[rg]
    show(jt z n.toNat).length<=aN;rw[e1,Qb];have:=ge;omega
theorem L7 :f9 Γ K di (fun x y H Q=>(rI t5 (fun i j=>V.int (i*j)) x y H Q\/DU x y H Q)\/CO x y H Q):=by
 intro G H v u x y z gh r1 r2 h Q k;unfold di at h;split at h
 .split at h
  .cases h;cases r1.int_inv;cases r2.int_inv;exact .inl (.inl ⟨_,_,rfl,rfl,by assumption,k _ G H (.refl gh) (.int _)⟩)
  .cases h
 .split at h
  .rename_i hz;cases h;obtain⟨a,vs,rfl,ha,ra⟩:=r1.lst_inv;cases r2.int_inv;exact .inl (.inr ⟨a,_,vs,rfl,rfl,gh _ _ ha,hz.1,hz.2.1,by rw[ra.length];exact hz.2.2,kJ gh (ra.rep _) k⟩)
  .cases h
 .split at h
  .rename_i hz;cases h;cases r1.str_inv;cases r2.int_inv;exact .inr ⟨_,_,rfl,rfl,hz.1,hz.2.1,hz.2.2,k _ G H (.refl gh) (.str _)⟩
  .cases h
 .cases h
theorem ee (ha:DE Γ X a fa) (hb:DE Γ X b fb):DE Γ X (.BinOp a .Mult b pos) (b2 di fa fb):=l0 ((Ho.or Gk).or ME) L7 ha hb
end
variable {ft gt:FT} {fr:FA}
section
variable {a c:Expr}
theorem Rep.non_inv (r:Rep Γ K G v .non):v=.non:=by cases r;rfl
noncomputable def ltS (x y:aj):aT:=decide (x.cps.toList<y.cps.toList)
noncomputable def ltD:D->D->au D
 |.int i,.int j=>aa (.bl (decide (i<j)))
 |.str x,.str y=>aa (.bl (ltS x y))
 |_,_=>af
noncomputable def leD:D->D->au D
 |.int i,.int j=>aa (.bl (decide (i<=j)))
 |.str x,.str y=>aa (.bl (!ltS y x))
 |_,_=>af
noncomputable def gtD:D->D->au D
 |.int i,.int j=>aa (.bl (decide (j<i)))
 |_,_=>af
noncomputable def geD:D->D->au D
 |.int i,.int j=>aa (.bl (decide (j<=i)))
 |_,_=>af
noncomputable def eqS:D->D->au aT
 |.int i,.int j=>aa (decide (i=j))
 |.bl i,.bl j=>aa (decide (i=j))
 |.str i,.str j=>aa (decide (i=j))
 |.non,.non=>aa ak
 |.non,.int _=>aa av|.int _,.non=>aa av|.non,.bl _=>aa av|.bl _,.non=>aa av|.non,.str _=>aa av|.str _,.non=>aa av
 |.int _,.str _=>aa av|.str _,.int _=>aa av|.bl _,.str _=>aa av|.str _,.bl _=>aa av
 |_,_=>af
noncomputable def eqD (x y:D):au D:=(eqS x y).map D.bl
noncomputable def neD (x y:D):au D:=(eqS x y).map fun b=>D.bl (!b)
theorem BC {u:V} {x y:D} {k:aT} (r1:Rep Γ K G v x) (r2:Rep Γ K G u y) (h:eqS x y=aa k):xK v u=ak/\decide (v=u)=k:=by
 unfold eqS at h;split at h<;>cases h
 .cases r1.int_inv;cases r2.int_inv;exact⟨rfl,by simp⟩
 .cases r1.bl_inv;cases r2.bl_inv;exact⟨rfl,by simp⟩
 .cases r1.str_inv;cases r2.str_inv;exact⟨rfl,by simp⟩
 .cases r1.non_inv;cases r2.non_inv;exact⟨rfl,by simp⟩
 .cases r1.non_inv;cases r2.int_inv;exact⟨rfl,by simp⟩
 .cases r1.int_inv;cases r2.non_inv;exact⟨rfl,by simp⟩
 .cases r1.non_inv;cases r2.bl_inv;exact⟨rfl,by simp⟩
 .cases r1.bl_inv;cases r2.non_inv;exact⟨rfl,by simp⟩
 .cases r1.non_inv;cases r2.str_inv;exact⟨rfl,by simp⟩
 .cases r1.str_inv;cases r2.non_inv;exact⟨rfl,by simp⟩
 .cases r1.int_inv;cases r2.str_inv;exact⟨rfl,by simp⟩
 .cases r1.str_inv;cases r2.int_inv;exact⟨rfl,by simp⟩
 .cases r1.bl_inv;cases r2.str_inv;exact⟨rfl,by simp⟩
 .cases r1.str_inv;cases r2.bl_inv;exact⟨rfl,by simp⟩
theorem LH :f9 Γ K eqD rEq:=by
 intro G H v u x y z gh r1 r2 h Q k;unfold eqD at h;cases e:eqS x y with
 |none=>rw[e] at h;cases h
 |some b=>
  rw[e] at h;cases h;obtain⟨h1,h2⟩:=BC r1 r2 e;exact⟨h1,by rw[h2];exact k _ G H (.refl gh) (.bl _)⟩
theorem N3 :f9 Γ K neD rNe:=by
 intro G H v u x y z gh r1 r2 h Q k;unfold neD at h;cases e:eqS x y with
 |none=>rw[e] at h;cases h
 |some b=>
  rw[e] at h;cases h;obtain⟨h1,h2⟩:=BC r1 r2 e;exact⟨h1,by rw[h2];exact k _ G H (.refl gh) (.bl _)⟩
theorem Cd {g:D->D->au D} {o:aq->aq->aT} (hg:∀x y z,g x y=aa z->∃i j,x=.int i/\y=.int j/\z=.bl (o i j)):f9 Γ K g (rI0 fun i j=>V.bl (o i j)):=by intro G H v u x y z gh r1 r2 h Q k;obtain⟨i,j,rfl,rfl,rfl⟩:=hg x y z h;cases r1.int_inv;cases r2.int_inv;exact⟨_,_,rfl,rfl,k _ G H (.refl gh) (.bl _)⟩
theorem N1:OpR X (dN .LtE) (fun x y H Q=>∃i j,x=.str i/\y=.str j/\Q (.bl (!ltS j i)) H):=by intro pins s σ H x y v u Q I rx ry h;obtain⟨i,j,rfl,rfl,q⟩:=h;obtain⟨t,rfl⟩:=rx;obtain⟨t',rfl⟩:=ry;exact PySem.P.le_str (cY I q (by simp[ltS]))
theorem Oh :f9 Γ K ltD (fun x y H Q=>rI0 (fun i j=>V.bl (decide (i<j))) x y H Q\/∃i j,x=.str i/\y=.str j/\Q (.bl (decide (i.cps.toList<j.cps.toList))) H):=by
 intro G H v u x y z gh r1 r2 h Q k;unfold ltD at h;split at h<;>cases h
 .cases r1.int_inv;cases r2.int_inv;exact .inl ⟨_,_,rfl,rfl,k _ G H (.refl gh) (.bl _)⟩
 .cases r1.str_inv;cases r2.str_inv;exact .inr ⟨_,_,rfl,rfl,k _ G H (.refl gh) (.bl _)⟩
theorem Hg :f9 Γ K leD (fun x y H Q=>rI0 (fun i j=>V.bl (decide (i<=j))) x y H Q\/∃i j,x=.str i/\y=.str j/\Q (.bl (!ltS j i)) H):=by
 intro G H v u x y z gh r1 r2 h Q k;unfold leD at h;split at h<;>cases h
 .cases r1.int_inv;cases r2.int_inv;exact .inl ⟨_,_,rfl,rfl,k _ G H (.refl gh) (.bl _)⟩
 .cases r1.str_inv;cases r2.str_inv;exact .inr ⟨_,_,rfl,rfl,k _ G H (.refl gh) (.bl _)⟩
structure CmpD (Γ:Cn) (X:Cx) (op:CmpOp) (g:D->D->au D):Prop where
 ex:∃r,OpR X (dN op) r/\f9 Γ X.K g r
theorem wD:CmpD Γ X .Lt ltD:=⟨_,LN.or Kq,Oh⟩
theorem jW:CmpD Γ X .LtE leD:=⟨_,JP.or N1,Hg⟩
theorem Ci:CmpD Γ X .Gt gtD:=⟨_,Pa,Cd fun x y z h=>by unfold gtD at h;split at h<;>cases h;exact⟨_,_,rfl,rfl,rfl⟩⟩
theorem N5:CmpD Γ X .GtE geD:=⟨_,Om,Cd fun x y z h=>by unfold geD at h;split at h<;>cases h;exact⟨_,_,rfl,rfl,rfl⟩⟩
theorem iI:CmpD Γ X .Eq eqD:=⟨_,He,LH⟩
theorem Nc:CmpD Γ X .NotEq neD:=⟨_,No,N3⟩
theorem eD {g:D->D->au D} (h:CmpD Γ X op g) (ha:DE Γ X a fa) (hb:DE Γ X b fb) (hm:lx op b=av):DE Γ X (.Compare a [op] [b] pos) (b2 g fa fb):=⟨by obtain⟨r,ho,hr⟩:=h.ex;exact(Go ho ha.1 hb.1 hm).imp (TD.two hr)⟩
noncomputable def chD (g g':D->D->au D) (fa fb fc:FE):FE:=fun ρ=>(fa ρ).bind fun x=>(fb ρ).bind fun y=>(g x y).bind fun z=>match z with
 |.bl ak=>(fc ρ).bind fun w=>g' y w
 |.bl av=>aa (.bl av)
 |_=>af
theorem TD.chain {g g':D->D->au D} {r:R2} (hr:f9 Γ X.K g r) (hr':f9 Γ X.K g' r'):∀σ H Q,TD Γ X.K (chD g g' fa fb fc) σ H Q->u0 r r' (TD Γ X.K fa) (TD Γ X.K fb) (TD Γ X.K fc) σ H Q:=by
 rintro σ H Q ⟨G₀,H₀,G,ρ,d,A,h,k⟩;unfold chD at h;obtain⟨x,ha,h⟩:=oBd h;obtain⟨y,hb,h⟩:=oBd h;obtain⟨z,hz,h⟩:=oBd h;refine⟨G₀,H₀,G,ρ,x,A,ha,fun v G1 H1 s1 r1=>⟨G₀,H₀,G1,ρ,y,A.step s1,hb,fun u G2 H2 s2 r2=>?_⟩⟩;refine hr s2.gh (r1.mono s2.gg) r2 hz _ fun w G3 H3 s3 r3=>?_;split at h
 .cases r3.bl_inv;obtain⟨w,hc,h⟩:=oBd h;refine⟨ak,rfl,lm ⟨G₀,H₀,G3,ρ,w,((A.step s1).step s2).step s3,hc,fun q G4 H4 s4 r4=>?_⟩⟩;exact hr' s4.gh ((r2.mono s3.gg).mono s4.gg) r4 h Q fun w' G' H' s r=>k w' G' H' ((((s1.trans s2).trans s3).trans s4).trans s) r
 .cases r3.bl_inv;cases h;exact⟨av,rfl,kQ (k _ G3 H3 ((s1.trans s2).trans s3) (.bl _))⟩
 .cases h
theorem xO {g g':D->D->au D} (h:CmpD Γ X op g) (h':CmpD Γ X op' g') (ha:DE Γ X a fa) (hb:DE Γ X b fb) (hc:DE Γ X c fc) (hm:yd [op,op'] [b,c]=av:=by with_unfolding_all rfl) :
  DE Γ X (.Compare a [op,op'] [b,c] pos) (chD g g' fa fb fc):=⟨by
 obtain⟨r,ho,hr⟩:=h.ex;obtain⟨r',ho',hr'⟩:=h'.ex;exact(Hj ho ho' ha.1 hb.1 hc.1 hm).imp (TD.chain hr hr')⟩
noncomputable def toB (f:FE):FT:=fun ρ=>(f ρ).bind fun d=>match d with
 |.bl b=>aa b
 |_=>af
theorem TDt.val :∀σ H Q,TDt Γ X.K (toB f) σ H Q->TD Γ X.K f σ H fun x H'=>∃k,x=.bl k/\Q k H':=by rintro σ H Q ⟨G₀,H₀,G,ρ,b,A,h,k⟩;unfold toB at h;obtain⟨d,hd,h⟩:=oBd h;split at h<;>cases h;exact⟨G₀,H₀,G,ρ,_,A,hd,fun v G' H' s r=>⟨b,r.bl_inv,k G' H' s⟩⟩
theorem c9 {g:D->D->au D} (h:CmpD Γ X op g) (ha:DE Γ X a fa) (hb:DE Γ X b fb) (hm:lx op b=av):DT Γ X (.Compare a [op] [b] pos) (toB (b2 g fa fb)):=⟨by obtain⟨r,ho,hr⟩:=h.ex;exact(N2 ho ha.1 hb.1 hm).imp fun σ H Q q=>TD.two hr σ H _ (TDt.val σ H Q q)⟩
theorem Jf {g g':D->D->au D} (h:CmpD Γ X op g) (h':CmpD Γ X op' g') (ha:DE Γ X a fa) (hb:DE Γ X b fb) (hc:DE Γ X c fc) (hm:yd [op,op'] [b,c]=av:=by with_unfolding_all rfl) :
  DT Γ X (.Compare a [op,op'] [b,c] pos) (toB (chD g g' fa fb fc)):=⟨by
 obtain⟨r,ho,hr⟩:=h.ex;obtain⟨r',ho',hr'⟩:=h'.ex;exact(Kt ho ho' ha.1 hb.1 hc.1 hm).imp fun σ H Q q=>TD.chain hr hr' σ H _ (TDt.val σ H Q q)⟩
theorem bQ (h:DE Γ X e f) (he:∀whole,isTrue e X.env whole=(do let v ←whole;mV e.pos;iz [v] (truthy v)):=by intro _;rfl):DT Γ X e (toB f):=⟨(HG h.1 he).imp TDt.val⟩
noncomputable def bE (f:FT):FT:=fun ρ=>(f ρ).map (!·)
noncomputable def ic (f g:FT):FT:=fun ρ=>(f ρ).bind fun b=>if b=ak then g ρ else aa av
noncomputable def orT (f g:FT):FT:=fun ρ=>(f ρ).bind fun b=>if b=ak then aa ak else g ρ
variable {cc:ac Expr}
theorem DW.dt (h:DW Γ X e ft):DT Γ X e ft:=⟨h.1.pt⟩
theorem bX (h:DT Γ X a ft):DT Γ X (.UnaryOp .Not a pos) (bE ft):=⟨(Mn h.1).imp fun σ H Q=>by rintro⟨G₀,H₀,G,ρ,b,A,h,k⟩;unfold bE at h;obtain⟨c,hc,h⟩:=oMd h;exact⟨G₀,H₀,G,ρ,c,A,hc,fun G' H' s=>by show Q (!c) H';rw[h];exact k G' H' s⟩⟩
theorem xh (h:DT Γ X a ft):DW Γ X (.BoolOp .And [a] pos) ft:=⟨OI h.1⟩
theorem e6 (h:DT Γ X a ft):DW Γ X (.BoolOp .Or [a] pos) ft:=⟨Oj h.1⟩
theorem sY (h:DT Γ X a ft) (h':DW Γ X (.BoolOp .And (b::cc) pos) gt):DW Γ X (.BoolOp .And (a::b::cc) pos) (ic ft gt):=⟨(K2 h.1 h'.1).imp fun σ H Q=>by
 rintro⟨G₀,H₀,G,ρ,r,A,h,k⟩;unfold ic at h;obtain⟨c,hc,h⟩:=oBd h;refine⟨G₀,H₀,G,ρ,c,A,hc,fun G1 H1 s1=>?_⟩;cases c with
 |true=>exact lm ⟨G₀,H₀,G1,ρ,r,A.step s1,by simpa using h,fun G' H' s=>k G' H' (s1.trans s)⟩
 |false=>
  rw[qY qu] at h;cases h;exact kQ (k _ _ s1)⟩
theorem dX (h:DT Γ X a ft) (h':DW Γ X (.BoolOp .Or (b::cc) pos) gt):DW Γ X (.BoolOp .Or (a::b::cc) pos) (orT ft gt):=⟨(J5 h.1 h'.1).imp fun σ H Q=>by
 rintro⟨G₀,H₀,G,ρ,r,A,h,k⟩;unfold orT at h;obtain⟨c,hc,h⟩:=oBd h;refine⟨G₀,H₀,G,ρ,c,A,hc,fun G1 H1 s1=>?_⟩;cases c with
 |false=>exact kQ ⟨G₀,H₀,G1,ρ,r,A.step s1,by simpa using h,fun G' H' s=>k G' H' (s1.trans s)⟩
 |true=>
  rw[qX rfl] at h;cases h;exact lm (k _ _ s1)⟩
noncomputable def cy (fa fb:FE):FE:=fun ρ=>(fa ρ).bind fun d=>match d with
 |.bl ak=>fb ρ
 |.bl av=>aa (.bl av)
 |_=>af
noncomputable def orD (fa fb:FE):FE:=fun ρ=>(fa ρ).bind fun d=>match d with
 |.bl ak=>aa (.bl ak)
 |.bl av=>fb ρ
 |_=>af
noncomputable def pw (fa:FE):FE:=fun ρ=>(fa ρ).bind fun d=>match d with
 |.bl b=>aa (.bl (!b))
 |_=>af
theorem er {op} (h:DE Γ X a fa):DE Γ X (.BoolOp op [a] pos) fa:=⟨GB h.1⟩
theorem dS (ha:DE Γ X a fa) (hb:DE Γ X (.BoolOp .And (b::cc) pos) fb):DE Γ X (.BoolOp .And (a::b::cc) pos) (cy fa fb):=⟨(Ge ha.1 hb.1).imp fun σ H Q=>by
 rintro⟨G₀,H₀,G,ρ,d,A,h,k⟩;unfold cy at h;obtain⟨x,hx,h⟩:=oBd h;refine⟨G₀,H₀,G,ρ,x,A,hx,fun v G1 H1 s1 r1=>?_⟩;split at h
 .cases r1.bl_inv;exact⟨ak,rfl,lm ⟨G₀,H₀,G1,ρ,d,A.step s1,h,fun w G' H' s r=>k w G' H' (s1.trans s) r⟩⟩
 .cases r1.bl_inv;cases h;exact⟨av,rfl,kQ (k _ G1 H1 s1 (.bl _))⟩
 .cases h⟩
theorem sW (ha:DE Γ X a fa) (hb:DE Γ X (.BoolOp .Or (b::cc) pos) fb):DE Γ X (.BoolOp .Or (a::b::cc) pos) (orD fa fb):=⟨(KW ha.1 hb.1).imp fun σ H Q=>by
 rintro⟨G₀,H₀,G,ρ,d,A,h,k⟩;unfold orD at h;obtain⟨x,hx,h⟩:=oBd h;refine⟨G₀,H₀,G,ρ,x,A,hx,fun v G1 H1 s1 r1=>?_⟩;split at h
 .cases r1.bl_inv;cases h;exact⟨ak,rfl,lm (k _ G1 H1 s1 (.bl _))⟩
 .cases r1.bl_inv;exact⟨av,rfl,kQ ⟨G₀,H₀,G1,ρ,d,A.step s1,h,fun w G' H' s r=>k w G' H' (s1.trans s) r⟩⟩
 .cases h⟩
theorem CY (ha:DE Γ X a fa):DE Γ X (.UnaryOp .Not a pos) (pw fa):=⟨(Lu ha.1).imp fun σ H Q=>by
 rintro⟨G₀,H₀,G,ρ,d,A,h,k⟩;unfold pw at h;obtain⟨x,hx,h⟩:=oBd h;refine⟨G₀,H₀,G,ρ,x,A,hx,fun v G1 H1 s1 r1=>?_⟩;split at h
 .cases r1.bl_inv;cases h;exact⟨_,rfl,k _ G1 H1 s1 (.bl _)⟩
 .cases h⟩
noncomputable def ifD (ft:FT) (fa fb:FE):FE:=fun ρ=>(ft ρ).bind fun c=>if c=ak then fa ρ else fb ρ
theorem tY (hc:DT Γ X c ft) (ha:DE Γ X a fa) (hb:DE Γ X b fb):DE Γ X (.IfExp c a b pos) (ifD ft fa fb):=⟨(G8 hc.1 ha.1 hb.1).imp fun σ H Q=>by
 rintro⟨G₀,H₀,G,ρ,d,A,h,k⟩;unfold ifD at h;obtain⟨x,hx,h⟩:=oBd h;refine⟨G₀,H₀,G,ρ,x,A,hx,fun G1 H1 s1=>?_⟩;cases x with
 |true=>exact lm ⟨G₀,H₀,G1,ρ,d,A.step s1,by simpa using h,fun w G' H' s r=>k w G' H' (s1.trans s) r⟩
 |false=>exact kQ ⟨G₀,H₀,G1,ρ,d,A.step s1,by simpa using h,fun w G' H' s r=>k w G' H' (s1.trans s) r⟩⟩
noncomputable def ar:FA:=fun _=>aa []
noncomputable def ag (fa:FE) (fr:FA):FA:=fun ρ=>(fa ρ).bind fun x=>(fr ρ).map (x::·)
theorem ay:DA Γ X [] ar:=⟨lR.imp fun σ H Q=>by rintro⟨G₀,H₀,G,ρ,d,A,h,k⟩;cases h;exact k _ G H (.refl A.gh) .nil⟩
theorem ai (ha:DE Γ X e fa) (hr:DA Γ X es fr) (hs:aR (e::es) X.env=(av,eval e X.env)::aR es X.env:=by rfl):DA Γ X (e::es) (ag fa fr):=⟨(kB ha.1 hr.1 hs).imp fun σ H Q=>by rintro⟨G₀,H₀,G,ρ,d,A,h,k⟩;unfold ag at h;obtain⟨x,hx,h⟩:=oBd h;obtain⟨xs,hxs,h⟩:=oMd h;subst h;exact⟨G₀,H₀,G,ρ,x,A,hx,fun v G1 H1 s1 r1=>⟨G₀,H₀,G1,ρ,xs,A.step s1,hxs,fun vs G2 H2 s2 r2=>k _ G2 H2 (s1.trans s2) (.cons (r1.mono s2.gg) r2)⟩⟩⟩
noncomputable def szF (fr:FA):FA:=fun ρ=>(fr ρ).bind fun l=>if l.length<=aN then aa l else af
noncomputable def aQ (fr:FA):FE:=fun ρ=>(fr ρ).map D.lst
noncomputable def aZ (fr:FA):FE:=fun ρ=>(fr ρ).map D.tup
theorem DO.de (h:DO Γ X e fr):DE Γ X e (aQ fr):=⟨h.1.imp fun σ H Q=>by rintro⟨G₀,H₀,G,ρ,d,A,h,k⟩;unfold aQ at h;obtain⟨ds,hd,rfl⟩:=oMd h;exact⟨G₀,H₀,G,ρ,ds,A,hd,fun p vs G' H' s hp r=>kJ s.gh r (fun w G2 H2 s2 r2=>k w G2 H2 (s.trans s2) r2) p hp⟩⟩
theorem cV (h:DA Γ X es fr):DO Γ X (.List es pos) (szF fr):=⟨(Pc h.1).imp fun σ H Q=>by
 rintro⟨G₀,H₀,G,ρ,d,A,h,k⟩;unfold szF at h;obtain⟨ds,hd,h⟩:=oBd h;split at h
 .rename_i hz;cases h;exact⟨G₀,H₀,G,ρ,d,A,hd,fun vs G' H' s r=>⟨by rw[r.length];exact hz,fun p hp=>k p vs G' H' s hp r⟩⟩
 .cases h⟩
theorem cE {x1} (h:DA Γ X es fr):DE Γ X (.Tuple es x1 pos) (aZ (szF fr)):=⟨(JQ h.1).imp fun σ H Q=>by
 rintro⟨G₀,H₀,G,ρ,d,A,h,k⟩;unfold aZ szF at h;obtain⟨ds',hd',rfl⟩:=oMd h;obtain⟨ds,hd,h⟩:=oBd hd';split at h
 .rename_i hz;cases h;exact⟨G₀,H₀,G,ρ,ds',A,hd,fun vs G' H' s r=>⟨by rw[r.length];exact hz,tm s.gh r fun w G2 H2 s2 r2=>k w G2 H2 (s.trans s2) r2⟩⟩
 .cases h⟩
noncomputable def xj (Γ:Cn) (K:aV) (g:ac D->au D) (r:ac V->Hp->VK->Prop):Prop:=
 ∀{G H vs ds z},ba G H->Reps Γ K G vs ds->g ds=aa z->∀Q:VK,(∀w G' H',Step G H G' H'->Rep Γ K G' w z->Q w H')->r vs H Q
noncomputable def cF (g:ac D->au D) (fr:FA):FE:=fun ρ=>(fr ρ).bind g
theorem TD.call {g:ac D->au D} {r:ac V->Hp->VK->Prop} (hr:xj Γ X.K g r):∀σ H Q,TD Γ X.K (cF g fr) σ H Q->tCB r (TDa Γ X.K fr) σ H Q:=by rintro σ H Q ⟨G₀,H₀,G,ρ,d,A,h,k⟩;unfold cF at h;obtain⟨ds,hd,h⟩:=oBd h;exact⟨G₀,H₀,G,ρ,ds,A,hd,fun vs G1 H1 s1 r1=>hr s1.gh r1 h Q fun w G' H' s r=>k w G' H' (s1.trans s) r⟩
structure BltD (Γ:Cn) (X:Cx) (id:dz) (g:ac D->au D):Prop where
 ex:∃r,gu X (.builtin id) r/\xj Γ X.K g r
structure TyD (Γ:Cn) (X:Cx) (id:dz) (g:ac D->au D):Prop where
 ex:∃r,gu X (.type id) r/\xj Γ X.K g r
theorem bO {id:dz} {g:ac D->au D} (hc:BltD Γ X id g) (hg:Gl X x) (hm:X.mg x=af) (hv:lv x=aa (.builtin id)) (ha:DA Γ X (e::es) fr) (hn:x≠"__name__":=by decide) (hdb:(x==("__debug__":aj))=av:=by decide)
  (he:aR (e::es) X.env=(av,eval e X.env)::aR es X.env:=by rfl) (hpl:(cj pos (aR es X.env)).any (·.1)=av:=by rfl):DE Γ X (.Call (.Name x p) (e::es) [] pos) (cF g fr):=⟨by
 obtain⟨r,h1,h2⟩:=hc.ex;exact(Cm h1 hg hm hv ha.1 hn hdb he hpl).imp (TD.call h2)⟩
theorem iM {id:dz} {g:ac D->au D} (hc:TyD Γ X id g) (hg:Gl X x) (hm:X.mg x=af) (hv:lv x=aa (.type id)) (ha:DA Γ X (e::es) fr) (hn:x≠"__name__":=by decide) (hdb:(x==("__debug__":aj))=av:=by decide)
  (he:aR (e::es) X.env=(av,eval e X.env)::aR es X.env:=by rfl) (hpl:(cj pos (aR es X.env)).any (·.1)=av:=by rfl):DE Γ X (.Call (.Name x p) (e::es) [] pos) (cF g fr):=⟨by
 obtain⟨r,h1,h2⟩:=hc.ex;exact(Cy h1 hg hm hv ha.1 hn hdb he hpl).imp (TD.call h2)⟩
theorem iU {n:dz} (hg:Gl X x) (hm:X.mg x=af) (hv:lv x=aa (.type n)) (hn:x≠"__name__":=by decide) (hd:(x==("__debug__":aj))=av:=by decide):DE Γ X (.Name x pos) (vC (.ty n)):=TD.const (fun _=>.ty n) (JA hg hm hv rfl hn hd)
theorem Reps.one (r:Reps Γ K G vs [d]):∃v,vs=[v]/\Rep Γ K G v d:=by
 cases r with
 |cons h t=>cases t;exact⟨_,rfl,h⟩
theorem Reps.two {d':D} (r:Reps Γ K G vs [d,d']):∃v u,vs=[v,u]/\Rep Γ K G v d/\Rep Γ K G u d':=by
 cases r with
 |cons h t=>cases t with
  |cons h2 t2=>cases t2;exact⟨_,_,rfl,h,h2⟩
noncomputable def RJ:ac D->au D
 |[.int i]=>aa (.int (if i<0 then -i else i))
 |_=>af
noncomputable def i8:ac D->au D
 |[.int i,.int j]=>aa (.int (if j > i then j else i))
 |_=>af
theorem oo (hc:X.calm=ak):BltD Γ X "max" i8:=⟨_,J3 hc,fun {G H vs ds z} gh r h Q k=>by unfold i8 at h;split at h<;>cases h;obtain⟨v,u,rfl,r1,r2⟩:=r.two;cases r1.int_inv;cases r2.int_inv;exact⟨_,_,rfl,k _ G H (.refl gh) (.int _)⟩⟩
noncomputable def mv:ac D->au D
 |[.int i,.int j]=>aa (.int (if j<i then j else i))
 |_=>af
theorem pd (hc:X.calm=ak):BltD Γ X "min" mv:=⟨_,LC hc,fun {G H vs ds z} gh r h Q k=>by unfold mv at h;split at h<;>cases h;obtain⟨v,u,rfl,r1,r2⟩:=r.two;cases r1.int_inv;cases r2.int_inv;exact⟨_,_,rfl,k _ G H (.refl gh) (.int _)⟩⟩
noncomputable def cg:ac D->au D
 |[.str x]=>if x.length<=aN then aa (.int (x.length:ao)) else af
 |[.lst l]=>aa (.int (l.length:ao))
 |[.tup l]=>aa (.int (l.length:ao))
 |[.scr l]=>aa (.int (l.length:ao))
 |_=>af
theorem dY:BltD Γ X "len" cg:=⟨_,F7,fun {G H vs ds z} gh r h Q k=>by
 unfold cg at h;split at h
 .split at h
  .cases h;obtain⟨v,rfl,r1⟩:=r.one;cases r1.str_inv;exact⟨_,_,rfl,⟨by assumption,rfl⟩,k _ G H (.refl gh) (.int _)⟩
  .cases h
 .cases h;obtain⟨v,rfl,r1⟩:=r.one;obtain⟨a,vs,rfl,ha,rv⟩:=r1.lst_inv;exact⟨_,_,rfl,.inl ⟨vs,.inl (.inl (gh _ _ ha)),rfl⟩,k _ G H (.refl gh) (by rw[rv.length];exact .int _)⟩
 .cases h;obtain⟨v,rfl,r1⟩:=r.one;obtain⟨a,vs,rfl,ha,rv⟩:=r1.tup_inv;exact⟨_,_,rfl,.inr ⟨vs,.inl (.inl (gh _ _ ha)),rfl⟩,k _ G H (.refl gh) (by rw[rv.length];exact .int _)⟩
 .cases h;obtain⟨v,rfl,r1⟩:=r.one;obtain⟨a,rfl,ha⟩:=r1.scr_inv;exact⟨_,_,rfl,.inl ⟨_,gh.seq ha,rfl⟩,k _ G H (.refl gh) (by rw[qf];exact .int _)⟩
 .cases h⟩
noncomputable def tyD:D->au dz
 |.non=>aa "NoneType"
 |.bl _=>aa "bool"
 |.int _=>aa "int"
 |.str _=>aa "str"
 |.lst _=>aa "list"
 |.tup _=>aa "tuple"
 |.dk _=>aa "dict"
 |.dt _=>aa "dict"
 |_=>af
noncomputable def f' (t c:dz):au aT:=if (lu t==lu c)=ak then aa ak else if PySem.W.kitMeta c=ak then rE (fun x=>x.contains (lu c)) (PySem.fastBuiltinMro t) else af
noncomputable def dJ:ac D->au D
 |[d,.ty c]=>(tyD d).bind fun t=>(f' t c).map D.bl
 |_=>af
theorem Mx {t:dz} (gh:ba G H) (r:Rep Γ K G v d) (h:tyD d=aa t):TyOf K H v (.type t):=by
 unfold tyD at h;split at h<;>cases h
 .cases r.non_inv;exact .non
 .cases r.bl_inv;exact .bl _
 .cases r.int_inv;exact .int _
 .cases r.str_inv;exact .str _
 .obtain⟨a,vs,rfl,ha,_⟩:=r.lst_inv;exact .lst (gh _ _ ha)
 .obtain⟨a,vs,rfl,ha,_⟩:=r.tup_inv;exact .tup (gh _ _ ha)
 .cases r with
  |dk h _ _=>exact .dK (gh _ _ h)
 .cases r with
  |dt h _ _=>exact .dT (gh _ _ h)
theorem i7:BltD Γ X "isinstance" dJ:=by
 refine⟨fun vs H Q=>∃v t c b,vs=[v,.ty c]/\TyOf X.K H v (.type t)/\PM X.K (.type t) (.type c)=aa b/\Q (.bl b) H,?_,?_⟩
 .intro pins s σ H xs us Q I r h;obtain⟨v,t,c,b,rfl,ty,hk,q⟩:=h;obtain⟨u,w',rfl,r1,r2⟩:=xn r;cases r2;exact Nn I r1 ty hk fun tk=>⟨.bl b,H,I.tok tk,rfl,q⟩
 .intro G H vs ds z gh r h Q k;unfold dJ at h;split at h
  .obtain⟨t,ht,h⟩:=oBd h;obtain⟨b,hb,rfl⟩:=oMd h;obtain⟨v,u,rfl,r1,r2⟩:=r.two;cases r2;exact⟨v,t,_,b,rfl,Mx gh r1 ht,hb,k _ G H (.refl gh) (.bl _)⟩
  .cases h
end
variable {β:Type} {fh:bG->au (au aq)} {fo:FE}
section
variable {a c:Expr}
theorem Reps.atI {K:aV} {G:Hp} {vs:ac V} {ds:ac D} {i:aq} {d:D} (r:Reps Γ K G vs ds) (h:L2.atI ds i=aa d):∃v,L2.atI vs i=aa v/\Rep Γ K G v d:=by
 unfold L2.atI at h ⊢;rw[r.length];cases e:ixN ds.length i with
 |none=>rw[e] at h;cases h
 |some j=>
  rw[e] at h;obtain⟨v,h1,h2⟩:=r.get (i:=j) (d:=d) h;exact⟨v,h1,h2⟩
theorem F5 (g:α->β) (xs:ac α) (i:aq):L2.atI (xs.map g) i=(L2.atI xs i).map g:=by
 unfold L2.atI;rw[qf];cases ixN xs.length i with
 |none=>rfl
 |some j=>simp
noncomputable def ixD:D->D->au D
 |.lst l,.int i=>atI l i
 |.tup l,.int i=>atI l i
 |.scr l,.int i=>(atI l i).map D.int
 |.str x,.int i=>if x.length<=aN then (atI x.cps.toList i).map fun c=>D.str ⟨#[c]⟩ else af
 |_,_=>af
theorem Og :f9 Γ K ixD (rIx K):=by
 intro G H v u x y z gh r1 r2 h Q k;unfold ixD at h;split at h
 .obtain⟨a,vs,rfl,ha,rv⟩:=r1.lst_inv;cases r2.int_inv;obtain⟨w,hw,rw'⟩:=rv.atI h;exact .inl ⟨a,vs,_,w,rfl,rfl,.inl (.inl (gh _ _ ha)),hw,k w G H (.refl gh) rw'⟩
 .obtain⟨a,vs,rfl,ha,rv⟩:=r1.tup_inv;cases r2.int_inv;obtain⟨w,hw,rw'⟩:=rv.atI h;exact .inr (.inl ⟨a,vs,_,w,rfl,rfl,.inl (.inl (gh _ _ ha)),hw,k w G H (.refl gh) rw'⟩)
 .obtain⟨a,rfl,ha⟩:=r1.scr_inv;cases r2.int_inv;obtain⟨n,hn,rfl⟩:=oMd h;exact .inl ⟨a,_,_,.int n,rfl,rfl,gh.seq ha,by rw[F5,hn];rfl,k _ G H (.refl gh) (.int _)⟩
 .split at h
  .cases r1.str_inv;cases r2.int_inv;obtain⟨n,hn,rfl⟩:=oMd h;exact .inr (.inr ⟨_,_,n,rfl,rfl,by assumption,hn,k _ G H (.refl gh) (.str _)⟩)
  .cases h
 .cases h
theorem aJ (ha:DE Γ X a fa) (hb:DE Γ X b fb) (hs:Cr b:=by intro _ _;rfl):DE Γ X (.Subscript a b pos) (b2 ixD fa fb):=⟨(Kl KZ ha.1 hb.1 hs).imp (TD.two Og)⟩
noncomputable def dw (xs:ac α) (lo hi:au aq):ac α:=(xs.drop (HT.sIx xs.length 0 lo)).take (HT.sIx xs.length xs.length hi-HT.sIx xs.length 0 lo)
theorem JK (g:α->β) (xs:ac α) (lo hi:au aq):dw (xs.map g) lo hi=(dw xs lo hi).map g:=by unfold dw;simp
theorem Reps.cut (r:Reps Γ K G vs ds) (lo hi:au aq):Reps Γ K G (kN vs lo hi) (dw ds lo hi):=by unfold kN dw;rw[r.length];exact(r.drop _).take _
noncomputable def kD (x:aj) (lo hi:au aq):aj:=⟨(dw x.cps.toList lo hi).toArray⟩
theorem CL (lo hi:au aq) (n:ao):yF lo hi 1 n=(cQ (HT.sIx n n hi-HT.sIx n 0 lo)).map (HT.sIx n 0 lo+·):=by
 rw[←P5];unfold yF;have h1:∀(o:au aq) (d:ao),d<=n->(match o with|none=>(d:aq)|some i=>if (1:aq) > 0 then max 0 (min (if i<0 then i+(n:aq) else i) n) else max (-1) (min (if i<0 then i+(n:aq) else i) ((n:aq)-1)))=((HT.sIx n d o:ao):aq):=fun o d hd=>by
  cases o with
  |none=>simp[HT.sIx]
  |some i=>
   simp only[HT.sIx,show(1:aq) > 0 by decide,c7];by_cases h:i<0
   .simp only[h,c7];omega
   .simp only[h,dc];omega
 have e0:=h1 lo 0 (g9 _);have e1:=h1 hi n (qx _);rw[←e0,←e1];rfl
theorem CB (x:aj) (lo hi:au aq):EU x lo hi=kD x lo hi:=by
 have key:(yF lo hi 1 x.length).filterMap (x.cps[·]?)=dw x.cps.toList lo hi:=by rw[CL,ym];unfold dw;rw[show x.cps.toList.length=x.length by simp[rg]]
 unfold EU kD;split
 .rename_i h;rw[←key];have hl:(yF lo hi 1 x.length).length=x.length:=by simpa using h
  rw[CL] at hl ⊢;rw[ym];rw[qf,qV] at hl;have hb:HT.sIx x.length x.length hi<=x.length:=by
   cases hi with
   |none=>simp[HT.sIx]
   |some i=>simp only[HT.sIx];split<;>omega
  have h0:HT.sIx x.length 0 lo=0\/x.length=0:=by omega
  have hx:x.cps.toList.length=x.length:=by simp[rg]
  have e:(x.cps.toList.drop (HT.sIx x.length 0 lo)).take (HT.sIx x.length x.length hi-HT.sIx x.length 0 lo)=x.cps.toList:=by
   rcases h0 with h0|h0
   .rw[h0,oN];rw[h0] at hl;exact lJ .(c)
   .have:x.cps.toList=[]:=yG.mp .(c);rw[this];simp
  rw[e]
 .rw[key]
noncomputable def pN:bG->au (au aq):=fun _=>aa af
noncomputable def pS (f:FE):bG->au (au aq):=fun ρ=>(f ρ).bind fun d=>match d with
 |.int i=>aa (aa i)
 |_=>af
inductive TDp (Γ:Cn) (K:aV) (f:bG->au (au aq)) (σ:St) (H:Hp) (Q:au aq->Hp->Prop):Prop where
 |mk:∀G₀ H₀ G ρ o,At Γ K G₀ H₀ G H ρ σ->f ρ=aa o->(∀G' H',Step G H G' H'->Q o H')->TDp Γ K f σ H Q
structure DP (Γ:Cn) (X:Cx) (e:au Expr) (f:bG->au (au aq)):Prop where
 out:PO X e (TDp Γ X.K f)
theorem iZ:DP Γ X af pN:=⟨fun pins s σ H Q I ⟨G₀,H₀,G,ρ,o,A,h,k⟩=>by cases h;exact Hu pins s σ H Q I (k G H (.refl A.gh))⟩
theorem fO (h:DE Γ X e f):DP Γ X (aa e) (pS f):=⟨fun pins s σ H Q I ⟨G₀,H₀,G,ρ,o,A,q,k⟩=>by unfold pS at q;obtain⟨d,hd,q⟩:=oBd q;split at q<;>cases q;exact L6 h.1 pins s σ H Q I ⟨G₀,H₀,G,ρ,_,A,hd,fun v G' H' s r=>⟨_,r.int_inv,k G' H' s⟩⟩⟩
theorem Jk:SlR X (fun x lo hi H Q=>∃z,x=.str z/\z.length<=aN/\Q (.str (kD z lo hi)) H):=by
 intro pins s σ H x v vl vu lo hi sl Q I rx hs pl pu h;obtain⟨z,rfl,hz,q⟩:=h;obtain⟨t,rfl⟩:=rx;refine⟨"str",_,PySem.F.slot_str_getitem.lookup,EF _ _ _,?_⟩;obtain⟨l,rfl,el⟩:∃l:au (aq×Tok),vl=partValue l/\l.map (·.1)=lo:=by
  cases pl with
  |none=>exact⟨af,rfl,rfl⟩
  |int i t=>exact⟨aa (i,t),rfl,rfl⟩
 obtain⟨u,rfl,eu⟩:∃l:au (aq×Tok),vu=partValue l/\l.map (·.1)=hi:=by
  cases pu with
  |none=>exact⟨af,rfl,rfl⟩
  |int i t=>exact⟨aa (i,t),rfl,rfl⟩
 refine wpAny_getItem_str_slice (l:=l) (u:=u) (st:=af) hs rfl ?_;have e:(if ((rE (fun x=>x.fst) (af:au (aq×Tok))).getD 1==1 && (slicePicked z l u af).length==z.length)=ak then z else {cps:=(List.filterMap (fun x=>z.cps[x]?) (slicePicked z l u af)).toArray})=kD z lo hi:=by
  have e0:EU z (l.map (·.1)) (u.map (·.1))=kD z lo hi:=by rw[el,eu];exact CB z lo hi
  exact e0
 refine post_val_or_str ⟨?_,fun t' k=>?_⟩
 .rw[e,←CB];exact qN (Txt.slice_le z _ _) hz
 .rw[e];exact⟨.str _,H,I.tok k,⟨_,rfl⟩,q⟩
noncomputable def jZ (lo hi:au aq):D->au D
 |.lst l=>aa (.lst (dw l lo hi))
 |.scr l=>aa (.lst ((dw l lo hi).map D.int))
 |.tup l=>if HT.sIx l.length 0 lo=0/\HT.sIx l.length l.length hi=l.length then af else aa (.tup (dw l lo hi))
 |.str x=>if x.length<=aN then aa (.str (kD x lo hi)) else af
 |_=>af
noncomputable def slF (f:FE) (fl fh:bG->au (au aq)):FE:=fun ρ=>(f ρ).bind fun d=>(fl ρ).bind fun l=>(fh ρ).bind fun h=>jZ l h d
variable {fl:bG->au (au aq)} {lo hi:au Expr}
theorem gF (he:DE Γ X e f) (hl:DP Γ X lo fl) (hh:DP Γ X hi fh):DE Γ X (.Subscript e (.Slice lo hi af p2) pos) (slF f fl fh):=⟨(IF (Lb.or (Oq.or Jk)) he.1 hl.1 hh.1).imp fun σ H Q=>by
 rintro⟨G₀,H₀,G,ρ,d,A,h,k⟩;unfold slF at h;obtain⟨x,hx,h⟩:=oBd h;obtain⟨l,hl,h⟩:=oBd h;obtain⟨u,hu,h⟩:=oBd h;refine⟨G₀,H₀,G,ρ,x,A,hx,fun v G1 H1 s1 r1=>⟨G₀,H₀,G1,ρ,l,A.step s1,hl,fun G2 H2 s2=>⟨G₀,H₀,G2,ρ,u,(A.step s1).step s2,hu,fun G3 H3 s3=>?_⟩⟩⟩;have s:=(s1.trans s2).trans s3;have r:=r1.mono (s2.gg.trans s3.gg);have gh:=s3.gh;unfold jZ at h;split at h
 .cases h;obtain⟨a,vs,rfl,ha,rv⟩:=r.lst_inv;exact .inl ⟨a,vs,rfl,.inl (.inl (gh _ _ ha)),kJ gh (rv.cut l u) fun w G4 H4 s4 r4=>k w G4 H4 (s.trans s4) r4⟩
 .cases h;obtain⟨a,rfl,ha⟩:=r.scr_inv;refine .inl ⟨a,_,rfl,gh.seq ha,kJ gh ?_ fun w G4 H4 s4 r4=>k w G4 H4 (s.trans s4) r4⟩;show Reps Γ X.K G3 (dw _ l u) _;rw[JK];exact Reps.ints _
 .split at h
  .cases h
  .rename_i hw;cases h;obtain⟨a,vs,rfl,ha,rv⟩:=r.tup_inv;exact .inr (.inl ⟨a,vs,rfl,.inl (.inl (gh _ _ ha)),by rw[rv.length];exact hw,tm gh (rv.cut l u) fun w G4 H4 s4 r4=>k w G4 H4 (s.trans s4) r4⟩)
 .split at h
  .cases h;cases r.str_inv;exact .inr (.inr ⟨_,rfl,by assumption,k _ _ _ s (.str _)⟩)
  .cases h
 .cases h⟩
structure MtD (Γ:Cn) (X:Cx) (T id:dz) (g:D->ac D->au D):Prop where
 ex:∃r,MtR X id r/\∀{G H v x vs ds z},ba G H->Rep Γ X.K G v x->Reps Γ X.K G vs ds->g x ds=aa z->∀Q:VK,(∀w G' H',Step G H G' H'->Rep Γ X.K G' w z->Q w H')->r v vs H Q
 ty:∀{G H v x ds z},ba G H->Rep Γ X.K G v x->g x ds=aa z->tyV X.K T v H
noncomputable def mF (g:D->ac D->au D) (f:FE) (fr:FA):FE:=fun ρ=>(f ρ).bind fun d=>(fr ρ).bind fun ds=>g d ds
variable {o:Expr}
theorem FJ {id:dz} {g:D->ac D->au D} (pa:PlainAttrs T) (slot:PySem.Slot T name id) (hty:typeOf (.builtin id)=bq (.type "method_descriptor")) (hm:MtD Γ X T id g) (ho:DE Γ X o fo) (ha:DA Γ X (e::es) fr)
  (hbase:i9 o name X.env (eval o X.env)=eval o X.env:=by rfl)
  (hfew:((cj cpos (aR (e::es) X.env)).all (fun x=>!x.1) && (iB cpos (iC [] X.env)).all (fun x=>x.1.isSome)
   && decide ((e::es).length+([]:ac ja).length+(if ([]:ac ja).isEmpty then 0 else 1)<30))=ak:=by rfl)
  (hline:(apos.endLine==cpos.line)=ak:=by rfl) (hs:aR (e::es) X.env=(av,eval e X.env)::aR es X.env:=by rfl) (hplain:(cj cpos (aR es X.env)).any (·.1)=av:=by rfl) :
  DE Γ X (.Call (.Attribute o name apos) (e::es) [] cpos) (mF g fo fr):=⟨by
 obtain⟨r,h1,h2⟩:=hm.ex;refine(vZ pa slot hty h1 ho.1 ha.1 hbase hfew hline hs hplain).imp fun σ H Q=>?_;rintro⟨G₀,H₀,G,ρ,d,A,h,k⟩;unfold mF at h;obtain⟨x,hx,h⟩:=oBd h;obtain⟨ds,hd,h⟩:=oBd h;exact⟨G₀,H₀,G,ρ,x,A,hx,fun v G1 H1 s1 r1=>⟨hm.ty s1.gh r1 h,G₀,H₀,G1,ρ,ds,A.step s1,hd,fun vs G2 H2 s2 r2=>h2 s2.gh (r1.mono s2.gg) r2 h Q fun w G3 H3 s3 r3=>k w G3 H3 ((s1.trans s2).trans s3) r3⟩⟩⟩
noncomputable def mD:ac D->au (ac aj)
 |[]=>aa []
 |.str x::r=>(mD r).map (x::·)
 |_::_=>af
noncomputable def pR:D->ac D->au D
 |.str sep,[.lst l]=>(mD l).bind fun ys=>if (ys.map (·.length)).sum+ys.length*sep.length<=16777216 then aa (.str (EV sep ys)) else af
 |_,_=>af
theorem AK {K:aV} {G:Hp}:∀{vs:ac V} {ds:ac D} {ys:ac aj},Reps Γ K G vs ds->mD ds=aa ys->vs=ys.map V.str
 |_,[],ys,r,h=>by cases r;cases h;rfl
 |_,d::ds,ys,.cons h1 h2,h=>by
  cases d with
  |str x=>
   obtain⟨zs,hz,rfl⟩:=oMd (show(mD ds).map (x::·)=aa ys from h);rw[h1.str_inv,AK h2 hz];rfl
  |_=>cases h
theorem BJ:∀{ys:ac aj} {us:ac ax},bu (ys.map V.str) us->StrsAre us ys
 |[],_,r=>by rw[qP] at r;cases r;exact .nil
 |y::ys,_,r=>by
  rw[qo] at r;cases r with
  |cons r1 r2=>
   obtain⟨t,e⟩:=r1;subst e;exact .cons y t (BJ r2)
theorem Pq:MtD Γ X "str" "str.join" pR:=by
 refine⟨⟨fun v vs H Q=>∃sep a ys,v=.str sep/\vs=[.ref a]/\H a=aa (.lst (ys.map V.str))/\(ys.map (·.length)).sum+ys.length*sep.length<=16777216/\Q (.str (EV sep ys)) H,?_,?_⟩,?_⟩
 .intro pins s σ H x xs v us Q I rx rs h;obtain⟨sep,a,ys,rfl,rfl,ha,hz,q⟩:=h;obtain⟨t,rfl⟩:=rx;obtain⟨u,rfl,ru⟩:=ij rs;cases ru;obtain⟨its,rv,pl,_⟩:=I.list (.inl (.inl ha));exact join_list pl.isList (BJ rv) hz fun t' k=>⟨.str _,H,I.tok k,⟨_,rfl⟩,q⟩
 .intro G H v x vs ds z gh r1 r2 h Q k;unfold pR at h;split at h
  .obtain⟨ys,hy,h⟩:=oBd h;split at h
   .cases h;cases r1.str_inv;obtain⟨v,rfl,r3⟩:=r2.one;obtain⟨a,ws,rfl,ha,rw'⟩:=r3.lst_inv;refine⟨_,a,ys,rfl,rfl,?_,by assumption,k _ G H (.refl gh) (.str _)⟩;rw[←AK rw' hy];exact gh _ _ ha
   .cases h
  .cases h
 .intro G H v x ds z gh r h;unfold pR at h;split at h
  .cases r.str_inv;exact rfl
  .cases h
noncomputable def nI:ac D->au (ac aT)
 |[]=>aa []
 |.bl x::r=>(nI r).map (x::·)
 |_::_=>af
theorem Ct {K:aV} {G:Hp}:∀{vs:ac V} {ds:ac D} {ys:ac aT},Reps Γ K G vs ds->nI ds=aa ys->vs=ys.map V.bl
 |_,[],ys,r,h=>by cases r;cases h;rfl
 |_,d::ds,ys,.cons h1 h2,h=>by
  cases d with
  |bl x=>
   obtain⟨zs,hz,rfl⟩:=oMd (show(nI ds).map (x::·)=aa ys from h);rw[h1.bl_inv,Ct h2 hz];rfl
  |_=>cases h
noncomputable def fM:ac D->au D
 |[.lst l]=>(nI l).map fun bs=>D.bl (bs.all id)
 |_=>af
theorem AD:∀{bs:ac aT} {us:ac ax},bu (bs.map V.bl) us->us=bs.map lr
 |[],_,r=>by rw[qP] at r;cases r;rfl
 |y::ys,_,r=>by
  rw[qo] at r;cases r with
  |cons r1 r2=>cases r1;rw[AD r2];rfl
theorem NO (bs:ac aT):(cQ bs.length).all (fun i=>bs.getD i av)=bs.all id:=by
 rw[mW,iD,iD];constructor
 .intro h x hx;obtain⟨i,hi,e⟩:=yH.mp hx;have:=h i (eR.mpr hi);simp[yI,hi] at this;rw[←e];exact this
 .intro h i hi;have hi':=eR.mp hi;have:=h (bs[i]) (rF hi');simp[yI,hi'];exact this
theorem Na {bs:ac aT} :TruthOf prog w A (fun i v=>(bs.map lr).toArray[i]?=aa v) (fun i=>bs.getD i av):=fun i v s Q E hP hQ=>by
 have hP':(bs.map lr)[i]?=aa v:=by simpa using hP
 rw[qk] at hP';obtain⟨b,hb,rfl⟩:=oMd hP';have:bs.getD i av=b:=by simp[yI,hb]
 have hQ':Q (bs.getD i av) s:=hQ;rw[this] at hQ';exact jK hQ'
theorem ib (hc:X.calm=ak):BltD Γ X "all" fM:=by
 refine⟨fun vs H Q=>∃(a:aw) (bs:ac aT),vs=[.ref a]/\H a=aa (.lst (bs.map V.bl))/\Q (.bl (bs.all id)) H,?_,?_⟩
 .intro pins s σ H xs us Q I r h;obtain⟨a,bs,rfl,ha,q⟩:=h;obtain⟨u,rfl,ru⟩:=ij r;cases ru;obtain⟨its,rv,pl,_⟩:=I.list (.inl (.inl ha));have e:=AD rv;subst e;refine call_all_walk (rG pl.isList ?_);have ne:a≠s.heap.objs.size:=by obtain⟨o,_,h1,_⟩:=pl;exact qD (qw h1)
  refine⟨s.heap.objs.size,_,_,_,_,_,fun i=>bs.getD i av,rfl,yJ (A:=X.A.in1) (show X.A.in1.handled=af from I.ok.hd hc) s.heap.objs.size a ne (bs.map lr).toArray,⟨⟨_,qH _ rfl,rfl,rfl⟩,pl.isList.at fun o q=>qv _ q⟩,Na,fun h' tk hk=>?_⟩;have e2:(bs.map lr).toArray.size=bs.length:=by simp
  rw[e2,NO];refine⟨.bl _,H,I.kept fun b o z=>hk b o ?_ (qv _ z),rfl,q⟩;intro z';have:b=s.heap.objs.size:=by simpa using z'
  exact bJ (qw z) (by rw[this];exact jJ _)
 .intro G H vs ds z gh r h Q k;unfold fM at h;split at h
  .obtain⟨bs,hb,rfl⟩:=oMd h;obtain⟨v,rfl,r1⟩:=r.one;obtain⟨a,ws,rfl,ha,rw'⟩:=r1.lst_inv;refine⟨a,bs,rfl,?_,k _ G H (.refl gh) (.bl _)⟩;rw[←Ct rw' hb];exact gh _ _ ha
  .cases h
end
structure Yd (Γ:Cn) (K:aV) (J:It) (G:Hp) (ds:ac D):Prop where
 go:∀(i:ao) d G2 H2,ds[i]?=aa d->ba G G2->ba G2 H2->J.go i H2/\∀x H3,J.yld i H2 x H3->∃G3,Step G2 H2 G3 H3/\Rep Γ K G3 x d
 stop:∀G2 H2,ba G G2->ba G2 H2->J.stop ds.length H2
inductive TDi (Γ:Cn) (K:aV) (f:FA) (σ:St) (H:Hp) (R:It->Hp->Prop):Prop where
 |mk:∀G₀ H₀ G ρ ds,At Γ K G₀ H₀ G H ρ σ->f ρ=aa ds->(∀J G' H',Step G H G' H'->Yd Γ K J G' ds->R J H')->TDi Γ K f σ H R
structure DI (Γ:Cn) (X:Cx) (tg e:Expr) (f:FA):Prop where
 out:PI X tg e (TDi Γ X.K f)
theorem PI.imp {t t':TI} (h:PI X tg e t) (i:∀σ H R,t' σ H R->t σ H R):PI X tg e t':=fun pins s σ H R I q=>h pins s σ H R I (i _ _ _ q)
variable {fi:FA} {ts:ac Expr} {gs:FGs} {fe:FE} {ρ1:bG}
section
variable {a c:Expr}
theorem L0 {a:aw} (h:G a=aa (.tup vs)) (r:Reps Γ K G vs ds):Yd Γ K (Itt K a) G ds:=by refine⟨fun i d G2 H2 hd g1 g2=>?_,fun G2 H2 g1 g2=>⟨vs,.inl (.inl (g2 _ _ (g1 _ _ h))),by rw[r.length];exact qx _⟩⟩;obtain⟨v,hv,rv⟩:=r.get hd;refine⟨⟨vs,v,.inl (.inl (g2 _ _ (g1 _ _ h))),hv⟩,fun x H3 ⟨e1,e2⟩=>?_⟩;subst e1;have:=e2 vs (.inl (.inl (g2 _ _ (g1 _ _ h))));rw[hv] at this;cases this;exact⟨G2,.refl g2,rv.mono g1⟩
theorem zC {a:aw} (h:SqL K G a vs) (r:Reps Γ K G vs ds):Yd Γ K (Ite K a) G (ds.mapIdx fun i d=>D.tup [.int i,d]):=by refine⟨fun i d G2 H2 hd g1 g2=>?_,fun G2 H2 g1 g2=>⟨vs,g2.seq (g1.seq h),by rw[rH,r.length];exact qx _⟩⟩;rw[Qt] at hd;obtain⟨d',hd',rfl⟩:=oMd hd;obtain⟨v,hv,rv⟩:=r.get hd';refine⟨⟨vs,v,g2.seq (g1.seq h),hv⟩,fun x H3 ⟨T,y,e0,hT,e1,e2⟩=>?_⟩;subst e0;have:=e2 vs (g2.seq (g1.seq h));rw[hv] at this;cases this;subst e1;have s:=Step.new (o:=.tup [.int i,v]) g2 hT;exact⟨_,s,.tup bB (.cons (.int _) (.cons ((rv.mono g1).mono s.gg) .nil))⟩
noncomputable def pB:D->au (ac D)
 |.lst l=>aa l
 |.tup l=>aa l
 |.scr l=>aa (l.map D.int)
 |_=>af
noncomputable def itF (f:FE):FA:=fun ρ=>(f ρ).bind pB
theorem LU {l:Expr} {tl:TE} (hl:PE X l tl):PI X tg l (fun σ H R=>tl σ H fun x H1=>(∃a,x=.ref a/\(∃xs,SqL X.K H1 a xs)/\R (Itl X.K a) H1)\/(∃a,x=.ref a/\(∃xs,SqT X.K H1 a xs)/\R (Itt X.K a) H1)):=by
 intro pins s σ H R I h;refine thn (hl pins s σ H _ I h) fun v s1 ⟨x,H1,I1,r1,q1⟩=>?_;rcases q1 with⟨a,e,⟨xs,hq⟩,q⟩|⟨a,e,⟨xs,hq⟩,q⟩
 .subst e;cases r1;obtain⟨its,rv,p,hz⟩:=I1.list hq;refine rG p.isList ?_;refine⟨s1.heap.objs.size,[s1.heap.objs.size],_,_,H1,rfl,I1.kept (t':=s1.toks) fun b o e=>qv _ e,L3 a _,⟨_,qH _ rfl,rfl,rfl⟩,fun b hb=>?_,q⟩;have e:b=s1.heap.objs.size:=by simpa using hb
  subst e;exact I1.fpOk (qx _) (I1.hok.fresh (qx _))
 .subst e;cases r1;obtain⟨its,rv,p,hz⟩:=I1.tuple hq;refine wpAny_pyIter_tuple (show s1.heap.IsTuple a its.toArray from p) ?_;refine⟨s1.heap.objs.size,[s1.heap.objs.size],_,_,H1,rfl,I1.kept (t':=s1.toks) fun b o e=>qv _ e,Nx a _,⟨_,qH _ rfl,rfl,rfl⟩,fun b hb=>?_,q⟩;have e:b=s1.heap.objs.size:=by simpa using hb
  subst e;exact I1.fpOk (qx _) (I1.hok.fresh (qx _))
theorem bW (h:DE Γ X iter f):DI Γ X tg iter (itF f):=⟨(LU h.1).imp fun σ H R=>by
 rintro⟨G₀,H₀,G,ρ,ds,A,h,k⟩;unfold itF at h;obtain⟨d,hd,h⟩:=oBd h;refine⟨G₀,H₀,G,ρ,d,A,hd,fun v G' H' s r=>?_⟩;unfold pB at h;split at h
 .cases h;obtain⟨a,vs,rfl,ha,rv⟩:=r.lst_inv;refine .inl ⟨a,rfl,⟨vs,.inl (.inl (s.gh _ _ ha))⟩,k _ G' H' s ?_⟩;refine⟨fun i d G2 H2 hd g1 g2=>?_,fun G2 H2 g1 g2=>⟨vs,.inl (.inl (g2 _ _ (g1 _ _ ha))),by rw[rv.length];exact qx _⟩⟩;obtain⟨v,hv,rv'⟩:=rv.get hd;refine⟨⟨vs,v,.inl (.inl (g2 _ _ (g1 _ _ ha))),hv⟩,fun x H3 ⟨e1,e2⟩=>?_⟩;subst e1;have:=e2 vs (.inl (.inl (g2 _ _ (g1 _ _ ha))));rw[hv] at this;cases this;exact⟨G2,.refl g2,rv'.mono g1⟩
 .cases h;obtain⟨a,vs,rfl,ha,rv⟩:=r.tup_inv;exact .inr ⟨a,rfl,⟨vs,.inl (.inl (s.gh _ _ ha))⟩,k _ G' H' s (L0 ha rv)⟩
 .rename_i l;cases h;obtain⟨a,rfl,ha⟩:=r.scr_inv;refine .inl ⟨a,rfl,⟨_,s.gh.seq ha⟩,k _ G' H' s ?_⟩;refine⟨fun i d G2 H2 hd g1 g2=>?_,fun G2 H2 g1 g2=>⟨_,g2.seq (g1.seq ha),by simp⟩⟩;rw[qk] at hd;obtain⟨n,hn,rfl⟩:=oMd hd;have hv:(List.map V.int l)[i]?=aa (V.int n):=by rw[qk,hn];rfl
  refine⟨⟨_,_,g2.seq (g1.seq ha),hv⟩,fun x H3 ⟨e1,e2⟩=>?_⟩;subst e1;have:=e2 _ (g2.seq (g1.seq ha));rw[hv] at this;cases this;exact⟨G2,.refl g2,.int _⟩
 .cases h⟩
noncomputable def vx:D->au (ac D)
 |.str x=>aa (x.cps.toList.map fun c=>D.str ⟨#[c]⟩)
 |_=>af
noncomputable def itS (f:FE):FA:=fun ρ=>(f ρ).bind vx
theorem NN {n:aj} {q:ff} (h:DE Γ X iter f):DI Γ X (.Name n q) iter (itS f):=⟨(J2 h.1).imp fun σ H R=>by
 rintro⟨G₀,H₀,G,ρ,ds,A,h,k⟩;unfold itS at h;obtain⟨d,hd,h⟩:=oBd h;refine⟨G₀,H₀,G,ρ,d,A,hd,fun v G' H' s r=>?_⟩;unfold vx at h;split at h<;>cases h;cases r.str_inv;rename_i x;refine⟨x,rfl,k _ G' H' s ⟨fun i d G2 H2 hd g1 g2=>?_,fun G2 H2 g1 g2=>?_⟩⟩
 .rw[qk] at hd;obtain⟨c,hc,rfl⟩:=oMd hd;have hc':x.cps[i]?=aa c:=by simpa using hc
  refine⟨(gN.mp hc').1,fun y H3 ⟨e1,c2,h2,e2⟩=>?_⟩;subst e1;subst e2;rw[hc'] at h2;cases h2;exact⟨G2,.refl g2,.str _⟩
 .show _=x.cps.size;simp⟩
noncomputable def C4:D->au (ac D)
 |.lst l=>aa (l.mapIdx fun i d=>D.tup [.int i,d])
 |.scr l=>aa ((l.map D.int).mapIdx fun i d=>D.tup [.int i,d])
 |_=>af
noncomputable def itE (f:FE):FA:=fun ρ=>(f ρ).bind C4
theorem o6 {k1:ao} (hg:Gl X "enumerate") (hm:X.mg "enumerate"=af) (h:DE Γ X a f) (hs:aR [a] X.env=[(av,eval a X.env)]:=by rfl) (hs0:aR ([a]:ac Expr) X.env=(av,eval a X.env)::aR [] X.env:=by rfl) :
  DI Γ X (.Tuple elts k1 tpos) (.Call (.Name "enumerate" p) [a] [] pos) (itE f):=⟨(Oy hg hm (kB h.1 lR hs0) hs).imp fun σ H R=>by
 rintro⟨G₀,H₀,G,ρ,ds,A,h,k⟩;unfold itE at h;obtain⟨d,hd,h⟩:=oBd h;refine⟨G₀,H₀,G,ρ,d,A,hd,fun v G' H' s r=>?_⟩;unfold C4 at h;split at h
 .cases h;obtain⟨a,vs,rfl,ha,rv⟩:=r.lst_inv;exact⟨a,rfl,⟨vs,.inl (.inl (s.gh _ _ ha))⟩,k _ G' H' s (zC (.inl (.inl ha)) rv)⟩
 .cases h;obtain⟨a,rfl,ha⟩:=r.scr_inv;exact⟨a,rfl,⟨_,s.gh.seq ha⟩,k _ G' H' s (zC ha (Reps.ints _))⟩
 .cases h⟩
theorem AE :Yd Γ K (Itr lo n) G ((cQ n).map fun i:ao=>D.int (lo+i)):=by
 refine⟨fun i d G2 H2 hd g1 g2=>?_,fun G2 H2 g1 g2=>?_⟩
 .rw[qk] at hd;obtain⟨j,hj,rfl⟩:=oMd hd;have hi:i<n:=by have:=(eB.mp hj).1;simpa using this
  have e:j=i:=by simpa[hi] using hj.symm
  subst e;refine⟨hi,fun x H3 ⟨e1,e2⟩=>?_⟩;subst e1;subst e2;exact⟨G2,.refl g2,.int _⟩
 .show n<=_;simp
noncomputable def et:ac D->au (ac D)
 |[.int j]=>if -(2 ^ 62)<=j/\j<2 ^ 62 then aa ((cQ j.toNat).map fun i:ao=>D.int (0+i)) else af
 |_=>af
noncomputable def lW:ac D->au (ac D)
 |[.int i,.int j]=>if -(2 ^ 62)<=i/\i<2 ^ 62 /\ -(2 ^ 62)<=j/\j<2 ^ 62 then aa ((cQ (j-i).toNat).map fun k:ao=>D.int (i+k)) else af
 |_=>af
noncomputable def itR (g:ac D->au (ac D)) (fr:FA):FA:=fun ρ=>(fr ρ).bind g
theorem gz (hg:Gl X "range") (hm:X.mg "range"=af) (h:DA Γ X [a] fr) (hs:aR [a] X.env=[(av,eval a X.env)]:=by rfl):DI Γ X tg (.Call (.Name "range" p) [a] [] pos) (itR et fr):=⟨(FZ hg hm h.1 hs).imp fun σ H R=>by
 rintro⟨G₀,H₀,G,ρ,ds,A,h,k⟩;unfold itR at h;obtain⟨d,hd,h⟩:=oBd h;refine⟨G₀,H₀,G,ρ,d,A,hd,fun v G' H' s r=>?_⟩;unfold et at h;split at h
 .split at h
  .rename_i hz;cases h;obtain⟨v,rfl,r1⟩:=r.one;cases r1.int_inv;exact⟨_,rfl,hz.1,hz.2,k _ G' H' s AE⟩
  .cases h
 .cases h⟩
theorem Ii (hg:Gl X "range") (hm:X.mg "range"=af) (h:DA Γ X [a,b] fr) (hs:aR [a,b] X.env=[(av,eval a X.env),(av,eval b X.env)]:=by rfl) (hs2:aR [b] X.env=[(av,eval b X.env)]:=by rfl):DI Γ X tg (.Call (.Name "range" p) [a,b] [] pos) (itR lW fr):=⟨(Gd hg hm h.1 hs hs2).imp fun σ H R=>by
 rintro⟨G₀,H₀,G,ρ,ds,A,h,k⟩;unfold itR at h;obtain⟨d,hd,h⟩:=oBd h;refine⟨G₀,H₀,G,ρ,d,A,hd,fun v G' H' s r=>?_⟩;unfold lW at h;split at h
 .split at h
  .rename_i hz;cases h;obtain⟨v,u,rfl,r1,r2⟩:=r.two;cases r1.int_inv;cases r2.int_inv;exact⟨_,_,rfl,hz,k _ G' H' s AE⟩
  .cases h
 .cases h⟩
noncomputable abbrev FG:=D->bG->au bG
noncomputable abbrev FGs:=ac D->bG->au bG
inductive TDg (Γ:Cn) (K:aV) (g:FG) (v:V) (σ:St) (H:Hp) (Q:St->Hp->Prop):Prop where
 |mk:∀G₀ H₀ G ρ d ρ',At Γ K G₀ H₀ G H ρ σ->Rep Γ K G v d->g d ρ=aa ρ'->(∀σ',At Γ K G₀ H₀ G H ρ' σ'->Q σ' H)->TDg Γ K g v σ H Q
inductive TDgs (Γ:Cn) (K:aV) (g:FGs) (vs:ac V) (σ:St) (H:Hp) (Q:St->Hp->Prop):Prop where
 |mk:∀G₀ H₀ G ρ ds ρ',At Γ K G₀ H₀ G H ρ σ->Reps Γ K G vs ds->g ds ρ=aa ρ'->(∀σ',At Γ K G₀ H₀ G H ρ' σ'->Q σ' H)->TDgs Γ K g vs σ H Q
structure DG (Γ:Cn) (X:Cx) (tg:Expr) (g:FG):Prop where
 pg:PG X tg (TDg Γ X.K g)
 no:∀d ρ ρ',g d ρ=aa ρ'->fm ρ->fm ρ'
structure DGs (Γ:Cn) (X:Cx) (ts:ac Expr) (g:FGs):Prop where
 pg:PGs X ts (TDgs Γ X.K g)
 no:∀d ρ ρ',g d ρ=aa ρ'->fm ρ->fm ρ'
theorem PG.imp {t t':TG} (h:PG X tg t) (i:∀v σ H Q,t' v σ H Q->t v σ H Q):PG X tg t':=fun pins s σ H v u Q I r q=>h pins s σ H v u Q I r (i _ _ _ _ q)
theorem PGs.imp {t t':TGs} (h:PGs X ts t) (i:∀v σ H Q,t' v σ H Q->t v σ H Q):PGs X ts t':=fun pins s σ H v u Q I r q=>h pins s σ H v u Q I r (i _ _ _ _ q)
noncomputable def aC (i:ao):FG:=fun d ρ=>aa (ρ.set i (aa (.sh d)))
theorem KO (h:fm ρ):fm (ρ.set i (aa (.sh d))):=fun j ds e=>by
 by_cases hj:j=i
 .subst hj;rw[List.getElem?_set,qX rfl] at e;split at e<;>cases e;exact⟨_,rfl⟩
 .rw[qz (dM hj)] at e;exact h j ds e
theorem aU (i:ao) (hN:X.N.Nodup) (hi:X.N[i]?=aa x:=by rfl) (hx:Loc X.env.scope x:=by first|exact cR rfl|exact ca rfl) (hf:X.fn x=ak\/X.env.scope.names.lookup x=aa .local:=by first|exact .inl rfl|exact .inr rfl|assumption):DG Γ X (.Name x pos) (aC i):=by
 refine⟨(G0 hN hi hx hf).imp fun v σ H Q=>?_,fun d ρ ρ' e h=>?_⟩
 .rintro⟨G₀,H₀,G,ρ,d,ρ',A,r,h,k⟩;cases h;exact k _ (A.setSh r)
 .cases e;exact KO h
noncomputable def cW:FGs:=fun ds ρ=>match ds with
 |[]=>aa ρ
 |_=>af
noncomputable def bj (g:FG) (gs:FGs):FGs:=fun ds ρ=>match ds with
 |d::r=>(g d ρ).bind fun ρ'=>gs r ρ'
 |_=>af
theorem fW:DGs Γ X [] cW:=by
 refine⟨ML.imp fun vs σ H Q=>?_,fun d ρ ρ' e h=>?_⟩
 .rintro⟨G₀,H₀,G,ρ,ds,ρ',A,r,h,k⟩;unfold cW at h;split at h<;>cases h;cases r;exact⟨rfl,k σ A⟩
 .unfold cW at e;split at e<;>cases e;exact h
theorem cx {g:FG} (h1:DG Γ X e g) (h2:DGs Γ X ts gs) (hs:(fR (e::ts) X.env).map (·.2)=jM e X.env::(fR ts X.env).map (·.2):=by rfl):DGs Γ X (e::ts) (bj g gs):=by
 refine⟨(MS h1.pg h2.pg hs).imp fun vs σ H Q=>?_,fun ds ρ ρ' e h=>?_⟩
 .rintro⟨G₀,H₀,G,ρ,ds,ρ',A,r,h,k⟩;unfold bj at h;split at h
  .obtain⟨ρ1,h1,h⟩:=oBd h;cases r with
   |cons r1 r2=>exact⟨_,_,rfl,G₀,H₀,G,ρ,_,ρ1,A,r1,h1,fun σ1 A1=>⟨G₀,H₀,G,ρ1,_,ρ',A1,r2,h,k⟩⟩
  .cases h
 .unfold bj at e;split at e
  .obtain⟨ρ1,e1,e⟩:=oBd e;exact h2.no _ _ _ e (h1.no _ _ _ e1 h)
  .cases e
noncomputable def db (n:ao) (gs:FGs):FG:=fun d ρ=>match d with
 |.tup ds=>if ds.length=n then gs ds ρ else af
 |_=>af
theorem gv {k:ao} (hc:X.calm=ak) (h:DGs Γ X ts gs) (hn:(fR ts X.env).length=n:=by rfl) (hst:(fR ts X.env).findIdx? (·.1)=af:=by rfl):DG Γ X (.Tuple ts k pos) (db n gs):=by
 refine⟨(O1 hc h.pg hn hst).imp fun v σ H Q=>?_,fun ds ρ ρ' e q=>?_⟩
 .rintro⟨G₀,H₀,G,ρ,d,ρ',A,r,h,k⟩;unfold db at h;split at h
  .split at h
   .rename_i hl;obtain⟨a,vs,rfl,ha,rv⟩:=r.tup_inv;exact⟨a,vs,rfl,.inl (.inl (A.gh _ _ ha)),by rw[rv.length];exact hl,G₀,H₀,G,ρ,_,ρ',A,rv,h,k⟩
   .cases h
  .cases h
 .unfold db at e;split at e
  .split at e
   .exact h.no _ _ _ e q
   .cases e
  .cases e
noncomputable def cT (g:FG) (ft:FT) (fe:FE):ac D->bG->au (ac D)
 |[],_=>aa []
 |x::xs,ρ=>(g x ρ).bind fun ρ1=>(ft ρ1).bind fun b=>if b=ak then (fe ρ1).bind fun d=>(cT g ft fe xs ρ1).map (d::·) else cT g ft fe xs ρ1
noncomputable def fC (fv:ac (au ao)) (ρ:bG):bG:=fv.map fun o=>o.bind fun j=>match ρ[j]? with
 |some (aa (.sh d))=>aa (.sh d)
 |_=>af
noncomputable def bp (fi:FA) (g:FG) (ft:FT) (fe:FE) (fv:ac (au ao)):FA:=fun ρ=>(fi ρ).bind fun xs=>if xs.length<=aN then cT g ft fe xs (fC fv ρ) else af
structure DTs (Γ:Cn) (X:Cx) (es:ac Expr) (f:FT):Prop where
 out:PTs X es (TDt Γ X.K f)
theorem PTs.imp {t t':TT} (h:PTs X es t) (i:∀σ H Q,t' σ H Q->t σ H Q):PTs X es t':=fun pins s σ H Q I q=>h pins s σ H Q I (i _ _ _ q)
noncomputable def tT:FT:=fun _=>aa ak
theorem cK:DTs Γ X [] tT:=⟨Gc.imp fun σ H Q=>by rintro⟨G₀,H₀,G,ρ,b,A,h,k⟩;cases h;exact k G H (.refl A.gh)⟩
theorem nM (h:DT Γ X c ft):DTs Γ X [c] ft:=⟨JB h.1⟩
variable {g:FG}
structure DB (Γ:Cn) (X:Cx) (N':ac aj) (scope:Scope) (tg:Expr) (ifs:ac Expr) (elt:Expr) (g:FG) (ft:FT) (fe:FE):Prop where
 out:∀(cl:ac (aj×aw)) (C:aw) (s₀:aI) (H₀:Hp) (fp:ac aw),DG Γ (iQ X N' scope cl C s₀ H₀ fp) tg g/\DTs Γ (iQ X N' scope cl C s₀ H₀ fp) ifs ft/\DE Γ (iQ X N' scope cl C s₀ H₀ fp) elt fe
theorem DB.pb (h:DB Γ X N' scope tg ifs elt g ft fe):PB X N' scope tg ifs elt (TDg Γ X.K g) (TDt Γ X.K ft) (TD Γ X.K fe):=fun cl C s₀ H₀ fp=>⟨(h.1 cl C s₀ H₀ fp).1.pg,(h.1 cl C s₀ H₀ fp).2.1.1,(h.1 cl C s₀ H₀ fp).2.2.1⟩
theorem DJ (A:At Γ K G₀ H₀ G H ρ σ):At Γ K G H G H (fC fv ρ) (ir fv σ)/\fm (fC fv ρ):=by
 have no:fm (fC fv ρ):=fun i ds e=>by
  unfold fC at e;rw[qk] at e;obtain⟨o,ho,e⟩:=oMd e;cases o with
  |none=>cases e
  |some j=>
   simp only[qb] at e;split at e<;>cases e;exact⟨_,rfl⟩
 refine⟨⟨.refl A.gh,.ofSh (by simp[fC,ir]) no fun i d e=>?_⟩,no⟩;unfold fC at e;unfold ir;rw[qk] at e ⊢;obtain⟨o,ho,e⟩:=oMd e;rw[ho];cases o with
 |none=>cases e
 |some j=>
  simp only[qb] at e;split at e
  .rename_i d' hd';cases e;obtain⟨v,h1,h2⟩:=A.env.sh j d hd';exact⟨v,by simp[h1],h2⟩
  .cases e
theorem AT {J:It} {σ1:St} {xs:ac D} {Q:VK} {acc:aw} (no:∀d ρ ρ',g d ρ=aa ρ'->fm ρ->fm ρ') (A0:At Γ X.K G1 H1 G1 H1 ρ1 σ1) (no0:fm ρ1) (Y:Yd Γ X.K J G1 xs) (hz:xs.length<=aN) (h:cT g ft fe xs ρ1=aa ds) (hacc:H1 acc=af)
  (k:∀p vs G' H',Step G1 H1 G' H'->H' p=af->Reps Γ X.K G' vs ds->Q (.ref p) (upd H' p (.lst vs))):LcW J (TDg Γ X.K g) (TDt Γ X.K ft) (TD Γ X.K fe) acc Q σ1 H1:=by
 have gacc:G1 acc=af:=A0.gh.free hacc;refine⟨fun i m ys σ' H'=>m=xs.length-i/\i<=xs.length/\ys.length<=i/\∃G' ρ' done cc,At Γ X.K G1 H1 G' H' ρ' σ'/\fm ρ'/\H' acc=aa (.lst ys)/\G' acc=af/\Reps Γ X.K G' ys done/\cT g ft fe (xs.drop i) ρ'=aa cc/\done++cc=ds,?_,?_⟩
 .refine⟨xs.length,rfl,g9 _,qx _,G1,ρ1,[],ds,?_,no0,bB,gacc,.nil,by rw[oN];exact h,rfl⟩;have sn:=Step.newOwn (o:=.lst []) A0.gh hacc;exact⟨sn,.ofSh A0.env.len no0 A0.env.sh⟩
 .rintro i m ys σ' H' ⟨hm,hi,hyi,G',ρ',done,cc,A',no',hacc',gacc',ry,hr,hd⟩;subst hm;refine⟨hacc',?_⟩;by_cases hlt:i<xs.length
  .right
   have hxi:xs[i]?=aa xs[i]:=by simp[hlt]
   obtain⟨go,yl⟩:=Y.go i _ G' H' hxi A'.st.gg A'.gh;refine⟨go,fun x H2 hy=>?_⟩;obtain⟨G2,s2,r2⟩:=yl x H2 hy;have A2:=A'.step s2;have hdr:xs.drop i=xs[i]::xs.drop (i+1):=rJ hlt;rw[hdr] at hr;unfold cT at hr;obtain⟨ρ2,h1,hr⟩:=oBd hr;obtain⟨b,h2,hr⟩:=oBd hr;refine⟨G1,H1,G2,ρ',_,ρ2,A2,r2,h1,fun σ2 A3=>⟨G1,H1,G2,ρ2,b,A3,h2,fun G4 H4 s4=>?_⟩⟩;have no1:=no _ _ _ h1 no';have hH4:H4 acc=aa (.lst ys):=s4.hh _ _ (s2.hh _ _ hacc');have hG4:G4 acc=af:=(s4.out _ _ (s2.hh _ _ hacc') rfl).trans ((s2.out _ _ hacc' rfl).trans gacc');cases b with
   |false=>
    rw[qY qu] at hr;refine kQ ⟨xs.length-(i+1),by omega,rfl,hlt,by omega,G4,ρ2,done,cc,A3.step s4,no1,hH4,hG4,(ry.mono s2.gg).mono s4.gg,hr,hd⟩
   |true=>
    rw[qX rfl] at hr;obtain⟨d,h3,hr⟩:=oBd hr;obtain⟨zs,h5,rfl⟩:=oMd hr;refine lm ⟨G1,H1,G4,ρ2,d,A3.step s4,h3,fun v G5 H5 s5 r5=>?_⟩;have A5:=(A3.step s4).step s5;have hH5:H5 acc=aa (.lst ys):=s5.hh _ _ hH4;have hG5:G5 acc=af:=(s5.out _ _ hH4 rfl).trans hG4;refine⟨hH5,by omega,xs.length-(i+1),by omega,rfl,hlt,by rw[qj,oI];omega,G5,ρ2,done++[d],zs,?_,no1,bB,hG5,((((ry.mono s2.gg).mono s4.gg).mono s5.gg).append (.cons r5 .nil)),h5,by rw[lH];exact hd⟩;refine⟨⟨fun b o e=>?_,A5.st.gg,fun b o e=>?_,A5.st.out⟩,.ofSh A5.env.len no1 A5.env.sh⟩
    .rw[aE (bK e hacc)];exact A5.st.hh b o e
    .rw[aE (bK e hG5)];exact A5.st.gh b o e
  .left
   have e:i=xs.length:=by omega
   subst e;rw[yK] at hr;cases hr;rw[gM] at hd;subst hd;refine⟨Y.stop G' H' A'.st.gg A'.gh,?_⟩;have hf:H'=upd (fun b=>if b=acc then af else H' b) acc (.lst ys):=by
    funext b
    by_cases hb:b=acc
    .subst hb;rw[bB];exact hacc'
    .rw[aE hb,qY hb]
   rw[hf];refine k acc ys G' (fun b=>if b=acc then af else H' b) ⟨fun b o e=>?_,A'.st.gg,fun b o e=>?_,A'.st.out⟩ (qX rfl) ry
   .show(if b=acc then af else H' b)=aa o;rw[qY (bK e hacc)];exact A'.st.hh b o e
   .show(if b=acc then af else H' b)=aa o;rw[qY (bK e gacc')];exact A'.st.gh b o e
theorem C8 (no:∀d ρ ρ',g d ρ=aa ρ'->fm ρ->fm ρ'):∀σ H Q,TDo Γ X.K (bp fi g ft fe fv) σ H Q->tLC (TDi Γ X.K fi) (TDg Γ X.K g) (TDt Γ X.K ft) (TD Γ X.K fe) fv σ H Q:=by
 rintro σ H Q ⟨G₀,H₀,G,ρ,ds,A,h,k⟩;unfold bp at h;obtain⟨xs,hx,h⟩:=oBd h;split at h
 case isFalse=>cases h
 rename_i hz;refine⟨G₀,H₀,G,ρ,xs,A,hx,fun J G1 H1 s1 Y acc hacc=>?_⟩;obtain⟨A0,no0⟩:=DJ (fv:=fv) (A.step s1);exact AT no A0 no0 Y hz h hacc fun p vs G' H' s2 hp r=>k p vs G' H' (s1.trans s2) hp r
theorem cP (hc:X.calm=ak) (S:CompScope X scope) (F:FvOk X N' scope fv) (hi:DI Γ X tg iter fi) (hb:DB Γ X N' scope tg ifs elt g ft fe) (hs:∀x,oA iter X.env x=bq x:=by intro _;rfl) :
  DO Γ X (.ListComp elt [⟨tg,iter,ifs,0⟩] scope pos) (bp fi g ft fe fv):=⟨(DD hc S F hi.1 hb.pb hs).imp (C8 (hb.1 [] 0 X.s₀ X.H₀ []).1.no)⟩
end
variable {g g':FS} {sts:ac Stmt} {gg:FG} {vp:ff}
section
variable {a c:Expr}
noncomputable def bA:FS:=fun ρ=>aa (.nx,ρ)
noncomputable def aB (g g':FS):FS:=fun ρ=>(g ρ).bind fun r=>match r.1 with
 |.nx=>g' r.2
 |fl=>aa (fl,r.2)
theorem bY:DSs Γ X [] bA:=⟨FC.imp fun E σ H=>by rintro⟨G₀,H₀,G,ρ,fl,ρ',A,h,k⟩;cases h;exact k σ G H (.refl _) A⟩
theorem aG (h:DS Γ X st g):DSs Γ X [st] g:=⟨Gx h.1⟩
theorem aD (h1:DS Γ X st g) (h2:DSs Γ X sts g'):DSs Γ X (st::sts) (aB g g'):=⟨(JX h1.1 h2.1).imp fun E σ H=>by
 rintro⟨G₀,H₀,G,ρ,fl,ρ',A,h,k⟩;unfold aB at h;obtain⟨⟨fl1,ρ1⟩,h1,h⟩:=oBd h;refine⟨G₀,H₀,G,ρ,fl1,ρ1,A,h1,fun σ1 G1 H1 sm A1=>?_⟩;cases fl1 with
 |nx=>exact⟨G₀,H₀,G1,ρ1,fl,ρ',A1,h,fun σ' G' H' sm' A'=>k σ' G' H' (sm.trans sm') A'⟩
 |bk=>cases h;exact k σ1 G1 H1 sm A1
 |ct=>cases h;exact k σ1 G1 H1 sm A1
 |rt d=>cases h;exact k σ1 G1 H1 sm A1
 |ow d=>cases h;exact k σ1 G1 H1 sm A1
 |nw d=>cases h;exact k σ1 G1 H1 sm A1
 |od d=>cases h;exact k σ1 G1 H1 sm A1⟩
noncomputable def aM (f:FE):FS:=fun ρ=>(f ρ).map fun d=>(.rt d,ρ)
theorem aS (h:DE Γ X e f):DS Γ X (.Return (aa e) pos) (aM f):=⟨(LY h.1).imp fun E σ H=>by rintro⟨G₀,H₀,G,ρ,fl,ρ',A,h,k⟩;unfold aM at h;obtain⟨d,hd,h⟩:=oMd h;cases h;exact⟨G₀,H₀,G,ρ,d,A,hd,fun v G' H' s r=>k σ G' H' s.gg (A.step s) v r⟩⟩
noncomputable def bo (i:ao) (f:FE):FS:=fun ρ=>(f ρ).map fun d=>(.nx,ρ.set i (aa (.sh d)))
theorem bL (i:ao) (hN:X.N.Nodup) (h:DE Γ X e f) (hi:X.N[i]?=aa x:=by rfl) (hx:Loc X.env.scope x:=by first|exact cR rfl|exact ca rfl) (hs:eG e (aa (.Name x pos')) pos.line X.env=bq av:=by rfl) (hf:X.fn x=ak\/X.env.scope.names.lookup x=aa .local:=by first|exact .inl rfl|exact .inr rfl|assumption) :
  DS Γ X (.Assign [.Name x pos'] e pos) (bo i f):=⟨(nG hN hi hx h.1 hs hf).imp fun E σ H=>by
 rintro⟨G₀,H₀,G,ρ,fl,ρ',A,h,k⟩;unfold bo at h;obtain⟨d,hd,h⟩:=oMd h;cases h;exact⟨G₀,H₀,G,ρ,d,A,hd,fun v G' H' s r=>k _ G' H' s.gg ((A.step s).setSh r)⟩⟩
noncomputable def eY (i:ao) (f:FA):FS:=fun ρ=>(f ρ).map fun d=>(.nx,ρ.set i (aa (.own d)))
theorem Mj :∀E σ H,TDs Γ X.K (eY i fr) E σ H->oW (TDo Γ X.K fr) (pA i) E σ H:=by rintro E σ H ⟨G₀,H₀,G,ρ,fl,ρ',A,h,k⟩;unfold eY at h;obtain⟨d,hd,h⟩:=oMd h;cases h;exact⟨G₀,H₀,G,ρ,d,A,hd,fun p vs G' H' s hp r=>k _ G' _ s.gg ((A.step s).setOwn hp r)⟩
theorem je (i:ao) (hN:X.N.Nodup) (h:DO Γ X e fr) (hi:X.N[i]?=aa x:=by rfl) (hx:Loc X.env.scope x:=by first|exact cR rfl|exact ca rfl) (hs:eG e (aa (.Name x pos')) pos.line X.env=bq av:=by rfl) (hf:X.fn x=ak\/X.env.scope.names.lookup x=aa .local:=by first|exact .inl rfl|exact .inr rfl|assumption) :
  DS Γ X (.Assign [.Name x pos'] e pos) (eY i fr):=⟨(nG hN hi hx h.1 hs hf).imp Mj⟩
theorem Ij :∀E σ H,TDs Γ X.K (bo i (aQ fr)) E σ H->oW (TDo Γ X.K fr) (pA i) E σ H:=by rintro E σ H ⟨G₀,H₀,G,ρ,fl,ρ',A,h,k⟩;unfold bo aQ at h;obtain⟨d,hd,h⟩:=oMd h;obtain⟨ds,hd',rfl⟩:=oMd hd;cases h;refine⟨G₀,H₀,G,ρ,ds,A,hd',fun p vs G' H' s hp r=>?_⟩;have s2:=Step.new (o:=.lst vs) s.gh hp;exact k _ _ _ (s.gg.trans s2.gg) (((A.step s).step s2).setSh (.lst bB (r.mono s2.gg)))
theorem lV (i:ao) {y:aj} (hN:X.N.Nodup) (hc:X.calm=ak) (S:CompScope X scope) (F:FvOk X N' scope fv) (hi:DI Γ X tg iter fi) (hb:DB Γ X N' scope tg ifs elt gg ft fe)
  (hy:X.N[i]?=aa y:=by rfl) (hyl:X.env.scope.names.lookup y=aa .local:=by rfl) (hsw:eG (.ListComp elt [⟨tg,iter,ifs,0⟩] scope pos) (aa (.Name y py)) spos.line X.env=bq ak:=by rfl) (hs:∀x,oA iter X.env x=bq x:=by intro _;rfl) :
  DS Γ X (.Assign [.Name y py] (.ListComp elt [⟨tg,iter,ifs,0⟩] scope pos) spos) (bo i (aQ (bp fi gg ft fe fv))):=⟨(L' hN hy hyl hc S F hi.1 hb.pb hsw hs).imp fun E σ H q=>C8 (hb.1 [] 0 X.s₀ X.H₀ []).1.no σ H _ (Ij E σ H q)⟩
noncomputable def gk (i:ao) (f:FE):FS:=fun ρ=>match ρ[i]? with
 |some (aa (.own ds))=>(f ρ).bind fun d=>if ds.length<aN then aa (.nx,ρ.set i (aa (.own (ds++[d])))) else af
 |_=>af
theorem mG (i:ao) (h:DE Γ X e f) (hN:X.N[i]?=aa x:=by rfl) (hv:Vis X.env.scope x:=by first|exact cR rfl|exact ca (cR rfl)|exact ca (ca rfl)) (hd:(x==("__debug__":aj))=av:=by decide)
  (hcd:(x==("__classdict__":aj))=av:=by decide)
  (hbase:i9 (.Name x vp) "append" X.env (eval (.Name x vp) X.env)=eval (.Name x vp) X.env:=by rfl)
  (hfew:((cj cpos (aR [e] X.env)).all (fun x=>!x.1) && (iB cpos (iC [] X.env)).all (fun x=>x.1.isSome)
   && decide ([e].length+([]:ac ja).length+(if ([]:ac ja).isEmpty then 0 else 1)<30))=ak:=by rfl)
  (hline:(apos.endLine==cpos.line)=ak:=by rfl) (hs:aR [e] X.env=(av,eval e X.env)::aR [] X.env:=by rfl) (hplain:(cj cpos (aR [] X.env)).any (·.1)=av:=by rfl)
  (hsw:eG (.Call (.Attribute (.Name x vp) "append" apos) [e] [] cpos) af pos.line X.env=bq av:=by rfl) :
  DS Γ X (.Expr (.Call (.Attribute (.Name x vp) "append" apos) [e] [] cpos) pos) (gk i f):=⟨(xF (vZ Qu P8 PySem.F.type_list_append BG (gn hN hv hd hcd) (kB h.1 lR hs) hbase hfew hline hs hplain) hsw).imp fun E σ H=>by
  rintro⟨G₀,H₀,G,ρ,fl,ρ',A,h,k⟩;unfold gk at h;split at h
  .rename_i ds hi;obtain⟨d,hd,h⟩:=oBd h;split at h
   .rename_i hz;cases h;obtain⟨a,vs,h1,h2,h3,h4,h5⟩:=A.env.own i ds hi;refine⟨.ref a,h1,.inl ⟨rfl,vs,.inl (.inl h4)⟩,G₀,H₀,G,ρ,d,A,hd,fun v G1 H1 s1 r1=>?_⟩;have A1:=A.step s1;refine⟨a,vs,v,rfl,rfl,s1.hh _ _ h4,by rw[h5.length];exact hz,?_⟩;exact k σ G1 _ s1.gg (A1.chOwn hi h1 ((h5.mono s1.gg).append (.cons r1 .nil)))
   .cases h
  .cases h⟩
noncomputable def fy (i:ao) (g:FS):FS:=fun ρ=>match ρ[i]? with
 |some (aa (.own ds))=>g (ρ.set i (aa (.sh (.lst ds))))
 |_=>af
theorem TDs.frz (i:ao):∀E σ H,TDs Γ X.K (fy i g) E σ H->TDs Γ X.K g E σ H:=by
 rintro E σ H ⟨G₀,H₀,G,ρ,fl,ρ',A,h,k⟩;unfold fy at h;split at h
 .rename_i ds hi;obtain⟨G',sm,A'⟩:=A.freeze hi;exact⟨G₀,H₀,G',_,fl,ρ',A',h,fun σ1 G1 H1 sm1 A1=>k σ1 G1 H1 (sm.trans sm1) A1⟩
 .cases h
theorem jv (i:ao) (h:DSs Γ X sts g):DSs Γ X sts (fy i g):=⟨h.1.imp (TDs.frz i)⟩
noncomputable def sIf (ft:FT) (g g':FS):FS:=fun ρ=>(ft ρ).bind fun c=>if c=ak then g ρ else g' ρ
theorem bV {sa sb:ac Stmt} (hc:DT Γ X c ft) (ha:DSs Γ X sa g) (hb:DSs Γ X sb g'):DS Γ X (.If c sa sb pos) (sIf ft g g'):=⟨(J7 hc.1 ha.1 hb.1).imp fun E σ H=>by
 rintro⟨G₀,H₀,G,ρ,fl,ρ',A,h,k⟩;unfold sIf at h;obtain⟨x,hx,h⟩:=oBd h;refine⟨G₀,H₀,G,ρ,x,A,hx,fun G1 H1 s1=>?_⟩;cases x with
 |true=>exact lm ⟨G₀,H₀,G1,ρ,fl,ρ',A.step s1,by simpa using h,fun σ2 G2 H2 sm2 A2=>k σ2 G2 H2 (s1.gg.trans sm2) A2⟩
 |false=>exact kQ ⟨G₀,H₀,G1,ρ,fl,ρ',A.step s1,by simpa using h,fun σ2 G2 H2 sm2 A2=>k σ2 G2 H2 (s1.gg.trans sm2) A2⟩⟩
noncomputable def xH (gg:FG) (f:FE):FS:=fun ρ=>(f ρ).bind fun d=>(gg d ρ).map fun ρ'=>(.nx,ρ')
theorem Hv (h:DE Γ X e f) (hg:DG Γ X tg gg) (hs:swapsWithSole [tg] e pos.line X.env=bq av:=by rfl) (hw:swappedStores [tg] e X.env=bq af:=by rfl)
  (h1:(fR [tg] X.env).map (·.2)=[jM tg X.env]:=by rfl):DS Γ X (.Assign [tg] e pos) (xH gg f):=⟨(MM h.1 hg.pg hs hw h1).imp fun E σ H=>by
 rintro⟨G₀,H₀,G,ρ,fl,ρ',A,h,k⟩;unfold xH at h;obtain⟨d,hd,h⟩:=oBd h;obtain⟨ρ1,h1,h⟩:=oMd h;cases h;exact⟨G₀,H₀,G,ρ,d,A,hd,fun v G' H' s r=>⟨G₀,H₀,G',ρ,d,ρ',A.step s,r,h1,fun σ' A'=>k σ' G' H' s.gg A'⟩⟩⟩
noncomputable def dZ (gg:FG) (body:FS):ac D->FS
 |[],ρ=>aa (.nx,ρ)
 |x::xs,ρ=>(gg x ρ).bind fun ρ1=>(body ρ1).bind fun r=>match r.1 with
  |.nx=>dZ gg body xs r.2
  |.ct=>dZ gg body xs r.2
  |.bk=>aa (.nx,r.2)
  |.rt d=>aa (.rt d,r.2)
  |.ow d=>aa (.ow d,r.2)
  |.nw d=>aa (.nw d,r.2)
  |.od d=>aa (.od d,r.2)
noncomputable def b9 (fi:FA) (gg:FG) (body:FS):FS:=fun ρ=>(fi ρ).bind fun xs=>dZ gg body xs ρ
theorem dh (hp:PassesOwn (aO X.prog X.w) X.A X.env X.xe) (hc:X.calm=ak) (hi:DI Γ X tg iter fi) (hg:DG Γ X tg gg) (hb:DSs Γ X body g) (hs:∀x,oA iter X.env x=bq x:=by intro _;rfl) :
  DS Γ X (.For tg iter body [] pos) (b9 fi gg g):=⟨(Oe hp hc hi.1 hg.pg hb.1 hs).imp fun E σ H=>by
 rintro⟨G₀,H₀,G,ρ,fl,ρ',A,h,k⟩;unfold b9 at h;obtain⟨xs,hx,h⟩:=oBd h;refine⟨G₀,H₀,G,ρ,xs,A,hx,fun J G1 H1 s1 Y=>?_⟩;refine⟨fun i m σ' H'=>m=xs.length-i/\i<=xs.length/\∃G' ρ1,ba G1 G'/\At Γ X.K G₀ H₀ G' H' ρ1 σ'/\dZ gg g (xs.drop i) ρ1=aa (fl,ρ'),⟨xs.length,rfl,g9 _,G1,ρ,.refl _,A.step s1,by rw[oN];exact h⟩,?_⟩;rintro i m σ' H' ⟨rfl,hi,G',ρ1,sm,A',hr⟩;by_cases hlt:i<xs.length
 .right
  have hxi:xs[i]?=aa xs[i]:=by simp[hlt]
  obtain⟨go,yl⟩:=Y.go i _ G' H' hxi sm A'.gh;have hdr:xs.drop i=xs[i]::xs.drop (i+1):=rJ hlt;rw[hdr] at hr;unfold dZ at hr;obtain⟨ρ2,h2,hr⟩:=oBd hr;obtain⟨⟨fl3,ρ3⟩,h3,hr⟩:=oBd hr;refine⟨go,fun σ3 H3=>(fl3=.nx\/fl3=.ct)/\∃G3,ba G1 G3/\At Γ X.K G₀ H₀ G3 H3 ρ3 σ3,fun σ3 H3 ⟨hfl,G3,sm3,A3⟩=>?_,fun x H2 hy=>?_⟩
  .refine⟨xs.length-(i+1),by omega,rfl,hlt,G3,ρ3,sm3,A3,?_⟩;rcases hfl with e|e<;>subst e<;>exact hr
  .obtain⟨G2,s2,r2⟩:=yl x H2 hy;refine⟨G₀,H₀,G2,ρ1,_,ρ2,A'.step s2,r2,h2,fun σ2 A2=>⟨G₀,H₀,G2,ρ2,fl3,ρ3,A2,h3,fun σ3 G3 H3 sm3 A3=>?_⟩⟩;have smm:ba G1 G3:=(sm.trans s2.gg).trans sm3;cases fl3 with
   |nx=>exact⟨.inl rfl,G3,smm,A3⟩
   |ct=>exact⟨.inr rfl,G3,smm,A3⟩
   |bk=>cases hr;exact k σ3 G3 H3 (s1.gg.trans smm) A3
   |rt d=>cases hr;exact k σ3 G3 H3 (s1.gg.trans smm) A3
   |ow d=>cases hr;exact k σ3 G3 H3 (s1.gg.trans smm) A3
   |nw d=>cases hr;exact k σ3 G3 H3 (s1.gg.trans smm) A3
   |od d=>cases hr;exact k σ3 G3 H3 (s1.gg.trans smm) A3
 .left
  have e:i=xs.length:=by omega
  subst e;rw[yK] at hr;cases hr;exact⟨Y.stop G' H' sm A'.gh,k σ' G' H' (s1.gg.trans sm) A'⟩⟩
end
variable {fk:FE} {F:ac D->au D}
section
variable {a c:Expr} {fw:FE}
inductive spF (Γ:Cn) (K:aV) (n:ao) (F:ac D->au D) (vs:ac V) (H:Hp) (Q:VK) (_e3:XK):Prop where
 |mk:∀G ds d,ba G H->Reps Γ K G vs ds->ds.length=n->F ds=aa d->(∀v G' H',Step G H G' H'->Rep Γ K G' v d->Q v H')->spF Γ K n F vs H Q _e3
noncomputable def aY (n:ao) (g:FS):ac D->au D:=fun ds=>(g (ds.map (fun d=>aa (Slot.sh d))++bT n af)).bind fun r=>match r.1 with
 |.rt d=>aa d
 |.nx=>aa .non
 |_=>af
theorem vU {m:ao} (gh:ba G H) (r:Reps Γ K G vs ds) (hm:m=N.length-vs.length):At Γ K G H G H (ds.map (fun d=>aa (Slot.sh d))++bT m af) (dR N vs):=by
 have no:fm (ds.map (fun d=>aa (Slot.sh d))++bT m af):=fun i es e=>by
  by_cases hi:i<ds.length
  .rw[qA (by simpa using hi),qk] at e;obtain⟨d,_,e⟩:=oMd e;cases e;exact⟨_,rfl⟩
  .rw[qL (by simpa using hi),ux] at e;split at e<;>cases e
 refine⟨.refl gh,.ofSh (by simp[dR,r.length,hm]) no fun i d e=>?_⟩;by_cases hi:i<ds.length
 .rw[qA (by simpa using hi),qk] at e;obtain⟨d',hd,e⟩:=oMd e;cases e;obtain⟨v,hv,rv⟩:=r.get hd;refine⟨v,?_,rv⟩;unfold dR;rw[qA (by rw[qf,r.length];exact hi),qk,hv];rfl
 .rw[qL (by simpa using hi),ux] at e;split at e<;>cases e
theorem Fun.okD {f:aw} {k:ao} (F:Fun K x qual st f fd) (S:FnScope N ps (aL st))
  (hbody:∀(cdv:ax) (A:dB) (outer:ac cZ) (s:aI) (H:Hp) (E:XK),Room k (A.deeper (dO qual (aL st) s.heap.objs.size f cdv))->
   DSs Γ (e7 CX0 P w K mg base N qual (aL st) f cdv A outer s H E).nox (c8 st) g):FnOk P w K mg base CX0 (k+1) f fd ps (spF Γ K ps.length (aY (N.length-ps.length) g)):=by
 refine F.ok S (fun vs H Q E h=>?_) (fun cdv A outer s H vs Q E hr h=>?_)
 .obtain⟨G,ds,d,_,r,hl,_⟩:=h;rw[r.length,hl]
 .obtain⟨G,ds,d,gh,r,hl,hd,k⟩:=h;refine⟨_,(hbody cdv A outer s H E hr).1,?_⟩;unfold aY at hd;obtain⟨⟨fl,ρ'⟩,hg,hd⟩:=oBd hd;refine⟨G,H,G,_,fl,ρ',vU gh r (by rw[r.length,hl]),hg,fun σ' G' H' sm A'=>?_⟩;cases fl with
  |rt d'=>cases hd;exact fun v rv=>k v G' H' A'.st rv
  |nx=>cases hd;exact k .non G' H' A'.st .non
  |bk=>cases hd
  |ct=>cases hd
  |ow d=>cases hd
  |nw d=>cases hd
  |od d=>cases hd
theorem NT {k:ao} {fx:aw} (Fo:FnOk X.prog X.w X.K X.mg X.base CX0 k fx fd ps (spF Γ X.K n F)) (hr:Room k X.A) (hg:Gl X x) (hm:X.mg x=aa (.ref fx)) (hk:gf X.K (.ref fx)=ak) (hb:fP X.K fd ps [])
  (ha:DA Γ X (e::es) fr) (hn:∀ρ ds,fr ρ=aa ds->ds.length=n) (hdb:(x==("__debug__":aj))=av:=by decide) (he:aR (e::es) X.env=(av,eval e X.env)::aR es X.env:=by rfl) (hpl:(cj pos (aR es X.env)).any (·.1)=av:=by rfl) :
  DE Γ X (.Call (.Name x p) (e::es) [] pos) (cF F fr):=⟨(zw Fo hr hg hm hk hb .nil kK ha.1 hdb he hpl).imp fun σ H Q=>by
 rintro⟨G₀,H₀,G,ρ,d,A,h,k⟩;unfold cF at h;obtain⟨ds,hd,h⟩:=oBd h;refine⟨G₀,H₀,G,ρ,ds,A,hd,fun vs G1 H1 s1 r1=>?_⟩;show spF Γ X.K n F (vs++[]) H1 Q E0;rw[gM];exact⟨G1,ds,d,s1.gh,r1,hn ρ ds hd,h,fun v G' H' s r=>k v G' H' (s1.trans s) r⟩⟩
theorem IT (h:ar ρ=aa ds):ds.length=0:=by cases h;rfl
theorem mK (hn:∀ρ ds,fr ρ=aa ds->ds.length=n):∀ρ ds,ag fa fr ρ=aa ds->ds.length=n+1:=fun ρ ds h=>by unfold ag at h;obtain⟨x,hx,h⟩:=oBd h;obtain⟨xs,hxs,rfl⟩:=oMd h;rw[qi,hn ρ xs hxs]
end
structure Cal (Γ:Cn) (P:eE) (w:df) (K:aV) (mg:aj->au ax) (base:Heap) (x:aj) (n k:ao) (F:ac D->au D):Prop where
 ex:∃f fd ps,FnOk P w K mg base CX0 k f fd ps (spF Γ K n F)/\mg x=aa (.ref f)/\gf K (.ref f)=ak/\fP K fd ps []
structure Dfn (K:aV) (mg:aj->au ax) (x:aj) (st:Stmt):Prop where
 ex:∃f fd,Fun K x x st f fd/\mg x=aa (.ref f)
theorem fV {k:ao} (C:Cal Γ X.prog X.w X.K X.mg X.base x n k F) (hr:Room j X.A) (hk:k<=j) (hg:Gl X x) (ha:DA Γ X (e::es) fr) (hn:∀ρ ds,fr ρ=aa ds->ds.length=n)
  (hdb:(x==("__debug__":aj))=av:=by decide) (he:aR (e::es) X.env=(av,eval e X.env)::aR es X.env:=by rfl) (hpl:(cj pos (aR es X.env)).any (·.1)=av:=by rfl) :
  DE Γ X (.Call (.Name x p) (e::es) [] pos) (cF F fr):=by
 obtain⟨f,fd,ps,h1,h2,h3,h4⟩:=C.ex;exact NT h1 (hr.mono hk) hg h2 h3 h4 ha hn hdb he hpl
theorem Dfn.cal {k:ao} (F:Dfn K mg x st) (S:FnScope N ps (aL st))
  (hb:∀(kV doc pm:ax) (an:au aw) (cdv ct:ax) (us:ac ax),us.length=ps.length->hG (eS x x (eZ st) (c8 st) (aL st) .none kV doc pm an cdv ct) ⟨us,[]⟩=bq (ps.zip us))
  (hbody:∀(f:aw) (cdv:ax) (A:dB) (outer:ac cZ) (s:aI) (H:Hp) (E:XK),Room k (A.deeper (dO x (aL st) s.heap.objs.size f cdv))->
   DSs Γ (e7 CX0 P w K mg base N x (aL st) f cdv A outer s H E).nox (c8 st) g):Cal Γ P w K mg base x ps.length (k+1) (aY (N.length-ps.length) g):=by
 obtain⟨f,fd,h1,h2⟩:=F.ex;exact⟨f,fd,ps,h1.okD S (hbody f),h2,h1.kp,h1.binds hb⟩
theorem Dfn.mk' {h:Heap} {f:aw} {kV:ax} (X:K.In h) (G:h.Ns fH mg) (a:rK K fH x=aa (aa (.ref f)))
  (l:K.lookup f=aa ⟨oc,od,.func (eS x x (eZ st) (c8 st) (aL st) .none kV doc pm an cdv ct),osl⟩) (c:m4 K cdv x=ak) (k:gf K (.ref f)=ak):Dfn K mg x st:=
 ⟨f,_,vB l c k,rL X G a⟩
noncomputable def D4 (names:ac (aj×hU)) (outer:ac (aj×hU)):aT:=
 names.all fun y=>y.2 != .cell && (y.2 != .local || names.lookup y.1==aa .local) && (y.2 != .free || outer.lookup y.1==aa .cell || outer.lookup y.1==aa .free)
theorem CompScope.of (hk:scope.kind=.function) (h:D4 scope.names X.env.scope.names=ak):CompScope X scope:=by
 unfold D4 at h;rw[iD] at h;refine⟨hk,fun y hy e=>?_,fun y hy e=>?_,fun y hy e=>?_⟩
 .have:=h y hy;rw[e] at this;simp at this
 .have:=h y hy;rw[e] at this;simpa using this
 .have:=h y hy;rw[e] at this;simpa[Env.kindOf] using this
noncomputable def zx (N':ac aj) (fv:ac (au ao)) (N:ac aj) (outer names:ac (aj×hU)):aT:=
 fv.length==N'.length && (N'.zip fv).all fun y=>match y.2 with
  |none=>ak
  |some j=>N[j]?==aa y.1 && (outer.lookup y.1==aa .cell || outer.lookup y.1==aa .free) && names.lookup y.1==aa .free
theorem FvOk.of (h:zx N' fv X.N X.env.scope.names scope.names=ak):FvOk X N' scope fv:=by
 unfold zx at h;rw[fJ,iD] at h;obtain⟨h1,h2⟩:=h;refine⟨by simpa using h1,fun i j x e1 e2=>?_⟩;have hm:(x,aa j)∈N'.zip fv:=by refine uA.mpr ⟨i,?_⟩;rw[List.getElem?_zip_eq_some];exact⟨e1,e2⟩
 have:=h2 _ hm;simp only[fJ,ET,ly] at this;exact⟨this.1.1,this.1.2,this.2⟩
mutual
def pdD:D->au PyData
 |.non=>aa .none
 |.bl b=>aa (.bool b)
 |.int i=>aa (.int i)
 |.str x=>aa (.str x)
 |.tup l=>(eL l).map Qv
 |.lst l=>(eL l).map PyData.list
 |.scr ns=>aa (.list (ns.map Qw))
 |_=>af
def eL:ac D->au (ac PyData)
 |[]=>aa []
 |d::r=>(pdD d).bind fun p=>(eL r).map (p::·)
end
theorem B9 {h:Heap}:∀{ns:ac aq} {us:ac ax},bu (ns.map V.int) us->∃as,ReadsAll h us (ns.map Qw) as
 |[],_,r=>by rw[qP] at r;cases r;exact⟨_,.nil⟩
 |n::ns,_,r=>by
  rw[qo] at r;cases r with
  |cons r1 r2=>
   obtain⟨t,e⟩:=r1;subst e;obtain⟨as,q⟩:=B9 r2;exact⟨_,.cons (.int n t) q⟩
mutual
theorem Rep.reads (I:Inv X pins σ H s) (gh:ba G H):∀{v:V} {d:D} {u:ax} {p:PyData},Rep Γ X.K G v d->bD v u->pdD d=aa p->∃as,Reads s.heap u p as
 |_,_,u,p,.non,r,h=>by cases r;rw[pdD] at h;cases h;exact⟨_,.none⟩
 |_,_,u,p,.bl b,r,h=>by cases r;rw[pdD] at h;cases h;exact⟨_,.bool b⟩
 |_,_,u,p,.int i,r,h=>by obtain⟨t,rfl⟩:=r;rw[pdD] at h;cases h;exact⟨_,.int i t⟩
 |_,_,u,p,.str x,r,h=>by obtain⟨t,rfl⟩:=r;rw[pdD] at h;cases h;exact⟨_,.str x t⟩
 |_,_,u,p,.ty n,r,h=>by rw[pdD] at h;cases h;all_goals (intros;contradiction)
 |_,_,u,p,.tup ha rs,r,h=>by
  cases r;rw[pdD] at h;obtain⟨ps,hp,rfl⟩:=oMd h;obtain⟨its,rv,⟨o,e1,e2,n,e3⟩,_⟩:=I.tuple (.inl (.inl (gh _ _ ha)));obtain⟨as,q⟩:=Reps.reads I gh rs rv hp;exact⟨_,.tuple e1 e2 e3 (by simpa using q)⟩
 |_,_,u,p,.lst ha rs,r,h=>by
  cases r;rw[pdD] at h;obtain⟨ps,hp,rfl⟩:=oMd h;obtain⟨its,rv,⟨o,n,e1,e2,_,e3⟩,_⟩:=I.list (.inl (.inl (gh _ _ ha)));obtain⟨as,q⟩:=Reps.reads I gh rs rv hp;exact⟨_,.list e1 e2 e3 (by simpa using q)⟩
 |_,_,u,p,.scr hs,r,h=>by
  cases r;rw[pdD] at h;cases h;obtain⟨its,rv,⟨o,n,e1,e2,_,e3⟩,_⟩:=I.list (gh.seq hs);obtain⟨as,q⟩:=B9 (h:=s.heap) rv;exact⟨_,.list e1 e2 e3 (by simpa using q)⟩
 |_,_,u,p,.dk ha _ _,r,h=>by rw[pdD] at h;cases h;all_goals (intros;contradiction)
 |_,_,u,p,.fdt ha _ _,r,h=>by rw[pdD] at h;cases h;all_goals (intros;contradiction)
 |_,_,u,p,.dt ha _ _,r,h=>by rw[pdD] at h;cases h;all_goals (intros;contradiction)
 |_,_,u,p,.ins ha _ _ _,r,h=>by rw[pdD] at h;cases h;all_goals (intros;contradiction)
theorem Reps.reads (I:Inv X pins σ H s) (gh:ba G H):∀{vs:ac V} {ds:ac D} {us:ac ax} {ps:ac PyData},Reps Γ X.K G vs ds->bu vs us->eL ds=aa ps->∃as,ReadsAll s.heap us ps as
 |_,_,_,_,.nil,r,h=>by cases r;rw[eL] at h;cases h;exact⟨_,.nil⟩
 |_,_,_,_,.cons r1 r2,r,h=>by
  cases r with
  |cons q1 q2=>
   rw[eL] at h;obtain⟨p,hp,h⟩:=oBd h;obtain⟨ps,hps,rfl⟩:=oMd h;obtain⟨as,a1⟩:=Rep.reads I gh r1 q1 hp;obtain⟨bs,a2⟩:=Reps.reads I gh r2 q2 hps;exact⟨_,.cons a1 a2⟩
end
section
variable {a c:Expr}
noncomputable def eqX (x y:D):au aT:=(pdD x).bind fun p=>(pdD y).bind fun q=>if fS p=ak/\fS q=ak then aa (fK p q) else af
noncomputable def mm (x y:D):au D:=(eqX x y).map D.bl
noncomputable def l5 (x y:D):au D:=(eqX x y).map fun b=>D.bl (!b)
noncomputable def rX (Γ:Cn) (K:aV) (neg:aT):R2:=fun x y H Q=>∃G d e b,ba G H/\Rep Γ K G x d/\Rep Γ K G y e/\eqX d e=aa b/\Q (.bl (if neg then !b else b)) H
theorem CC {x y:D} {b:aT} (h:eqX x y=aa b):∃p q,pdD x=aa p/\pdD y=aa q/\fS p=ak/\fS q=ak/\b=fK p q:=by
 unfold eqX at h;obtain⟨p,hp,h⟩:=oBd h;obtain⟨q,hq,h⟩:=oBd h;split at h
 .rename_i hz;cases h;exact⟨p,q,hp,hq,hz.1,hz.2,rfl⟩
 .cases h
theorem Jn (hu:X.A.units+64<cB):OpR X (dN .Eq) (rX Γ X.K av):=by intro pins s σ H x y v u Q I rx ry h;obtain⟨G,d,e,b,gh,r1,r2,hb,q⟩:=h;obtain⟨p,q',hp,hq,s1,s2,rfl⟩:=CC hb;obtain⟨as,a1⟩:=r1.reads I gh rx hp;obtain⟨bs,a2⟩:=r2.reads I gh ry hq;exact eq_dataH a1 a2 s1 s2 hu ⟨.bl _,H,I,rfl,q⟩
theorem Nv (hu:X.A.units+64<cB):OpR X (dN .NotEq) (rX Γ X.K ak):=by intro pins s σ H x y v u Q I rx ry h;obtain⟨G,d,e,b,gh,r1,r2,hb,q⟩:=h;obtain⟨p,q',hp,hq,s1,s2,rfl⟩:=CC hb;obtain⟨as,a1⟩:=r1.reads I gh rx hp;obtain⟨bs,a2⟩:=r2.reads I gh ry hq;exact ne_dataH a1 a2 s1 s2 hu ⟨.bl _,H,I,rfl,q⟩
theorem Fz (hu:X.A.units+64<cB):CmpD Γ X .Eq mm:=⟨_,Jn (Γ:=Γ) hu,fun {G H v u x y z} gh r1 r2 h Q k=>by unfold mm at h;obtain⟨b,hb,rfl⟩:=oMd h;exact⟨G,x,y,b,gh,r1,r2,hb,k _ G H (.refl gh) (.bl _)⟩⟩
theorem Oz (hu:X.A.units+64<cB):CmpD Γ X .NotEq l5:=⟨_,Nv (Γ:=Γ) hu,fun {G H v u x y z} gh r1 r2 h Q k=>by unfold l5 at h;obtain⟨b,hb,rfl⟩:=oMd h;exact⟨G,x,y,b,gh,r1,r2,hb,k _ G H (.refl gh) (.bl _)⟩⟩
noncomputable def inX (x y:D):au aT:=(pdD x).bind fun p=>(pdD y).bind fun q=>match q with
 |.list l=>if fS p=ak/\jc l=ak then aa (l.any fun z=>fK z p) else af
 |_=>af
noncomputable def fQ (x y:D):au D:=(inX x y).map D.bl
noncomputable def nA (x y:D):au D:=(inX x y).map fun b=>D.bl (!b)
noncomputable def BR (Γ:Cn) (K:aV) (neg:aT):R2:=fun x y H Q=>∃G d e b,ba G H/\Rep Γ K G x d/\Rep Γ K G y e/\inX d e=aa b/\Q (.bl (if neg then !b else b)) H
theorem zT {x y:D} {b:aT} (h:inX x y=aa b):∃p l,pdD x=aa p/\pdD y=aa (.list l)/\fS p=ak/\jc l=ak/\b=l.any fun z=>fK z p:=by
 unfold inX at h;obtain⟨p,hp,h⟩:=oBd h;obtain⟨q,hq,h⟩:=oBd h;split at h
 .split at h
  .rename_i hz;cases h;exact⟨p,_,hp,hq,hz.1,hz.2,rfl⟩
  .cases h
 .cases h
theorem DZ {p:PyData} (h:fS p=ak):p.canLay0=ak/\p.depth<=64:=by unfold fS at h;rw[fJ] at h;exact⟨h.1,fL h.2⟩
theorem Li (hu:X.A.units+66<cB):OpR X (dN .In) (BR Γ X.K av):=by intro pins s σ H x y v u Q I rx ry h;obtain⟨G,d,e,b,gh,r1,r2,hb,q⟩:=h;obtain⟨p,l,hp,hq,s1,s2,rfl⟩:=zT hb;obtain⟨as,a1⟩:=r1.reads I gh rx hp;obtain⟨bs,a2⟩:=r2.reads I gh ry hq;obtain⟨c1,c2⟩:=DZ s1;have:=Ex (lK l) p.depth;exact SeqAt.in_list_reads a2 a1 s2 c1 .(c) ⟨.bl _,H,I,rfl,q⟩
theorem MG (hu:X.A.units+66<cB):OpR X (dN .NotIn) (BR Γ X.K ak):=by intro pins s σ H x y v u Q I rx ry h;obtain⟨G,d,e,b,gh,r1,r2,hb,q⟩:=h;obtain⟨p,l,hp,hq,s1,s2,rfl⟩:=zT hb;obtain⟨as,a1⟩:=r1.reads I gh rx hp;obtain⟨bs,a2⟩:=r2.reads I gh ry hq;obtain⟨c1,c2⟩:=DZ s1;have:=Ex (lK l) p.depth;exact SeqAt.notIn_list_reads a2 a1 s2 c1 .(c) ⟨.bl _,H,I,rfl,q⟩
theorem nQ (hu:X.A.units+66<cB):CmpD Γ X .In fQ:=⟨_,Li (Γ:=Γ) hu,fun {G H v u x y z} gh r1 r2 h Q k=>by unfold fQ at h;obtain⟨b,hb,rfl⟩:=oMd h;exact⟨G,x,y,b,gh,r1,r2,hb,k _ G H (.refl gh) (.bl _)⟩⟩
theorem Ke (hu:X.A.units+66<cB):CmpD Γ X .NotIn nA:=⟨_,MG (Γ:=Γ) hu,fun {G H v u x y z} gh r1 r2 h Q k=>by unfold nA at h;obtain⟨b,hb,rfl⟩:=oMd h;exact⟨G,x,y,b,gh,r1,r2,hb,k _ G H (.refl gh) (.bl _)⟩⟩
theorem bH {k:ao} (hr:Room k X.A):X.A.units+66<cB:=by have:=hr.un;omega
theorem fu {k:ao} (hr:Room k X.A):X.A.units+64<cB:=by have:=hr.un;omega
noncomputable def sX (d:D):aT:=match d with
 |.non=>ak
 |_=>av
noncomputable def isD (x y:D):au D:=match y with
 |.non=>aa (.bl (sX x))
 |_=>af
noncomputable def mL (x y:D):au D:=match y with
 |.non=>aa (.bl (!sX x))
 |_=>af
theorem Bg (r:Rep Γ K G v d):decide (v=.non)=sX d:=by cases r<;>simp[sX]
theorem tR:CmpD Γ X .Is isD:=⟨_,Lh,fun {G H v u x y z} gh r1 r2 h Q k=>by unfold isD at h;split at h<;>cases h;exact⟨r2.non_inv,by rw[Bg r1];exact k _ G H (.refl gh) (.bl _)⟩⟩
theorem uf:CmpD Γ X .IsNot mL:=⟨_,NA,fun {G H v u x y z} gh r1 r2 h Q k=>by unfold mL at h;split at h<;>cases h;exact⟨r2.non_inv,by rw[Bg r1];exact k _ G H (.refl gh) (.bl _)⟩⟩
end
variable {fx:FE}
section
variable {a c o i:Expr}
noncomputable def bwT (i:ao) (ft:FT):FT:=fun ρ=>match ρ[i]? with
 |some (aa (.own ds))=>ft (ρ.set i (aa (.sh (.lst ds))))
 |_=>af
theorem Step.back (gh:ba G H) (s1:ba G G1) (s:Step G1 H G' H'):Step G H G H':=⟨s.hh,.refl _,(s1.trans s.gg).trans s.gh,fun _ _ _ _=>rfl⟩
theorem MI (i:ao) (h:DT Γ X c ft):DT Γ X c (bwT i ft):=⟨h.1.imp fun σ H Q=>by
 rintro⟨G₀,H₀,G,ρ,b,A,h,k⟩;unfold bwT at h;split at h
 .rename_i ds hi;obtain⟨G1,sm,A1⟩:=A.freeze hi;exact⟨G₀,H₀,G1,_,b,A1,h,fun G' H' s=>k G H' (s.back A.gh sm)⟩
 .cases h⟩
theorem Rep.flat (r:Rep Γ K G v d) (h:fX d=ak):Rep Γ K G' v d:=by
 cases r with
 |non=>exact .non
 |bl b=>exact .bl b
 |int i=>exact .int i
 |str x=>exact .str x
 |_=>cases h
noncomputable def ie (i:ao) (f:FE):FS:=fun ρ=>match ρ[i]? with
 |some (aa (.own ds))=>(f ρ).bind fun d=>match d with
  |.lst l=>if ds.length+l.length<=aN then aa (.nx,ρ.set i (aa (.own (ds++l)))) else af
  |_=>af
 |_=>af
theorem vF (i:ao) (h:DE Γ X e f) (hN:X.N[i]?=aa x:=by rfl) (hv:Vis X.env.scope x:=by first|exact cR rfl|exact ca (cR rfl)|exact ca (ca rfl)) (hd:(x==("__debug__":aj))=av:=by decide)
  (hcd:(x==("__classdict__":aj))=av:=by decide)
  (hbase:i9 (.Name x vp) "extend" X.env (eval (.Name x vp) X.env)=eval (.Name x vp) X.env:=by rfl)
  (hfew:((cj cpos (aR [e] X.env)).all (fun x=>!x.1) && (iB cpos (iC [] X.env)).all (fun x=>x.1.isSome)
   && decide ([e].length+([]:ac ja).length+(if ([]:ac ja).isEmpty then 0 else 1)<30))=ak:=by rfl)
  (hline:(apos.endLine==cpos.line)=ak:=by rfl) (hs:aR [e] X.env=(av,eval e X.env)::aR [] X.env:=by rfl) (hplain:(cj cpos (aR [] X.env)).any (·.1)=av:=by rfl)
  (hsw:eG (.Call (.Attribute (.Name x vp) "extend" apos) [e] [] cpos) af pos.line X.env=bq av:=by rfl) :
  DS Γ X (.Expr (.Call (.Attribute (.Name x vp) "extend" apos) [e] [] cpos) pos) (ie i f):=⟨(xF (vZ Qu P' PySem.F.type_list_extend LM (gn hN hv hd hcd) (kB h.1 lR hs) hbase hfew hline hs hplain) hsw).imp fun E σ H=>by
  rintro⟨G₀,H₀,G,ρ,fl,ρ',A,h,k⟩;unfold ie at h;split at h
  .rename_i ds hi;obtain⟨d,hd,h⟩:=oBd h;split at h
   .rename_i l;split at h
    .rename_i hz;cases h;obtain⟨a,vs,h1,h2,h3,h4,h5⟩:=A.env.own i ds hi;refine⟨.ref a,h1,.inl ⟨rfl,vs,.inl (.inl h4)⟩,G₀,H₀,G,ρ,_,A,hd,fun v G1 H1 s1 r1=>?_⟩;have A1:=A.step s1;obtain⟨b,us,rfl,hb,rb⟩:=r1.lst_inv;refine⟨a,b,vs,us,rfl,rfl,s1.hh _ _ h4,s1.gh _ _ hb,by rw[h5.length,rb.length];exact hz,?_⟩;exact k σ G1 _ s1.gg (A1.chOwn hi h1 ((h5.mono s1.gg).append rb))
    .cases h
   .cases h
  .cases h⟩
noncomputable def RH:ac D->au D
 |[.int i]=>aa (.int i)
 |[.bl k]=>aa (.int (if k then 1 else 0))
 |_=>af
noncomputable def wx:ac D->au D
 |[.lst l]=>aa (.tup l)
 |[.tup l]=>aa (.tup l)
 |_=>af
theorem FN:TyD Γ X "tuple" wx:=⟨_,GX,fun {G H vs ds z} gh r h Q k=>by
 unfold wx at h;split at h<;>cases h
 .obtain⟨v,rfl,r1⟩:=r.one;obtain⟨a,us,rfl,ha,ra⟩:=r1.lst_inv;exact⟨a,us,rfl,.inl ⟨.inl (.inl (gh _ _ ha)),tm gh ra k⟩⟩
 .obtain⟨v,rfl,r1⟩:=r.one;obtain⟨a,us,rfl,ha,ra⟩:=r1.tup_inv;exact⟨a,us,rfl,.inr ⟨.inl (.inl (gh _ _ ha)),k _ G H (.refl gh) (.tup ha ra)⟩⟩⟩
noncomputable def bw [eN κ] (kvs:ac (κ×α)) (k:κ):au α:=(kvs.find? fun kv=>decide (kv.1=k)).map (·.2)
noncomputable def cJ [eN κ] (kvs:ac (κ×α)) (k:κ) (v:α):ac (κ×α):=
 if (kvs.any fun kv=>decide (kv.1=k))=ak then kvs.map (fun kv=>if kv.1=k then (kv.1,v) else kv) else kvs++[(k,v)]
theorem tz {κ:Type} [eN κ] {K:aV} {G:Hp} {k:κ}:∀{us:ac (κ×V)} {kvs:ac (κ×D)},us.map (·.1)=kvs.map (·.1)->Reps Γ K G (us.map (·.2)) (kvs.map (·.2))->
  (bw kvs k=af/\gE us k=af)\/∃d v,bw kvs k=aa d/\gE us k=aa v/\Rep Γ K G v d
 |[],[],_,_=>.inl ⟨rfl,rfl⟩
 |[],_::_,e,_=>by cases e
 |_::_,[],e,_=>by cases e
 |(k1,v)::us,(k2,d)::kvs,e,r=>by
  have e1:k1=k2:=(eU e).1;have e2:us.map (·.1)=kvs.map (·.1):=(eU e).2;subst e1;have r:Reps Γ K G (v::us.map (·.2)) (d::kvs.map (·.2)):=r;cases r with
  |cons r1 r2=>
   by_cases h:k1=k
   .exact .inr ⟨d,v,by simp[bw,fg,h],t9 h,r1⟩
   .have:=tz (k:=k) e2 r2;rw[rV (p:=(k1,v)) h];simpa[bw,fg,h] using this
theorem A6 {κ:Type} [eN κ] {k:κ} {α β:Type}:∀{us:ac (κ×α)} {kvs:ac (κ×β)},us.map (·.1)=kvs.map (·.1)->(us.any fun kv=>decide (kv.1=k))=(kvs.any fun kv=>decide (kv.1=k))
 |[],[],_=>rfl
 |[],_::_,e=>by cases e
 |_::_,[],e=>by cases e
 |(k1,v)::us,(k2,d)::kvs,e=>by have e1:k1=k2:=(eU e).1;subst e1;rw[jP,jP,A6 (us:=us) (kvs:=kvs) (eU e).2]
theorem zp {κ:Type} [eN κ] {K:aV} {G:Hp} {k:κ} {v:V} {d:D} (rv:Rep Γ K G v d):∀{us:ac (κ×V)} {kvs:ac (κ×D)},us.map (·.1)=kvs.map (·.1)->Reps Γ K G (us.map (·.2)) (kvs.map (·.2))->
  (us.map fun kv=>if kv.1=k then (kv.1,v) else kv).map (·.1)=(kvs.map fun kv=>if kv.1=k then (kv.1,d) else kv).map (·.1)/\Reps Γ K G ((us.map fun kv=>if kv.1=k then (kv.1,v) else kv).map (·.2)) ((kvs.map fun kv=>if kv.1=k then (kv.1,d) else kv).map (·.2))
 |[],[],_,_=>⟨rfl,.nil⟩
 |[],_::_,e,_=>by cases e
 |_::_,[],e,_=>by cases e
 |(k1,u)::us,(k2,x)::kvs,e,r=>by
  have e1:k1=k2:=(eU e).1;have e2:us.map (·.1)=kvs.map (·.1):=(eU e).2;subst e1;have r:Reps Γ K G (u::us.map (·.2)) (x::kvs.map (·.2)):=r;cases r with
  |cons r1 r2=>
   obtain⟨h1,h2⟩:=zp (k:=k) rv e2 r2;by_cases h:k1=k
   .subst h;simp only[qo,c7];exact⟨by rw[h1],.cons rv h2⟩
   .simp only[qo,qY h];exact⟨by rw[h1],.cons r1 h2⟩
theorem nS [eN κ] {k:κ} (rv:Rep Γ K G v d) {us:ac (κ×V)} {kvs:ac (κ×D)} (e:us.map (·.1)=kvs.map (·.1)) (r:Reps Γ K G (us.map (·.2)) (kvs.map (·.2))) :
  (putK us k v).map (·.1)=(cJ kvs k d).map (·.1)/\Reps Γ K G ((putK us k v).map (·.2)) ((cJ kvs k d).map (·.2)):=by
 unfold putK cJ;rw[A6 (k:=k) e];split
 .exact zp rv e r
 .simp only[eO,qo,qP];exact⟨by rw[e],r.append (.cons rv .nil)⟩
noncomputable def io:D->au Key
 |.int i=>aa (.inl i)
 |.str x=>aa (.inr x)
 |_=>af
noncomputable def eM:ac D->au (ac Key)
 |[]=>aa []
 |d::r=>(io d).bind fun k=>(eM r).map (k::·)
theorem ny {k:Key} (r:Rep Γ K G v d) (h:io d=aa k):v=kV k:=by
 unfold io at h;split at h<;>cases h
 .exact r.int_inv
 .exact r.str_inv
theorem km {K:aV} {G:Hp}:∀{vs:ac V} {ds:ac D} {ks:ac Key},Reps Γ K G vs ds->eM ds=aa ks->vs=ks.map kV
 |_,[],ks,r,h=>by cases r;cases h;rfl
 |_,d::ds,ks,.cons h1 h2,h=>by unfold eM at h;obtain⟨k,hk,h⟩:=oBd h;obtain⟨zs,hz,rfl⟩:=oMd h;rw[ny h1 hk,km h2 hz];rfl
noncomputable def jq (d k:D):au (au D):=match d,k with
 |.dk l,k=>(io k).map (bw l)
 |.dt l,.tup t=>(eM t).map (bw l)
 |.fdt l,.tup t=>(eM t).map (bw l)
 |_,_=>af
theorem CV {k:D} {r:au D} (gh:ba G H) (rv:Rep Γ K G v d) (h:jq d k=aa r):∃a,v=.ref a/\IsD H a:=by
 unfold jq at h;split at h
 .cases rv with
  |dk h _ _=>exact⟨_,rfl,.inl ⟨_,.inl (gh _ _ h)⟩⟩
 .cases rv with
  |dt h _ _=>exact⟨_,rfl,.inr ⟨_,.inl (gh _ _ h)⟩⟩
 .cases rv with
  |fdt h _ _=>exact⟨_,rfl,.inr ⟨_,.inr ⟨_,gh _ _ h⟩⟩⟩
 .cases h
theorem pj {k:D} {r:au D} (gh:ba G H) (rv:Rep Γ K G v d) (ry:Rep Γ K G y k) (h:jq d k=aa r) :
  ∃a o,v=.ref a/\gc H a y o/\((r=af/\o=af)\/∃w z,r=aa z/\o=aa w/\Rep Γ K G w z):=by
 unfold jq at h;split at h
 .obtain⟨kk,hk,rfl⟩:=oMd h;cases rv with
  |dk h1 h2 h3=>
   have ey:=ny ry hk;subst ey;refine⟨_,_,rfl,gc.k (gh _ _ h1),?_⟩;rcases tz (k:=kk) h2 h3 with⟨q1,q2⟩|⟨z,w,q1,q2,q3⟩
   .exact .inl ⟨q1,q2⟩
   .exact .inr ⟨w,z,q1,q2,q3⟩
 .obtain⟨kk,hk,rfl⟩:=oMd h;cases rv with
  |dt h1 h2 h3=>
   obtain⟨b,ys,rfl,hb,rb⟩:=ry.tup_inv;have ey:=km rb hk;subst ey;refine⟨_,_,rfl,gc.t (gh _ _ h1) (gh _ _ hb),?_⟩;rcases tz (k:=kk) h2 h3 with⟨q1,q2⟩|⟨z,w,q1,q2,q3⟩
   .exact .inl ⟨q1,q2⟩
   .exact .inr ⟨w,z,q1,q2,q3⟩
 .obtain⟨kk,hk,rfl⟩:=oMd h;cases rv with
  |fdt h1 h2 h3=>
   obtain⟨b,ys,rfl,hb,rb⟩:=ry.tup_inv;have ey:=km rb hk;subst ey;refine⟨_,_,rfl,.inr ⟨_,kk,_,.inr ⟨_,gh _ _ h1⟩,rfl,gh _ _ hb,rfl⟩,?_⟩;rcases tz (k:=kk) h2 h3 with⟨q1,q2⟩|⟨z,w,q1,q2,q3⟩
   .exact .inl ⟨q1,q2⟩
   .exact .inr ⟨w,z,q1,q2,q3⟩
 .cases h
noncomputable def cO (d k:D):au D:=(jq d k).bind id
theorem eC (hu:X.A.units+66<cB) (ho:DE Γ X o fo) (hi:DE Γ X i fi') (hs:uW i:=by intro _ _;rfl):DE Γ X (.Subscript o i pos) (b2 cO fo fi'):=⟨(Nd .(c) ho.1 hi.1 hs).imp fun σ H Q=>by
 rintro⟨G₀,H₀,G,ρ,d,A,h,k⟩;unfold b2 at h;obtain⟨x,hx,h⟩:=oBd h;obtain⟨y,hy,h⟩:=oBd h;refine⟨G₀,H₀,G,ρ,x,A,hx,fun v G1 H1 s1 r1=>⟨G₀,H₀,G1,ρ,y,A.step s1,hy,fun u G2 H2 s2 r2=>?_⟩⟩;unfold cO at h;obtain⟨r,hr,h⟩:=oBd h;obtain⟨a,ov,rfl,hg,hc⟩:=pj s2.gh (r1.mono s2.gg) r2 hr;rcases hc with⟨rfl,_⟩|⟨w,z,rfl,rfl,rw'⟩
 .cases h
 .cases h;exact⟨a,w,rfl,hg,k w G2 H2 (s1.trans s2) rw'⟩⟩
noncomputable def v6 (d k:D):au D:=(jq d k).map fun r=>r.getD .non
theorem MV (hu:X.A.units+66<cB) (ho:DE Γ X o fo) (he:DE Γ X e f) (m:M1 X o "get" apos e cpos:=by exact⟨rfl,rfl,rfl,rfl⟩):DE Γ X (.Call (.Attribute o "get" apos) [e] [] cpos) (b2 v6 fo f):=⟨(Nl .(c) ho.1 he.1 m).imp fun σ H Q=>by
 rintro⟨G₀,H₀,G,ρ,d,A,h,k⟩;unfold b2 at h;obtain⟨x,hx,h⟩:=oBd h;obtain⟨y,hy,h⟩:=oBd h;unfold v6 at h;obtain⟨r,hr,rfl⟩:=oMd h;refine⟨G₀,H₀,G,ρ,x,A,hx,fun v G1 H1 s1 r1=>?_⟩;obtain⟨a0,e0,d0⟩:=CV s1.gh r1 hr;refine⟨a0,e0,d0,G₀,H₀,G1,ρ,y,A.step s1,hy,fun u G2 H2 s2 r2=>?_⟩;obtain⟨a,ov,e1,hg,hc⟩:=pj s2.gh (r1.mono s2.gg) r2 hr;subst e0;cases e1;rcases hc with⟨rfl,rfl⟩|⟨w,z,rfl,rfl,rw'⟩
 .exact⟨af,hg,k _ G2 H2 (s1.trans s2) .non⟩
 .exact⟨aa w,hg,k w G2 H2 (s1.trans s2) rw'⟩⟩
noncomputable def ko (d k x:D):au D:=(jq d k).map fun r=>r.getD x
noncomputable def b3 (g:D->D->D->au D) (fa fb fc:FE):FE:=fun ρ=>(fa ρ).bind fun x=>(fb ρ).bind fun y=>(fc ρ).bind fun z=>g x y z
theorem rZ (hu:X.A.units+66<cB) (ho:DE Γ X o fo) (he:DE Γ X e f) (hf:DE Γ X c fc) (m:M2 X o "get" apos e c cpos:=by exact⟨rfl,rfl,rfl,rfl⟩):DE Γ X (.Call (.Attribute o "get" apos) [e,c] [] cpos) (b3 ko fo f fc):=⟨(Kx .(c) ho.1 he.1 hf.1 m).imp fun σ H Q=>by
 rintro⟨G₀,H₀,G,ρ,d,A,h,k⟩;unfold b3 at h;obtain⟨x,hx,h⟩:=oBd h;obtain⟨y,hy,h⟩:=oBd h;obtain⟨z,hz,h⟩:=oBd h;unfold ko at h;obtain⟨r,hr,rfl⟩:=oMd h;refine⟨G₀,H₀,G,ρ,x,A,hx,fun v G1 H1 s1 r1=>?_⟩;obtain⟨a0,e0,d0⟩:=CV s1.gh r1 hr;refine⟨a0,e0,d0,G₀,H₀,G1,ρ,y,A.step s1,hy,fun u G2 H2 s2 r2=>⟨G₀,H₀,G2,ρ,z,(A.step s1).step s2,hz,fun w3 G3 H3 s3 r3=>?_⟩⟩;obtain⟨a,ov,e1,hg,hc⟩:=pj s3.gh (r1.mono (s2.gg.trans s3.gg)) (r2.mono s3.gg) hr;subst e0;cases e1;rcases hc with⟨rfl,rfl⟩|⟨w,z,rfl,rfl,rw'⟩
 .exact⟨af,hg,k _ G3 H3 ((s1.trans s2).trans s3) r3⟩
 .exact⟨aa w,hg,k w G3 H3 ((s1.trans s2).trans s3) rw'⟩⟩
noncomputable def jD (k d:D):au D:=(jq d k).map fun r=>.bl r.isSome
noncomputable def vy (k d:D):au D:=(jq d k).map fun r=>.bl (!r.isSome)
noncomputable def An (Γ:Cn) (K:aV) (neg:aT):R2:=fun y x H Q=>∃G k d r,ba G H/\Rep Γ K G y k/\Rep Γ K G x d/\jq d k=aa r/\Q (.bl (if neg then !r.isSome else r.isSome)) H
theorem Kj (hu:X.A.units+66<cB):OpR X (dN .In) (An Γ X.K av):=by
 intro pins s σ H x y v u Q I rx ry h;obtain⟨G,kd,d,r,gh,r1,r2,hr,q⟩:=h;obtain⟨a,ov,rfl,hg,hc⟩:=pj gh r2 r1 hr;cases ry;have e:ov.isSome=r.isSome:=by rcases hc with⟨rfl,rfl⟩|⟨w,z,rfl,rfl,_⟩<;>rfl
 exact Io .(c) I hg rx fun s3 I3=>⟨.bl _,H,I3,rfl,by rw[e];exact q⟩
theorem Ia (hu:X.A.units+66<cB):OpR X (dN .NotIn) (An Γ X.K ak):=by
 intro pins s σ H x y v u Q I rx ry h;obtain⟨G,kd,d,r,gh,r1,r2,hr,q⟩:=h;obtain⟨a,ov,rfl,hg,hc⟩:=pj gh r2 r1 hr;cases ry;have e:ov.isSome=r.isSome:=by rcases hc with⟨rfl,rfl⟩|⟨w,z,rfl,rfl,_⟩<;>rfl
 exact MQ .(c) I hg rx fun s3 I3=>⟨.bl _,H,I3,rfl,by rw[e];exact q⟩
theorem tK (hu:X.A.units+66<cB):CmpD Γ X .In jD:=⟨_,Kj (Γ:=Γ) hu,fun {G H v u x y z} gh r1 r2 h Q k=>by unfold jD at h;obtain⟨r,hr,rfl⟩:=oMd h;exact⟨G,x,y,r,gh,r1,r2,hr,k _ G H (.refl gh) (.bl _)⟩⟩
theorem LI (hu:X.A.units+66<cB):CmpD Γ X .NotIn vy:=⟨_,Ia (Γ:=Γ) hu,fun {G H v u x y z} gh r1 r2 h Q k=>by unfold vy at h;obtain⟨r,hr,rfl⟩:=oMd h;exact⟨G,x,y,r,gh,r1,r2,hr,k _ G H (.refl gh) (.bl _)⟩⟩
noncomputable def sNo:FS:=fun _=>af
theorem IE :DS Γ X st sNo:=⟨fun pins s σ H E I q=>by obtain⟨G₀,H₀,G,ρ,fl,ρ',A,h,k⟩:=q;cases h⟩
end
structure CF (Γ:Cn) (K:aV) (c:aj) (attrs:ac aj):Prop where
 ex:∃C,Γ.cls c=aa C/\Cls K C/\∀f∈attrs,kF K C f
variable {cl:aj} {attrs:ac aj} {dp ap:ff} {ke:Expr}
section
variable {a c o i:Expr} {fv:FE} {fl n:aj}
theorem kc {K:aV} {G:Hp} {k:aj}:∀{us:ac (aj×V)} {fs:ac (aj×D)},us.map (·.1)=fs.map (·.1)->Reps Γ K G (us.map (·.2)) (fs.map (·.2))->
  (fs.lookup k=af/\us.lookup k=af)\/∃d v,fs.lookup k=aa d/\us.lookup k=aa v/\Rep Γ K G v d
 |[],[],_,_=>.inl ⟨rfl,rfl⟩
 |[],_::_,e,_=>by cases e
 |_::_,[],e,_=>by cases e
 |(k1,v)::us,(k2,d)::fs,e,r=>by
  have e1:k1=k2:=(eU e).1;have e2:us.map (·.1)=fs.map (·.1):=(eU e).2;subst e1;have r:Reps Γ K G (v::us.map (·.2)) (d::fs.map (·.2)):=r;cases r with
  |cons r1 r2=>
   by_cases h:k=k1
   .subst h;exact .inr ⟨d,v,by simp[dj],by simp[dj],r1⟩
   .have hb:(k==k1)=av:=by simpa using h
    have:=kc (k:=k) e2 r2;simpa[dj,hb] using this
theorem nT {f:aj} {v:V}:∀{fs:ac (aj×V)},fs.lookup f=af->fB f v fs=fs++[(f,v)]
 |[],_=>rfl
 |(g,x)::r,h=>by
  by_cases e:f=g
  .subst e;simp[dj] at h
  .have hb:(f==g)=av:=by simpa using e
   rw[fB,qY (fun z=>e z.symm),nT (by simpa[dj,hb] using h)];rfl
noncomputable def DH (c f:aj):D->au D
 |.ins c' fs=>if c'=c then fs.lookup f else af
 |_=>af
noncomputable def bM (c f:aj) (fo:FE):FE:=fun ρ=>(fo ρ).bind (DH c f)
theorem cM (hc:CF Γ X.K cl attrs) (hf:fl∈attrs) (ho:DE Γ X o fo) (hb:i9 o fl X.env (eval o X.env)=eval o X.env:=by rfl):DE Γ X (.Attribute o fl pos) (bM cl fl fo):=⟨(tF ho.1 hb).imp fun σ H Q=>by
 rintro⟨G₀,H₀,G,ρ,d,A,h,k⟩;unfold bM at h;obtain⟨x,hx,hq⟩:=oBd h;clear h;refine⟨G₀,H₀,G,ρ,x,A,hx,fun v G1 H1 s1 r1=>?_⟩;unfold DH at hq;split at hq
 .split at hq
  .rename_i ec;subst ec;obtain⟨C,q1,q2,q3⟩:=hc.ex;cases r1 with
   |ins h1 h2 h3 h4=>
    rw[q1] at h2;cases h2;rcases kc (k:=fl) h3 h4 with⟨z1,_⟩|⟨d',v',z1,z2,z3⟩
    .rw[z1] at hq;cases hq
    .rw[z1] at hq;cases hq;exact⟨_,C,_,_,v',rfl,s1.gh _ _ h1,q2,q3 fl hf,z2,k v' G1 H1 s1 z3⟩
  .cases hq
 .cases hq⟩
noncomputable def A8 (f:aj):Slot->au D
 |.obj _ fs=>fs.lookup f
 |.objd _ fs n _=>if f=n then af else fs.lookup f
 |_=>af
noncomputable def Kv:Slot->au aj
 |.obj c _=>aa c
 |.objd c _ _ _=>aa c
 |_=>af
noncomputable def jE (c f:aj) (i:ao):FE:=fun ρ=>match ρ[i]? with
 |some (aa s)=>if Kv s=aa c then A8 f s else af
 |_=>af
theorem J' {vs:ac (aj×V)} {f:aj} {w:V} (h:vs.lookup f=aa v):(vs++[(n,w)]).lookup f=aa v:=by
 induction vs with
 |nil=>cases h
 |cons p r ih=>
  obtain⟨g,x⟩:=p;by_cases e:f=g
  .subst e;simpa[dj] using h
  .have hb:(f==g)=av:=by simpa using e
   simp only[qr,dj,hb] at h ⊢;exact ih h
theorem tf (i:ao) (hc:CF Γ X.K cl attrs) (hf:fl∈attrs) (hN:X.N[i]?=aa x:=by rfl) (hv:Vis X.env.scope x:=by first|exact cR rfl|exact ca (cR rfl)|exact ca (ca rfl)) (hd:(x==("__debug__":aj))=av:=by decide)
  (hcd:(x==("__classdict__":aj))=av:=by decide) (hb:i9 (.Name x vp) fl X.env (eval (.Name x vp) X.env)=eval (.Name x vp) X.env:=by rfl):DE Γ X (.Attribute (.Name x vp) fl pos) (jE cl fl i):=⟨(tF (gn hN hv hd hcd) hb).imp fun σ H Q=>by
 rintro⟨G₀,H₀,G,ρ,d,A,h,k⟩;unfold jE at h;split at h
 .rename_i s hi;split at h
  .rename_i hcl;obtain⟨C,q1,q2,q3⟩:=hc.ex;obtain⟨v,fp,h1,h2⟩:=A.get hi;cases h2 with
   |sh _=>cases h
   |own _ _ _ _=>cases h
   |odk _ _ _ _ _=>cases h
   |odt _ _ _ _ _=>cases h
   |tlo _ _ _ _ _ _=>cases h
   |oll _ _ _ _ _=>cases h
   |fo _ _ _ _ _ _ _=>cases h
   |pin _=>cases h
   |obj g1 g2 g3 g4 g5 g6 g7=>
    cases hcl;rw[q1] at g1;cases g1;have h:dj fl _=aa d:=h;rcases kc (k:=fl) g5 g6 with⟨z1,_⟩|⟨d',v',z1,z2,z3⟩
    .rw[z1] at h;cases h
    .rw[z1] at h;cases h;exact⟨_,h1,_,C,_,_,v',rfl,g4,q2,q3 fl hf,z2,k v' G H (.refl A.gh) z3⟩
   |objd g1 g2 g3 g4 g5 g6 _ _ _ _ _ g7=>
    cases hcl;rw[q1] at g1;cases g1;unfold A8 at h;simp only at h;split at h
    .cases h
    .rcases kc (k:=fl) g5 g6 with⟨z1,_⟩|⟨d',v',z1,z2,z3⟩
     .rw[z1] at h;cases h
     .rw[z1] at h;cases h;exact⟨_,h1,_,C,_,_,v',rfl,g4,q2,q3 fl hf,J' z2,k v' G H (.refl A.gh) z3⟩
  .cases h
 .cases h⟩
noncomputable def gC (c f:aj) (i:ao) (fv:FE):FS:=fun ρ=>(fv ρ).bind fun d=>match ρ[i]? with
 |some (aa (.obj c' fs))=>if c'=c/\fs.lookup f=af/\fs.length<100 then aa (.nx,ρ.set i (aa (.obj c (fs++[(f,d)])))) else af
 |_=>af
theorem jw (i:ao) (hc:CF Γ X.K cl attrs) (hf:fl∈attrs) (hv':DE Γ X value fv) (hN:X.N[i]?=aa x:=by rfl) (hv:Vis X.env.scope x:=by first|exact cR rfl|exact ca (cR rfl)|exact ca (ca rfl)) (hd:(x==("__debug__":aj))=av:=by decide)
  (hcd:(x==("__classdict__":aj))=av:=by decide) (hs:eG value (aa (.Attribute (.Name x vp) fl pos')) pos.line X.env=bq av:=by rfl):DS Γ X (.Assign [.Attribute (.Name x vp) fl pos'] value pos) (gC cl fl i fv):=⟨(pr (gn hN hv hd hcd) hv'.1 hs).imp fun E σ H=>by
 rintro⟨G₀,H₀,G,ρ,flw,ρ',A,h,k⟩;unfold gC at h;obtain⟨d,hd,h⟩:=oBd h;split at h
 .rename_i c' fs hi;split at h
  .rename_i hz;obtain⟨rfl,hz2,hz3⟩:=hz;cases h;obtain⟨C,q1,q2,q3⟩:=hc.ex;refine⟨G₀,H₀,G,ρ,d,A,hd,fun v G1 H1 s1 r1=>?_⟩;have A1:=A.step s1;obtain⟨w,fp,h1,h2⟩:=A1.get hi;cases h2 with
   |obj g1 g2 g3 g4 g5 g6 g7=>
    rename_i a C' dx vs;have g1':=g1;rw[q1] at g1;cases g1;have hl:vs.lookup fl=af:=by
     rcases kc (k:=fl) g5 g6 with⟨_,z2⟩|⟨d',v',z1,_,_⟩
     .exact z2
     .rw[z1] at hz2;cases hz2
    have hlen:vs.length=fs.length:=by simpa using cw dU g5
    refine⟨_,h1,a,C,dx,vs,rfl,g4,q2,q3 fl hf,by omega,?_⟩;rw[nT hl];refine k σ G1 _ s1.gg (A1.ch hi h1 (.obj g1' g2 g3 g4 g5 g6 g7) (fun b o e hb=>?_) (.obj (vs:=vs++[(fl,v)]) g1' g2 g3 bB (by simp[g5]) (by simpa using g6.append (.cons r1 .nil)) g7) (fun b hb=>.inl hb) (.refl _) (fun b o e=>?_) (fun _ _ _ _ _=>rfl))
    .rw[aE (fun z=>hb (bN.mpr z))];exact e
    .rw[aE (bK e g3)];exact A1.gh b o e
  .cases h
 .cases h⟩
noncomputable def n3 (c f:aj) (i:ao):FS:=fun ρ=>match ρ[i]? with
 |some (aa (.obj c' fs))=>if c'=c/\fs.lookup f=af/\fs.length<100 then aa (.nx,ρ.set i (aa (.objd c fs f []))) else af
 |_=>af
theorem KG (i:ao) (hc:CF Γ X.K cl attrs) (hf:fl∈attrs) (hN:X.N[i]?=aa x:=by rfl) (hv:Vis X.env.scope x:=by first|exact cR rfl|exact ca (cR rfl)|exact ca (ca rfl)) (hd:(x==("__debug__":aj))=av:=by decide)
  (hcd:(x==("__classdict__":aj))=av:=by decide) (hs:eG (.Dict [] [] dp) (aa (.Attribute (.Name x vp) fl pos')) pos.line X.env=bq av:=by rfl):DS Γ X (.Assign [.Attribute (.Name x vp) fl pos'] (.Dict [] [] dp) pos) (n3 cl fl i):=⟨(pr (gn hN hv hd hcd) vq hs).imp fun E σ H=>by
 rintro⟨G₀,H₀,G,ρ,flw,ρ',A,h,k⟩ p hp;unfold n3 at h;split at h
 .rename_i c' fs hi;split at h
  .rename_i hz;obtain⟨rfl,hz2,hz3⟩:=hz;cases h;obtain⟨C,q1,q2,q3⟩:=hc.ex;obtain⟨w,fp,h1,h2⟩:=A.get hi;cases h2 with
   |obj g1 g2 g3 g4 g5 g6 g7=>
    rename_i a C' dx vs;have g1':=g1;rw[q1] at g1;cases g1;have hl:vs.lookup fl=af:=by
     rcases kc (k:=fl) g5 g6 with⟨_,z2⟩|⟨d',v',z1,_,_⟩
     .exact z2
     .rw[z1] at hz2;cases hz2
    have hlen:vs.length=fs.length:=by simpa using cw dU g5
    have npa:a≠p:=bK g4 hp;refine⟨_,h1,a,C,dx,vs,rfl,by rw[aE npa];exact g4,q2,q3 fl hf,by omega,?_⟩;rw[nT hl];have hp0:H₀ p=af:=A.st.hh.free hp;have hpg:G p=af:=A.gh.free hp;refine k σ G _ (.refl _) (A.ch hi h1 (.obj g1' g2 g3 g4 g5 g6 g7) (fun b o e hb=>?_) (.objd (vs:=vs) (p:=p) (us:=[]) (kvs:=[]) g1' g2 g3 bB g5 g6 hp0 hpg (by rw[aE npa.symm,bB]) rfl .nil g7) (fun b hb=>?_) (.refl _) (fun b o e=>?_) (fun _ _ _ _ _=>rfl))
    .rw[aE (fun z=>hb (bN.mpr z)),aE (bK e hp)];exact e
    .rcases cH.mp hb with rfl|hb
     .exact .inl (bN.mpr rfl)
     .rw[bN.mp hb];exact .inr hp
    .rw[aE (bK e g3),aE (bK e hpg)];exact A.gh b o e
  .cases h
 .cases h⟩
noncomputable def ju (c f:aj) (i:ao) (fk fv:FE):FS:=fun ρ=>(fv ρ).bind fun d=>(fk ρ).bind fun kd=>(io kd).bind fun k=>match ρ[i]? with
 |some (aa (.objd c' fs n kvs))=>if c'=c/\n=f/\fs.lookup f=af/\kvs.length<100000 then aa (.nx,ρ.set i (aa (.objd c fs n (cJ kvs k d)))) else af
 |_=>af
theorem Lo {vs:ac (aj×V)} {f:aj} {w:V} (h:vs.lookup f=af):(vs++[(f,w)]).lookup f=aa w:=by
 induction vs with
 |nil=>simp[dj]
 |cons p r ih=>
  obtain⟨g,x⟩:=p;by_cases e:f=g
  .subst e;simp[dj] at h
  .have hb:(f==g)=av:=by simpa using e
   simp only[qr,dj,hb] at h ⊢;exact ih h
theorem JR (i:ao) (hu:X.A.units+66<cB) (hc:CF Γ X.K cl attrs) (hf:fl∈attrs) (hk:DE Γ X ke fk) (hv':DE Γ X value fv) (hN:X.N[i]?=aa x:=by rfl) (hv:Vis X.env.scope x:=by first|exact cR rfl|exact ca (cR rfl)|exact ca (ca rfl)) (hd:(x==("__debug__":aj))=av:=by decide)
  (hcd:(x==("__classdict__":aj))=av:=by decide) (hb:i9 (.Name x vp) fl X.env (eval (.Name x vp) X.env)=eval (.Name x vp) X.env:=by rfl) (hs:eG value (aa (.Subscript (.Attribute (.Name x vp) fl ap) ke pos')) pos.line X.env=bq av:=by rfl) :
  DS Γ X (.Assign [.Subscript (.Attribute (.Name x vp) fl ap) ke pos'] value pos) (ju cl fl i fk fv):=⟨(uZ .(c) (tF (gn hN hv hd hcd) hb) hk.1 hv'.1 hs).imp fun E σ H=>by
 rintro⟨G₀,H₀,G,ρ,flw,ρ',A,h,k⟩;unfold ju at h;obtain⟨d,hd,ha⟩:=oBd h;clear h;obtain⟨kd,hkd,hb1⟩:=oBd ha;clear ha;obtain⟨kk,hkk,hq⟩:=oBd hb1;clear hb1;split at hq
 .rename_i c' fs n kvs hi;split at hq
  .rename_i hz;obtain⟨rfl,rfl,hz2,hz3⟩:=hz;cases hq;obtain⟨C,q1,q2,q3⟩:=hc.ex;refine⟨G₀,H₀,G,ρ,d,A,hd,fun v G1 H1 s1 r1=>?_⟩;have A1:=A.step s1;obtain⟨w,fp,h1,h2⟩:=A1.get hi;cases h2 with
   |objd g1 g2 g3 g4 g5 g6 y1 y2 y3 y4 y5 g7=>
    rename_i a C' dx p vs us;have g1':=g1;rw[q1] at g1;cases g1;have hl:vs.lookup n=af:=by
     rcases kc (k:=n) g5 g6 with⟨_,z2⟩|⟨d',v',z1,_,_⟩
     .exact z2
     .rw[z1] at hz2;cases hz2
    refine⟨_,h1,a,C,dx,_,.ref p,rfl,g4,q2,q3 n hf,Lo hl,G₀,H₀,G1,ρ,kd,A1,hkd,fun u G2 H2 s2 r2=>?_⟩;have A2:=A1.step s2;have eu:=ny r2 hkk;subst eu;have hp2:H2 p=aa (.dK us):=s2.hh _ _ y3;have ha2:H2 a=aa (.ins C dx (vs++[(n,.ref p)])):=s2.hh _ _ g4;have ga2:G2 a=af:=(s2.out _ _ g4 rfl).trans g3;have gp2:G2 p=af:=(s2.out _ _ y3 rfl).trans y2;have npa:a≠p:=wk ha2 hp2 (by intro z;cases z);have hlen:us.length=kvs.length:=by simpa using cw dU y4
    obtain⟨w1,w2⟩:=nS (k:=kk) (r1.mono s2.gg) y4 (y5.mono s2.gg);refine⟨p,_,rfl,iY.k hp2 (by have:=ge;omega),?_⟩;refine k σ G2 _ (s1.gg.trans s2.gg) (A2.ch hi h1 (.objd g1' g2 ga2 ha2 g5 (g6.mono s2.gg) y1 gp2 hp2 y4 (y5.mono s2.gg) g7) (fun b o e hb=>?_) (.objd (p:=p) g1' g2 ga2 (by rw[aE npa];exact ha2) g5 (g6.mono s2.gg) y1 gp2 bB w1 w2 g7) (fun b hb=>.inl hb) (.refl _) (fun b o e=>?_) (fun _ _ _ _ _=>rfl))
    .rw[aE (fun z=>hb (by rw[z];exact qh _ qg))];exact e
    .rw[aE (bK e gp2)];exact A2.gh b o e
  .cases hq
 .cases hq⟩
noncomputable def Bv:Slot->au D
 |.obj c fs=>aa (.ins c fs)
 |.objd c fs n kvs=>aa (.ins c (fs++[(n,.dk kvs)]))
 |_=>af
theorem At.done (A:At Γ K G₀ H₀ G H ρ σ) {i:ao} {s:Slot} (hi:ρ[i]?=aa (aa s)) (hd:Bv s=aa d):∃a G',Γ.self=aa a/\Step G₀ H₀ G' H/\Rep Γ K G' (.ref a) d:=by
 obtain⟨v,fp,h1,h2⟩:=A.get hi;cases h2 with
 |sh _=>cases hd
 |own _ _ _ _=>cases hd
 |odk _ _ _ _ _=>cases hd
 |odt _ _ _ _ _=>cases hd
 |tlo _ _ _ _ _ _=>cases hd
 |oll _ _ _ _ _=>cases hd
 |fo _ _ _ _ _ _ _=>cases hd
 |pin _=>cases hd
 |obj g1 g2 g3 g4 g5 g6 g7=>
  cases hd;rename_i a C dx vs fs;have sm:ba G (upd G a (.ins C dx vs)):=fun b o e=>by rw[aE (bK e g3)];exact e
  refine⟨a,upd G a (.ins C dx vs),g7,⟨A.st.hh,A.st.gg.trans sm,fun b o e=>?_,fun b o e ek=>?_⟩,.ins bB g1 g5 (g6.mono sm)⟩
  .by_cases hb:b=a
   .subst hb;rw[bB] at e;cases e;exact g4
   .rw[aE hb] at e;exact A.gh b o e
  .rw[aE (bK e g2)];exact A.st.out b o e ek
 |objd g1 g2 g3 g4 g5 g6 y1 y2 y3 y4 y5 g7=>
  cases hd;rename_i n a C dx p vs fs us kvs;have npa:a≠p:=wk g4 y3 (by intro z;cases z);have sm:ba G (upd (upd G p (.dK us)) a (.ins C dx (vs++[(n,.ref p)]))):=fun b o e=>by rw[aE (bK e g3),aE (bK e y2)];exact e
  refine⟨a,_,g7,⟨A.st.hh,A.st.gg.trans sm,fun b o e=>?_,fun b o e ek=>?_⟩,.ins (us:=vs++[(n,.ref p)]) (fs:=fs++[(n,.dk kvs)]) bB g1 (by simp[g5]) ?_⟩
  .by_cases hb:b=a
   .subst hb;rw[bB] at e;cases e;exact g4
   .rw[aE hb] at e;by_cases hb':b=p
    .subst hb';rw[bB] at e;cases e;exact y3
    .rw[aE hb'] at e;exact A.gh b o e
  .rw[aE (bK e g2),aE (bK e y1)];exact A.st.out b o e ek
  .have r2:Rep Γ K (upd (upd G p (.dK us)) a (.ins C dx (vs++[(n,.ref p)]))) (.ref p) (.dk kvs):=.dk (us:=us) (by rw[aE npa.symm,bB]) y4 (y5.mono sm);simpa using(g6.mono sm).append (.cons r2 .nil)
end
noncomputable def Cn.mk1 (Γ:Cn) (x:aw):Cn:=⟨Γ.cls,aa x⟩
variable {c:aj}
section
variable {x:aw}
theorem Rep.to1 (x:aw) (r:Rep Γ K G v d):Rep (Γ.mk1 x) K G v d:=Rep.re (Γ:=Γ) (Γ':=Γ.mk1 x) rfl r
theorem Reps.to1 {v:ac V} {d:ac D} (x:aw) (r:Reps Γ K G v d):Reps (Γ.mk1 x) K G v d:=Reps.re (Γ:=Γ) (Γ':=Γ.mk1 x) rfl r
theorem Rep.of1 (r:Rep (Γ.mk1 x) K G v d):Rep Γ K G v d:=Rep.re (Γ:=Γ.mk1 x) (Γ':=Γ) rfl r
theorem Reps.of1 {v:ac V} {d:ac D} (r:Reps (Γ.mk1 x) K G v d):Reps Γ K G v d:=Reps.re (Γ:=Γ.mk1 x) (Γ':=Γ) rfl r
theorem CF.re (h:CF Γ K c attrs) (x:aw):CF (Γ.mk1 x) K c attrs:=⟨h.ex⟩
theorem Cg {Q:VK} {E:XK} (x:aw) (h:spF (Γ.mk1 x) K n F vs H Q E):spF Γ K n F vs H Q E:=by obtain⟨G,ds,d,h1,h2,h3,h4,k⟩:=h;exact⟨G,ds,d,h1,h2.of1,h3,h4,fun v G' H' s r=>k v G' H' s (r.to1 x)⟩
theorem Cal.re {y:aj} {k:ao} (C:Cal Γ P w K mg base y n k F) (x:aw):Cal (Γ.mk1 x) P w K mg base y n k F:=by obtain⟨f,fd,ps,h1,h2,h3,h4⟩:=C.ex;exact⟨f,fd,ps,h1.imp fun vs H Q E q=>Cg x q,h2,h3,h4⟩
structure CalM (Γ:Cn) (P:eE) (w:df) (K:aV) (mg:aj->au ax) (base:Heap) (c m:aj) (n k:ao) (F:ac D->au D):Prop where
 ex:∃C f fd ps,Γ.cls c=aa C/\Cls K C/\Meth K C m f/\FnOk P w K mg base CX0 k f fd ps (spF Γ K n F)/\fP K fd ps []
theorem CalM.re {k:ao} (C:CalM Γ P w K mg base c m n k F) (x:aw):CalM (Γ.mk1 x) P w K mg base c m n k F:=by obtain⟨C,f,fd,ps,h0,h1,h2,h3,h4⟩:=C.ex;exact⟨C,f,fd,ps,h0,h1,h2,h3.imp fun vs H Q E q=>Cg x q,h4⟩
inductive spI (Γ:Cn) (K:aV) (C:aw) (n:ao) (F:ac D->au D) (vs:ac V) (H:Hp) (Q:VK) (_e3:XK):Prop where
 |mk:∀x dx H1 G ds d us,vs=.ref x::us->H=upd (upd H1 dx (.own x)) x (.ins C dx [])->H1 x=af->H1 dx=af->dx≠x->ba G H1->Reps Γ K G us ds->ds.length=n->F ds=aa d->(∀G' H',Step G H1 G' H'->Rep Γ K G' (.ref x) d->Q .non H')->spI Γ K C n F vs H Q _e3
structure CalI (Γ:Cn) (P:eE) (w:df) (K:aV) (mg:aj->au ax) (base:Heap) (c:aj) (n k:ao) (F:ac D->au D):Prop where
 ex:∃C f fd ps,Γ.cls c=aa C/\Mk K C f/\mg c=aa (.ref C)/\FnOk P w K mg base CX0 k f fd ps (spI Γ K C n F)/\fP K fd ps []
end
section
variable {o:Expr}
noncomputable def cL (c m:aj) (F:ac D->au D) (fo:FE) (fr:FA):FE:=fun ρ=>(fo ρ).bind fun d=>match d with
 |.ins c' fs=>if c'=c/\fs.lookup m=af then (fr ρ).bind fun ds=>F (d::ds) else af
 |_=>af
theorem gU {k:ao} (C:CalM Γ X.prog X.w X.K X.mg X.base c m (n+1) k F) (hr:Room j X.A) (hk:k<=j) (ho:DE Γ X o fo) (ha:DA Γ X (e::es) fr) (hn:∀ρ ds,fr ρ=aa ds->ds.length=n)
  (hst:aR (e::es) X.env=(av,eval e X.env)::aR es X.env:=by rfl) (hpl:(cj pos (aR es X.env)).any (·.1)=av:=by rfl)
  (ht:eval (.Call (.Attribute o m apos) (e::es) [] pos) X.env=(do
   let ov ←eval o X.env
   mV apos.atName
   let (f,first) ←iz [ov] (mX ov m pl)
   oE pos f first (cj pos (aR (e::es) X.env)) (iB pos (iC [] X.env))):=by rfl) :
  DE Γ X (.Call (.Attribute o m apos) (e::es) [] pos) (cL c m F fo fr):=⟨by
 obtain⟨Ca,f,fd,ps,h0,h1,h2,h3,h4⟩:=C.ex;refine(Dj ho.1 h1 h2 h3 (hr.mono hk) h4 .nil kK ha.1 hst hpl ht).imp fun σ H Q=>?_;rintro⟨G₀,H₀,G,ρ,d,A,h,k⟩;unfold cL at h;obtain⟨x,hx,hq⟩:=oBd h;clear h;refine⟨G₀,H₀,G,ρ,x,A,hx,fun v G1 H1 s1 r1=>?_⟩;split at hq
 .rename_i c' fs;split at hq
  .rename_i hz;obtain⟨rfl,hz2⟩:=hz;obtain⟨ds,hds,hF⟩:=oBd hq;have r1':=r1;cases r1 with
   |ins g1 g2 g3 g4=>
    rw[h0] at g2;cases g2;rename_i _ _ us0;have hl:dj m us0=af:=by
     rcases kc (k:=m) g3 g4 with⟨_,z2⟩|⟨d',v',z1,_,_⟩
     .exact z2
     .rw[z1] at hz2;cases hz2
    refine⟨_,_,_,rfl,s1.gh _ _ g1,hl,G₀,H₀,G1,ρ,ds,A.step s1,hds,fun vs G2 H2 s2 r2=>?_⟩;show spF Γ X.K (n+1) F (_::(vs++[])) H2 Q E0;rw[gM];exact⟨G2,_,d,s2.gh,.cons (r1'.mono s2.gg) r2,by rw[qi,hn ρ ds hds],hF,fun v G' H' s r=>k v G' H' ((s1.trans s2).trans s) r⟩
  .cases hq
 .cases hq⟩
theorem iR {k:ao} (C:CalM Γ X.prog X.w X.K X.mg X.base c m 1 k F) (hr:Room j X.A) (hk:k<=j) (ho:DE Γ X o fo)
  (ht:eval (.Call (.Attribute o m apos) [] [] pos) X.env=(do
   let ov ←eval o X.env
   mV apos.atName
   let (f,first) ←iz [ov] (mX ov m pl)
   oE pos f first (cj pos (aR [] X.env)) (iB pos (iC [] X.env))):=by rfl) :
  DE Γ X (.Call (.Attribute o m apos) [] [] pos) (cL c m F fo ar):=⟨by
 obtain⟨Ca,f,fd,ps,h0,h1,h2,h3,h4⟩:=C.ex;refine(FM ho.1 h1 h2 h3 (hr.mono hk) h4 .nil kK ht).imp fun σ H Q=>?_;rintro⟨G₀,H₀,G,ρ,d,A,h,k⟩;unfold cL at h;obtain⟨x,hx,hq⟩:=oBd h;clear h;refine⟨G₀,H₀,G,ρ,x,A,hx,fun v G1 H1 s1 r1=>?_⟩;split at hq
 .rename_i c' fs;split at hq
  .rename_i hz;obtain⟨rfl,hz2⟩:=hz;obtain⟨ds,hds,hF⟩:=oBd hq;cases hds;have r1':=r1;cases r1 with
   |ins g1 g2 g3 g4=>
    rw[h0] at g2;cases g2;rename_i _ _ us0;have hl:dj m us0=af:=by
     rcases kc (k:=m) g3 g4 with⟨_,z2⟩|⟨d',v',z1,_,_⟩
     .exact z2
     .rw[z1] at hz2;cases hz2
    refine⟨_,_,_,rfl,s1.gh _ _ g1,hl,?_⟩;exact⟨G1,_,d,s1.gh,.cons r1' .nil,rfl,hF,fun v G' H' s r=>k v G' H' (s1.trans s) r⟩
  .cases hq
 .cases hq⟩
theorem JZ {k:ao} (C:CalI Γ X.prog X.w X.K X.mg X.base c n k F) (hr:Room j X.A) (hk:k+1<=j) (hg:Gl X c) (ha:DA Γ X (e::es) fr) (hn:∀ρ ds,fr ρ=aa ds->ds.length=n)
  (hdb:(c==("__debug__":aj))=av:=by decide) (he:aR (e::es) X.env=(av,eval e X.env)::aR es X.env:=by rfl) (hpl:(cj pos (aR es X.env)).any (·.1)=av:=by rfl) :
  DE Γ X (.Call (.Name c p) (e::es) [] pos) (cF F fr):=⟨by
 obtain⟨Ca,f,fd,ps,h0,h1,h2,h3,h4⟩:=C.ex;refine(xY h1 h3 (hr.mono hk) hg h2 h4 .nil kK ha.1 hdb he hpl).imp fun σ H Q=>?_;rintro⟨G₀,H₀,G,ρ,d,A,h,k⟩;unfold cF at h;obtain⟨ds,hd,hq⟩:=oBd h;refine⟨G₀,H₀,G,ρ,ds,A,hd,fun vs G1 H1 s1 r1 x dx hx hdx hne=>?_⟩;rw[gM];exact⟨x,dx,H1,G1,ds,d,vs,rfl,rfl,hx,hdx,hne,s1.gh,r1,hn ρ ds hd,hq,fun G' H' s r=>⟨rfl,k _ G' H' (s1.trans s) r⟩⟩⟩
end
noncomputable def nK (n:ao) (c:aj) (g:FS):ac D->au D:=fun ds=>(g (aa (.obj c [])::ds.map (fun d=>aa (Slot.sh d))++bT n af)).bind fun r=>match r.1 with
 |.nx=>match r.2[0]? with
  |some (aa s)=>Bv s
  |_=>af
 |_=>af
variable {s0:aj}
theorem Fun.okI {f:aw} {k:ao} (F:Fun K x qual st f fd) (S:FnScope N (s0::ps) (aL st)) (hC:Γ.cls c=aa C)
  (hbody:∀(y:aw) (cdv:ax) (A:dB) (outer:ac cZ) (s:aI) (H:Hp) (E:XK),Room k (A.deeper (dO qual (aL st) s.heap.objs.size f cdv))->
   DSs (Γ.mk1 y) (e7 CX0 P w K mg base N qual (aL st) f cdv A outer s H E).nox (c8 st) g):FnOk P w K mg base CX0 (k+1) f fd (s0::ps) (spI Γ K C ps.length (nK (N.length-(ps.length+1)) c g)):=by
 refine F.ok S (fun vs H Q E h=>?_) (fun cdv A outer s H vs Q E hr h=>?_)
 .obtain⟨y,dx,H1,G,ds,d,us,rfl,_,_,_,_,_,r,hl,_⟩:=h;rw[qi,r.length,hl,qi]
 .obtain⟨y,dx,H1,G,ds,d,us,rfl,rfl,hx,hdx,hne,gh,r,hl,hd,k⟩:=h;refine⟨_,(hbody y cdv A outer s _ E hr).1,?_⟩;unfold nK at hd;obtain⟨⟨fl,ρ'⟩,hg,hd⟩:=oBd hd;have s1:=Step.newOwn (o:=.own y) gh hdx;have hx1:(upd H1 dx (.own y)) y=af:=by rw[aE (dM hne)];exact hx
  have s2:=s1.trans (Step.newOwn (o:=.ins C dx []) s1.gh hx1);have hlen:us.length=ds.length:=r.length;have A0:At (Γ.mk1 y) K G H1 G (upd (upd H1 dx (.own y)) y (.ins C dx [])) (aa (.obj c [])::ds.map (fun d=>aa (Slot.sh d))++bT (N.length-(ps.length+1)) af) (dR N (.ref y::us)):=by
   refine⟨s2,by simp[dR,hlen,hl],fun i=>if i=0 then [y] else [],fun i t e=>?_,fun i j t u hij e1 e2 b hb=>?_⟩
   .cases i with
    |zero=>
     cases e;exact⟨.ref y,rfl,.obj (vs:=[]) (fs:=[]) hC hx (gh.free hx) bB rfl .nil rfl⟩
    |succ i=>
     have e:(ds.map (fun d=>aa (Slot.sh d))++bT (N.length-(ps.length+1)) af)[i]?=aa (aa t):=e;by_cases hi:i<ds.length
     .rw[qA (by simpa using hi),qk] at e;obtain⟨d',hd',e⟩:=oMd e;cases e;obtain⟨v,hv,rv⟩:=r.get hd';refine⟨v,?_,.sh (rv.to1 y)⟩;unfold dR;show((us.map aa)++_)[i]?=aa (aa v);rw[qA (by rw[qf,hlen];exact hi),qk,hv];rfl
     .rw[qL (by simpa using hi),ux] at e;split at e<;>cases e
   .have hb:b∈(if i=0 then [y] else []):=hb;show b∉(if j=0 then [y] else []);by_cases hi:i=0
    .subst hi;rw[qY (dM hij)];exact fun z=>by cases z
    .rw[qY hi] at hb;cases hb
  refine⟨G,H1,G,_,fl,ρ',A0,hg,fun σ' G' H' sm A'=>?_⟩;cases fl with
  |nx=>
   simp only at hd;split at hd
   .rename_i sl hs;obtain⟨a,G2,e1,st2,rp⟩:=A'.done hs hd;cases e1;exact k G2 H' st2 rp.of1
   .cases hd
  |rt d'=>cases hd
  |ow d'=>cases hd
  |nw d'=>cases hd
  |od d'=>cases hd
  |bk=>cases hd
  |ct=>cases hd
structure DfnM (K:aV) (C:aw) (c m qual:aj) (st:Stmt):Prop where
 ex:∃f fd,Fun K m qual st f fd/\cA K (.ref C) m=aa (aa (.ref f))/\oC K (.ref f)=ak
structure ClsOk (Γ:Cn) (K:aV) (mg:aj->au ax) (c:aj) (C:aw):Prop where
 cn:Γ.cls c=aa C
 cl:Cls K C
 mgC:mg c=aa (.ref C)
 makes:p9 K C=ak
 kp:gf K (.ref C)=ak
theorem DfnM.cal {k:ao} (O:ClsOk Γ K mg c C) (F:DfnM K C c m qual st) (S:FnScope N ps (aL st))
  (hb:∀(kV doc pm:ax) (an:au aw) (cdv ct:ax) (us:ac ax),us.length=ps.length->hG (eS m qual (eZ st) (c8 st) (aL st) .none kV doc pm an cdv ct) ⟨us,[]⟩=bq (ps.zip us))
  (hbody:∀(f:aw) (cdv:ax) (A:dB) (outer:ac cZ) (s:aI) (H:Hp) (E:XK),Room k (A.deeper (dO qual (aL st) s.heap.objs.size f cdv))->
   DSs Γ (e7 CX0 P w K mg base N qual (aL st) f cdv A outer s H E).nox (c8 st) g):CalM Γ P w K mg base c m ps.length (k+1) (aY (N.length-ps.length) g):=by
 obtain⟨f,fd,h1,h2,h3⟩:=F.ex;exact⟨C,f,fd,ps,O.cn,O.cl,⟨h2,h3,h1.kp⟩,h1.okD S (hbody f),h1.binds hb⟩
theorem DfnM.calI {k:ao} (O:ClsOk Γ K mg c C) (F:DfnM K C c "__init__" qual st) (S:FnScope N (s0::ps) (aL st))
  (hb:∀(kV doc pm:ax) (an:au aw) (cdv ct:ax) (us:ac ax),us.length=(s0::ps).length->hG (eS "__init__" qual (eZ st) (c8 st) (aL st) .none kV doc pm an cdv ct) ⟨us,[]⟩=bq ((s0::ps).zip us))
  (hbody:∀(f y:aw) (cdv:ax) (A:dB) (outer:ac cZ) (s:aI) (H:Hp) (E:XK),Room k (A.deeper (dO qual (aL st) s.heap.objs.size f cdv))->
   DSs (Γ.mk1 y) (e7 CX0 P w K mg base N qual (aL st) f cdv A outer s H E).nox (c8 st) g):CalI Γ P w K mg base c ps.length (k+1) (nK (N.length-(ps.length+1)) c g):=by
 obtain⟨f,fd,h1,h2,h3⟩:=F.ex;exact⟨C,f,fd,s0::ps,O.cn,⟨O.makes,h2,h3,O.kp⟩,O.mgC,h1.okI S O.cn (hbody f),h1.binds hb⟩
theorem ClsOk.cf (O:ClsOk Γ K mg c C) (h:∀f∈attrs,kF K C f):CF Γ K c attrs:=⟨C,O.cn,O.cl,h⟩
variable {M n0 ep:ao} {h:aq} {owner:bR (au ao)} {hs:ac aq} {I:aw} {wr:ac aw} {hashAt:ao->aq} {h0:Heap} {es':bR (aq×ax)}
namespace ST
structure Pr where
 j:ao
 more:ao
 i:ao
 pt:ao
noncomputable def adv (M:ao) (p:Pr):Pr:=if p.more > 0 then {p with j:=p.j+1,more:=p.more-1} else
 {j:=(jd M p.i p.pt).1,more:=dD M (jd M p.i p.pt).1-(jd M p.i p.pt).1,i:=(jd M p.i p.pt).1,pt:=(jd M p.i p.pt).2}
noncomputable def st0 (M:ao) (h:aq):Pr:={j:=fT h%(M+1),more:=dD M (fT h%(M+1))-fT h%(M+1),i:=fT h%(M+1),pt:=fT h}
noncomputable def it (M:ao) (h:aq):ao->Pr
 |0=>st0 M h
 |n+1=>adv M (it M h n)
noncomputable def J (M:ao) (h:aq) (n:ao):ao:=(it M h n).j
noncomputable def lp (M:ao) (h:aq):ao->ao×ao
 |0=>(fT h%(M+1),fT h)
 |r+1=>jd M (lp M h r).1 (lp M h r).2
noncomputable def mR (M:ao) (x:ao×ao):Pr:={j:=x.1,more:=dD M x.1-x.1,i:=x.1,pt:=x.2}
theorem sq (M:ao) (h:aq) (n:ao):∀k,it M h (n+k)=(Nat.repeat (adv M) k (it M h n))
 |0=>rfl
 |k+1=>by rw[←EW,it,sq M h n k];rfl
theorem IC (M i:ao):dD M i-i<=9:=by unfold dD;split<;>omega
theorem sS (M:ao):∀(k:ao) (p:Pr),k<=p.more->Nat.repeat (adv M) k p={p with j:=p.j+k,more:=p.more-k}
 |0,p,_=>rfl
 |k+1,p,h=>by rw[Nat.repeat,sS M k p .(c)];unfold adv;rw[qX (by show p.more-k > 0;omega)];simp only[Nat.sub_sub,EW]
theorem Ag (M:ao) (h:aq):∀r,∃n,n<=10*r/\it M h n=mR M (lp M h r)
 |0=>⟨0,qx _,rfl⟩
 |r+1=>by obtain⟨n,hn,e⟩:=Ag M h r;have hl:=IC M (lp M h r).1;refine⟨n+(dD M (lp M h r).1-(lp M h r).1)+1,by omega,?_⟩;have e2:=sS M (dD M (lp M h r).1-(lp M h r).1) (mR M (lp M h r)) (qx _);rw[it,sq,e,e2];unfold adv;rw[qY (by show ¬((dD M (lp M h r).1-(lp M h r).1)-(dD M (lp M h r).1-(lp M h r).1) > 0);omega)];rfl
theorem OZ (h:aq):fT h<2 ^ 64:=by unfold fT;have h1:=Qx h (show(2 ^ 64:aq)≠0 by decide);have h2:=Qy h (show(0:aq)<2 ^ 64 by decide);omega
theorem C5 (M:ao) (h:aq):∀r,(lp M h r).2=fT h / 32 ^ r
 |0=>by simp[lp]
 |r+1=>by show(lp M h r).2 / 32=_;rw[C5 M h r,Nat.div_div_eq_div_mul,Nat.pow_succ]
theorem Pg (M:ao) (h:aq) {r:ao} (hr:13<=r):(lp M h r).2=0:=by rw[C5];refine Nat.div_eq_of_lt (qG (OZ h) ?_);exact qN (show 2 ^ 64<=32 ^ 13 by decide) (Nat.pow_le_pow_right .(e) hr)
noncomputable def fl (M i:ao):ao:=(i*5+1)%(M+1)
noncomputable def orb (M:ao):ao->ao->ao
 |0,i=>i
 |m+1,i=>fl M (orb M m i)
theorem wC (M:ao) (h:aq):∀m,(lp M h (13+m)).1=orb M m (lp M h 13).1
 |0=>rfl
 |m+1=>by show(jd M (lp M h (13+m)).1 (lp M h (13+m)).2).1=_;rw[Pg M h .(c),wC M h m];simp[jd,orb,fl]
theorem sD (M i:ao) (a:ao):∀b,orb M (a+b) i=orb M b (orb M a i)
 |0=>rfl
 |b+1=>by rw[←EW,orb,sD M i a b];rfl
noncomputable def ve (M:ao):ao->ao->ac ao
 |0,_=>[]
 |n+1,i=>i::ve M n (fl M i)
theorem Dw (M:ao):∀m i,orb M (m+1) i=orb M m (fl M i)
 |0,_=>rfl
 |m+1,i=>by rw[orb,Dw M m i];rfl
theorem BU (M:ao):∀(n i j:ao),j∈ve M n i->∃m,m<n/\orb M m i=j
 |0,_,_,h=>nomatch h
 |n+1,i,j,h=>by
  rcases cH.mp h with e|h
  .exact⟨0,yL _,e.symm⟩
  .obtain⟨m,hm,e⟩:=BU M n (fl M i) j h;exact⟨m+1,by omega,by rw[Dw];exact e⟩
structure Full (M:ao):Prop where
 all:∀j,j<=M->∃m,m<M+1/\orb M m 0=j
 back:orb M (M+1) 0=0
noncomputable def chk (M:ao):aT:=(cQ (M+1)).all (fun j=>(ve M (M+1) 0).contains j) && orb M (M+1) 0==0
theorem rW (h:chk M=ak):Full M:=by unfold chk at h;rw[fJ,iD] at h;refine⟨fun j hj=>?_,by simpa using h.2⟩;have:=h.1 j (eR.mpr .(c));exact BU M (M+1) 0 j (by simpa using this)
theorem AC:Full 7:=rW (by decide +kernel)
theorem MF:Full 31:=rW (by decide +kernel)
theorem Gj:Full 127:=rW (by decide +kernel)
theorem Ha:Full 511:=rW (by decide +kernel)
theorem Full.reach (F:Full M) (hi:i<=M) (hj:j<=M):∃m,m<=M/\orb M m i=j:=by
 obtain⟨a,ha,ea⟩:=F.all i hi;obtain⟨b,hb,eb⟩:=F.all j hj;by_cases h:a<=b
 .refine⟨b-a,by omega,?_⟩;rw[←ea,←sD,show a+(b-a)=b by omega,eb]
 .refine⟨M+1-a+b,by omega,?_⟩;rw[←ea,←sD,show a+(M+1-a+b)=(M+1)+b by omega,sD,F.back,eb]
theorem wj (M:ao) (h:aq):∀r,(lp M h r).1<=M
 |0=>EX.mp (yM _ (yL _))
 |r+1=>EX.mp (yM _ (yL _))
theorem Full.covers (F:Full M) (h:aq) (hj:j<=M):∃n,n<10*(M+15)/\J M h n=j:=by obtain⟨m,hm,e⟩:=F.reach (wj M h 13) hj;obtain⟨n,hn,en⟩:=Ag M h (13+m);refine⟨n,by omega,?_⟩;unfold J;rw[en];show(lp M h (13+m)).1=j;rw[wC,e]
theorem Ap (M:ao) (h:aq):∀n,(it M h n).j+(it M h n).more<=M
 |0=>by
  have:=wj M h 0;show(lp M h 0).1+(dD M (lp M h 0).1-(lp M h 0).1)<=M;unfold dD;split<;>omega
 |n+1=>by
  have ih:=Ap M h n;rw[it];unfold adv;split
  .show(it M h n).j+1+((it M h n).more-1)<=M;omega
  .show(jd M (it M h n).i (it M h n).pt).1+(dD M (jd M (it M h n).i (it M h n).pt).1-(jd M (it M h n).i (it M h n).pt).1)<=M;have:(jd M (it M h n).i (it M h n).pt).1<=M:=EX.mp (yM _ (yL _));unfold dD;split<;>omega
theorem xU (M:ao) (h:aq) (n:ao):J M h n<=M:=qN (yN _ _) (Ap M h n)
theorem Full.first (F:Full M) (h:aq) (occ:ao->aT) (hf:∃j,j<=M/\occ j=av):∃n,n<10*(M+15)/\occ (J M h n)=av/\∀m,m<n->occ (J M h m)=ak:=by
 obtain⟨j,hj,hof⟩:=hf;obtain⟨n,hn,e⟩:=F.covers h hj;have key:∀n,n<10*(M+15)->occ (J M h n)=av->∃n,n<10*(M+15)/\occ (J M h n)=av/\∀m,m<n->occ (J M h m)=ak:=by
  intro n
  induction n using Nat.strongRecOn with
  |ind n ih=>
   intro hn ho;by_cases hx:∃m,m<n/\occ (J M h m)=av
   .obtain⟨m,hm,hm2⟩:=hx;exact ih m hm .(c) hm2
   .refine⟨n,hn,ho,fun m hm=>?_⟩;cases q:occ (J M h m) with
    |true=>rfl
    |false=>exact bJ ⟨m,hm,q⟩ hx
 exact key n hn (by rw[e];exact hof)
theorem v5 (xs:bR ao) (j:ao) (hs:xs.toList.Pairwise (· < ·)):∀(fuel lo hi:ao),hi-lo<=fuel->lo<=hi->hi<=xs.size->(∀i,i<lo->∀v,xs[i]?=aa v->v<j)->(∀i,hi<=i->∀v,xs[i]?=aa v->j<=v)->
  (yO xs j fuel lo hi<=xs.size)/\(∀i,i<yO xs j fuel lo hi->∀v,xs[i]?=aa v->v<j)/\∀i,yO xs j fuel lo hi<=i->∀v,xs[i]?=aa v->j<=v
 |0,lo,hi,hf,hl,hh,h1,h2=>by
  have e:lo=hi:=by omega
  subst e;exact⟨hh,h1,h2⟩
 |fuel+1,lo,hi,hf,hl,hh,h1,h2=>by
  have mono:∀a b va vb,a<b->xs[a]?=aa va->xs[b]?=aa vb->va<vb:=fun a b va vb hab ha hb=>by have:=Qz.mp hs a b;obtain⟨a1,a2⟩:=gN.mp ha;obtain⟨b1,b2⟩:=gN.mp hb;have q:=this (by simpa using a1) (by simpa using b1) hab;simpa[a2,b2] using q
  unfold yO;by_cases hlt:lo<hi
  .rw[qX hlt];have hm1:lo<=(lo+hi) / 2:=by omega
   have hm2:(lo+hi) / 2<hi:=by omega
   have hget:∃v,xs[(lo+hi) / 2]?=aa v:=⟨xs[(lo+hi) / 2]'.(c),by simp[show(lo+hi) / 2<xs.size by omega]⟩;obtain⟨v,hv⟩:=hget;have hd:xs.getD ((lo+hi) / 2) j=v:=by simp[yP,hv]
   dsimp only;rw[hd];by_cases hvj:v<j
   .rw[qX hvj];refine v5 xs j hs fuel _ _ .(c) .(c) hh (fun i hi' w hw=>?_) h2;rcases ng i ((lo+hi) / 2) with hi2|hi2
    .exact rj (mono i _ w v hi2 hw hv) hvj
    .have e:i=(lo+hi) / 2:=by omega
     subst e;rw[hv] at hw;cases hw;exact hvj
   .rw[qY hvj];refine v5 xs j hs fuel _ _ .(c) .(c) .(c) h1 fun i hi' w hw=>?_;rcases ng ((lo+hi) / 2) i with hi2|hi2
    .exact qN .(c) (pY (mono _ i v w hi2 hv hw))
    .have e:i=(lo+hi) / 2:=by omega
     subst e;rw[hv] at hw;cases hw;omega
  .rw[qY hlt];have e:lo=hi:=by omega
   subst e;exact⟨hh,h1,h2⟩
theorem wQ (xs:bR ao) (j:ao) (hs:xs.toList.Pairwise (· < ·)):cU xs j<=xs.size/\(∀i,i<cU xs j->∀v,xs[i]?=aa v->v<j)/\∀i,cU xs j<=i->∀v,xs[i]?=aa v->j<=v:=
 v5 xs j hs xs.size 0 xs.size (qx _) (g9 _) (qx _) (fun i h=>bJ h (EY _)) fun i h v hv=>by have:=(gN.mp hv).1;omega
theorem xb (xs:bR ao) (j i:ao) (hs:xs.toList.Pairwise (· < ·)) (h:xs[i]?=aa j):cU xs j=i:=by
 obtain⟨h0,h1,h2⟩:=wQ xs j hs;rcases QA (cU xs j) i with hl|hl|hl
 .have hi:=(gN.mp h).1;have hg:xs[cU xs j]?=aa (xs[cU xs j]'.(c)):=by simp[show cU xs j<xs.size by omega]
  have q1:=h2 _ (qx _) _ hg;have:=Qz.mp hs (cU xs j) i (by simp;omega) (by simpa using hi) hl;obtain⟨_,e⟩:=gN.mp h;simp only[Array.getElem_toList] at this;omega
 .exact hl
 .have:=h1 i hl j h;omega
structure Tb (t:lL) (es:bR (aq×ax)):Prop where
 full:Full t.mask
 sz:t.place.size=es.size
 dm:t.dummies=#[]
 ri:t.place.toList.Pairwise (· < ·)
 le:∀j∈t.place.toList,j<=t.mask
 few:es.size*5<t.mask*3
 rc:∀(i j:ao) (h:aq) (x:ax),t.place[i]?=aa j->es[i]?=aa (h,x)->∃n,J t.mask h n=j/\∀m,m<n->J t.mask h m∈t.place.toList
section
variable {t:lL} {es:bR (aq×ax)}
theorem Tb.live (T:Tb t es) (h:t.place[i]?=aa j):t.slot j=.live i:=by unfold QB;rw[xb _ _ _ T.ri h];simp[h]
theorem Tb.empty (T:Tb t es) (h:j∉t.place.toList):t.slot j=.empty:=by
 unfold QB;have h1:t.place[cU t.place j]?≠aa j:=fun e=>h (by rw[←qJ] at e;exact qQ e)
 have h2:EZ t.dummies j=av:=by rw[T.dm];rfl
 simp[h1,h2]
theorem Tb.occ (T:Tb t es) (h:j∈t.place.toList):∃i:ao,t.place[i]?=aa j:=by obtain⟨i,hi⟩:=uA.mp h;exact⟨i,by rw[←qJ];exact hi⟩
theorem Tb.fits (T:Tb t es):t.fits es.size=ak:=by have h1:=T.sz;have h2:=T.few;simp only[E1,QC,T.dm,Array.size_empty,fJ,ly,yQ];omega
theorem o9:∀(a b:ac ao),a.Nodup->(∀x∈a,x∈b)->a.length<=b.length
 |[],_,_,_=>g9 _
 |x::r,b,nd,h=>by have hx:=h x qg;have nd':=eJ.mp nd;have:=o9 r (b.erase x) nd'.2 fun y hy=>(List.mem_erase_of_ne (show y≠x from fun e=>nd'.1 (by rw[←e];exact hy))).mpr (h y (qh _ hy));have hl:=List.length_erase_of_mem hx;have hp:0<b.length:=List.length_pos_of_mem hx;rw[qi];omega
theorem Tb.free (T:Tb t es):∃j,j<=t.mask/\decide (j∈t.place.toList)=av:=by
 by_cases hx:∃j,j<=t.mask/\j∉t.place.toList
 .obtain⟨j,h1,h2⟩:=hx;exact⟨j,h1,qO h2⟩
 .exfalso;have all:∀j,j<=t.mask->j∈t.place.toList:=fun j hj=>Classical.byContradiction fun hn=>hx ⟨j,hj,hn⟩;have h1:=o9 (cQ (t.mask+1)) t.place.toList E2 fun j hj=>all j (by have:=eR.mp hj;omega);have h2:=T.sz;have h3:=T.few;simp only[qV,jL] at h1;omega
theorem Tb.first (T:Tb t es) (h:aq):∃n,n<10*(t.mask+15)/\J t.mask h n∉t.place.toList/\∀m,m<n->J t.mask h m∈t.place.toList:=by obtain⟨n,h1,h2,h3⟩:=T.full.first h (fun j=>decide (j∈t.place.toList)) T.free;exact⟨n,h1,QD h2,fun m hm=>fL (h3 m hm)⟩
noncomputable def gW (p:Pr):yR:={j:=p.j,more:=p.more,i:=p.i,perturb:=p.pt,dummy:=af}
theorem Ak (t:lL) (p:Pr):t.advance (gW p)=gW (adv t.mask p):=by
 unfold SetTable.advance adv gW;by_cases h:p.more > 0
 .simp only[h,c7]
 .simp only[h,dc]
theorem Tb.probe_go (T:Tb t es) (hashAt:ao->aq) (h:aq) {n0:ao} (hf:J t.mask h n0∉t.place.toList) (ho:∀m,m<n0->J t.mask h m∈t.place.toList):∀(fuel n:ao),n<=n0->n0<n+fuel->
  (∃n' i,n<=n'/\n'<n0/\t.place[i]?=aa (J t.mask h n')/\hashAt i=h/\(∀m i,n<=m->m<n'->t.place[i]?=aa (J t.mask h m)->hashAt i≠h)/\E3 t hashAt h fuel (gW (it t.mask h n))=aa (.candidate (J t.mask h n') i (gW (it t.mask h (n'+1))))) \/
  ((∀m i,n<=m->m<n0->t.place[i]?=aa (J t.mask h m)->hashAt i≠h)/\E3 t hashAt h fuel (gW (it t.mask h n))=aa (.empty (J t.mask h n0) af))
 |0,n,h1,h2=>by omega
 |fuel+1,n,h1,h2=>by
  unfold E3;by_cases hn:n=n0
  .subst hn
   right
   refine⟨fun m i a b=>by omega,?_⟩;have hs:t.slot (gW (it t.mask h n)).j=.empty:=T.empty hf;rw[hs];rfl
  .obtain⟨i,hi⟩:=T.occ (ho n .(c));have hs:t.slot (gW (it t.mask h n)).j=.live i:=T.live hi;rw[hs];dsimp only;by_cases hh:hashAt i=h
   .left
    refine⟨n,i,qx _,by omega,hi,hh,fun m i a b=>by omega,?_⟩;rw[qX (by simpa using hh),Ak];rfl
   .rw[qY (by simpa using hh),Ak];have inj:∀i',t.place[i']?=aa (J t.mask h n)->i'=i:=fun i' h'=>by rw[←xb _ _ _ T.ri h',←xb _ _ _ T.ri hi]
    have ext:∀{b:ao},(∀m i,n+1<=m->m<b->t.place[i]?=aa (J t.mask h m)->hashAt i≠h)->∀m i,n<=m->m<b->t.place[i]?=aa (J t.mask h m)->hashAt i≠h:=fun {b} q m i' a c d=>by
     by_cases e:m=n
     .subst e;rw[inj i' d];exact hh
     .exact q m i' .(c) c d
    rcases T.probe_go hashAt h hf ho fuel (n+1) .(c) .(c) with⟨n',i',a,b,c,d,e,f⟩|⟨e,f⟩
    .exact .inl ⟨n',i',by omega,b,c,d,ext e,f⟩
    .exact .inr ⟨ext e,f⟩
theorem pJ (xs:bR α) (p:ao) (x:α) (hp:p<=xs.size):(dE xs p x).toList=xs.toList.take p++x::xs.toList.drop p:=by unfold dE;simp[Array.toList_extract,List.extract_eq_take_drop];exact lJ (by simp)
theorem zA (l:ac α) (p:ao) (x:α) (hp:p<=l.length) (i:ao):(l.take p++x::l.drop p)[i]?=if i<p then l[i]? else if i=p then aa x else l[i-1]?:=by
 by_cases h1:i<p
 .rw[qX h1,qA (by rw[qF];omega),yj h1]
 .rw[qY h1,qL (by rw[qF];omega),qF,QE hp];by_cases h2:i=p
  .rw[qX h2,h2];simp
  .rw[qY h2];obtain⟨k,hk⟩:∃k,i-p=k+1:=⟨i-p-1,by omega⟩;rw[hk,qd,QF]
   congr 1
   omega
theorem xB (l:ac α) (p:ao) (x y:α):y∈l.take p++x::l.drop p↔y=x\/y∈l:=by
 rw[eF,qM];constructor
 .rintro(h|h|h)
  .exact .inr (uB h)
  .exact .inl h
  .exact .inr (QG h)
 .rintro(h|h)
  .exact .inr (.inl h)
  .have:y∈l.take p++l.drop p:=by rw[yS];exact h
   rcases eF.mp this with h|h
   .exact .inl h
   .exact .inr (.inr h)
theorem Tb.put (T:Tb t es) {x:ax} (hf:J t.mask h n0∉t.place.toList) (ho:∀m,m<n0->J t.mask h m∈t.place.toList) (few:(es.size+1)*5<t.mask*3) (pl:aT) :
  Tb { (t.put (J t.mask h n0)).1 with plain:=pl} (dE es (t.put (J t.mask h n0)).2 (h,x)):=by
 obtain⟨b0,b1,b2⟩:=wQ t.place (J t.mask h n0) T.ri;have bes:cU t.place (J t.mask h n0)<=es.size:=by rw[←T.sz];exact b0
 have pl1:(dE t.place (cU t.place (J t.mask h n0)) (J t.mask h n0)).toList=t.place.toList.take (cU t.place (J t.mask h n0))++J t.mask h n0::t.place.toList.drop (cU t.place (J t.mask h n0)):=pJ _ _ _ b0;have el1:(dE es (cU t.place (J t.mask h n0)) (h,x)).toList=es.toList.take (cU t.place (J t.mask h n0))++(h,x)::es.toList.drop (cU t.place (J t.mask h n0)):=pJ _ _ _ bes;have szp:(dE t.place (cU t.place (J t.mask h n0)) (J t.mask h n0)).size=t.place.size+1:=by rw[←jL,pl1];simp;omega
 have sze:(dE es (cU t.place (J t.mask h n0)) (h,x)).size=es.size+1:=by rw[←jL,el1];simp;omega
 refine⟨T.full,?_,?_,?_,?_,?_,?_⟩
 .show(dE t.place _ _).size=_;rw[szp];show _=(dE es (cU t.place (J t.mask h n0)) (h,x)).size;rw[sze,T.sz]
 .show(if EZ t.dummies (J t.mask h n0)=ak then _ else t.dummies)=#[];rw[T.dm];rfl
 .show(dE t.place (cU t.place (J t.mask h n0)) (J t.mask h n0)).toList.Pairwise (· < ·);rw[pl1,List.pairwise_append,List.pairwise_cons];have tk:∀a∈t.place.toList.take (cU t.place (J t.mask h n0)),a<J t.mask h n0:=fun a ha=>by
   obtain⟨i,hi⟩:=uA.mp ha;have hi':i<cU t.place (J t.mask h n0):=by have:=(eB.mp hi).1;rw[qF] at this;omega
   rw[yj hi',qJ] at hi;exact b1 i hi' a hi
  have dr:∀a∈t.place.toList.drop (cU t.place (J t.mask h n0)),J t.mask h n0<a:=fun a ha=>by
   obtain⟨i,hi⟩:=uA.mp ha;rw[QF,qJ] at hi;have h1:=b2 _ (yN _ i) a hi;rcases ng (J t.mask h n0) a with q|q
   .exact q
   .exact bJ (by rw[←qJ] at hi;have e:a=J t.mask h n0:=.(c);rw[e] at hi;exact qQ hi) hf
  refine⟨T.ri.sublist (lE _ _),⟨dr,T.ri.sublist (QH _ _)⟩,fun a ha b hb=>?_⟩;rcases cH.mp hb with e|hb
  .rw[e];exact tk a ha
  .exact rj (tk a ha) (dr b hb)
 .intro j hj;have hj':j∈(dE t.place (cU t.place (J t.mask h n0)) (J t.mask h n0)).toList:=hj;rw[pl1,xB] at hj';rcases hj' with e|hj'
  .rw[e];exact xU _ _ _
  .exact T.le j hj'
 .show(dE es (cU t.place (J t.mask h n0)) (h,x)).size*5<t.mask*3;rw[sze];exact few
 .intro i j h' x' e1 e2;have e1':(dE t.place (cU t.place (J t.mask h n0)) (J t.mask h n0)).toList[i]?=aa j:=by rw[qJ];exact e1
  have e2':(dE es (cU t.place (J t.mask h n0)) (h,x)).toList[i]?=aa (h',x'):=by rw[qJ];exact e2
  rw[pl1,zA _ _ _ (by simpa using b0)] at e1';rw[el1,zA _ _ _ (by simpa using bes)] at e2';have up:∀{n:ao},(∀m,m<n->J t.mask h' m∈t.place.toList)->∀m,m<n->J t.mask h' m∈(dE t.place (cU t.place (J t.mask h n0)) (J t.mask h n0)).toList:=fun q m hm=>by rw[pl1,xB];exact .inr (q m hm)
  by_cases c1:i<cU t.place (J t.mask h n0)
  .rw[qX c1] at e1' e2';rw[qJ] at e1' e2';obtain⟨n,hn,q⟩:=T.rc i j h' x' e1' e2';exact⟨n,hn,up q⟩
  .rw[qY c1] at e1' e2';by_cases c2:i=cU t.place (J t.mask h n0)
   .rw[qX c2] at e1' e2';cases e1';cases e2';exact⟨n0,rfl,up ho⟩
   .rw[qY c2] at e1' e2';rw[qJ] at e1' e2';obtain⟨n,hn,q⟩:=T.rc _ j h' x' e1' e2';exact⟨n,hn,up q⟩
end
noncomputable def eV (owner:bR (au ao)) (j:ao):aT:=(owner.getD j (aa 0)).isNone
theorem pi {r:ao} (e:it M h n=mR M (lp M h r)) {k:ao} (hk:k<dD M (lp M h r).1+1-(lp M h r).1):J M h (n+k)=(lp M h r).1+k:=by unfold J;rw[sq,e,sS M k _ (by show k<=dD M (lp M h r).1-(lp M h r).1;omega)];rfl
theorem Mh {r:ao} (e:it M h n=mR M (lp M h r)):it M h (n+(dD M (lp M h r).1+1-(lp M h r).1))=mR M (lp M h (r+1)):=by
 have hge:(lp M h r).1<=dD M (lp M h r).1:=by unfold dD;split<;>omega
 have e2:=sS M (dD M (lp M h r).1-(lp M h r).1) (mR M (lp M h r)) (qx _);rw[show n+(dD M (lp M h r).1+1-(lp M h r).1)=n+(dD M (lp M h r).1-(lp M h r).1)+1 by omega,it,sq,e,e2];unfold adv;rw[qY (by show ¬((dD M (lp M h r).1-(lp M h r).1)-(dD M (lp M h r).1-(lp M h r).1) > 0);omega)];rfl
theorem C0 {M:ao} {h:aq} (owner:bR (au ao)) {rs:ao} (hfr:eV owner (lp M h rs).1=ak):∀(fuel r n:ao),it M h n=mR M (lp M h r)->r<=rs->rs<r+fuel->(∀m,m<n->eV owner (J M h m)=av)->
  ∃n',eV owner (J M h n')=ak/\(∀m,m<n'->eV owner (J M h m)=av)/\rM M owner fuel (lp M h r).1 (lp M h r).2=aa (J M h n')
 |0,r,n,_,h1,h2,_=>by omega
 |fuel+1,r,n,e,h1,h2,h3=>by
  unfold rM;cases hf:(cQ (dD M (lp M h r).1+1-(lp M h r).1)).find? (fun k=>(owner.getD ((lp M h r).1+k) (aa 0)).isNone) with
  |some k=>
   have hk:=eR.mp (E4 hf);have hp:eV owner ((lp M h r).1+k)=ak:=by have:=QI hf;exact this
   refine⟨n+k,by rw[pi e hk];exact hp,fun m hm=>?_,?_⟩
   .rcases ng m n with c|c
    .exact h3 m c
    .obtain⟨d,rfl⟩:∃d,m=n+d:=⟨m-n,by omega⟩;rw[pi e .(c)];obtain⟨as,bs,hab,hno⟩:=(List.find?_eq_some_iff_append.mp hf).2;have hd:d∈as:=by
      have hl:as=cQ k:=by
       have hlen:as.length=k:=by
        have:(cQ (dD M (lp M h r).1+1-(lp M h r).1))[as.length]?=aa k:=by rw[hab];simp
        rw[List.getElem?_range] at this
        .exact qI this
        .have:=cw dU hab;simp at this;omega
       have:=cw (rN k) hab;rw[List.take_range,QE .(c),←hlen,List.take_left'] at this
       .rw[hlen] at this;exact this.symm
       .rfl
      rw[hl];exact eR.mpr .(c)
     have:=hno d hd;exact E5.mpr (fun z=>by rw[show(owner.getD ((lp M h r).1+d) (aa 0)).isNone=ak from z] at this;cases this)
   .rw[pi e hk]
  |none=>
   have hn:∀k,k<dD M (lp M h r).1+1-(lp M h r).1->eV owner (J M h (n+k))=av:=fun k hk=>by rw[pi e hk];have:=uC.mp hf k (eR.mpr hk);exact E5.mpr this
   have hge:(lp M h r).1<=dD M (lp M h r).1:=by unfold dD;split<;>omega
   have hr:r≠rs:=fun z=>by subst z;have:=hn 0 .(c);rw[pi e .(c),Nat.add_zero,hfr] at this;cases this
   exact C0 owner hfr fuel (r+1) _ (Mh e) .(c) .(c) fun m hm=>by
    rcases ng m n with c|c
    .exact h3 m c
    .obtain⟨d,rfl⟩:∃d,m=n+d:=⟨m-n,by omega⟩;exact hn d .(c)
theorem Full.free (F:Full M) (h:aq) (owner:bR (au ao)) (hf:∃j,j<=M/\eV owner j=ak) :
  ∃n,eV owner (J M h n)=ak/\(∀m,m<n->eV owner (J M h m)=av)/\rM M owner (nh M) (fT h%(M+1)) (fT h)=aa (J M h n):=by
 obtain⟨j,hj,hjf⟩:=hf;obtain⟨m,hm,e⟩:=F.reach (wj M h 13) hj;have hl:(lp M h (13+m)).1=j:=by rw[wC,e]
 exact C0 owner (rs:=13+m) (by rw[hl];exact hjf) (nh M) 0 0 rfl (g9 _) (by unfold nh;omega) fun m hm=>bJ hm (EY _)
structure Own (M:ao) (hs:ac aq) (owner:bR (au ao)):Prop where
 sz:owner.size=M+1
 lt:∀(j k:ao),owner[j]?=aa (aa k)->k<hs.length
 on:∀k,k<hs.length->∃j:ao,owner[j]?=aa (aa k)
 inj:∀(j j' k:ao),owner[j]?=aa (aa k)->owner[j']?=aa (aa k)->j=j'
 rc:∀(j k:ao) h,owner[j]?=aa (aa k)->hs[k]?=aa h->∃n,J M h n=j/\∀m,m<n->eV owner (J M h m)=av
theorem o3 :eV owner j=ak↔owner[j]?=aa af:=by
 unfold eV;rw[yP];cases e:owner[j]? with
 |none=>simp
 |some o=>cases o<;>simp
theorem Own.empty (M:ao):Own M [] (QJ (M+1) af):=by
 have no:∀(j k:ao),(QJ (M+1) (af:au ao))[j]?=aa (aa k)->False:=fun j k h=>by rw[Array.getElem?_replicate] at h;split at h<;>cases h
 exact⟨by simp,fun j k h=>(no j k h).elim,fun k h=>bJ h (EY _),fun j _ k h _=>(no j k h).elim,fun j k _ h _=>(no j k h).elim⟩
theorem Own.room (O:Own M hs owner) (hr:hs.length<=M):∃j,j<=M/\eV owner j=ak:=by
 by_cases hx:∃j,j<=M/\eV owner j=ak
 .exact hx
 .exfalso;have all:∀j,j<=M->∃k,owner[j]?=aa (aa k):=fun j hj=>by
   have h1:eV owner j≠ak:=fun z=>hx ⟨j,hj,z⟩;have h2:j<owner.size:=by rw[O.sz];omega
   cases q:owner[j] with
   |none=>exact bJ (o3.mpr (by simp[h2,q])) h1
   |some k=>exact⟨k,by simp[h2,q]⟩
  have pig:=o9 ((cQ (M+1)).map fun j=>((owner[j]?).join).getD 0) (cQ hs.length) ?_ ?_
  .rw[qf,qV,qV] at pig;omega
  .refine QK.mpr (uD.mpr (E6 ?_ E2));intro a b ha hb hab e;obtain⟨k,hk⟩:=all a (by have:=eR.mp ha;omega);obtain⟨k',hk'⟩:=all b (by have:=eR.mp hb;omega);simp only[hk,hk',QL,QM] at e;subst e;exact hab (O.inj a b k hk hk')
  .intro x hx';obtain⟨j,hj,rfl⟩:=bU.mp hx';obtain⟨k,hk⟩:=all j (by have:=eR.mp hj;omega);simp only[hk,QL,QM];exact eR.mpr (O.lt j k hk)
theorem Own.more (O:Own M hs owner) (hf:eV owner (J M h n)=ak) (ho:∀m,m<n->eV owner (J M h m)=av) :
  Own M (hs++[h]) (owner.setIfInBounds (J M h n) (aa hs.length)):=by
 have hlt:J M h n<owner.size:=by rw[O.sz];have:=xU M h n;omega
 have hold:=o3.mp hf;have get:∀j:ao,(owner.setIfInBounds (J M h n) (aa hs.length))[j]?=if j=J M h n then aa (aa hs.length) else owner[j]?:=fun j=>by
  rw[Array.getElem?_setIfInBounds];by_cases e:J M h n=j
  .subst e;simp[hlt]
  .rw[qY e,qY (dM e)]
 have stay:∀{j k:ao},owner[j]?=aa (aa k)->(owner.setIfInBounds (J M h n) (aa hs.length))[j]?=aa (aa k):=fun {j k} q=>by
  rw[get,qY]
  .exact q
  .intro e;rw[e,hold] at q;cases q
 have notfree:∀{j:ao},eV owner j=av->eV (owner.setIfInBounds (J M h n) (aa hs.length)) j=av:=fun {j} q=>by
  refine E5.mpr fun z=>?_;have z':=o3.mp z;rw[get] at z';split at z'
  .cases z'
  .rw[o3.mpr z'] at q;cases q
 refine⟨by simp[O.sz],fun j k q=>?_,fun k hk=>?_,fun j j' k q q'=>?_,fun j k h' q q'=>?_⟩
 .rw[get] at q;rw[qj,oI];split at q
  .cases q;omega
  .have:=O.lt j k q;omega
 .rw[qj,oI] at hk;by_cases e:k=hs.length
  .exact⟨J M h n,by rw[get,qX rfl,e]⟩
  .obtain⟨j,hj⟩:=O.on k .(c);exact⟨j,stay hj⟩
 .rw[get] at q q';split at q
  .rename_i c;cases q;split at q'
   .rename_i c';rw[c,c']
   .have:=O.lt j' _ q';omega
  .split at q'
   .cases q';have:=O.lt j _ q;omega
   .exact O.inj j j' k q q'
 .rw[get] at q;split at q
  .rename_i c;cases q;rw[qL (qx _)] at q';simp at q';subst q';exact⟨n,c.symm,fun m hm=>notfree (ho m hm)⟩
  .have hk:=O.lt j k q;rw[qA hk] at q';obtain⟨n',e,r⟩:=O.rc j k h' q q';exact⟨n',e,fun m hm=>notfree (r m hm)⟩
theorem Full.lays (F:Full M) (hs:bR aq) (hr:hs.size<=M):∃owner,QN M hs=aa owner/\Own M hs.toList owner:=by
 have all:∀(cc done:ac aq) (owner:bR (au ao)),Own M done owner->(done++cc).length<=M->∃owner',Own M (done++cc) owner' /\
   cc.foldl (fun(acc:au (bR (au ao)×ao)) h=>do
    let (owner,k) ←acc
    let j ←rM M owner (nh M) (fT h%(M+1)) (fT h)
    bq (owner.setIfInBounds j (aa k),k+1)) (aa (owner,done.length))=aa (owner',(done++cc).length):=by
  intro cc
  induction cc with
  |nil=>intro done owner O _;exact⟨owner,by rw[gM];exact O,by simp⟩
  |cons h r ih=>
   intro done owner O hl;obtain⟨n,h1,h2,h3⟩:=F.free h owner (O.room (by simp at hl;omega));have O':=O.more h1 h2;obtain⟨owner',O2,e⟩:=ih (done++[h]) _ O' (by simpa using hl);refine⟨owner',by simpa using O2,?_⟩;rw[gw];have e1:(do
    let (owner,k) ←aa (owner,done.length)
    let j ←rM M owner (nh M) (fT h%(M+1)) (fT h)
    bq (owner.setIfInBounds j (aa k),k+1):au (bR (au ao)×ao))=aa (owner.setIfInBounds (J M h n) (aa done.length),done.length+1):=by
    show(rM M owner (nh M) (fT h%(M+1)) (fT h) >>= fun j=>bq (owner.setIfInBounds j (aa done.length),done.length+1))=_;rw[h3];rfl
   rw[e1];rw[qj,oI] at e;rw[e];simp
 obtain⟨owner',O,e⟩:=all hs.toList [] _ (Own.empty M) (by simpa using hr);refine⟨owner',?_,by simpa using O⟩;unfold QN;rw[←Array.foldl_toList];have e':=cw (rE (·.1)) e;exact e'
theorem CT {α β:Type} (f:α->au β):∀(l:ac α),(∀k∈l,∃y,f k=aa y)->∀i:ao,(l.filterMap f)[i]?=(l[i]?).bind f
 |[],_,i=>by simp
 |k::r,h,i=>by
  obtain⟨y,hy⟩:=h k qg;rw[QO hy];cases i with
  |zero=>simp[hy]
  |succ i=>simp only[qd];exact CT f r (fun k hk=>h k (qh _ hk)) i
theorem B' {α β:Type} (f:α->au β):∀(l:ac α),(∀k∈l,∃y,f k=aa y)->(l.filterMap f).length=l.length
 |[],_=>rfl
 |k::r,h=>by obtain⟨y,hy⟩:=h k qg;rw[QO hy,qi,qi,B' f r fun k hk=>h k (qh _ hk)]
noncomputable def eX (M:ao) (owner:bR (au ao)):ac (ao×ao):=(cQ (M+1)).filterMap fun j=>(owner.getD j af).map (j,·)
theorem j0 (hsz:owner.size=M+1) {k:ao} :(j,k)∈eX M owner↔owner[j]?=aa (aa k):=by
 unfold eX;rw[p6];constructor
 .rintro⟨j',hj',e⟩;rw[yP] at e;cases q:owner[j']? with
  |none=>rw[q] at e;cases e
  |some o=>
   rw[q] at e;cases o with
   |none=>cases e
   |some k'=>cases e;exact q
 .intro q;have hj:j<owner.size:=(gN.mp q).1;exact⟨j,eR.mpr .(c),by rw[yP,q];rfl⟩
theorem AX (M:ao) (owner:bR (au ao)):((eX M owner).map (·.1)).Pairwise (· < ·):=by unfold eX;rw[uD];refine Sk _ ?_ (QP (n:=M+1));intro a a' haa b hb b' hb';obtain⟨k,_,rfl⟩:=oMd hb;obtain⟨k',_,rfl⟩:=oMd hb';exact haa
theorem N9 (O:Own M hs owner):((eX M owner).map (·.2)).Nodup:=by have h1:=uD.mp (AX M owner);refine QK.mpr (uD.mpr (E6 ?_ h1));rintro⟨j,k⟩ ⟨j',k'⟩ ha hb hlt e;have e':k=k':=e;subst e';have:=O.inj j j' k ((j0 O.sz).mp ha) ((j0 O.sz).mp hb);have hlt':j<j':=hlt;omega
theorem O6 (O:Own M hs owner):(eX M owner).length=hs.length:=by
 have h1:=o9 ((eX M owner).map (·.2)) (cQ hs.length) (N9 O) fun k hk=>by obtain⟨⟨j,k'⟩,hm,rfl⟩:=bU.mp hk;exact eR.mpr (O.lt j k' ((j0 O.sz).mp hm))
 have h2:=o9 (cQ hs.length) ((eX M owner).map (·.2)) E2 fun k hk=>by obtain⟨j,hj⟩:=O.on k (eR.mp hk);exact bU.mpr ⟨(j,k),(j0 O.sz).mpr hj,rfl⟩
 rw[qf,qV] at h1 h2;omega
theorem Full.relaid {t:lL} {es:bR (aq×ax)} {wanted:ao} (F:Full (oO wanted-1)) (few:es.size*5<(oO wanted-1)*3) :
  ∃t' order,t.relaid (es.map (·.1)) wanted=aa (t',order)/\(order.filterMap (es[·]?)).size=es.size/\Tb t' (order.filterMap (es[·]?))/\(∀e,e∈(order.filterMap (es[·]?)).toList↔e∈es.toList)/\t'.mask=oO wanted-1/\t'.led=t.led:=by
 generalize hM:oO wanted-1=M at F few;obtain⟨owner,hl,O⟩:=F.lays (es.map (·.1)) (by simp;omega);have hlen:(es.map (·.1)).toList.length=es.size:=by simp
 have llen:(eX M owner).length=es.size:=by rw[O6 O,hlen]
 refine⟨{mask:=M,place:=((eX M owner).map (·.1)).toArray,dummies:=#[],finger:=t.finger,led:=t.led,moves:=t.movedTo M,plain:=t.plain},((eX M owner).map (·.2)).toArray,?_,?_⟩
 .unfold SetTable.relaid;rw[hM];unfold SetTable.laid;rw[hl];rfl
 .have hall:∀k∈(eX M owner).map (·.2),∃y,es[k]?=aa y:=fun k hk=>by obtain⟨⟨j,k'⟩,hm,rfl⟩:=bU.mp hk;have:=O.lt j k' ((j0 O.sz).mp hm);rw[hlen] at this;exact⟨es[k'],by simp[this]⟩
  have etl:(QQ (fun x=>es[x]?) ((eX M owner).map (·.2)).toArray).toList=((eX M owner).map (·.2)).filterMap (fun x=>es[x]?):=by simp
  have esz:(QQ (fun x=>es[x]?) ((eX M owner).map (·.2)).toArray).size=es.size:=by rw[←jL,etl,B' _ _ hall,qf,llen]
  refine⟨esz,⟨F,?_,rfl,?_,?_,?_,?_⟩,fun e=>?_,rfl,rfl⟩
  .rw[esz];simp[llen]
  .show((eX M owner).map (·.1)).toArray.toList.Pairwise (· < ·);exact AX M owner
  .intro j hj;have hj':j∈(eX M owner).map (·.1):=hj;obtain⟨⟨j',k⟩,hm,rfl⟩:=bU.mp hj';have:=(gN.mp ((j0 O.sz).mp hm)).1;rw[O.sz] at this;show j'<=M;omega
  .rw[esz];exact few
  .intro i j h x e1 e2;have e1':((eX M owner).map (·.1))[i]?=aa j:=by simpa using e1
   rw[←qJ,etl,CT _ _ hall,qk] at e2;rw[qk] at e1';obtain⟨⟨j',k⟩,hm,rfl⟩:=oMd e1';rw[hm] at e2;have e2':es[k]?=aa (h,x):=e2;have ho:=(j0 O.sz).mp (qQ hm);obtain⟨n,hn,q⟩:=O.rc j' k h ho (by simp[e2']);refine⟨n,hn,fun m hm'=>?_⟩;have hnf:=q m hm';have hle:=xU M h m;have hlt:J M h m<owner.size:=by rw[O.sz];omega
   cases c:owner[J M h m] with
   |none=>
    rw[o3.mpr (by simp[hlt,c])] at hnf;cases hnf
   |some k'=>
    show J M h m∈(eX M owner).map (·.1);exact bU.mpr ⟨(J M h m,k'),(j0 O.sz).mpr (by simp[hlt,c]),rfl⟩
  .rw[etl,p6];constructor
   .rintro⟨k,_,hk⟩;rw[←qJ] at hk;exact qQ hk
   .intro he;obtain⟨k,hk⟩:=uA.mp he;rw[qJ] at hk;have hlt:=(gN.mp hk).1;obtain⟨j,hj⟩:=O.on k (by rw[hlen];exact hlt);exact⟨k,bU.mpr ⟨(j,k),(j0 O.sz).mpr hj,rfl⟩,hk⟩
noncomputable def Mk (M:ao):Prop:=M=7\/M=31\/M=127\/M=511
theorem Mk.full (h:Mk M):Full M:=by
 rcases h with h|h|h|h<;>subst h
 .exact AC
 .exact MF
 .exact Gj
 .exact Ha
theorem Mk.grow (h:Mk M) (h1:n*5<M*3) (h2:¬(n+1)*5<M*3) (hn:n<=300):Mk (oO (yT (n+1))-1)/\(n+1)*5<(oO (yT (n+1))-1)*3/\oO (yT (n+1))<=512:=by
 rcases h with h|h|h|h<;>subst h
 .have:n=4:=by omega
  subst this;exact⟨.inr (.inl .(e)),by decide,by decide⟩
 .have:n=18:=by omega
  subst this;exact⟨.inr (.inr (.inl .(e))),by decide,by decide⟩
 .have:n=76:=by omega
  subst this;exact⟨.inr (.inr (.inr .(e))),by decide,by decide⟩
 .omega
section
variable {R:lz->aI->Prop} {G:bR pZ->bR pZ->Prop} {P:ao->ax->Prop} {St:ao->aI->Prop}
noncomputable def CU (prog:eE) (w:df) (A:dB) (S:aw) (Ba:Heap->Prop) (P:ao->ax->Prop) (n:ao) (J:ao->Obj->Prop):Prop:=
 ∀(i:ao) (v:ax) (s:aI) (o:Obj) (Q:aT->aI->Prop) (E:ax->aI->Prop),i<n->P i v->s.heap.get? S=aa o->J i o->Ba s.heap->
  (∀b h' tk o',s.toks<=tk->iw S s.heap h'->h'.get? S=aa o'->J (i+1) o'->Q b {s with heap:=h',toks:=tk})->aF (aO prog w) A (uE S v) Q E s
theorem GF (W:WalksS prog w A.in1 I fp wr G n P St) (S:aw) (hSf:S∉fp) (Ba:Heap->Prop) (hBa:∀h h',Ba h->(∀b o,b∉S::wr->h.get? b=aa o->h'.get? b=aa o)->Ba h') (J:ao->Obj->Prop) (hadd:CU prog w A.in1 S Ba P n J) :
  ∀(k i:ao) (s:aI) (o:Obj),n-i=k->i<=n->St i s->s.heap.get? S=aa o->J i o->Ba s.heap->
   (∀s' o',Moved (S::wr) G s s'->s'.heap.get? S=aa o'->J n o'->R (.ok (.ret .none)) s')->
   gL (aO prog w) A (.builtin "set.update.loop" ⟨[.ref S,.ref I],[]⟩) R s:=by
 have hSw:S∉wr:=fun h=>hSf (W.sub _ h);have hsub:∀b∈wr,b∈S::wr:=fun b hb=>qh _ hb;intro k
 induction k with
 |zero=>
  intro i s o hk hi hst hS hJ hB hR;have hin:i=n:=by omega
  subst hin;refine lM QR ?_;rw[ni E7 _];show aF _ A.in1 (g8 (.ref I) >>= _) _ _ s;refine qy (W.done s _ _ hst fun s' hm=>?_);show aF _ A.in1 (ret lq) _ _ s';exact qB (hR s' o (hm.mono hsub) (hm.heap S _ hSw hS) hJ)
 |succ k ih=>
  intro i s o hk hi hst hS hJ hB hR;have hlt:i<n:=by omega
  refine lM QR ?_;rw[ni E7 _];show aF _ A.in1 (g8 (.ref I) >>= _) _ _ s;refine qy (W.item i s _ _ hlt hst fun v s' hP hst' hm=>?_);show aF _ A.in1 (iz [v] (uE S v) >>= _) _ _ s';refine qy (qU ?_);refine hadd i v s' o _ _ hlt hP (hm.heap S _ hSw hS) hJ (hBa _ _ hB fun b o hb e=>hm.heap b o (fun z=>hb (hsub b z)) e) fun b h' tk o' htk hsb hS' hJ'=>?_;refine qB ⟨nj E7 _,ih (i+1) _ o' .(c) hlt (W.frame _ s' _ _ hst' htk fun b hb o e=>?_) hS' hJ' ?_ fun s'' o'' hm'' hS'' hJ''=>?_⟩
  .rw[hsb.2 b (fun h:b=S=>hSf (by rw[←h];exact hb))];exact e
  .refine hBa _ _ (hBa _ _ hB fun b o hb e=>hm.heap b o (fun z=>hb (hsub b z)) e) fun b o hb e=>?_;show h'.get? b=aa o;rw[hsb.2 b (fun h:b=S=>hb (by rw[h];exact qg))];exact e
  .refine hR s'' o'' (QS W.gtrans ((hm.mono hsub).then_heap htk fun b o hb e=>?_) hm'') hS'' hJ'';rw[hsb.2 b (fun h:b=S=>hb (by rw[h];exact qg))];exact e
end
set_option maxRecDepth 100000 in
set_option maxHeartbeats 3200000 in
theorem Br (hh:A.handled=af) (hl:s.heap.IsList l items) (J:ao->Obj->Prop)
  (hJ0:∀led:aT,J 0 {cls:=.type "set",dict:=af,data:=.set #[] 0 (.fresh 0 0 led)})
  (hadd:∀A':dB,A'.units<=A.units+16->CU prog w A' s.heap.objs.size (fun h=>∀b o,b<s.heap.objs.size->s.heap.get? b=aa o->h.get? b=aa o) (fun i v=>items[i]?=aa v) items.size J)
  (h:∀(h':Heap) (tk:ao) (o:Obj),h'.get? s.heap.objs.size=aa o->J items.size o->
   (∀b o,b<s.heap.objs.size->s.heap.get? b=aa o->h'.get? b=aa o)->Q (.ref s.heap.objs.size) {s with heap:=h',toks:=tk}) :
  aF (aO prog w) A (call (.type "set") [.ref l]) Q E s:=by
 obtain⟨c,tl,hmro⟩:=nk.mro;have hmade:=nk.made;have hsub:=nk.sub;refine yh (codeAny_of_tree ?_);show aF _ _ (callAny (.type "set") _) _ _ _;refine qB ⟨Code.quiet_builtin _ (by decide +kernel),lM F.entry_type_call ?_⟩;rw[Around.under_plain (weight_type_call_type "set" [.ref l] []) rfl];have h1:=nk.notType;have h2:=nk.canCreate;have hct:=F.typeCall_set_1 (.ref l)
 repeat (any_goals (first|assumption|wp_step))
 refine rf (code_set_new_1 (.ref l) (E:=E) (Q₁:=fun obj s₁=>∃led:aT,obj=.ref s.heap.objs.size/\s₁={s with heap:=s.heap.push {cls:=.type "set",dict:=af,data:=.set #[] 0 (.fresh 0 0 led)} }) fun led=>⟨led,rfl,rfl⟩) fun r s₁ hr=>?_;cases r with
 |error e=>exact hr
 |ok fl=>
  cases fl with
  |ret obj=>
   obtain⟨led,rfl,rfl⟩:=hr;have hS:(s.heap.push {cls:=.type "set",dict:=af,data:=.set #[] 0 (.fresh 0 0 led)}).get? s.heap.objs.size=aa {cls:=.type "set",dict:=af,data:=.set #[] 0 (.fresh 0 0 led)}:=qH _ rfl;have hT:yU {s with heap:=s.heap.push {cls:=.type "set",dict:=af,data:=.set #[] 0 (.fresh 0 0 led)} } (.ref s.heap.objs.size) "set":=⟨_,hS,rfl⟩;have hli:=nk.init.lookup;have hbi:=nk.init.bind (.ref s.heap.objs.size)
   repeat (any_goals (first|assumption|wp_step))
   refine rf (QT (R:=wants (fun r s₂=>r=.none/\∃h' tk o,s₂={s with heap:=h',toks:=tk}/\h'.get? s.heap.objs.size=aa o/\J items.size o /\
     (∀b o,b<s.heap.objs.size->s.heap.get? b=aa o->h'.get? b=aa o)) E) nk.init.plain F.entry_set_init (check_set_init_1 hT ?_)) fun r₂ s₂ hr₂=>?_
   .obtain⟨ol,hol,hcl,nl,hdl⟩:=hl;obtain⟨ocls,odict,odata,oslots⟩:=ol;simp only at hcl hdl;subst hcl;subst hdl;have hol':(s.heap.push {cls:=.type "set",dict:=af,data:=.set #[] 0 (.fresh 0 0 led)}).get? l=aa {cls:=.type "list",dict:=odict,data:=.seq items nl,slots:=oslots}:=qv _ hol;have hsls:=F.sub_list_set;have hslf:=F.sub_list_frozenset;have hne:(lu "list"==lu "dict")=av:=by decide
    have hl1:(s.heap.push {cls:=.type "set",dict:=af,data:=.set #[] 0 (.fresh 0 0 led)}).IsList l items:=⟨_,hol',rfl,nl,rfl⟩;unfold Builtin.«set.__init__» noKeywords Sl;generalize hPI:oz=PI
    wp_walk
    subst hPI;refine rG hl1 ?_;refine qy (wpAny_runValue ?_);have hlS:l<s.heap.objs.size:=qw hol;have hh3:A.in1.in1.in1.handled=af:=by simp[hh]
    have hneI:l≠(s.heap.push {cls:=.type "set",dict:=af,data:=.set #[] 0 (.fresh 0 0 led)}).objs.size:=by rw[mY];exact qD (yV hlS)
    have hSf:s.heap.objs.size∉[(s.heap.push {cls:=.type "set",dict:=af,data:=.set #[] 0 (.fresh 0 0 led)}).objs.size,l]:=by rw[mY];simp only[qM,bN,qK,or_false,rO];exact⟨qD (uu _),yb hlS⟩
    have hget:((s.heap.push {cls:=.type "set",dict:=af,data:=.set #[] 0 (.fresh 0 0 led)}).push {cls:=.type "list_iterator",data:=.fields #[.ref l,.int 0 0]}).get? s.heap.objs.size
       = aa {cls:=.type "set",dict:=af,data:=.set #[] 0 (.fresh 0 0 led)}:=qv _ hS
    refine GF ((yJ hh3 _ l hneI items).toS) s.heap.objs.size
     hSf (fun h=>∀b o,b<s.heap.objs.size->s.heap.get? b=aa o->h.get? b=aa o) (fun h h' hB hk b o hb e=>hk b o ?_ (hB b o hb e)) J (hadd _ (by show A.units+3<=_;omega)) (items.size-0) 0 _ _ .(c) (g9 _)
     ⟨⟨_,qH _ rfl,rfl,rfl⟩,(hl1.push _)⟩ hget (hJ0 led) (fun b o hb e=>qv _ (qv _ e)) ?hR
    .have hb1:b≠s.heap.objs.size:=qD hb;have hb2:b≠(s.heap.push {cls:=.type "set",dict:=af,data:=.set #[] 0 (.fresh 0 0 led)}).objs.size:=by rw[mY];exact qD (yV hb)
     simp only[qM,bN,qK,or_false,rO];exact⟨hb1,hb2⟩
    case hR=>
     intro s' o' hm hS' hJ';obtain⟨h',g',d',tk',os'⟩:=s';have eg:g'=s.gens:=hm.gens;have ed:d'=s.drawn:=hm.drawn;have eo:os'=s.os:=hm.os;subst eg;subst ed;subst eo;show aF _ _ _ _ _ _;refine qB ?_;show aF _ _ (ret lq) _ _ _;refine qB ⟨rfl,h',tk',o',rfl,hS',hJ',fun b o hb e=>?_⟩;have hb1:b≠s.heap.objs.size:=qD hb;have hb2:b≠(s.heap.push {cls:=.type "set",dict:=af,data:=.set #[] 0 (.fresh 0 0 led)}).objs.size:=by rw[mY];exact qD (yV hb)
     exact hm.heap b o (by simp only[qM,bN,qK,or_false,rO];exact⟨hb1,hb2⟩) (qv _ (qv _ e))
   .cases r₂ with
    |error e=>exact hr₂
    |ok fl₂ =>
     cases fl₂ with
     |ret r=>
      obtain⟨rfl,h',tk,o',rfl,hS',hJ',hk'⟩:=hr₂
      repeat (any_goals (first|assumption|wp_step))
      exact h _ _ _ hS' hJ' hk'
     |_=>exact hr₂.elim
  |_=>exact hr.elim
noncomputable def dd [eN κ] (l:ac κ):ac κ:=l.foldl (fun a k=>if k∈a then a else a++[k]) []
theorem wy [eN κ] (l:ac κ) (k:κ):dd (l++[k])=if k∈dd l then dd l else dd l++[k]:=by unfold dd;rw[uF];rfl
theorem pK [eN κ] (l:ac κ):(dd l).length<=l.length:=by
 have key:∀(l a:ac κ),(l.foldl (fun a k=>if k∈a then a else a++[k]) a).length<=a.length+l.length:=by
  intro l
  induction l with
  |nil=>intro a;exact qx _
  |cons k r ih=>
   intro a;rw[gw];refine qN (ih _) ?_;split
   .simp only[qi];omega
   .simp only[qj,qi,qm];omega
 have:=key l [];simpa[dd] using this
section
variable [eN κ] {knd:KeyKind prog w κ}
theorem J6 {ks:ac κ} {Q:aT->aI->Prop} (hk:IsTupleKey knd s.heap ks a) (hsc:∀v k,knd.is k v=ak->v.scannable=ak) (h:∀b,Q b s):aF (aO prog w) A (hashByValue 8 (.ref a)) Q E s:=by
 have hT:=hk.typeIs;obtain⟨o,items,n,ho,_,hd,hi⟩:=hk;unfold hashByValue;refine qy (EL hT F.slot_tuple_hash.lookup ?_);refine qy (oP ho hd ?_);refine qy ?_;show aF _ _ (uz items _ _) _ _ s;rw[←QU];have hall:∀v∈items.toList,v.scannable=ak:=by
  have:∀{x:ac κ} {vs:ac ax},ItemsAre knd x vs->∀v∈vs,v.scannable=ak:=by
   intro x vs q
   induction q with
   |nil=>intro v hv;cases hv
   |cons h1 _ ih=>
    intro v hv;rcases cH.mp hv with rfl|hv
    .exact hsc _ _ h1
    .exact ih v hv
  exact this hi
 refine E8 _ (fun cc r s'=>s'=s/\∀v∈cc,v.scannable=ak) _ ?_ ?_ _ _ ⟨rfl,hall⟩
 .rintro v cc r s' ⟨rfl,hv⟩;rw[hashByValue_scannable _ (hv v qg)];refine qy (qB ?_);cases hp:plainKind v with
  |true=>
   simp only[iE,qt,dc];exact qB ⟨rfl,fun u hu'=>hv u (qh _ hu')⟩
  |false=>
   simp only[oQ,c7]
   first|exact qB (qB (h _))|exact qB (h _)|exact qy (qB (qB (qB (h _))))
 .rintro⟨r1,r2⟩ s' ⟨rfl,_⟩
  first|exact qB (h _)|(cases r1<;>exact qB (h _))
theorem AS {ks:ac κ} {Q:aT->aI->Prop} (hk:IsTupleKey knd s.heap ks a) (h:Q av s):aF (aO prog w) A (E9 8 (.ref a)) Q E s:=by
 have hT:=hk.typeIs;obtain⟨o,items,n,ho,_,hd,hi⟩:=hk;unfold E9;refine qy (uy hT ?_);dsimp only;rw[qX .(e)];refine qy (qB ?_);simp only[iE,qt,dc];refine qy (oP ho hd ?_);refine qy ?_;show aF _ _ (uz items _ _) _ _ s;rw[←QU];refine E8 _ (fun cc r s'=>r.1=af/\s'=s/\∀v∈cc,QV v=ak) _ ?_ ?_ _ _ ⟨rfl,rfl,hi.byValue⟩
 .rintro v cc r s' ⟨hr,rfl,hv⟩;have e:E9 7 v=bq av:=by
   have:=hv v qg;cases v with
   |ref b=>simp[QV] at this
   |_=>rfl
  rw[e];refine qy (qB ?_);simp only[qt,dc];exact qB ⟨rfl,rfl,fun u hu'=>hv u (qh _ hu')⟩
 .rintro⟨r1,r2⟩ s' ⟨hr,rfl,_⟩;simp only at hr;subst hr;exact qB h
theorem Po {ks:ac κ} {Q:aT->aI->Prop} (hk:IsTupleKey knd s.heap ks a) (st:ac ax) (hst:∀y∈st,∃k b,y=.ref b/\IsTupleKey knd s.heap k b) (h:Q av s):aF (aO prog w) A (QW (.ref a) st) Q E s:=by
 unfold QW;refine qy ?_;refine E8 _ (fun cc r s'=>r.1=af/\s'=s/\∀y∈cc,∃k b,y=.ref b/\IsTupleKey knd s.heap k b) _ ?_ ?_ _ _ ⟨rfl,rfl,hst⟩
 .rintro v cc r s' ⟨hr,rfl,hv⟩;obtain⟨k,b,rfl,hb⟩:=hv v qg;dsimp only;split
  .exact qB ⟨rfl,rfl,fun u hu'=>hv u (qh _ hu')⟩
  .refine qy (QX hk ?_);simp only[iE,qt,dc];refine qy (QX hb ?_);simp only[iE,qt,dc];refine qy (AS hk ?_);simp only[qt,dc];refine qy (AS hb ?_);simp only[qt,dc];exact qB ⟨rfl,rfl,fun u hu'=>hv u (qh _ hu')⟩
 .rintro⟨r1,r2⟩ s' ⟨hr,rfl,_⟩;simp only at hr;subst hr;exact qB h
end
theorem zR {t:lL} {es:bR (aq×ax)} (T:Tb t es) {p:yR} {r:au SetTable.Met} (hp:t.probe hashAt h p=r) (hpp:p=gW (it t.mask h n)) (hn:n<=n0) (hn0:n0<10*(t.mask+15))
  (hf:J t.mask h n0∉t.place.toList) (ho:∀m,m<n0->J t.mask h m∈t.place.toList) :
  (∃n' i,n<=n'/\n'<n0/\t.place[i]?=aa (J t.mask h n')/\hashAt i=h/\(∀m i,n<=m->m<n'->t.place[i]?=aa (J t.mask h m)->hashAt i≠h)/\r=aa (.candidate (J t.mask h n') i (gW (it t.mask h (n'+1))))) \/
  ((∀m i,n<=m->m<n0->t.place[i]?=aa (J t.mask h m)->hashAt i≠h)/\r=aa (.empty (J t.mask h n0) af)):=by
 subst hpp;subst hp;unfold SetTable.probe;exact T.probe_go hashAt h hf ho (10*nh t.mask) n hn (by unfold nh;omega)
theorem FV {t:lL} {es:bR (aq×ax)} (T:Tb t es) {p:yR} (hp:∀met,t.probe hashAt h p=aa met->False) (hpp:p=gW (it t.mask h n)) (hn:n<=n0) (hn0:n0<10*(t.mask+15))
  (hf:J t.mask h n0∉t.place.toList) (ho:∀m,m<n0->J t.mask h m∈t.place.toList):False:=by
 rcases zR T (r:=t.probe hashAt h p) rfl hpp hn hn0 hf ho with⟨n',i,_,_,_,_,_,g6⟩|⟨_,g2⟩
 .exact hp _ g6
 .exact hp _ g2
section
variable [eN κ] {knd:KeyKind prog w κ}
noncomputable def oX (knd:KeyKind prog w κ) (h:Heap) (es:bR (aq×ax)):Prop:=∀(i:ao) e,es[i]?=aa e->∃k b,e=(bF knd k,.ref b)/\IsTupleKey knd h k b
theorem Mk.odd (h:Mk M):(M%2==0)=av:=by rcases h with rfl|rfl|rfl|rfl<;>rfl
theorem Hm {S:aw} {es:bR (aq×ax)} {t:lL} {k:ac κ} {Q:SetFound->aI->Prop} (hu:A.units<cB) (ho:s.heap.get? S=aa o) (hd:o.data=.set es ep t) (T:Tb t es) (hM:Mk t.mask)
  (hk:IsTupleKey knd s.heap k a) (he:oX knd s.heap es) (hf:J t.mask (bF knd k) n0∉t.place.toList) (hocc:∀m,m<n0->J t.mask (bF knd k) m∈t.place.toList) (hn0:n0<10*(t.mask+15))
  (hyes:∀(i:ao) (b:aw),es[i]?=aa (bF knd k,.ref b)->IsTupleKey knd s.heap k b->Q (.there af) s)
  (hno:(∀(i:ao) (b:aw),es[i]?=aa (bF knd k,.ref b)->¬IsTupleKey knd s.heap k b)->Q (.free (J t.mask (bF knd k) n0) av) s) :
  ∀(fuel n:ao) (stand:au yR),n0-n<fuel->n<=n0->(stand.getD (t.probeStart (bF knd k))=gW (it t.mask (bF knd k) n))->
   (∀(m i:ao) (b:aw),m<n->t.place[i]?=aa (J t.mask (bF knd k) m)->es[i]?=aa (bF knd k,.ref b)->¬IsTupleKey knd s.heap k b)->
   aF (aO prog w) A (yW S (.ref a) (bF knd k) ak fuel stand) Q E s:=by
 intro fuel
 induction fuel with
 |zero=>intro n stand h1;omega
 |succ fuel ih=>
  intro n stand h1 h2 hs hw;unfold yW;refine qy (uG ho hd T.fits ?_);dsimp only;have hg:t.gaveWay=av:=hM.odd;rw[hg];simp only[qt,dc];split
  .rename_i met hp;rcases zR T hp hs h2 hn0 hf hocc with⟨n',i,g1,g2,g3,g4,g5,g6⟩|⟨g1,g2⟩
   .cases g6;have hi:i<es.size:=by have:=(gN.mp g3).1;rw[T.sz] at this;exact this
    have hei:es[i]?=aa es[i]:=by simp[hi]
    obtain⟨k',b,e1,hb⟩:=he i _ hei;rw[e1] at hei;have hh:bF knd k'=bF knd k:=by have g4':((es[i]?).map (·.1)).getD 0=bF knd k:=g4;rw[hei] at g4';exact g4'
    rw[hh] at hei;have cc:aF (aO prog w) A (do
      let aa (_,y):=es[i]? | unsupported "internal:set-entry"
      let equal ←iz [y] (eqBool y (.ref a))
      let (es',_,t') ←setState S
      if ak && equal then return .there af
      let aa same:=t'.sameMemory t.moves t.mask|unsupported "set.changed-during-lookup:is-the-new-block-at-the-old-address"
      let still ←match (if same then t'.slot (J t.mask (bF knd k) n') else .empty) with
       |.live i'=>match es'[i']? with
        |some (_,y')=>do bq (if ←isSame y' y then aa i' else af)
        |none=>bq af
       |_=>bq af
      match still with
      |none=>rule "set.search.anew";yW S (.ref a) (bF knd k) ak fuel af
      |some i'=>if equal then return .there (aa i') else yW S (.ref a) (bF knd k) ak fuel (aa (gW (it t.mask (bF knd k) (n'+1))))) Q E s:=by
     rw[hei];dsimp only;refine qy (qU (wpAny_eqBool_tuple hu hb hk ?_));refine qy (uG ho hd T.fits ?_);dsimp only;by_cases hkk:k'=k
     .subst hkk;rw[qT rfl];simp only[uH,c7];exact qB (hyes i b hei hb)
     .rw[qO hkk];simp only[uH,qt,dc];have hsm:t.sameMemory t.moves t.mask=aa ak:=by unfold SetTable.sameMemory;simp
      rw[hsm];dsimp only;simp only[c7];rw[T.live g3];dsimp only;rw[hei];dsimp only;refine qy (wpAny_isSame_ref_self ?_);simp only[c7];refine qy (qB ?_);dsimp only;refine ih (n'+1) _ .(c) .(c) rfl ?_;intro m i2 b2 hm hp2 he2;by_cases h3:m<n
      .exact hw m i2 b2 h3 hp2 he2
      .by_cases h4:m=n'
       .subst h4;have ei:i2=i:=by have q1:=T.live hp2;have q2:=T.live g3;rw[q1] at q2;injection q2
        subst ei;rw[hei] at he2;cases he2;exact fun z=>hkk (hb.inj z)
       .exfalso;refine g5 m i2 .(c) .(c) hp2 ?_;show((es[i2]?).map (·.1)).getD 0=_;rw[he2];rfl
    cases hled:t.led with
    |true=>
     simp only[iE,qt,dc];exact cc
    |false=>
     simp only[oQ,c7];refine qy (Po hk _ (fun y hy=>?_) ?_)
     .obtain⟨e,he1,rfl⟩:=bU.mp hy;have he2:e∈es.toList:=by have:=Em.mp he1;rw[Array.mem_filter] at this;exact Em.mpr this.1
      obtain⟨j,hj,ej⟩:=yH.mp he2;obtain⟨k2,b2,q1,q2⟩:=he j e (by rw[←qJ,qE hj,ej]);exact⟨k2,b2,by rw[q1],q2⟩
     .simp only[qt,dc];exact cc
   .cases g2;dsimp only;refine qB (hno fun i b hei hb=>?_);have hi:i<es.size:=(gN.mp hei).1;have hpi:t.place[i]?=aa t.place[i]! := by
     have:i<t.place.size:=by rw[T.sz];exact hi
     simp[this]
    obtain⟨m,q1,q2⟩:=T.rc i _ _ _ hpi hei;have hmem:J t.mask (bF knd k) m∈t.place.toList:=by rw[q1];rw[←qJ] at hpi;exact qQ hpi
    have hm:m<n0:=by
     rcases QA m n0 with z|z|z
     .exact z
     .subst z;exact bJ hmem hf
     .exact bJ (q2 n0 z) hf
    by_cases h3:m<n
    .exact hw m i b h3 (by rw[q1];exact hpi) hei hb
    .refine g1 m i .(c) hm (by rw[q1];exact hpi) ?_;show((es[i]?).map (·.1)).getD 0=_;rw[hei];rfl
  .rename_i hp;exact(FV T hp hs h2 hn0 hf hocc).elim
structure TS (knd:KeyKind prog w κ) (h:Heap) (ks:ac (ac κ)) (o:Obj):Prop where
 cls:o.ExactSet
 ex:∃es ep t,o.data=.set es ep t/\Tb t es/\Mk t.mask/\oX knd h es/\es.size=(dd ks).length/\(∀k∈dd ks,∃(i:ao) (b:aw),es[i]?=aa (bF knd k,.ref b)/\IsTupleKey knd h k b)/\∀(i:ao) (k:ac κ) (b:aw),es[i]?=aa (bF knd k,.ref b)->IsTupleKey knd h k b->k∈dd ks
theorem IsTupleKey.mono {h:Heap} {k:ac κ} (x:IsTupleKey knd h k a) (q:∀o,h.get? a=aa o->h'.get? a=aa o):IsTupleKey knd h' k a:=by obtain⟨o,items,n,h1,h2⟩:=x;exact⟨o,items,n,q o h1,h2⟩
theorem mx {es:bR (aq×ax)} {e:aq×ax} :e∈es.toList↔∃i:ao,es[i]?=aa e:=by
 constructor
 .intro h;obtain⟨i,hi,q⟩:=yH.mp h;exact⟨i,by rw[←qJ,qE hi,q]⟩
 .rintro⟨i,h⟩;rw[←qJ] at h;exact qQ h
theorem Ic {ks:ac (ac κ)} {k:ac κ} {es:bR (aq×ax)} (hk:IsTupleKey knd h0 k a) (hE:oX knd h0 es) (hsz:es.size=(dd ks).length) (hin:∀k∈dd ks,∃(i:ao) (b:aw),es[i]?=aa (bF knd k,.ref b)/\IsTupleKey knd h0 k b)
  (hout:∀(i:ao) (k:ac κ) (b:aw),es[i]?=aa (bF knd k,.ref b)->IsTupleKey knd h0 k b->k∈dd ks) (hnew:k∉dd ks) (mem:∀e,e∈es'.toList↔e=(bF knd k,.ref a)\/e∈es.toList) (size:es'.size=es.size+1) :
  oX knd h0 es'/\es'.size=(dd (ks++[k])).length/\(∀k'∈dd (ks++[k]),∃(i:ao) (b:aw),es'[i]?=aa (bF knd k',.ref b)/\IsTupleKey knd h0 k' b)/\∀(i:ao) (k':ac κ) (b:aw),es'[i]?=aa (bF knd k',.ref b)->IsTupleKey knd h0 k' b->k'∈dd (ks++[k]):=by
 rw[wy,qY hnew];refine⟨fun i e he=>?_,by rw[size,hsz,qj,oI],fun k' hk'=>?_,fun i k' b he hb=>?_⟩
 .rcases(mem e).mp (mx.mpr ⟨i,he⟩) with rfl|q
  .exact⟨k,a,rfl,hk⟩
  .obtain⟨j,q⟩:=mx.mp q;exact hE j e q
 .rcases eF.mp hk' with q|q
  .obtain⟨i,b,q1,q2⟩:=hin k' q;obtain⟨j,q3⟩:=mx.mp ((mem _).mpr (.inr (mx.mpr ⟨i,q1⟩)));exact⟨j,b,q3,q2⟩
  .rw[bN.mp q];obtain⟨j,q3⟩:=mx.mp ((mem _).mpr (.inl rfl));exact⟨j,a,q3,hk⟩
 .rcases(mem _).mp (mx.mpr ⟨i,he⟩) with q|q
  .have e:b=a:=by have:=(QY q).2;injection this
   subst e;exact eF.mpr (.inr (bN.mpr (hb.inj hk)))
  .obtain⟨j,q⟩:=mx.mp q;exact eF.mpr (.inl (hout j k' b q hb))
theorem BN {h:Heap} {S:aw} {es:bR (aq×ax)} {t t':lL} (ho:h.get? S=aa o) (hd:o.data=.set es ep t):(h.update S (Fa es' t')).get? S=aa {o with data:=.set es' (ep+1) t'}:=by
 have q:=yX (Fa es' t') ho (by rw[putSet_of es' t' hd];rfl)
 rwa [putSet_of es' t' hd] at q
set_option maxHeartbeats 1000000 in
theorem NQ {S:aw} {ks:ac (ac κ)} {k:ac κ} {Q:aT->aI->Prop} (hsc:∀v k,knd.is k v=ak->v.scannable=ak) (hu:A.units<cB) (ho:s.heap.get? S=aa o) (T:TS knd h0 ks o) (hk:IsTupleKey knd h0 k a)
  (hB:∀b o,h0.get? b=aa o->s.heap.get? b=aa o) (hlen:ks.length<=300)
  (h:∀b h' tk o',s.toks<=tk->iw S s.heap h'->h'.get? S=aa o'->TS knd h0 (ks++[k]) o'->Q b {s with heap:=h',toks:=tk}):aF (aO prog w) A (uE S (.ref a)) Q E s:=by
 obtain⟨hc,es,ep,t,hd,TB,hM,hE,hsz,hin,hout⟩:=T;have up:∀{k:ac κ} {b:aw},IsTupleKey knd h0 k b->IsTupleKey knd s.heap k b:=fun q=>IsTupleKey.mono q fun o e=>hB _ _ e;have down:∀{k k':ac κ} {b:aw},IsTupleKey knd h0 k' b->IsTupleKey knd s.heap k b->k=k':=fun q1 q2=>q2.inj (up q1);have hE':oX knd s.heap es:=fun i e he=>by obtain⟨k,b,q1,q2⟩:=hE i e he;exact⟨k,b,q1,up q2⟩
 have hddl:=pK ks;obtain⟨n0,f1,f2,f3⟩:=TB.first (bF knd k);unfold uE;refine qU (qy (wpAny_pyHash_tuple hu (up hk) ?_));unfold setAddHashed setAddHashedIn;refine qU (qy (uG (s:={s with toks:=s.toks+(k.length+1)}) ho hd TB.fits ?_));dsimp only;rw[show byScan (.ref a) es=av from rfl];simp only[qt,dc];unfold setSearch;refine qy (Hm (s:={s with toks:=s.toks+(k.length+1)}) hu ho hd TB hM (up hk) hE' f2 f3 f1 (fun i b hei hb=>?_) (fun hall=>?_) 100000 0 af ?_ (g9 _) rfl (fun m i b hm=>by omega))
 ·
  dsimp only;obtain⟨k',b',q1,q2⟩:=hE i _ hei;have:b'=b:=by have:=(QY q1).2;injection this with e;exact e.symm
  subst this;have ek:=down q2 hb;subst ek;have hmem:=hout i k _ hei q2;refine qB (h av s.heap _ o (by show s.toks<=s.toks+(k.length+1);omega) (ES S s.heap) ho ⟨hc,es,ep,t,hd,TB,hM,hE,?_⟩);rw[wy,qX hmem];exact⟨hsz,hin,hout⟩
 ·
  dsimp only;have hnew:k∉dd ks:=fun hm=>by obtain⟨i,b,q1,q2⟩:=hin k hm;exact hall i b q1 (up q2)
  have hpl:cU t.place (J t.mask (bF knd k) n0)<=es.size:=by have:=(wQ t.place (J t.mask (bF knd k) n0) TB.ri).1;rw[TB.sz] at this;exact this
  have hmaskle:t.mask<=511:=by rcases hM with e|e|e|e<;>omega
  have hmem:∀e,e∈(dE es (cU t.place (J t.mask (bF knd k) n0)) (bF knd k,ce a)).toList↔e=(bF knd k,ce a)\/e∈es.toList:=fun e=>by rw[pJ _ _ _ hpl];exact xB _ _ _ _
  have hsize:(dE es (cU t.place (J t.mask (bF knd k) n0)) (bF knd k,ce a)).size=es.size+1:=by have:=cw dU (pJ es _ (bF knd k,ce a) hpl);simp only[jL,qj,qi,qF,ku] at this;omega
  have hpsz:(dE t.place (cU t.place (J t.mask (bF knd k) n0)) (J t.mask (bF knd k) n0)).size=es.size+1:=by have:=cw dU (pJ t.place _ (J t.mask (bF knd k) n0) (by rw[TB.sz];exact hpl));have h3:=TB.sz;simp only[jL,qj,qi,qF,ku] at this;omega
  refine qy (uG (s:={s with toks:=s.toks+(k.length+1)}) ho hd TB.fits ?_);dsimp only;have fin:∀(es':bR (aq×ax)) (t':lL) (h':Heap) (o':Obj),Tb t' es'->Mk t'.mask->(∀e,e∈es'.toList↔e=(bF knd k,ce a)\/e∈es.toList)->es'.size=es.size+1->iw S s.heap h'->h'.get? S=aa o'->o'.ExactSet->(∃ep',o'.data=.set es' ep' t')->Q ak {s with heap:=h',toks:=s.toks+(k.length+1)}:=fun es' t' h' o' q1 q2 q3 q4 q5 q6 q7 q8=>by obtain⟨ep',q8⟩:=q8;obtain⟨w1,w2,w3,w4⟩:=Ic hk hE hsz hin hout hnew q3 q4;exact h ak h' _ o' .(c) q5 q6 ⟨q7,es',ep',t',q8,q1,q2,w1,w2,w3,w4⟩
  have cc:∀pl:aT,aF (aO prog w) A (do
    storeSet S (dE es (t.put (J t.mask (bF knd k) n0)).2 (bF knd k,ce a)) { (t.put (J t.mask (bF knd k) n0)).1 with plain:=pl}
    if (!av && uI { (t.put (J t.mask (bF knd k) n0)).1 with plain:=pl})=ak then do
     setRelay S (yT (es.size+1))
     bq ak
    else bq ak) Q E {s with toks:=s.toks+(k.length+1)}:=fun pl=>by
   refine qy (QZ (s:={s with toks:=s.toks+(k.length+1)}) ho hd ?_ (by show(dE es (cU t.place (J t.mask (bF knd k) n0)) (bF knd k,ce a)).size<=aN;rw[hsize,ge];omega));have hg1:=BN (es':=dE es (t.put (J t.mask (bF knd k) n0)).2 (bF knd k,ce a)) (t':={ (t.put (J t.mask (bF knd k) n0)).1 with plain:=pl}) ho hd;have hsb1:=yY s.heap S (Fa (dE es (t.put (J t.mask (bF knd k) n0)).2 (bF knd k,ce a)) { (t.put (J t.mask (bF knd k) n0)).1 with plain:=pl});have hdum:(t.put (J t.mask (bF knd k) n0)).1.dummies=#[]:=by show(if EZ t.dummies _ then _ else t.dummies)=#[];rw[TB.dm];rfl
   have hfill:QC { (t.put (J t.mask (bF knd k) n0)).1 with plain:=pl}=es.size+1:=by show(dE t.place _ _).size+(t.put (J t.mask (bF knd k) n0)).1.dummies.size=_;rw[hdum];exact hpsz
   by_cases few:(es.size+1)*5<t.mask*3
   .have hfull:uI { (t.put (J t.mask (bF knd k) n0)).1 with plain:=pl}=av:=by unfold uI;rw[hfill];exact qO (by show ¬((es.size+1)*5 ≥ t.mask*3);omega)
    rw[hfull];simp only[oQ,P9,qt,dc];refine qB (fin _ _ _ _ (TB.put (x:=.ref a) f2 f3 few pl) hM hmem hsize hsb1 hg1 hc ⟨_,rfl⟩)
   .have hfull:uI { (t.put (J t.mask (bF knd k) n0)).1 with plain:=pl}=ak:=by unfold uI;rw[hfill];exact qT (by show((es.size+1)*5 ≥ t.mask*3);omega)
    rw[hfull];simp only[oQ,Bool.and_true,c7];obtain⟨m1,m2,m3⟩:=hM.grow TB.few few .(c);have hes1:(dE es (t.put (J t.mask (bF knd k) n0)).2 (bF knd k,ce a)).size=es.size+1:=hsize;obtain⟨t',order,r1,r2,r3,r4,r5,r6⟩:=Full.relaid (t:={ (t.put (J t.mask (bF knd k) n0)).1 with plain:=pl}) (es:=dE es (t.put (J t.mask (bF knd k) n0)).2 (bF knd k,ce a)) m1.full (by rw[hes1];exact m2);unfold setRelay;have hfits:E1 { (t.put (J t.mask (bF knd k) n0)).1 with plain:=pl} (dE es (t.put (J t.mask (bF knd k) n0)).2 (bF knd k,ce a)).size=ak:=by unfold E1;rw[hfill,hes1,fJ];have:=TB.few;exact⟨by rw[ly];exact hpsz,qT (by show es.size+1<=t.mask;omega)⟩
    refine qy ?_;refine qy (uG (s:={s with heap:=_,toks:=s.toks+(k.length+1)}) hg1 rfl hfits ?_);dsimp only;rw[qY (by rw[ge];omega),r1];refine qy ?_;show aF _ _ (if ((order.filterMap ((dE es (t.put (J t.mask (bF knd k) n0)).2 (bF knd k,ce a))[·]?)).size != (dE es (t.put (J t.mask (bF knd k) n0)).2 (bF knd k,ce a)).size)=ak then _ else _) _ _ _;rw[qY (by rw[r2];simp)];refine qB ?_;dsimp only;refine QZ (s:={s with heap:=_,toks:=s.toks+(k.length+1)}) hg1 rfl ?_ (by rw[r2,hes1,ge];omega);refine qB (fin _ t' _ _ r3 (by rw[r5];exact m1) (fun e=>(r4 e).trans (hmem e)) (by rw[r2,hes1]) (hsb1.trans (yY _ S _)) (BN hg1 rfl) hc ⟨_,rfl⟩)
  split
  .refine qy (J6 (s:={s with toks:=s.toks+(k.length+1)}) (up hk) hsc fun bv=>?_);cases bv
   .exact cc av
   .exact cc _
  .refine qy (qB ?_);exact cc _
 .show n0-0<100000;have:t.mask<=511:=by rcases hM with e|e|e|e<;>omega
  omega
end
end ST
section
open ST
instance (priority:=high) keyBEq:BEq Key:=Q0
instance (priority:=high) keyLaw:LawfulBEq Key:=inferInstanceAs (@LawfulBEq Key Q0)
noncomputable def Du (n:ao) (o:Obj):Prop:=o.ExactSet/\∃es ep t,o.data=.set es ep t/\t.fits es.size=ak/\es.size=n
noncomputable def kW (p:aw) (n:ao):HO:=.ext fun h=>∃o,h.get? p=aa o/\Du n o
theorem BE (v:ax) (k:Key) (h:(cX P w).is k v=ak):v.scannable=ak:=by rcases iK h with⟨i,t,rfl,rfl⟩|⟨x,t,rfl,rfl⟩<;>rfl
noncomputable def IJ:ac V->Hp->VK->Prop:=fun xs H Q=>∃a vs,xs=[.ref a]/\H a=aa (.lst vs)/\vs.length<=300 /\
 ((∃ks:ac Key,vs=ks.map kV/\∀p,H p=af->Q (.ref p) (upd H p (kW p (dd ks).length))) \/
 (∃ts:ac (ac Key),vs.length=ts.length/\(∀(i:ao) t,ts[i]?=aa t->∃b,vs[i]?=aa (.ref b)/\H b=aa (.tup (t.map kV)))/\∀p,H p=af->Q (.ref p) (upd H p (kW p (dd ts).length))))
theorem IU (hc:X.calm=ak) (hu:X.A.units+66<cB):gu X (.type "set") IJ:=by
 intro pins s σ H xs us Q I r h;obtain⟨a,vs,rfl,ha,hl,h⟩:=h;obtain⟨u,rfl,ru⟩:=ij r;cases ru;obtain⟨its,rv,pl,hz⟩:=I.list (.inl (.inl ha));have hlen:=rv.length;have hsz:its.toArray.size=vs.length:=by rw[qC,hlen]
 have fin:∀(n:ao) (h':Heap) (tk:ao) (o:Obj),h'.get? s.heap.objs.size=aa o->Du n o->(∀b o,b<s.heap.objs.size->s.heap.get? b=aa o->h'.get? b=aa o)->
   (∀p,H p=af->Q (.ref p) (upd H p (kW p n)))->EP X pins σ Q (.ref s.heap.objs.size) {s with heap:=h',toks:=tk}:=fun n h' tk o ho hn hk q=>by
  refine⟨.ref s.heap.objs.size,_,I.laid (a:=s.heap.objs.size) (o:=kW s.heap.objs.size n) (fun b u e=>hk b u (qw e) e) (qx _) ?_,rfl,q _ I.fresh⟩;refine⟨⟨o,ho,hn⟩,⟨o,ho⟩,fun h1 h2 hp hk2=>?_⟩;obtain⟨o1,q1,q2⟩:=hp;exact⟨o1,hk2 o1 q1,q2⟩
 rcases h with⟨ks,rfl,q⟩|⟨ts,ht,hts,q⟩
 ·
  have hkl:ks.length=its.length:=by rw[←hlen,qf]
  refine Br (I.ok.hd hc) pl.isList (fun i o=>o.SetObjOf (cX X.prog X.w) (fun k=>decide (k∈dd (ks.take i))) (dd (ks.take i)).length) (fun led=>?_) (fun A' hA' i v sh o Q' E' hi hv ho hJ hB hQ=>?_) fun h' tk o ho hJ hk=>?_
  .have:=setObjOf_fresh (knd:=cX X.prog X.w) led;simpa[dd] using this
  .have hi':i<ks.length:=by rw[qC] at hi;omega
   obtain⟨u2,hu2,ru2⟩:=rv.get (i:=i) (x:=kV ks[i]) (by simp[hi']);have ev:v=u2:=by
    have hv':its[i]?=aa v:=by simpa using hv
    rw[hu2] at hv';exact(qI hv').symm
   subst ev;have hkey:=ka (P:=X.prog) (w:=X.w) ru2;have hle:(dd (ks.take i)).length<=300:=by have h1:=pK (ks.take i);rw[qF] at h1;rw[qf] at hl;omega
   unfold uE;refine qU (qy ((cX X.prog X.w).pyHash hkey ?_));refine wpAny_setAddHashed_of (knd:=cX X.prog X.w) (s:={sh with toks:=sh.toks+1}) hkey (BE _ _ hkey) (hJ.setOf ho (by unfold Fb;omega)) (by unfold Fb;omega) fun h' hsb hS2=>?_;obtain⟨o',ho',hso⟩:=hS2.objOf;refine hQ _ h' _ o' (uw _) hsb ho' ?_;have htk:ks.take (i+1)=ks.take i++[ks[i]]:=by rw[jQ,qE hi'];rfl
   show Obj.SetObjOf (cX X.prog X.w) o' (fun k=>decide (k∈dd (rN (i+1) ks))) (dd (rN (i+1) ks)).length;rw[htk,wy];by_cases hm:ks[i]∈dd (ks.take i)
   .rw[qX hm];rw[qX (by simpa using hm)] at hso;have e:(fun k'=>decide (k'∈dd (ks.take i)) || decide (k'=ks[i]))=fun k'=>decide (k'∈dd (ks.take i)):=by
     funext k'
     by_cases hk':k'=ks[i]
     .subst hk';simp[hm]
     .simp[hk']
    rw[e] at hso;exact hso
   .rw[qY hm];rw[qY (by simpa using hm)] at hso;have e:(fun k'=>decide (k'∈dd (ks.take i)) || decide (k'=ks[i]))=fun k'=>decide (k'∈dd (ks.take i)++[ks[i]]):=by
     funext k'
     rw[mW];simp
    rw[e] at hso;simpa using hso
  .have e:ks.take its.toArray.size=ks:=by rw[qC,←hkl];exact gO
   rw[e] at hJ;have hS:=hJ.setOf ho (by have:=pK ks;rw[qf] at hl;unfold Fb;omega);obtain⟨o1,es,ep,t,v0,v1,v2,_,_,_,v3,v4⟩:=hS;rw[ho] at v0;cases v0;exact fin _ h' tk o ho ⟨v1,es,ep,t,v2,v3,v4⟩ hk q
 ·
  have hkl:ts.length=its.length:=by rw[←hlen,ht]
  refine Br (I.ok.hd hc) pl.isList (fun i o=>ST.TS (cX X.prog X.w) s.heap (ts.take i) o) (fun led=>?_) (fun A' hA' i v sh o Q' E' hi hv ho hJ hB hQ=>?_) fun h' tk o ho hJ hk=>?_
  .refine⟨⟨rfl,rfl,rfl⟩,#[],0,uJ 0 0 led,rfl,?_,.inl rfl,fun i e he=>by simp at he,rfl,fun k hk=>by simp[dd] at hk,fun i k b he=>by simp at he⟩;exact⟨AC,rfl,rfl,by simp[uJ],by simp[uJ],by simp[uJ],fun i j h x hp=>by simp[uJ] at hp⟩
  .have hi':i<ts.length:=by rw[qC] at hi;omega
   obtain⟨b,hb1,hb2⟩:=hts i ts[i] (by simp[hi']);obtain⟨u2,hu2,ru2⟩:=rv.get hb1;have ev:v=u2:=by
    have hv':its[i]?=aa v:=by simpa using hv
    rw[hu2] at hv';exact(qI hv').symm
   subst ev;cases ru2;have hkey:=jS I.hok hb2;have htk:ts.take (i+1)=ts.take i++[ts[i]]:=by rw[jQ,qE hi'];rfl
   refine NQ (fun v k=>BE v k) .(c) ho hJ hkey (fun b' o' e=>hB b' o' (qw e) e) (by rw[qF];have:=hl;omega) fun bb h' tk o' h1 h2 h3 h4=>hQ bb h' tk o' h1 h2 h3 (by show ST.TS _ _ (rN (i+1) ts) o';rw[htk];exact h4)
  .have e:ts.take its.toArray.size=ts:=by rw[qC,←hkl];exact gO
   rw[e] at hJ;obtain⟨hc',es,ep,t,w1,w2,w3,w4,w5,w6,w7⟩:=hJ;exact fin _ h' tk o ho ⟨hc',es,ep,t,w1,w2.fits,w5⟩ hk q
theorem Mw:gu X (.builtin "len") (fun xs H Q=>∃p n,xs=[.ref p]/\H p=aa (kW p n)/\n<=300/\Q (.int n) H):=by intro pins s σ H xs us Q I r h;obtain⟨p,n,rfl,hp,hn,q⟩:=h;obtain⟨u,rfl,ru⟩:=ij r;cases ru;obtain⟨⟨o,ho,hex,es,ep,t,w1,w2,w3⟩,_,_⟩:=I.hok p _ hp;exact call_len_set ho hex w1 w2 .(c) ⟨.int n,H,I.tok _,⟨_,by rw[w3]⟩,q⟩
end
section
open ST
noncomputable def mf:ac D->au (ac (ac Key))
 |[]=>aa []
 |.tup t::r=>(eM t).bind fun k=>(mf r).map (k::·)
 |_::_=>af
theorem zv {Γ:Cn} {K:aV} {G H:Hp} (gh:ba G H):∀{vs:ac V} {ds:ac D} {ts:ac (ac Key)},Reps Γ K G vs ds->mf ds=aa ts->vs.length=ts.length/\∀(i:ao) t,ts[i]?=aa t->∃b,vs[i]?=aa (.ref b)/\H b=aa (.tup (t.map kV))
 |_,[],ts,r,h=>by cases r;cases h;exact⟨rfl,fun i t e=>by simp at e⟩
 |_,d::ds,ts,.cons h1 h2,h=>by
  cases d with
  |tup t=>
   unfold mf at h;obtain⟨k,hk,h⟩:=oBd h;obtain⟨zs,hz,rfl⟩:=oMd h;obtain⟨a,us,rfl,ha,ra⟩:=h1.tup_inv;have e:=km ra hk;subst e;obtain⟨q1,q2⟩:=zv gh h2 hz;refine⟨by rw[qi,qi,q1],fun i t' e=>?_⟩;cases i with
   |zero=>cases e;exact⟨a,rfl,gh _ _ ha⟩
   |succ i=>exact q2 i t' e
  |_=>cases h
noncomputable def nD:D->au D
 |.lst l=>if l.length<=300 then match eM l with
  |some ks=>aa (.int (dd ks).length)
  |none=>(mf l).map fun ts=>.int (dd ts).length
  else af
 |_=>af
section
variable {pos2:ff}
theorem Jo (hc:X.calm=ak) (hu:X.A.units+66<cB) (hgl:Gl X "len") (hml:X.mg "len"=af) (hgs:Gl X "set") (hms:X.mg "set"=af) (h:DE Γ X e f)
  (h1:aR ([.Call (.Name "set" p2) [e] [] pos2]:ac Expr) X.env=(av,eval (.Call (.Name "set" p2) [e] [] pos2) X.env)::aR [] X.env:=by rfl) (h2:(cj pos (aR [] X.env)).any (·.1)=av:=by rfl)
  (h3:aR ([e]:ac Expr) X.env=(av,eval e X.env)::aR [] X.env:=by rfl) (h4:(cj pos2 (aR [] X.env)).any (·.1)=av:=by rfl) :
  DE Γ X (.Call (.Name "len" p) [.Call (.Name "set" p2) [e] [] pos2] [] pos) (b1 nD f):=⟨by
 refine(Cm Mw hgl hml (by rfl) (kB (Cy (IU hc hu) hgs hms (by rfl) (kB h.1 lR h3) .(e) .(e) h3 h4) lR h1) .(e) .(e) h1 h2).imp fun σ H Q=>?_;rintro⟨G₀,H₀,G,ρ,d,A,hq,k⟩;unfold b1 at hq;obtain⟨x,hx,hl⟩:=oBd hq;clear hq;refine⟨G₀,H₀,G,ρ,x,A,hx,fun v G1 H1 s1 r1=>?_⟩;unfold nD at hl;split at hl
 .rename_i l;split at hl
  .rename_i hz;obtain⟨a,vs,rfl,ha,ra⟩:=r1.lst_inv;have go:∀(n:ao),n<=300->d=.int n->∀p,H1 p=af->∃p' n',[V.ref p]=[V.ref p']/\(upd H1 p (kW p n)) p'=aa (kW p' n')/\n'<=300/\Q (.int n') (upd H1 p (kW p n)):=fun n hn ed p hp=>by subst ed;refine⟨p,n,rfl,bB,hn,k _ G1 _ (s1.trans (Step.newOwn s1.gh hp)) (.int _)⟩
   refine⟨a,vs,rfl,s1.gh _ _ ha,by rw[ra.length];exact hz,?_⟩;split at hl
   .rename_i ks hk;refine .inl ⟨ks,km ra hk,go _ ?_ (qI hl).symm⟩;have h5:=pK ks;have h6:ks.length=l.length:=by have:=km ra hk;rw[←ra.length,this,qf]
    omega
   .obtain⟨ts,ht,e1⟩:=oMd hl;obtain⟨q1,q2⟩:=zv s1.gh ra ht;refine .inr ⟨ts,q1,q2,go _ ?_ e1.symm⟩;have h5:=pK ts;have h6:=ra.length;omega
  .cases hl
 .cases hl⟩
end
end
namespace DT
theorem Ng:yo (.type "list") "keys"=bq af:=by rw[Q1,Q2];kernel_rfl
theorem Ny:yo (.type "list") "__getattr__"=bq af:=by rw[Q1,Q2];kernel_rfl
theorem GV {u:Tok} {R:lz->aI->Prop} {xs:bR ax} (hx:s.heap.get? l=aa {cls:=.type "list",data:=.seq xs n}) (hA:A.handled=af)
  (h:∀h' tk e,Heap.NewAttrErr s.heap h' e (.ref l) "keys"->R (.error (.ref e)) {s with heap:=h',toks:=tk}) :
  gL (aO prog w) A (.call (.builtin "list.__getattribute__") ⟨[.ref l,.str "keys" u],[]⟩) R s:=by
 obtain⟨hp,g,d,tk,os⟩:=s;have hT:(⟨hp,g,d,tk,os⟩:aI).TypeIs (.ref l) "list":=⟨_,hx,rfl⟩;have f1:=Ng;refine QT yZ.plain F.entry_list_ga (yZ.check _ _ _ _ _ _ _ _ hT (F.args_list_getattribute_2 _ _) ?_);unfold Builtin.«object.__getattribute__»
 repeat (any_goals (first|assumption|wp_step))
 have hsz:(m8 "keys").length+100<=aN:=by rw[PySem.ofString_length];decide
 refine wpAny_raiseAttrError (A:=A.in1) hA h ?_;exact attrMsg_fits (by decide +kernel) hsz
set_option maxHeartbeats 4000000 in
theorem JO {Q:au ax->aI->Prop} {xs:bR ax} (hx:s.heap.get? l=aa {cls:=.type "list",data:=.seq xs n}) (hA:A.handled=af)
  (h:∀h' tk,(∀b ob,s.heap.get? b=aa ob->h'.get? b=aa ob)->Q af {s with heap:=h',toks:=tk}) :
  aF (aO prog w) A (getAttr? (.ref l) "keys") Q E s:=by
 obtain⟨hp,g,d,tk,os⟩:=s;have hT:∀tk',(⟨hp,g,d,tk',os⟩:aI).TypeIs (.ref l) "list":=fun _=>⟨_,hx,rfl⟩;have f1:=sub_AttributeError;have f2:=yZ.lookup;have f3:=yZ.bind (.ref l);have f5:=Ny;unfold getAttr? getAttrBy?;refine qy (wpAny_mkText ?_);refine qy (Fc ?_);unfold getAttrBy;refine qU (qy (uy (hT _) (qy (uK f2 ?_))));show aF _ _ (Q3 _ _ _ _ _ _) _ _ _;unfold Q3;refine qy (m:=hookBefore (lu "list")) (qB ?_);refine qy (Fc (qU ?_));show aF _ _ (Q4 _ _ _) _ _ _;unfold Q4;refine qy (uK f3 ?_);refine yh (GV (s:=⟨hp,g,d,tk+1,os⟩) hx hA fun h' tk' e hn=>?_);obtain⟨t',u',he⟩:=hn.there;have hE:yU ⟨h',g,d,tk',os⟩ (.ref e) "AttributeError":=⟨_,he,rfl⟩;show aF _ _ (Q5 _ _ _ _ _ _ _) _ _ _;unfold Q5;refine qy (Fd hE f1 ?_);simp only[c7];refine qy (m:=hookBehind (lu "list") af) (uK f5 ?_);unfold hookOrError attributeErrorLeaves;simp only[oQ,c7];refine qy (wpAny_throw ?_);refine qy (Fd hE f1 ?_);simp only[c7];exact qB (h h' tk' hn.keeps)
theorem DK:entryFor table "dict.update.loop"=aa Builtin.«dict.update.loop»:=entryFor_of_tree (by kernel_rfl)
theorem sV:plainId "dict.update.loop"=ak:=by decide +kernel
section
variable {R:lz->aI->Prop} {G:bR pZ->bR pZ->Prop} {P:ao->ax->Prop} {St:ao->aI->Prop}
noncomputable def Cw (prog:eE) (w:df) (A:dB) (S:aw) (h0:Heap) (P:ao->ax->Prop) (n:ao) (J:ao->Obj->Prop):Prop:=
 ∀(i:ao) (b:aw) (kv vv:ax) (s:aI) (o:Obj) (Q:lw->aI->Prop) (E:ax->aI->Prop),i<n->P i (.ref b)->h0.IsTuple b #[kv,vv]->s.heap.get? S=aa o->J i o->(∀b o,b<h0.objs.size->h0.get? b=aa o->s.heap.get? b=aa o)->
  (∀h' tk o',s.toks<=tk->iw S s.heap h'->h'.get? S=aa o'->J (i+1) o'->Q () {s with heap:=h',toks:=tk})->aF (aO prog w) A (dictSet S kv vv) Q E s
theorem Lj (W:WalksS prog w A.in1 I fp wr G n P St) (S:aw) (hSf:S∉fp) (h0:Heap) (hS0:h0.objs.size<=S) (hw0:∀b∈wr,h0.objs.size<=b) (J:ao->Obj->Prop) (hadd:Cw prog w A.in1 S h0 P n J) (hP:∀i v,P i v->∃b kv vv,v=.ref b/\h0.IsTuple b #[kv,vv]) :
  ∀(k i:ao) (c:aq) (s:aI) (o:Obj),n-i=k->i<=n->St i s->s.heap.get? S=aa o->J i o->(∀b o,b<h0.objs.size->h0.get? b=aa o->s.heap.get? b=aa o)->
   (∀s' o',Moved (S::wr) G s s'->s'.heap.get? S=aa o'->J n o'->R (.ok (.ret .none)) s')->
   gL (aO prog w) A (.builtin "dict.update.loop" ⟨[.ref S,.ref I,p5 c,.none],[]⟩) R s:=by
 have hSw:S∉wr:=fun h=>hSf (W.sub _ h);have hsub:∀b∈wr,b∈S::wr:=fun b hb=>qh _ hb;have keep:∀{h h':Heap},(∀b o,b<h0.objs.size->h0.get? b=aa o->h.get? b=aa o)->(∀b o,b∉S::wr->h.get? b=aa o->h'.get? b=aa o)->∀b o,b<h0.objs.size->h0.get? b=aa o->h'.get? b=aa o:=fun q1 q2 b o hb e=>q2 b o (fun z=>by
  rcases cH.mp z with z|z
  .rw[z] at hb;exact bJ hb (ER.mpr hS0)
  .exact bJ hb (ER.mpr (hw0 b z))) (q1 b o hb e)
 intro k
 induction k with
 |zero=>
  intro i c s o hk hi hst hS hJ hB hR;have hin:i=n:=by omega
  subst hin;refine lM DK ?_;rw[ni sV _];show aF _ A.in1 (g8 (.ref I) >>= _) _ _ s;refine qy (W.done s _ _ hst fun s' hm=>?_);show aF _ A.in1 (Sn S [] >>= _) _ _ s';exact qy (qB (qB (hR s' o (hm.mono hsub) (hm.heap S _ hSw hS) hJ)))
 |succ k ih=>
  intro i c s o hk hi hst hS hJ hB hR;have hlt:i<n:=by omega
  refine lM DK ?_;rw[ni sV _];show aF _ A.in1 (g8 (.ref I) >>= _) _ _ s;refine qy (W.item i s _ _ hlt hst fun v s' hPv hst' hm=>?_);obtain⟨b,kv,vv,rfl,hb⟩:=hP i v hPv;have hB':=keep hB fun b o hb e=>hm.heap b o (fun z=>hb (hsub b z)) e;obtain⟨ob,hob,hoc,nn,hod⟩:=hb;have hob':s'.heap.get? b=aa ob:=hB' b ob (qw hob) hob;have hTb:s'.TypeIs (.ref b) "tuple":=⟨_,hob',hoc⟩;show aF _ A.in1 (iz [ce b] _ >>= _) _ _ s';refine qy (qU ?_);refine qy ?_;refine rP ?_;unfold So;refine qy (uy hTb ?_);rw[qX .(e)];refine qy (oP hob' hod (qB ?_));show aF _ A.in1 (iz [kv,vv] (dictSet S kv vv)) _ _ s';refine qU (hadd i b kv vv s' o _ _ hlt hPv ⟨ob,hob,hoc,nn,hod⟩ (hm.heap S _ hSw hS) hJ hB' fun h' tk o' htk hsb hS' hJ'=>?_);refine qB ⟨nj sV _,ih (i+1) (c+1) _ o' .(c) hlt (W.frame _ s' _ _ hst' htk fun b hb o e=>?_) hS' hJ' ?_ fun s'' o'' hm'' hS'' hJ''=>?_⟩
  .rw[hsb.2 b (fun h:b=S=>hSf (by rw[←h];exact hb))];exact e
  .refine keep hB' fun b o hb e=>?_;show h'.get? b=aa o;rw[hsb.2 b (fun h:b=S=>hb (by rw[h];exact qg))];exact e
  .refine hR s'' o'' (QS W.gtrans ((hm.mono hsub).then_heap htk fun b o hb e=>?_) hm'') hS'' hJ'';rw[hsb.2 b (fun h:b=S=>hb (by rw[h];exact qg))];exact e
end
theorem call_dict_gen {c:ao} (hh:A.handled=af) (hl:s.heap.get? l=aa {cls:=.type "list",data:=.seq items c}) (J:ao->Obj->Prop)
  (hJ0:J 0 {cls:=.type "dict",data:=.dict #[]})
  (hadd:∀A':dB,A'.units<=A.units+16->Cw prog w A' s.heap.objs.size s.heap (fun i v=>items[i]?=aa v) items.size J)
  (hP:∀(i:ao) (v:ax),items[i]?=aa v->∃b kv vv,v=.ref b/\s.heap.IsTuple b #[kv,vv])
  (h:∀(h':Heap) (tk:ao) (o:Obj),h'.get? s.heap.objs.size=aa o->J items.size o->
   (∀b o,b<s.heap.objs.size->s.heap.get? b=aa o->h'.get? b=aa o)->Q (.ref s.heap.objs.size) {s with heap:=h',toks:=tk}) :
  aF (aO prog w) A (call (.type "dict") [.ref l]) Q E s:=by
 refine callType_codes (Q₁:=fun obj s₁=>obj=.ref s.heap.objs.size/\s₁={s with heap:=s.heap.push {cls:=.type "dict",data:=.dict #[]} }) F.kt_called_dict (F.kt_typeCall_dict_1 _) F.entry_dict_init (kt_code_dict_new _ ⟨rfl,rfl⟩) ?_;rintro obj s₁ ⟨rfl,rfl⟩;have hnew:(s.heap.push {cls:=.type "dict",data:=.dict #[]}).get? s.heap.objs.size=aa {cls:=.type "dict",data:=.dict #[]}:=qH _ rfl;have hl1:(s.heap.push {cls:=.type "dict",data:=.dict #[]}).get? l=aa {cls:=.type "list",data:=.seq items c}:=qv _ hl;have hT:yU {s with heap:=s.heap.push {cls:=.type "dict",data:=.dict #[]} } (.ref s.heap.objs.size) "dict":=⟨_,hnew,rfl⟩;have hTl:yU {s with heap:=s.heap.push {cls:=.type "dict",data:=.dict #[]} } (.ref l) "list":=⟨_,hl1,rfl⟩;refine⟨hT,F.args_dict_init_2 _ _,?_⟩;unfold Builtin.«dict.__init__»;refine qy ?_;unfold Sq;refine qy (Q6 hT ?_);show aF _ _ (bq (s.heap.objs.size,[ce l])) _ _ _;refine qB ?_;show aF _ _ (Q7 "dict.__init__" s.heap.objs.size (.ref l) [] .none) _ _ _;unfold Q7;refine qy (uy hTl ?_);rw[qX .(e)];refine qy (JO (s:={s with heap:=s.heap.push {cls:=.type "dict",data:=.dict #[]} }) (A:=A.in1.in1) hl1 hh fun h1 tk1 hk1=>?_);simp only[Option.isNone_none,c7];refine qy (wpAny_rule ?_);have hl2:h1.IsList l items:=⟨_,hk1 _ _ hl1,rfl,_,rfl⟩;refine qy (rG (s:={s with heap:=h1,toks:=tk1}) hl2 ?_);refine qB ⟨nj sV _,?_⟩;have hlS:l<s.heap.objs.size:=qw hl;have hsz1:s.heap.objs.size<h1.objs.size:=qw (hk1 _ _ hnew);have hneI:l≠h1.objs.size:=qD (rj hlS hsz1);have hSf:s.heap.objs.size∉[h1.objs.size,l]:=by simp only[qM,bN,qK,or_false,rO];exact⟨qD hsz1,yb hlS⟩
 have old:∀b o,b<s.heap.objs.size->s.heap.get? b=aa o->h1.get? b=aa o:=fun b o _ e=>hk1 _ _ (qv _ e);refine Lj ((yJ (A:=A.in1.in1) (by simpa using hh) _ l hneI items).toS) s.heap.objs.size hSf s.heap (qx _) (fun b hb=>?_) J (hadd _ (by show A.units+2<=_;omega)) hP (items.size-0) 0 0 _ _ .(c) (g9 _)
  ⟨⟨_,qH _ rfl,rfl,rfl⟩,hl2.push _⟩ (qv _ (hk1 _ _ hnew)) hJ0 (fun b o hb e=>qv _ (old b o hb e)) fun s' o' hm hS' hJ'=>?_
 .have:b=h1.objs.size:=by simpa using hb
  rw[this];exact pY hsz1
 .obtain⟨h',g',d',tk',os'⟩:=s';have eg:g'=s.gens:=hm.gens;have ed:d'=s.drawn:=hm.drawn;have eo:os'=s.os:=hm.os;subst eg;subst ed;subst eo;refine⟨rfl,h h' tk' o' hS' hJ' fun b o hb e=>hm.heap b o ?_ (qv _ (old b o hb e))⟩;simp only[qM,bN,qK,or_false,rO];exact⟨qD hb,qD (rj hb hsz1)⟩
end DT
section
variable [eN κ]
noncomputable def mrg (kvs ps:ac (κ×V)):ac (κ×V):=ps.foldl (fun acc kv=>putK acc kv.1 kv.2) kvs
theorem zG (kvs ps:ac (κ×V)) (p:κ×V):mrg kvs (ps++[p])=putK (mrg kvs ps) p.1 p.2:=by unfold mrg;rw[uF];rfl
theorem Kf (kvs:ac (κ×V)) (k:κ) (v:V):(putK kvs k v).length<=kvs.length+1:=by
 unfold putK;split
 .rw[qf];omega
 .rw[qj,oI];omega
theorem pP:∀(ps kvs:ac (κ×V)),(mrg kvs ps).length<=kvs.length+ps.length
 |[],kvs=>qx _
 |p::ps,kvs=>by have h1:=pP ps (putK kvs p.1 p.2);have h2:=Kf kvs p.1 p.2;show(mrg (putK kvs p.1 p.2) ps).length<=_;rw[qi];omega
end
noncomputable def MB:ac V->Hp->VK->Prop:=fun xs H Q=>∃(a:aw) (vs:ac V) (ps:ac (Key×V)),xs=[.ref a]/\H a=aa (.lst vs)/\vs.length=ps.length/\ps.length<=1000/\(∀(i:ao) p,ps[i]?=aa p->∃b,vs[i]?=aa (.ref b)/\H b=aa (.tup [kV p.1,p.2])) /\
 ∀q,H q=af->Q (.ref q) (upd H q (.dK (mrg [] ps)))
theorem BS {b:aw} {x:V} (I:Inv X pins σ H s) (hb:H b=aa (.tup [x,y])):∃u v,bD x u/\bD y v/\s.heap.IsTuple b #[u,v]:=by
 obtain⟨its,r,p,_⟩:=I.tuple (.inl (.inl hb));cases r with
 |cons r1 r2=>
  cases r2 with
  |cons r2 r3=>
   cases r3;exact⟨_,_,r1,r2,p⟩
theorem tuple_inj {h:Heap} {b:aw} {x y:bR ax} (p:h.IsTuple b x) (q:h.IsTuple b y):x=y:=by obtain⟨o,h1,_,n,h2⟩:=p;obtain⟨o',g1,_,m,g2⟩:=q;rw[h1] at g1;cases g1;rw[h2] at g2;cases g2;rfl
theorem Mv (hc:X.calm=ak) (hu:X.A.units+66<cB):gu X (.type "dict") MB:=by
 intro pins s σ H xs us Q I r h;obtain⟨a,vs,ps,rfl,ha,hl,hz,hp,q⟩:=h;obtain⟨u,rfl,ru⟩:=ij r;cases ru;obtain⟨z,its,n,rv,hlen,e⟩:=I.lstM ha;have hsz:its.toArray.size=ps.length:=by rw[qC,←hlen,hl]
 have hit:∀(i:ao) (v:ax),its.toArray[i]?=aa v->∃p b u w,ps[i]?=aa p/\v=.ref b/\bD (kV p.1) u/\bD p.2 w/\s.heap.IsTuple b #[u,w]:=fun i v hv=>by
  have hi:i<ps.length:=by rw[←hsz];exact(gN.mp hv).1
  obtain⟨b,hb1,hb2⟩:=hp i ps[i] (by simp[hi]);obtain⟨u2,hu2,ru2⟩:=rv.get hb1;have hv':its[i]?=aa v:=by simpa using hv
  rw[hu2] at hv';cases hv';cases ru2;obtain⟨u,w,r1,r2,r3⟩:=BS I hb2;exact⟨ps[i],b,u,w,by simp[hi],rfl,r1,r2,r3⟩
 refine DT.call_dict_gen (I.ok.hd hc) e (fun i o=>∃vs',KV (mrg [] (ps.take i)) vs'/\o.IsDictOf (cX X.prog X.w) vs') ?_ (fun A' hA' i b kv vv sh o Q' E' hi hv hb ho hJ hB hQ=>?_) (fun i v hv=>?_) fun h' tk o ho hJ hk=>?_
 .obtain⟨o,ho,hd⟩:=y6.mp (Qc (knd:=cX X.prog X.w) s.heap);have:o={cls:=.type "dict",data:=.dict #[]}:=by have:=qH s.heap (o:={cls:=.type "dict",data:=.dict #[]}) rfl;rw[this] at ho;exact(qI ho).symm
  subst this;exact⟨[],.nil,hd⟩
 .obtain⟨p,b',u,w,h1,h2,h3,h4,h5⟩:=hit i _ hv;cases h2;have e2:=tuple_inj hb h5;have e3:kv=u/\vv=w:=by simpa using e2
  obtain⟨rfl,rfl⟩:=e3;obtain⟨vs',k1,k2⟩:=hJ;have hle:vs'.length<=1000:=by have q1:=k1.length;have q2:=pP (ps.take i) ([]:ac (Key×V));rw[qF,qm] at q2;omega
  refine wpAny_dictSet_pairs (ka h3) (y6.mpr ⟨o,ho,k2⟩) (fun h' hd' hsb=>?_) (by rw[ge];omega);obtain⟨o',ho',hd''⟩:=y6.mp hd';refine hQ h' _ o' (uw _) hsb ho' ⟨_,?_,hd''⟩;have htk:ps.take (i+1)=ps.take i++[p]:=by rw[jQ,h1];rfl
  rw[htk,zG];exact k1.put p.1 h4
 .obtain⟨p,b,u,w,h1,h2,h3,h4,h5⟩:=hit i v hv;exact⟨b,u,w,h2,h5⟩
 .obtain⟨vs',k1,k2⟩:=hJ;rw[hsz,gO] at k1;refine⟨.ref s.heap.objs.size,_,I.laid (a:=s.heap.objs.size) (o:=.dK (mrg [] ps)) (fun b u e=>hk b u (qw e) e) (qx _) ⟨?_,?_,vs',k1,y6.mpr ⟨o,ho,k2⟩⟩,rfl,q _ I.fresh⟩
  .have:=pP ps ([]:ac (Key×V));rw[qm] at this;rw[ge];omega
  .exact mT.mpr (dM (qD I.big))
noncomputable def Nh:ac V->Hp->VK->Prop:=fun xs H Q=>∃(a:aw) (vs:ac V) (ps:ac (ac Key×V)),xs=[.ref a]/\H a=aa (.lst vs)/\vs.length=ps.length/\ps.length<=1000/\(∀(i:ao) p,ps[i]?=aa p->∃b kb,vs[i]?=aa (.ref b)/\H b=aa (.tup [.ref kb,p.2])/\H kb=aa (.tup (p.1.map kV))) /\
 ∀q,H q=af->Q (.ref q) (upd H q (.dT (mrg [] ps)))
theorem Ji {P:ac Key->aw->Prop} (hP:∀k b,H b=aa (.tup (k.map kV))->P k b):∀{kvs:ac (ac Key×V)} {xs:ac (ac Key×aw×ax)},KT H kvs xs->∀x∈xs,P x.1 x.2.1:=by
 intro kvs xs q
 induction q with
 |nil=>intro x hx;cases hx
 | @cons p y ps ys hq t ih=>
  intro x hx;rcases cH.mp hx with rfl|hx
  .exact hP _ _ (by rw[←hq.1];exact hq.2.1)
  .exact ih x hx
theorem Pj (hc:X.calm=ak) (hu:X.A.units+66<cB):gu X (.type "dict") Nh:=by
 intro pins s σ H xs us Q I r h;obtain⟨a,vs,ps,rfl,ha,hl,hz,hp,q⟩:=h;obtain⟨u,rfl,ru⟩:=ij r;cases ru;obtain⟨z,its,n,rv,hlen,e⟩:=I.lstM ha;have hsz:its.toArray.size=ps.length:=by rw[qC,←hlen,hl]
 have hit:∀(i:ao) (v:ax),its.toArray[i]?=aa v->∃p b kb w,ps[i]?=aa p/\v=.ref b/\H kb=aa (.tup (p.1.map kV))/\bD p.2 w/\s.heap.IsTuple b #[.ref kb,w]:=fun i v hv=>by
  have hi:i<ps.length:=by rw[←hsz];exact(gN.mp hv).1
  obtain⟨b,kb,hb1,hb2,hb3⟩:=hp i ps[i] (by simp[hi]);obtain⟨u2,hu2,ru2⟩:=rv.get hb1;have hv':its[i]?=aa v:=by simpa using hv
  rw[hu2] at hv';cases hv';cases ru2;obtain⟨u,w,r1,r2,r3⟩:=BS I hb2;cases r1;exact⟨ps[i],b,kb,w,by simp[hi],rfl,hb3,r2,r3⟩
 have isk:∀{h':Heap},(∀b o,b<s.heap.objs.size->s.heap.get? b=aa o->h'.get? b=aa o)->∀k b,H b=aa (.tup (k.map kV))->(kq (cX X.prog X.w)).is h' k b:=fun hB k b hb=>ST.IsTupleKey.mono (jS I.hok hb) fun o e=>hB _ _ (qw e) e;refine DT.call_dict_gen (I.ok.hd hc) e (fun i o=>∃xs',KT H (mrg [] (ps.take i)) xs'/\∃es ep,o.ExactDict/\o.data=.dict es ep/\es.toList=xs'.map (entryOfKey (kq (cX X.prog X.w)))/\(xs'.map (·.1)).Nodup) ?_ (fun A' hA' i b kv vv sh o Q' E' hi hv hb ho hJ hB hQ=>?_) (fun i v hv=>?_) fun h' tk o ho hJ hk=>?_
 .exact⟨[],.nil,#[],0,⟨rfl,rfl,rfl⟩,rfl,rfl,kx⟩
 .obtain⟨p,b',kb,w,h1,h2,h3,h4,h5⟩:=hit i _ hv;cases h2;have e2:=tuple_inj hb h5;have e3:kv=.ref kb/\vv=w:=by simpa using e2
  obtain⟨rfl,rfl⟩:=e3;obtain⟨xs',k1,es,ep,k2,k3,k4,k5⟩:=hJ;have hle:xs'.length<=1000:=by have q1:=Paired.length k1;have q2:=pP (ps.take i) ([]:ac (ac Key×V));rw[qF,qm] at q2;omega
  refine wpAny_dictSet_heap (knd:=kq (cX X.prog X.w)) (show A'.units<cB by omega) (isk hB _ _ h3) ⟨o,es,ep,ho,k2,k3,k4,Ji (isk hB) k1,k5⟩ (fun h' hd' hsb=>?_) (by rw[ge];omega);obtain⟨o',es',ep',ho',w2,w3,w4,_,w5⟩:=hd';refine hQ h' _ o' (yN _ _) hsb ho' ⟨_,?_,es',ep',w2,w3,w4,w5⟩;have htk:ps.take (i+1)=ps.take i++[p]:=by rw[jQ,h1];rfl
  rw[htk,zG];exact k1.put p.1 h3 h4
 .obtain⟨p,b,kb,w,h1,h2,h3,h4,h5⟩:=hit i v hv;exact⟨b,_,w,h2,h5⟩
 .obtain⟨xs',k1,es,ep,k2,k3,k4,k5⟩:=hJ;rw[hsz,gO] at k1;refine⟨.ref s.heap.objs.size,_,I.laid (a:=s.heap.objs.size) (o:=.dT (mrg [] ps)) (fun b u e=>hk b u (qw e) e) (qx _) ⟨?_,?_,xs',k1.keeps fun b ys e=>?_,o,es,ep,ho,k2,k3,k4,k5⟩,rfl,q _ I.fresh⟩
  .have:=pP ps ([]:ac (ac Key×V));rw[qm] at this;rw[ge];omega
  .exact mT.mpr (dM (qD I.big))
  .rw[aE (bK e I.fresh)];exact e
noncomputable def nU:ac D->au (ac (Key×D))
 |[]=>aa []
 |.tup [k,v]::r=>(io k).bind fun kk=>(nU r).map ((kk,v)::·)
 |_::_=>af
noncomputable def lU:ac D->au (ac (ac Key×D))
 |[]=>aa []
 |.tup [.tup t,v]::r=>(eM t).bind fun kk=>(lU r).map ((kk,v)::·)
 |_::_=>af
noncomputable def pC [eN κ] (ps:ac (κ×D)):ac (κ×D):=ps.foldl (fun acc kv=>cJ acc kv.1 kv.2) []
noncomputable def jV:ac D->au D
 |[.lst l]=>if l.length<=1000 then (nU l).map fun ps=>.dk (pC ps) else af
 |_=>af
noncomputable def oj:ac D->au D
 |[.lst l]=>if l.length<=1000 then (lU l).map fun ps=>.dt (pC ps) else af
 |_=>af
theorem wT {κ:Type} [eN κ] {K:aV} {G:Hp}:∀{us:ac (κ×V)} {kvs:ac (κ×D)} {acc:ac (κ×V)} {acd:ac (κ×D)},us.map (·.1)=kvs.map (·.1)->Reps Γ K G (us.map (·.2)) (kvs.map (·.2))->acc.map (·.1)=acd.map (·.1)->Reps Γ K G (acc.map (·.2)) (acd.map (·.2))->
  (mrg acc us).map (·.1)=(kvs.foldl (fun acc kv=>cJ acc kv.1 kv.2) acd).map (·.1)/\Reps Γ K G ((mrg acc us).map (·.2)) ((kvs.foldl (fun acc kv=>cJ acc kv.1 kv.2) acd).map (·.2))
 |[],[],_,_,_,_,e,r=>⟨e,r⟩
 |[],_::_,_,_,e,_,_,_=>by cases e
 |_::_,[],_,_,e,_,_,_=>by cases e
 |(k1,v)::us,(k2,d)::kvs,acc,acd,e,r,e0,r0=>by
  have e1:k1=k2:=(eU e).1;subst e1;have r:Reps Γ K G (v::us.map (·.2)) (d::kvs.map (·.2)):=r;cases r with
  |cons r1 r2=>
   obtain⟨w1,w2⟩:=nS (k:=k1) r1 e0 r0;exact wT (us:=us) (kvs:=kvs) (eU e).2 r2 w1 w2
theorem Ac {K:aV} {G H:Hp} (gh:ba G H):∀{vs:ac V} {ds:ac D} {ps:ac (Key×D)},Reps Γ K G vs ds->nU ds=aa ps->
  ∃us:ac (Key×V),vs.length=us.length/\us.map (·.1)=ps.map (·.1)/\Reps Γ K G (us.map (·.2)) (ps.map (·.2))/\∀(i:ao) p,us[i]?=aa p->∃b,vs[i]?=aa (.ref b)/\H b=aa (.tup [kV p.1,p.2])
 |_,[],ps,r,h=>by cases r;cases h;exact⟨[],rfl,rfl,.nil,fun i p e=>by simp at e⟩
 |_,d::ds,ps,.cons h1 h2,h=>by
  unfold nU at h;split at h
  .rename_i heq;cases heq
  .rename_i heq;cases heq;obtain⟨kk,hk,h⟩:=oBd h;obtain⟨zs,hz,rfl⟩:=oMd h;obtain⟨us,q1,q2,q3,q4⟩:=Ac gh h2 hz;obtain⟨a,ws,rfl,ha,ra⟩:=h1.tup_inv;obtain⟨x,y,rfl,rx,ry⟩:=ra.two;have ex:=ny rx hk;subst ex;refine⟨(kk,y)::us,by rw[qi,qi,q1],by simp[q2],.cons ry q3,fun i p e=>?_⟩;cases i with
   |zero=>cases e;exact⟨a,rfl,gh _ _ ha⟩
   |succ i=>exact q4 i p e
  .cases h
theorem D' {K:aV} {G H:Hp} (gh:ba G H):∀{vs:ac V} {ds:ac D} {ps:ac (ac Key×D)},Reps Γ K G vs ds->lU ds=aa ps->
  ∃us:ac (ac Key×V),vs.length=us.length/\us.map (·.1)=ps.map (·.1)/\Reps Γ K G (us.map (·.2)) (ps.map (·.2))/\∀(i:ao) p,us[i]?=aa p->∃b kb,vs[i]?=aa (.ref b)/\H b=aa (.tup [.ref kb,p.2])/\H kb=aa (.tup (p.1.map kV))
 |_,[],ps,r,h=>by cases r;cases h;exact⟨[],rfl,rfl,.nil,fun i p e=>by simp at e⟩
 |_,d::ds,ps,.cons h1 h2,h=>by
  unfold lU at h;split at h
  .rename_i heq;cases heq
  .rename_i heq;cases heq;obtain⟨kk,hk,h⟩:=oBd h;obtain⟨zs,hz,rfl⟩:=oMd h;obtain⟨us,q1,q2,q3,q4⟩:=D' gh h2 hz;obtain⟨a,ws,rfl,ha,ra⟩:=h1.tup_inv;obtain⟨x,y,rfl,rx,ry⟩:=ra.two;obtain⟨kb,ks,rfl,hkb,rk⟩:=rx.tup_inv;have ex:=km rk hk;subst ex;refine⟨(kk,y)::us,by rw[qi,qi,q1],by simp[q2],.cons ry q3,fun i p e=>?_⟩;cases i with
   |zero=>cases e;exact⟨a,kb,rfl,gh _ _ ha,gh _ _ hkb⟩
   |succ i=>exact q4 i p e
  .cases h
theorem o0 (hc:X.calm=ak) (hu:X.A.units+66<cB):TyD Γ X "dict" jV:=⟨_,Mv hc hu,fun {G H vs ds z} gh r h Q k=>by
 unfold jV at h;split at h
 .split at h
  .rename_i hz;obtain⟨ps,hp,rfl⟩:=oMd h;obtain⟨v,rfl,r1⟩:=r.one;obtain⟨a,ws,rfl,ha,ra⟩:=r1.lst_inv;obtain⟨us,q1,q2,q3,q4⟩:=Ac gh ra hp;refine⟨a,ws,us,rfl,gh _ _ ha,q1,by rw[←q1,ra.length];exact hz,q4,fun p hp=>?_⟩;have s:=Step.new (o:=.dK (mrg [] us)) gh hp;obtain⟨w1,w2⟩:=wT (acc:=[]) (acd:=[]) q2 q3 rfl .nil;exact k _ _ _ s (.dk bB w1 (w2.mono s.gg))
  .cases h
 .cases h⟩
theorem zM (hc:X.calm=ak) (hu:X.A.units+66<cB):TyD Γ X "dict" oj:=⟨_,Pj hc hu,fun {G H vs ds z} gh r h Q k=>by
 unfold oj at h;split at h
 .split at h
  .rename_i hz;obtain⟨ps,hp,rfl⟩:=oMd h;obtain⟨v,rfl,r1⟩:=r.one;obtain⟨a,ws,rfl,ha,ra⟩:=r1.lst_inv;obtain⟨us,q1,q2,q3,q4⟩:=D' gh ra hp;refine⟨a,ws,us,rfl,gh _ _ ha,q1,by rw[←q1,ra.length];exact hz,q4,fun p hp=>?_⟩;have s:=Step.new (o:=.dT (mrg [] us)) gh hp;obtain⟨w1,w2⟩:=wT (acc:=[]) (acd:=[]) q2 q3 rfl .nil;exact k _ _ _ s (.dt bB w1 (w2.mono s.gg))
  .cases h
 .cases h⟩
theorem Dfn.none {k:ao} (F:Dfn K mg x st)
  (hb:∀(kV doc pm:ax) (an:au aw) (cdv ct:ax) (us:ac ax),us.length=ps.length->hG (eS x x (eZ st) (c8 st) (aL st) .none kV doc pm an cdv ct) ⟨us,[]⟩=bq (ps.zip us))
 : Cal Γ P w K mg base x ps.length k (fun _=>af):=by
 obtain⟨f,fd,h1,h2⟩:=F.ex;refine⟨f,fd,ps,⟨fun vs H Q E h=>?_,fun A outer s H args us vs Q E hr I b v h=>?_⟩,h2,h1.kp,h1.binds hb⟩
 .obtain⟨_,_,_,_,_,_,z,_⟩:=h;cases z
 .obtain⟨_,_,_,_,_,_,z,_⟩:=h;cases z
noncomputable def orG (g g':D->D->au D) (x y:D):au D:=match g x y with
 |some z=>aa z
 |none=>g' x y
variable {z:D}
section
variable {a c:Expr} {g g':D->D->au D}
theorem GM {x y:D} (h:orG g g' x y=aa z):g x y=aa z\/g' x y=aa z:=by
 unfold orG at h;split at h
 .rename_i q;cases h;exact .inl q
 .exact .inr h
theorem CmpD.or (h:CmpD Γ X op g) (h':CmpD Γ X op g'):CmpD Γ X op (orG g g'):=by
 obtain⟨r,o,d⟩:=h.ex;obtain⟨r',o',d'⟩:=h'.ex;refine⟨_,o.or o',fun {G H v u x y z} gh r1 r2 q Q k=>?_⟩;rcases GM q with q|q
 .exact .inl (d gh r1 r2 q Q k)
 .exact .inr (d' gh r1 r2 q Q k)
noncomputable def eqA:=orG eqD mm
noncomputable def neA:=orG neD l5
theorem iJ (hu:X.A.units+64<cB):CmpD Γ X .Eq eqA:=iI.or (Fz hu)
theorem me (hu:X.A.units+64<cB):CmpD Γ X .NotEq neA:=Nc.or (Oz hu)
theorem DfnM.mk' {f:aw} {c:aj} {kV:ax} (a:cA K (.ref C) m=aa (aa (.ref f))) (i:oC K (.ref f)=ak)
  (l:K.lookup f=aa ⟨oc,od,.func (eS m qual (eZ st) (c8 st) (aL st) .none kV doc pm an cdv ct),osl⟩) (cd:m4 K cdv qual=ak) (k:gf K (.ref f)=ak):DfnM K C c m qual st:=⟨f,_,vB l cd k,a,i⟩
end
section
variable {f1 f2 f3 f4 f5 f6 f7:FE}
theorem ln1:∀ρ ds,ag f1 ar ρ=aa ds->ds.length=1:=mK fun _ _ h=>IT h
theorem ln2:∀ρ ds,ag f1 (ag f2 ar) ρ=aa ds->ds.length=2:=mK ln1
theorem ln3:∀ρ ds,ag f1 (ag f2 (ag f3 ar)) ρ=aa ds->ds.length=3:=mK ln2
theorem ln4:∀ρ ds,ag f1 (ag f2 (ag f3 (ag f4 ar))) ρ=aa ds->ds.length=4:=mK ln3
theorem ln5:∀ρ ds,ag f1 (ag f2 (ag f3 (ag f4 (ag f5 ar)))) ρ=aa ds->ds.length=5:=mK ln4
theorem ln6:∀ρ ds,ag f1 (ag f2 (ag f3 (ag f4 (ag f5 (ag f6 ar))))) ρ=aa ds->ds.length=6:=mK ln5
theorem ln7:∀ρ ds,ag f1 (ag f2 (ag f3 (ag f4 (ag f5 (ag f6 (ag f7 ar)))))) ρ=aa ds->ds.length=7:=mK ln6
end
variable {kvs:ac (ac Key×D)}
theorem At.setOdt (A:At Γ K G₀ H₀ G H ρ σ) (ha:H a=af):At Γ K G₀ H₀ G (upd H a (.dT [])) (ρ.set i (aa (.odt []))) (σ.set i (aa (.ref a))):=by have h0:H₀ a=af:=A.st.hh.free ha;have hg:G a=af:=A.gh.free ha;refine A.put (fp:=[]) (fp':=[a]) (.inl rfl) (fun b o e _=>by rw[aE (bK e ha)];exact e) (.odt (us:=[]) (kvs:=[]) h0 hg bB rfl .nil) (fun b hb=>.inr (by rw[bN.mp hb];exact ha)) (.refl _) (fun b o e=>?_) (fun _ _ _ _ _=>rfl) (fun b hb=>by cases hb);rw[aE (bK e hg)];exact A.gh b o e
theorem At.setOdk (A:At Γ K G₀ H₀ G H ρ σ) (ha:H a=af):At Γ K G₀ H₀ G (upd H a (.dK [])) (ρ.set i (aa (.odk []))) (σ.set i (aa (.ref a))):=by have h0:H₀ a=af:=A.st.hh.free ha;have hg:G a=af:=A.gh.free ha;refine A.put (fp:=[]) (fp':=[a]) (.inl rfl) (fun b o e _=>by rw[aE (bK e ha)];exact e) (.odk (us:=[]) (kvs:=[]) h0 hg bB rfl .nil) (fun b hb=>.inr (by rw[bN.mp hb];exact ha)) (.refl _) (fun b o e=>?_) (fun _ _ _ _ _=>rfl) (fun b hb=>by cases hb);rw[aE (bK e hg)];exact A.gh b o e
theorem At.chOdt (A:At Γ K G₀ H₀ G H ρ σ) {kvs':ac (ac Key×D)} {us':ac (ac Key×V)} (hi:ρ[i]?=aa (aa (.odt kvs))) (ha:σ[i]?=aa (aa (.ref a))) (e:us'.map (·.1)=kvs'.map (·.1)) (r:Reps Γ K G (us'.map (·.2)) (kvs'.map (·.2))):At Γ K G₀ H₀ G (upd H a (.dT us')) (ρ.set i (aa (.odt kvs'))) σ:=by
 obtain⟨v,fp,h1,h2⟩:=A.get hi;rw[ha] at h1;cases h1;cases h2 with
 |odt q1 q2 q3 q4 q5=>
  refine A.ch hi ha (.odt q1 q2 q3 q4 q5) (fun b o e hb=>?_) (.odt q1 q2 bB e r) (fun b hb=>.inl hb) (.refl _) (fun b o e=>?_) (fun _ _ _ _ _=>rfl)
  .rw[aE (fun z=>hb (bN.mpr z))];exact e
  .rw[aE (bK e q2)];exact A.gh b o e
theorem At.chOdk (A:At Γ K G₀ H₀ G H ρ σ) {kvs kvs':ac (Key×D)} {us':ac (Key×V)} (hi:ρ[i]?=aa (aa (.odk kvs))) (ha:σ[i]?=aa (aa (.ref a))) (e:us'.map (·.1)=kvs'.map (·.1)) (r:Reps Γ K G (us'.map (·.2)) (kvs'.map (·.2))):At Γ K G₀ H₀ G (upd H a (.dK us')) (ρ.set i (aa (.odk kvs'))) σ:=by
 obtain⟨v,fp,h1,h2⟩:=A.get hi;rw[ha] at h1;cases h1;cases h2 with
 |odk q1 q2 q3 q4 q5=>
  refine A.ch hi ha (.odk q1 q2 q3 q4 q5) (fun b o e hb=>?_) (.odk q1 q2 bB e r) (fun b hb=>.inl hb) (.refl _) (fun b o e=>?_) (fun _ _ _ _ _=>rfl)
  .rw[aE (fun z=>hb (bN.mpr z))];exact e
  .rw[aE (bK e q2)];exact A.gh b o e
noncomputable def z7:Slot->au D
 |.odt kvs=>aa (.dt kvs)
 |.odk kvs=>aa (.dk kvs)
 |_=>af
theorem At.frzD (A:At Γ K G₀ H₀ G H ρ σ) {s:Slot} (hi:ρ[i]?=aa (aa s)) (hd:z7 s=aa d):∃G',ba G G'/\At Γ K G₀ H₀ G' H (ρ.set i (aa (.sh d))) σ:=by
 obtain⟨v,fp,h1,h2⟩:=A.get hi;cases h2 with
 |sh _=>cases hd
 |own _ _ _ _=>cases hd
 |obj _ _ _ _ _ _ _=>cases hd
 |tlo _ _ _ _ _ _=>cases hd
 |oll _ _ _ _ _=>cases hd
 |fo _ _ _ _ _ _ _=>cases hd
 |pin _=>cases hd
 |objd _ _ _ _ _ _ _ _ _ _ _ _=>cases hd
 |odk q1 q2 q3 q4 q5=>
  cases hd;rename_i a us kvs;have sm:ba G (upd G a (.dK us)):=fun b o e=>by rw[aE (bK e q2)];exact e
  refine⟨upd G a (.dK us),sm,A.ch hi h1 (.odk q1 q2 q3 q4 q5) (fun b o e hb=>e) (.sh (.dk bB q4 (q5.mono sm))) (fun b hb=>by cases hb) sm (fun b o e=>?_) (fun b o e hb _=>?_)⟩
  .by_cases hb:b=a
   .subst hb;rw[bB] at e;cases e;exact q3
   .rw[aE hb] at e;exact A.gh b o e
  .rw[aE (fun z=>hb (bN.mpr z))]
 |odt q1 q2 q3 q4 q5=>
  cases hd;rename_i a us kvs;have sm:ba G (upd G a (.dT us)):=fun b o e=>by rw[aE (bK e q2)];exact e
  refine⟨upd G a (.dT us),sm,A.ch hi h1 (.odt q1 q2 q3 q4 q5) (fun b o e hb=>e) (.sh (.dt bB q4 (q5.mono sm))) (fun b hb=>by cases hb) sm (fun b o e=>?_) (fun b o e hb _=>?_)⟩
  .by_cases hb:b=a
   .subst hb;rw[bB] at e;cases e;exact q3
   .rw[aE hb] at e;exact A.gh b o e
  .rw[aE (fun z=>hb (bN.mpr z))]
section
variable {a c:Expr} {fv:FE}
noncomputable def oT (i:ao):FS:=fun ρ=>aa (.nx,ρ.set i (aa (.odt [])))
noncomputable def vd (i:ao):FS:=fun ρ=>aa (.nx,ρ.set i (aa (.odk [])))
theorem su (i:ao) (hN:X.N.Nodup) (hi:X.N[i]?=aa x:=by rfl) (hx:Loc X.env.scope x:=by first|exact cR rfl|exact ca rfl) (hs:eG (.Dict [] [] dp) (aa (.Name x pos')) pos.line X.env=bq av:=by rfl) (hf:X.fn x=ak\/X.env.scope.names.lookup x=aa .local:=by first|exact .inl rfl|exact .inr rfl|assumption) :
  DS Γ X (.Assign [.Name x pos'] (.Dict [] [] dp) pos) (oT i):=⟨(nG hN hi hx Ay hs hf).imp fun E σ H=>by
 rintro⟨G₀,H₀,G,ρ,fl,ρ',A,h,k⟩ p hp;cases h;exact k _ G _ (.refl _) (A.setOdt hp)⟩
theorem AW (i:ao) (hN:X.N.Nodup) (hi:X.N[i]?=aa x:=by rfl) (hx:Loc X.env.scope x:=by first|exact cR rfl|exact ca rfl) (hs:eG (.Dict [] [] dp) (aa (.Name x pos')) pos.line X.env=bq av:=by rfl) (hf:X.fn x=ak\/X.env.scope.names.lookup x=aa .local:=by first|exact .inl rfl|exact .inr rfl|assumption) :
  DS Γ X (.Assign [.Name x pos'] (.Dict [] [] dp) pos) (vd i):=⟨(nG hN hi hx vq hs hf).imp fun E σ H=>by
 rintro⟨G₀,H₀,G,ρ,fl,ρ',A,h,k⟩ p hp;cases h;exact k _ G _ (.refl _) (A.setOdk hp)⟩
noncomputable def eA (i:ao) (fk fv:FE):FS:=fun ρ=>(fv ρ).bind fun d=>(fk ρ).bind fun kd=>match ρ[i]? with
 |some (aa (.odt kvs))=>match kd with
  |.tup t=>(eM t).bind fun ks=>if kvs.length<100000 then aa (.nx,ρ.set i (aa (.odt (cJ kvs ks d)))) else af
  |_=>af
 |some (aa (.odk kvs))=>(io kd).bind fun k=>if kvs.length<100000 then aa (.nx,ρ.set i (aa (.odk (cJ kvs k d)))) else af
 |_=>af
theorem kT (i:ao) (hu:X.A.units+66<cB) (hk:DE Γ X ke fk) (hv':DE Γ X value fv) (hN:X.N[i]?=aa x:=by rfl) (hv:Vis X.env.scope x:=by first|exact cR rfl|exact ca (cR rfl)|exact ca (ca rfl)) (hd:(x==("__debug__":aj))=av:=by decide)
  (hcd:(x==("__classdict__":aj))=av:=by decide) (hs:eG value (aa (.Subscript (.Name x vp) ke pos')) pos.line X.env=bq av:=by rfl) :
  DS Γ X (.Assign [.Subscript (.Name x vp) ke pos'] value pos) (eA i fk fv):=⟨(uZ .(c) (gn hN hv hd hcd) hk.1 hv'.1 hs).imp fun E σ H=>by
 rintro⟨G₀,H₀,G,ρ,flw,ρ',A,h,k⟩;unfold eA at h;obtain⟨d,hd,ha⟩:=oBd h;clear h;obtain⟨kd,hkd,hq⟩:=oBd ha;clear ha;refine⟨G₀,H₀,G,ρ,d,A,hd,fun v G1 H1 s1 r1=>?_⟩;have A1:=A.step s1;split at hq
 .rename_i kvs hi;split at hq
  .rename_i t;obtain⟨ks,hks,hq⟩:=oBd hq;split at hq
   .rename_i hz;cases hq;obtain⟨w,fp,h1,h2⟩:=A1.get hi;cases h2 with
    |odt q1 q2 q3 q4 q5=>
     rename_i a us;refine⟨_,h1,G₀,H₀,G1,ρ,_,A1,hkd,fun u G2 H2 s2 r2=>?_⟩;have A2:=A1.step s2;obtain⟨bb,vs,rfl,hb,rb⟩:=r2.tup_inv;have ev:=km rb hks;subst ev;have ha2:H2 a=aa (.dT us):=s2.hh _ _ q3;have hlen:us.length=kvs.length:=by simpa using cw dU q4
     obtain⟨w1,w2⟩:=nS (k:=ks) (r1.mono s2.gg) q4 (q5.mono s2.gg);exact⟨a,_,rfl,iY.t ha2 (s2.gh _ _ hb) (by have:=ge;omega),k σ G2 _ (s1.gg.trans s2.gg) (A2.chOdt hi h1 w1 w2)⟩
   .cases hq
  .cases hq
 .rename_i kvs hi;obtain⟨kk,hkk,hq⟩:=oBd hq;split at hq
  .rename_i hz;cases hq;obtain⟨w,fp,h1,h2⟩:=A1.get hi;cases h2 with
   |odk q1 q2 q3 q4 q5=>
    rename_i a us;refine⟨_,h1,G₀,H₀,G1,ρ,_,A1,hkd,fun u G2 H2 s2 r2=>?_⟩;have A2:=A1.step s2;have eu:=ny r2 hkk;subst eu;have ha2:H2 a=aa (.dK us):=s2.hh _ _ q3;have hlen:us.length=kvs.length:=by simpa using cw dU q4
    obtain⟨w1,w2⟩:=nS (k:=kk) (r1.mono s2.gg) q4 (q5.mono s2.gg);exact⟨a,_,rfl,iY.k ha2 (by have:=ge;omega),k σ G2 _ (s1.gg.trans s2.gg) (A2.chOdk hi h1 w1 w2)⟩
  .cases hq
 .cases hq⟩
noncomputable def li (i:ao) (g:FS):FS:=fun ρ=>match ρ[i]? with
 |some (aa s)=>match z7 s with
  |some d=>g (ρ.set i (aa (.sh d)))
  |none=>af
 |_=>af
theorem TDs.frzD (i:ao):∀E σ H,TDs Γ X.K (li i g) E σ H->TDs Γ X.K g E σ H:=by
 rintro E σ H ⟨G₀,H₀,G,ρ,fl,ρ',A,h,k⟩;unfold li at h;split at h
 .rename_i s hi;split at h
  .rename_i d hd;obtain⟨G',sm,A'⟩:=A.frzD hi hd;exact⟨G₀,H₀,G',_,fl,ρ',A',h,fun σ1 G1 H1 sm1 A1=>k σ1 G1 H1 (sm.trans sm1) A1⟩
  .cases h
 .cases h
theorem oY (i:ao) (h:DSs Γ X sts g):DSs Γ X sts (li i g):=⟨h.1.imp (TDs.frzD i)⟩
end
section
variable {o:Expr}
end
section
open PyProof
section
variable {R:lz->aI->Prop} {P:ao->ax->Prop} {St:ao->Heap->Prop}
noncomputable abbrev wO (l:ac ax) (c:ao):Obj:={cls:=.type "list",dict:=af,data:=.seq l.toArray c,slots:=#[]}
end
noncomputable def mH:ac D->au (ac aq)
 |[]=>aa []
 |.int x::r=>(mH r).map (x::·)
 |_::_=>af
theorem Dd {K:aV} {G:Hp}:∀{vs:ac V} {ds:ac D} {ys:ac aq},Reps Γ K G vs ds->mH ds=aa ys->vs=ys.map V.int
 |_,[],ys,r,h=>by cases r;cases h;rfl
 |_,d::ds,ys,.cons h1 h2,h=>by
  cases d with
  |int x=>
   obtain⟨zs,hz,rfl⟩:=oMd (show(mH ds).map (x::·)=aa ys from h);rw[h1.int_inv,Dd h2 hz];rfl
  |_=>cases h
theorem Dx:∀{ns:ac aq} {us:ac ax},bu (ns.map V.int) us->us.length=ns.length/\∀(i:ao) v,us[i]?=aa v->∃t,v=.int (ns.getD i 0) t
 |[],_,r=>by rw[qP] at r;cases r;exact⟨rfl,fun i v h=>by simp at h⟩
 |n::ns,_,r=>by
  rw[qo] at r;cases r with
  |cons r1 r2=>
   obtain⟨h1,h2⟩:=Dx r2;refine⟨by simp[h1],fun i v h=>?_⟩;cases i with
   |zero=>
    obtain⟨t,rfl⟩:=r1;cases h;exact⟨t,rfl⟩
   |succ i=>exact h2 i v h
end
noncomputable def foF:Fld->D
 |.d d=>d
 |.k kvs=>.dk kvs
 |.t kvs=>.dt kvs
noncomputable def foD (c:aj) (fs:ac (aj×Fld)):D:=.ins c (fs.map fun z=>(z.1,foF z.2))
mutual
def plD:D->aT
 |.non=>ak
 |.bl _=>ak
 |.int _=>ak
 |.str _=>ak
 |.tup l=>jF l
 |.lst l=>jF l
 |_=>av
def jF:ac D->aT
 |[]=>ak
 |x::r=>plD x && jF r
end
noncomputable def nJ (fp:ac aw) (H G:Hp):Hp:=fun b=>if b∈fp then H b else G b
noncomputable def kX (fp:ac aw) (G:Hp):Hp:=fun b=>if b∈fp then af else G b
theorem pX (h:a∉fp):kX fp G a=G a:=qY h
mutual
theorem Rep.less (no:∀b∈fp,∀vs,G b≠aa (.lst vs)/\G b≠aa (.tup vs)):∀{v:V} {d:D},Rep Γ K G v d->plD d=ak->Rep Γ K (kX fp G) v d
 |_,_,.non,_=>.non
 |_,_,.bl b,_=>.bl b
 |_,_,.int i,_=>.int i
 |_,_,.str x,_=>.str x
 |_,_,.tup h r,hp=>.tup ((pX fun z=>(no _ z _).2 h).trans h) (r.less no (by rw[plD] at hp;exact hp))
 |_,_,.lst h r,hp=>.lst ((pX fun z=>(no _ z _).1 h).trans h) (r.less no (by rw[plD] at hp;exact hp))
 |_,_,.ty _,hp=>by simp[plD] at hp
 |_,_,.scr _,hp=>by simp[plD] at hp
 |_,_,.dk _ _ _,hp=>by simp[plD] at hp
 |_,_,.fdt _ _ _,hp=>by simp[plD] at hp
 |_,_,.dt _ _ _,hp=>by simp[plD] at hp
 |_,_,.ins _ _ _ _,hp=>by simp[plD] at hp
theorem Reps.less (no:∀b∈fp,∀vs,G b≠aa (.lst vs)/\G b≠aa (.tup vs)):∀{vs:ac V} {ds:ac D},Reps Γ K G vs ds->jF ds=ak->Reps Γ K (kX fp G) vs ds
 |_,_,.nil,_=>.nil
 |_,_,.cons r t,hp=>by rw[jF] at hp;have hp':=Bool.and_eq_true_iff.mp hp;exact .cons (r.less no hp'.1) (t.less no hp'.2)
end
theorem nE (hn:∀b∈fp,G b=af):ba G (nJ fp H G):=fun b o e=>by show(if b∈fp then H b else G b)=_;rw[qY (fun z=>by rw[hn b z] at e;cases e)];exact e
theorem FldsR.frz (hn:∀b∈fp,G b=af):∀{vs:ac V} {fs:ac Fld} {ps:ac aw},FldsR Γ K G H vs fs ps->(∀b∈ps,b∈fp)->Reps Γ K (nJ fp H G) vs (fs.map foF)
 |_,_,_,.nil,_=>.nil
 |_,_,_,.cons r t,hm=>by
  refine .cons ?_ (t.frz hn fun b hb=>hm b (qR _ hb));cases r with
  |d h=>exact h.mono (nE hn)
  |k h a c=>exact .dk (show(if _∈fp then H _ else G _)=_ by rw[qX (hm _ (ox _ qg))];exact h) a (c.mono (nE hn))
  |t h a c=>exact .dt (show(if _∈fp then H _ else G _)=_ by rw[qX (hm _ (ox _ qg))];exact h) a (c.mono (nE hn))
theorem FldsR.kinds:∀{vs:ac V} {fs:ac Fld} {ps:ac aw},FldsR Γ K G H vs fs ps->∀b∈ps,(∃us,H b=aa (.dK us))\/∃us,H b=aa (.dT us)
 |_,_,_,.nil,b,hb=>by cases hb
 |_,_,_,.cons r t,b,hb=>by
  rcases eF.mp hb with hb|hb
  .cases r with
   |d _=>cases hb
   |k h _ _=>rw[bN.mp hb];exact .inl ⟨_,h⟩
   |t h _ _=>rw[bN.mp hb];exact .inr ⟨_,h⟩
  .exact t.kinds b hb
section
variable {s:aT} {fs:ac (aj×Fld)}
theorem At.look (A:At Γ K G₀ H₀ G H ρ σ) (hi:ρ[i]?=aa (aa (.fo s c fs))):∃fp,(∀b∈fp,G b=af/\∃o,H b=aa o/\(∀vs,o≠.lst vs)/\∀vs,o≠.tup vs)/\At Γ K G₀ H₀ (nJ fp H G) H (ρ.set i (aa (.sh (foD c fs)))) σ:=by
 obtain⟨v,fp,h1,h2⟩:=A.get hi;cases h2 with
 |fo gs g1 g2 g3 g4 g5 g6=>
  rename_i a C dx vs ps;have hn:∀b∈a::ps,G b=af:=fun b hb=>(g2 b hb).2;have sm:=nE (H:=H) hn;have ga:nJ (a::ps) H G a=aa (.ins C dx vs):=by show(if a∈a::ps then H a else G a)=_;rw[qX qg];exact g4
  refine⟨a::ps,fun b hb=>⟨hn b hb,?_⟩,A.ch hi h1 (.fo gs g1 g2 g3 g4 g5 g6) (fun b o e _=>e) (.sh (.ins ga g1 (by rw[g5,qp];rfl) ?_)) (fun b hb=>by cases hb) sm (fun b o e=>?_) (fun b o e hb _=>?_)⟩
  .rcases cH.mp hb with rfl|hb
   .exact⟨_,g4,(fun _ z=>by cases z),(fun _ z=>by cases z)⟩
   .rcases g6.kinds b hb with⟨us,e⟩|⟨us,e⟩
    .exact⟨_,e,(fun _ z=>by cases z),(fun _ z=>by cases z)⟩
    .exact⟨_,e,(fun _ z=>by cases z),(fun _ z=>by cases z)⟩
  .have:=g6.frz hn fun b hb=>qh _ hb;rw[qp] at this ⊢;exact this
  .replace e:(if b∈a::ps then H b else G b)=aa o:=e
   split at e
   .exact e
   .exact A.gh b o e
  .show(if b∈a::ps then H b else G b)=G b;rw[qY hb]
theorem u6 (gh:ba G H) (hf:∀b∈fp,G b=af/\∃o,H b=aa o/\(∀vs,o≠.lst vs)/\∀vs,o≠.tup vs) (s:Step (nJ fp H G) H G' H'):Step G H (kX fp G') H'/\∀b∈fp,∀vs,G' b≠aa (.lst vs)/\G' b≠aa (.tup vs):=by
 have hn:∀b∈fp,G b=af:=fun b hb=>(hf b hb).1;refine⟨⟨s.hh,fun b o e=>?_,fun b o e=>?_,fun b o e ek=>?_⟩,fun b hb vs=>?_⟩
 .show(if b∈fp then af else G' b)=_;rw[qY (fun z=>by rw[hn b z] at e;cases e)];exact s.gg b o (nE hn b o e)
 .replace e:(if b∈fp then af else G' b)=aa o:=e
  split at e
  .cases e
  .exact s.gh b o e
 .show(if b∈fp then af else G' b)=_;by_cases hb:b∈fp
  .rw[qX hb,hn b hb]
  .rw[qY hb,s.out b o e ek];show(if b∈fp then H b else G b)=_;rw[qY hb]
 .obtain⟨_,o,e,k1,k2⟩:=hf b hb;have:G' b=aa o:=by rw[s.out b o e (by cases o<;>first|rfl|exact bJ rfl (k2 _))];show(if b∈fp then H b else G b)=_;rw[qX hb,e]
  rw[this];exact⟨fun z=>k1 vs (qI z),fun z=>k2 vs (qI z)⟩
end
noncomputable def bwF (i:ao) (f:FE):FE:=fun ρ=>match ρ[i]? with
 |some (aa (.fo s c fs))=>(f (ρ.set i (aa (.sh (foD c fs))))).bind fun d=>if plD d=ak then aa d else af
 |_=>f ρ
noncomputable def mN (i:ao) (f:FT):FT:=fun ρ=>match ρ[i]? with
 |some (aa (.fo s c fs))=>f (ρ.set i (aa (.sh (foD c fs))))
 |_=>f ρ
noncomputable def kG (i:ao) (f:FA):FA:=fun ρ=>match ρ[i]? with
 |some (aa (.fo s c fs))=>(f (ρ.set i (aa (.sh (foD c fs))))).bind fun ds=>if jF ds=ak then aa ds else af
 |_=>f ρ
theorem vN (i:ao) (h:DE Γ X e f):DE Γ X e (bwF i f):=⟨h.1.imp fun σ H Q=>by
 rintro⟨G₀,H₀,G,ρ,d,A,h,k⟩;unfold bwF at h;split at h
 .rename_i sb c fs hi;obtain⟨d',hd,h⟩:=oBd h;split at h
  .rename_i hp;cases h;obtain⟨fp,hf,A1⟩:=A.look hi;refine⟨G₀,H₀,_,_,d,A1,hd,fun v G' H' s r=>?_⟩;obtain⟨s2,no⟩:=u6 A.gh hf s;exact k v _ H' s2 (r.less no hp)
  .cases h
 .exact⟨G₀,H₀,G,ρ,d,A,h,k⟩⟩
theorem uT (i:ao) {f:FT} (h:DT Γ X e f):DT Γ X e (mN i f):=⟨h.1.imp fun σ H Q=>by
 rintro⟨G₀,H₀,G,ρ,d,A,h,k⟩;unfold mN at h;split at h
 .rename_i sb c fs hi;obtain⟨fp,hf,A1⟩:=A.look hi;exact⟨G₀,H₀,_,_,d,A1,h,fun G' H' s=>k _ H' (u6 A.gh hf s).1⟩
 .exact⟨G₀,H₀,G,ρ,d,A,h,k⟩⟩
theorem BA {f:FA} (h:∀ρ ds,f ρ=aa ds->ds.length=n):∀ρ ds,kG i f ρ=aa ds->ds.length=n:=fun ρ ds e=>by
 unfold kG at e;split at e
 .obtain⟨ds',hd,e⟩:=oBd e;split at e
  .cases e;exact h _ _ hd
  .cases e
 .exact h _ _ e
theorem BV (i:ao) {f:FA} (h:DA Γ X es f):DA Γ X es (kG i f):=⟨h.1.imp fun σ H Q=>by
 rintro⟨G₀,H₀,G,ρ,ds,A,h,k⟩;unfold kG at h;split at h
 .rename_i sb c fs hi;obtain⟨ds',hd,h⟩:=oBd h;split at h
  .rename_i hp;cases h;obtain⟨fp,hf,A1⟩:=A.look hi;refine⟨G₀,H₀,_,_,ds,A1,hd,fun vs G' H' s r=>?_⟩;obtain⟨s2,no⟩:=u6 A.gh hf s;exact k vs _ H' s2 (r.less no hp)
  .cases h
 .exact⟨G₀,H₀,G,ρ,ds,A,h,k⟩⟩
noncomputable def fU (f:aj) (x:Fld):ac (aj×Fld)->ac (aj×Fld)
 |[]=>[]
 |(g,y)::r=>if f=g then (g,x)::r else (g,y)::fU f x r
theorem wB {f:aj} {x:Fld}:∀fs:ac (aj×Fld),(fU f x fs).map (·.1)=fs.map (·.1)
 |[]=>rfl
 |(g,y)::r=>by
  unfold fU;split
  .rfl
  .rw[qo,qo,wB r]
section
variable {f:aj}
theorem FldsR.none:∀{vs:ac (aj×V)} {fs:ac (aj×Fld)},vs.map (·.1)=fs.map (·.1)->fs.lookup f=af->vs.lookup f=af
 |[],[],_,_=>rfl
 |[],_::_,h,_=>by cases h
 |_::_,[],h,_=>by cases h
 |(g,v)::vs,(g',y)::fs,h,hl=>by
  rw[qo,qo] at h;have ht:=(eU h).2;have e:g=g':=(eU h).1;clear h;subst e;by_cases ef:f=g
  .subst ef;simp[dj] at hl
  .have hb:(f==g)=av:=by simpa using ef
   simp only[dj,hb] at hl ⊢;exact FldsR.none ht hl
theorem FldsR.app {vs ws:ac V} {fs gs:ac Fld} {ps qs:ac aw} (h:FldsR Γ K G H vs fs ps) (h':FldsR Γ K G H ws gs qs):FldsR Γ K G H (vs++ws) (fs++gs) (ps++qs):=by
 induction h with
 |nil=>exact h'
 |cons r t ih=>rw[lH];exact .cons r ih
theorem FldsR.putK {kvs:ac (Key×D)}:∀{vs:ac (aj×V)} {fs:ac (aj×Fld)} {ps:ac aw},vs.map (·.1)=fs.map (·.1)->FldsR Γ K G H (vs.map (·.2)) (fs.map (·.2)) ps->fs.lookup f=aa (.k kvs)->
  ∃q us,vs.lookup f=aa (.ref q)/\q∈ps/\H q=aa (.dK us)/\us.map (·.1)=kvs.map (·.1)/\Reps Γ K G (us.map (·.2)) (kvs.map (·.2)) /\
   (ps.Nodup->∀{us':ac (Key×V)} {kvs':ac (Key×D)},us'.map (·.1)=kvs'.map (·.1)->Reps Γ K G (us'.map (·.2)) (kvs'.map (·.2))->FldsR Γ K G (upd H q (.dK us')) (vs.map (·.2)) ((fU f (.k kvs') fs).map (·.2)) ps)
 |[],[],_,_,_,h=>by cases h
 |[],_::_,_,h,_,_=>by cases h
 |_::_,[],_,h,_,_=>by cases h
 |(g,v)::vs,(g',y)::fs,ps,h,r,hl=>by
  rw[qo,qo] at h;have ht:=(eU h).2;have e:g=g':=(eU h).1;clear h;subst e;rw[qo,qo] at r;cases r with
  |cons r1 r2=>
   by_cases ef:f=g
   .subst ef;simp only[dj,Q8] at hl ⊢;cases hl;cases r1 with
    |k a1 a2 a3=>
     refine⟨_,_,rfl,ox _ qg,a1,a2,a3,fun nd us' kvs' e1 e2=>?_⟩;have hs:fU f (.k kvs') ((f,.k kvs)::fs)=(f,.k kvs')::fs:=qX rfl;rw[hs,qo,qo];refine .cons (.k bB e1 e2) (r2.stay (.refl _) fun b hb=>aE fun z=>?_);subst z;exact(eJ.mp nd).1 hb
   .have hb:(f==g)=av:=by simpa using ef
    simp only[dj,hb] at hl ⊢;obtain⟨q,us,b1,b2,b3,b4,b5,b6⟩:=FldsR.putK ht r2 hl;refine⟨q,us,b1,qR _ b2,b3,b4,b5,fun nd us' kvs' e1 e2=>?_⟩;have hs:fU f (.k kvs') ((g,y)::fs)=(g,y)::fU f (.k kvs') fs:=qY ef;rw[hs,qo,qo];have nd':=ky.mp nd;exact .cons (r1.stay (.refl _) fun b hb=>aE fun z=>nd'.2.2 b hb q b2 z) (b6 nd'.2.1 e1 e2)
theorem FldsR.putT {kvs:ac (ac Key×D)}:∀{vs:ac (aj×V)} {fs:ac (aj×Fld)} {ps:ac aw},vs.map (·.1)=fs.map (·.1)->FldsR Γ K G H (vs.map (·.2)) (fs.map (·.2)) ps->fs.lookup f=aa (.t kvs)->
  ∃q us,vs.lookup f=aa (.ref q)/\q∈ps/\H q=aa (.dT us)/\us.map (·.1)=kvs.map (·.1)/\Reps Γ K G (us.map (·.2)) (kvs.map (·.2)) /\
   (ps.Nodup->∀{us':ac (ac Key×V)} {kvs':ac (ac Key×D)},us'.map (·.1)=kvs'.map (·.1)->Reps Γ K G (us'.map (·.2)) (kvs'.map (·.2))->FldsR Γ K G (upd H q (.dT us')) (vs.map (·.2)) ((fU f (.t kvs') fs).map (·.2)) ps)
 |[],[],_,_,_,h=>by cases h
 |[],_::_,_,h,_,_=>by cases h
 |_::_,[],_,h,_,_=>by cases h
 |(g,v)::vs,(g',y)::fs,ps,h,r,hl=>by
  rw[qo,qo] at h;have ht:=(eU h).2;have e:g=g':=(eU h).1;clear h;subst e;rw[qo,qo] at r;cases r with
  |cons r1 r2=>
   by_cases ef:f=g
   .subst ef;simp only[dj,Q8] at hl ⊢;cases hl;cases r1 with
    |t a1 a2 a3=>
     refine⟨_,_,rfl,ox _ qg,a1,a2,a3,fun nd us' kvs' e1 e2=>?_⟩;have hs:fU f (.t kvs') ((f,.t kvs)::fs)=(f,.t kvs')::fs:=qX rfl;rw[hs,qo,qo];refine .cons (.t bB e1 e2) (r2.stay (.refl _) fun b hb=>aE fun z=>?_);subst z;exact(eJ.mp nd).1 hb
   .have hb:(f==g)=av:=by simpa using ef
    simp only[dj,hb] at hl ⊢;obtain⟨q,us,b1,b2,b3,b4,b5,b6⟩:=FldsR.putT ht r2 hl;refine⟨q,us,b1,qR _ b2,b3,b4,b5,fun nd us' kvs' e1 e2=>?_⟩;have hs:fU f (.t kvs') ((g,y)::fs)=(g,y)::fU f (.t kvs') fs:=qY ef;rw[hs,qo,qo];have nd':=ky.mp nd;exact .cons (r1.stay (.refl _) fun b hb=>aE fun z=>nd'.2.2 b hb q b2 z) (b6 nd'.2.1 e1 e2)
end
section
variable {fv:FE} {fl:aj}
noncomputable def jH (c f:aj) (i:ao) (fv:FE):FS:=fun ρ=>(fv ρ).bind fun d=>match ρ[i]? with
 |some (aa (.fo s c' fs))=>if c'=c/\fs.lookup f=af/\fs.length<100 then aa (.nx,ρ.set i (aa (.fo s c (fs++[(f,.d d)])))) else af
 |_=>af
theorem oh (i:ao) (hc:CF Γ X.K cl attrs) (hf:fl∈attrs) (hv':DE Γ X value fv) (hN:X.N[i]?=aa x:=by rfl) (hv:Vis X.env.scope x:=by first|exact cR rfl|exact ca (cR rfl)|exact ca (ca rfl)) (hd:(x==("__debug__":aj))=av:=by decide)
  (hcd:(x==("__classdict__":aj))=av:=by decide) (hs:eG value (aa (.Attribute (.Name x vp) fl pos')) pos.line X.env=bq av:=by rfl):DS Γ X (.Assign [.Attribute (.Name x vp) fl pos'] value pos) (jH cl fl i fv):=⟨(pr (gn hN hv hd hcd) hv'.1 hs).imp fun E σ H=>by
 rintro⟨G₀,H₀,G,ρ,flw,ρ',A,h,k⟩;unfold jH at h;obtain⟨d,hd,h⟩:=oBd h;split at h
 .rename_i sb c' fs hi;split at h
  .rename_i hz;obtain⟨rfl,hz2,hz3⟩:=hz;cases h;obtain⟨C,q1,q2,q3⟩:=hc.ex;refine⟨G₀,H₀,G,ρ,d,A,hd,fun v G1 H1 s1 r1=>?_⟩;have A1:=A.step s1;obtain⟨w,fp,h1,h2⟩:=A1.get hi;cases h2 with
   |fo gs g1 g2 g3 g4 g5 g6=>
    rename_i a C' dx vs ps;have g1':=g1;rw[q1] at g1;cases g1;have hl:=FldsR.none g5 hz2;have hlen:vs.length=fs.length:=by simpa using cw dU g5
    have nd:=eJ.mp g3;refine⟨_,h1,a,C,dx,vs,rfl,g4,q2,q3 fl hf,by omega,?_⟩;rw[nT hl];have g6':FldsR Γ X.K G1 (upd H1 a (.ins C dx (vs++[(fl,v)]))) ((vs++[(fl,v)]).map (·.2)) ((fs++[(fl,Fld.d d)]).map (·.2)) ps:=by rw[eO,eO];have:=(g6.stay (H':=upd H1 a (.ins C dx (vs++[(fl,v)]))) (.refl _) fun b hb=>aE fun z=>nd.1 (by rw[←z];exact hb)).app (.cons (.d r1) .nil);simpa using this
    refine k σ G1 _ s1.gg (A1.ch hi h1 (.fo gs g1' g2 g3 g4 g5 g6) (fun b o e hb=>?_) (.fo gs g1' g2 g3 bB (by simp[g5]) g6') (fun b hb=>.inl hb) (.refl _) (fun b o e=>?_) (fun _ _ _ _ _=>rfl))
    .rw[aE (fun z=>hb (by rw[z];exact qg))];exact e
    .rw[aE (bK e (g2 a qg).2)];exact A1.gh b o e
  .cases h
 .cases h⟩
noncomputable def gm (c f:aj) (i:ao) (y:Fld):FS:=fun ρ=>match ρ[i]? with
 |some (aa (.fo s c' fs))=>if c'=c/\fs.lookup f=af/\fs.length<100 then aa (.nx,ρ.set i (aa (.fo s c (fs++[(f,y)])))) else af
 |_=>af
theorem kR (i:ao) (hc:CF Γ X.K cl attrs) (hf:fl∈attrs) (hN:X.N[i]?=aa x:=by rfl) (hv:Vis X.env.scope x:=by first|exact cR rfl|exact ca (cR rfl)|exact ca (ca rfl)) (hd:(x==("__debug__":aj))=av:=by decide)
  (hcd:(x==("__classdict__":aj))=av:=by decide) (hs:eG (.Dict [] [] dp) (aa (.Attribute (.Name x vp) fl pos')) pos.line X.env=bq av:=by rfl):DS Γ X (.Assign [.Attribute (.Name x vp) fl pos'] (.Dict [] [] dp) pos) (gm cl fl i (.k [])):=⟨(pr (gn hN hv hd hcd) vq hs).imp fun E σ H=>by
 rintro⟨G₀,H₀,G,ρ,flw,ρ',A,h,k⟩ p hp;unfold gm at h;split at h
 .rename_i sb c' fs hi;split at h
  .rename_i hz;obtain⟨rfl,hz2,hz3⟩:=hz;cases h;obtain⟨C,q1,q2,q3⟩:=hc.ex;obtain⟨w,fp,h1,h2⟩:=A.get hi;have ht:=h2.fpt;cases h2 with
   |fo gs g1 g2 g3 g4 g5 g6=>
    rename_i a C' dx vs ps;have g1':=g1;rw[q1] at g1;cases g1;have hl:=FldsR.none g5 hz2;have hlen:vs.length=fs.length:=by simpa using cw dU g5
    have nd:=eJ.mp g3;have npa:a≠p:=bK g4 hp;have nps:∀b∈a::ps,b≠p:=fun b hb=>by obtain⟨_,_,o,e,_⟩:=ht b hb;exact bK e hp
    have hp0:H₀ p=af:=A.st.hh.free hp;have hpg:G p=af:=A.gh.free hp;refine⟨_,h1,a,C,dx,vs,rfl,by rw[aE npa];exact g4,q2,q3 fl hf,by omega,?_⟩;rw[nT hl];have g6':FldsR Γ X.K G (upd (upd H p (.dK [])) a (.ins C dx (vs++[(fl,.ref p)]))) ((vs++[(fl,V.ref p)]).map (·.2)) ((fs++[(fl,Fld.k [])]).map (·.2)) (ps++[p]):=by rw[eO,eO];refine(g6.stay (.refl _) fun b hb=>?_).app (.cons (p:=[p]) (ps:=[]) (.k (us:=[]) (by rw[aE npa.symm,bB]) rfl .nil) .nil);rw[aE fun z=>nd.1 (by rw[←z];exact hb),aE (nps b (qh _ hb))]
    refine k σ G _ (.refl _) (A.ch hi h1 (.fo gs g1' g2 g3 g4 g5 g6) (fun b o e hb=>?_) (.fo (ps:=ps++[p]) gs g1' (fun b hb=>?_) ?_ bB (by simp[g5]) g6') (fun b hb=>?_) (.refl _) (fun b o e=>?_) (fun _ _ _ _ _=>rfl))
    .rw[aE (fun z=>hb (by rw[z];exact qg)),aE (bK e hp)];exact e
    .rw[←qr] at hb;rcases eF.mp hb with hb|hb
     .exact g2 b hb
     .rw[bN.mp hb];exact⟨hp0,hpg⟩
    .rw[←qr];exact ky.mpr ⟨g3,eJ.mpr ⟨(fun z=>nomatch z),kx⟩,fun b hb c hc=>by rw[bN.mp hc];exact nps b hb⟩
    .rw[←qr] at hb;rcases eF.mp hb with hb|hb
     .exact .inl hb
     .rw[bN.mp hb];exact .inr hp
    .rw[aE (bK e (g2 a qg).2),aE (bK e hpg)];exact A.gh b o e
  .cases h
 .cases h⟩
end
section
variable {fv:FE} {fl:aj}
theorem Iz (i:ao) (hc:CF Γ X.K cl attrs) (hf:fl∈attrs) (hN:X.N[i]?=aa x:=by rfl) (hv:Vis X.env.scope x:=by first|exact cR rfl|exact ca (cR rfl)|exact ca (ca rfl)) (hd:(x==("__debug__":aj))=av:=by decide)
  (hcd:(x==("__classdict__":aj))=av:=by decide) (hs:eG (.Dict [] [] dp) (aa (.Attribute (.Name x vp) fl pos')) pos.line X.env=bq av:=by rfl):DS Γ X (.Assign [.Attribute (.Name x vp) fl pos'] (.Dict [] [] dp) pos) (gm cl fl i (.t [])):=⟨(pr (gn hN hv hd hcd) Ay hs).imp fun E σ H=>by
 rintro⟨G₀,H₀,G,ρ,flw,ρ',A,h,k⟩ p hp;unfold gm at h;split at h
 .rename_i sb c' fs hi;split at h
  .rename_i hz;obtain⟨rfl,hz2,hz3⟩:=hz;cases h;obtain⟨C,q1,q2,q3⟩:=hc.ex;obtain⟨w,fp,h1,h2⟩:=A.get hi;have ht:=h2.fpt;cases h2 with
   |fo gs g1 g2 g3 g4 g5 g6=>
    rename_i a C' dx vs ps;have g1':=g1;rw[q1] at g1;cases g1;have hl:=FldsR.none g5 hz2;have hlen:vs.length=fs.length:=by simpa using cw dU g5
    have nd:=eJ.mp g3;have npa:a≠p:=bK g4 hp;have nps:∀b∈a::ps,b≠p:=fun b hb=>by obtain⟨_,_,o,e,_⟩:=ht b hb;exact bK e hp
    have hp0:H₀ p=af:=A.st.hh.free hp;have hpg:G p=af:=A.gh.free hp;refine⟨_,h1,a,C,dx,vs,rfl,by rw[aE npa];exact g4,q2,q3 fl hf,by omega,?_⟩;rw[nT hl];have g6':FldsR Γ X.K G (upd (upd H p (.dT [])) a (.ins C dx (vs++[(fl,.ref p)]))) ((vs++[(fl,V.ref p)]).map (·.2)) ((fs++[(fl,Fld.t [])]).map (·.2)) (ps++[p]):=by rw[eO,eO];refine(g6.stay (.refl _) fun b hb=>?_).app (.cons (p:=[p]) (ps:=[]) (.t (us:=[]) (by rw[aE npa.symm,bB]) rfl .nil) .nil);rw[aE fun z=>nd.1 (by rw[←z];exact hb),aE (nps b (qh _ hb))]
    refine k σ G _ (.refl _) (A.ch hi h1 (.fo gs g1' g2 g3 g4 g5 g6) (fun b o e hb=>?_) (.fo (ps:=ps++[p]) gs g1' (fun b hb=>?_) ?_ bB (by simp[g5]) g6') (fun b hb=>?_) (.refl _) (fun b o e=>?_) (fun _ _ _ _ _=>rfl))
    .rw[aE (fun z=>hb (by rw[z];exact qg)),aE (bK e hp)];exact e
    .rw[←qr] at hb;rcases eF.mp hb with hb|hb
     .exact g2 b hb
     .rw[bN.mp hb];exact⟨hp0,hpg⟩
    .rw[←qr];exact ky.mpr ⟨g3,eJ.mpr ⟨(fun z=>nomatch z),kx⟩,fun b hb c hc=>by rw[bN.mp hc];exact nps b hb⟩
    .rw[←qr] at hb;rcases eF.mp hb with hb|hb
     .exact .inl hb
     .rw[bN.mp hb];exact .inr hp
    .rw[aE (bK e (g2 a qg).2),aE (bK e hpg)];exact A.gh b o e
  .cases h
 .cases h⟩
noncomputable def gy (c f:aj) (i:ao) (fk fv:FE):FS:=fun ρ=>(fv ρ).bind fun d=>(fk ρ).bind fun kd=>match ρ[i]? with
 |some (aa (.fo s c' fs))=>if c'=c then match fs.lookup f with
  |some (.k kvs)=>(io kd).bind fun k=>if kvs.length<100000 then aa (.nx,ρ.set i (aa (.fo s c (fU f (.k (cJ kvs k d)) fs)))) else af
  |some (.t kvs)=>match kd with
   |.tup t=>(eM t).bind fun ks=>if kvs.length<100000 then aa (.nx,ρ.set i (aa (.fo s c (fU f (.t (cJ kvs ks d)) fs)))) else af
   |_=>af
  |_=>af else af
 |_=>af
theorem kM (i:ao) (hu:X.A.units+66<cB) (hc:CF Γ X.K cl attrs) (hf:fl∈attrs) (hk:DE Γ X ke fk) (hv':DE Γ X value fv) (hN:X.N[i]?=aa x:=by rfl) (hv:Vis X.env.scope x:=by first|exact cR rfl|exact ca (cR rfl)|exact ca (ca rfl)) (hd:(x==("__debug__":aj))=av:=by decide)
  (hcd:(x==("__classdict__":aj))=av:=by decide) (hb:i9 (.Name x vp) fl X.env (eval (.Name x vp) X.env)=eval (.Name x vp) X.env:=by rfl) (hs:eG value (aa (.Subscript (.Attribute (.Name x vp) fl ap) ke pos')) pos.line X.env=bq av:=by rfl) :
  DS Γ X (.Assign [.Subscript (.Attribute (.Name x vp) fl ap) ke pos'] value pos) (gy cl fl i fk fv):=⟨(uZ .(c) (tF (gn hN hv hd hcd) hb) hk.1 hv'.1 hs).imp fun E σ H=>by
 rintro⟨G₀,H₀,G,ρ,flw,ρ',A,h,k⟩;unfold gy at h;obtain⟨d,hd,ha⟩:=oBd h;clear h;obtain⟨kd,hkd,hq⟩:=oBd ha;clear ha;split at hq
 .rename_i sb c' fs hi;split at hq
  .rename_i hz;subst hz;obtain⟨C,q1,q2,q3⟩:=hc.ex;refine⟨G₀,H₀,G,ρ,d,A,hd,fun v G1 H1 s1 r1=>?_⟩;have A1:=A.step s1;obtain⟨w,fp,h1,h2⟩:=A1.get hi;cases h2 with
   |fo gs g1 g2 g3 g4 g5 g6=>
    rename_i a C' dx vs ps;have g1':=g1;rw[q1] at g1;cases g1;have nd:=eJ.mp g3;split at hq
    .rename_i kvs hl;obtain⟨kk,hkk,hq⟩:=oBd hq;split at hq
     .rename_i hz;cases hq;obtain⟨p0,_,b1,_⟩:=FldsR.putK g5 g6 hl;refine⟨_,h1,a,C,dx,_,.ref p0,rfl,g4,q2,q3 fl hf,b1,G₀,H₀,G1,ρ,kd,A1,hkd,fun u G2 H2 s2 r2=>?_⟩;have A2:=A1.step s2;have eu:=ny r2 hkk;subst eu;have hg:∀b∈a::ps,H₀ b=af/\G2 b=af:=fun b hb=>by
       rcases cH.mp hb with rfl|hb'
       .exact⟨(g2 _ hb).1,(s2.out _ _ g4 rfl).trans (g2 _ hb).2⟩
       .obtain⟨o,e,ek⟩:=g6.mem b hb';exact⟨(g2 _ hb).1,(s2.out _ _ e ek).trans (g2 _ hb).2⟩
      have ha2:H2 a=aa (.ins C dx vs):=s2.hh _ _ g4;have g62:FldsR Γ X.K G2 H2 (vs.map (·.2)) (fs.map (·.2)) ps:=g6.stay s2.gg fun b hb=>by obtain⟨o,e,ek⟩:=g6.mem b hb;rw[e];exact s2.hh _ _ e
      obtain⟨p,us,c1,c2,c3,c4,c5,c6⟩:=FldsR.putK g5 g62 hl;rw[b1] at c1;cases c1;have hlen:us.length=kvs.length:=by simpa using cw dU c4
      obtain⟨w1,w2⟩:=nS (k:=kk) (r1.mono s2.gg) c4 c5;have npa:a≠p0:=fun z=>nd.1 (by rw[z];exact c2);refine⟨p0,_,rfl,iY.k c3 (by have:=ge;omega),?_⟩;refine k σ G2 _ (s1.gg.trans s2.gg) (A2.ch hi h1 (.fo gs g1' hg g3 ha2 g5 g62) (fun b o e hb=>?_) (.fo gs g1' hg g3 (by rw[aE npa];exact ha2) (by rw[wB];exact g5) (c6 nd.2 w1 w2)) (fun b hb=>.inl hb) (.refl _) (fun b o e=>?_) (fun _ _ _ _ _=>rfl))
      .rw[aE (fun z=>hb (by rw[z];exact qh _ c2))];exact e
      .rw[aE (bK e (hg p0 (qh _ c2)).2)];exact A2.gh b o e
     .cases hq
    .rename_i kvs hl;split at hq
     .rename_i t;obtain⟨ks,hks,hq⟩:=oBd hq;split at hq
      .rename_i hz;cases hq;obtain⟨p0,_,b1,_⟩:=FldsR.putT g5 g6 hl;refine⟨_,h1,a,C,dx,_,.ref p0,rfl,g4,q2,q3 fl hf,b1,G₀,H₀,G1,ρ,_,A1,hkd,fun u G2 H2 s2 r2=>?_⟩;have A2:=A1.step s2;obtain⟨bb,us0,rfl,hb0,rb⟩:=r2.tup_inv;have ev:=km rb hks;subst ev;have hg:∀b∈a::ps,H₀ b=af/\G2 b=af:=fun b hb=>by
        rcases cH.mp hb with rfl|hb'
        .exact⟨(g2 _ hb).1,(s2.out _ _ g4 rfl).trans (g2 _ hb).2⟩
        .obtain⟨o,e,ek⟩:=g6.mem b hb';exact⟨(g2 _ hb).1,(s2.out _ _ e ek).trans (g2 _ hb).2⟩
       have ha2:H2 a=aa (.ins C dx vs):=s2.hh _ _ g4;have g62:FldsR Γ X.K G2 H2 (vs.map (·.2)) (fs.map (·.2)) ps:=g6.stay s2.gg fun b hb=>by obtain⟨o,e,ek⟩:=g6.mem b hb;rw[e];exact s2.hh _ _ e
       obtain⟨p,us,c1,c2,c3,c4,c5,c6⟩:=FldsR.putT g5 g62 hl;rw[b1] at c1;cases c1;have hlen:us.length=kvs.length:=by simpa using cw dU c4
       obtain⟨w1,w2⟩:=nS (k:=ks) (r1.mono s2.gg) c4 c5;have npa:a≠p0:=fun z=>nd.1 (by rw[z];exact c2);refine⟨p0,_,rfl,iY.t c3 (s2.gh _ _ hb0) (by have:=ge;omega),?_⟩;refine k σ G2 _ (s1.gg.trans s2.gg) (A2.ch hi h1 (.fo gs g1' hg g3 ha2 g5 g62) (fun b o e hb=>?_) (.fo gs g1' hg g3 (by rw[aE npa];exact ha2) (by rw[wB];exact g5) (c6 nd.2 w1 w2)) (fun b hb=>.inl hb) (.refl _) (fun b o e=>?_) (fun _ _ _ _ _=>rfl))
       .rw[aE (fun z=>hb (by rw[z];exact qh _ c2))];exact e
       .rw[aE (bK e (hg p0 (qh _ c2)).2)];exact A2.gh b o e
      .cases hq
     .cases hq
    .cases hq
  .cases hq
 .cases hq⟩
end
noncomputable abbrev Fo:=ac (aj×Fld)
structure UPost (Γ:Cn) (K:aV) (c:aj) (G H G' H':Hp) (fp:ac aw) (a:aw) (fs:Fo):Prop where
 hH:∀b o,H b=aa o->b∉fp->H' b=aa o
 gg:ba G G'
 gh:ba G' H'
 out:∀b o,H b=aa o->b∉fp->kyT o=av->G' b=G b
 ob:∃C dx vs ps,Γ.cls c=aa C/\(∀b∈a::ps,G' b=af)/\(a::ps).Nodup/\H' a=aa (.ins C dx vs)/\vs.map (·.1)=fs.map (·.1)/\FldsR Γ K G' H' (vs.map (·.2)) (fs.map (·.2)) ps/\∀b∈a::ps,b∈fp\/H b=af
inductive spU (Γ:Cn) (K:aV) (c:aj) (n:ao) (F:Fo->ac D->au (D×Fo)) (vs:ac V) (H:Hp) (Q:VK) (_e3:XK):Prop where
 |mk:∀a C dx us ps fs ws G ds d fs',vs=.ref a::ws->Γ.cls c=aa C->ba G H->(∀b∈a::ps,G b=af)->(a::ps).Nodup->H a=aa (.ins C dx us)->us.map (·.1)=fs.map (·.1)->FldsR Γ K G H (us.map (·.2)) (fs.map (·.2)) ps->Reps Γ K G ws ds->ds.length=n->F fs ds=aa (d,fs')->(∀v G' H',UPost Γ K c G H G' H' (a::ps) a fs'->Rep Γ K G' v d->Q v H')->spU Γ K c n F vs H Q _e3
noncomputable def gQ (n:ao) (c:aj) (g:FS):Fo->ac D->au (D×Fo):=fun fs ds=>(g (aa (.fo ak c fs)::(ds.map (fun d=>aa (Slot.sh d))++bT n af))).bind fun(r:Fl×bG)=>match r.2[0]? with
 |some (aa (Slot.fo ak c' fs'))=>if c'=c then match r.1 with
  |.rt d=>aa (d,fs')
  |.nx=>aa (.non,fs')
  |_=>af else af
 |_=>af
theorem FldR.re {Γ Γ':Cn} {K:aV} {G H:Hp} (hc:Γ'.cls=Γ.cls) {v:V} {f:Fld} {p:ac aw} (r:FldR Γ K G H v f p):FldR Γ' K G H v f p:=by
 cases r with
 |d h=>exact .d (h.re hc)
 |k a b c=>exact .k a b (c.re hc)
 |t a b c=>exact .t a b (c.re hc)
theorem FldsR.re {Γ Γ':Cn} {K:aV} {G H:Hp} (hc:Γ'.cls=Γ.cls):∀{vs:ac V} {fs:ac Fld} {ps:ac aw},FldsR Γ K G H vs fs ps->FldsR Γ' K G H vs fs ps
 |_,_,_,.nil=>.nil
 |_,_,_,.cons r t=>.cons (r.re hc) (t.re hc)
theorem FldsR.to1 {fs:ac Fld} {ps:ac aw} (x:aw) (r:FldsR Γ K G H vs fs ps):FldsR (Γ.mk1 x) K G H vs fs ps:=FldsR.re (Γ:=Γ) (Γ':=Γ.mk1 x) rfl r
theorem FldsR.of1 {fs:ac Fld} {ps:ac aw} {x:aw} (r:FldsR (Γ.mk1 x) K G H vs fs ps):FldsR Γ K G H vs fs ps:=FldsR.re (Γ:=Γ.mk1 x) (Γ':=Γ) rfl r
theorem AZ {m:ao} :fm (ds.map (fun d=>aa (Slot.sh d))++bT m af):=fun i es e=>by
 by_cases hi:i<ds.length
 .rw[qA (by simpa using hi),qk] at e;obtain⟨d,_,e⟩:=oMd e;cases e;exact⟨_,rfl⟩
 .rw[qL (by simpa using hi),ux] at e;split at e<;>cases e
theorem Im {us:ac (aj×V)} {ps:ac aw} {fs:Fo} {m:ao} (gh:ba G H) (hc:Γ.cls c=aa C) (hg:∀b∈a::ps,G b=af) (nd:(a::ps).Nodup) (ha:H a=aa (.ins C dx us)) (hk:us.map (·.1)=fs.map (·.1)) (hf:FldsR Γ K G H (us.map (·.2)) (fs.map (·.2)) ps) (r:Reps Γ K G ws ds) (hm:m=N.length-(ws.length+1)) :
  At (Γ.mk1 a) K G (kX (a::ps) H) G H (aa (.fo ak c fs)::(ds.map (fun d=>aa (Slot.sh d))++bT m af)) (dR N (.ref a::ws)):=by
 have gl:ba G (kX (a::ps) H):=fun b o e=>by rw[pX fun z=>by rw[hg b z] at e;cases e];exact gh b o e
 have B:=vU (N:=N.tail) (m:=m) gl r (by rw[y7];omega);have es:dR N (.ref a::ws)=aa (.ref a)::dR N.tail ws:=by
  unfold dR;rw[qo,qr,qi,y7]
  congr 3
  omega
 have lh:ba (kX (a::ps) H) H:=fun b o e=>by
  replace e:(if b∈a::ps then af else H b)=aa o:=e
  split at e
  .cases e
  .exact e
 refine⟨⟨lh,.refl _,gh,fun _ _ _ _=>rfl⟩,by rw[es,qi,qi,B.env.len],fun|0=>a::ps|_+1=>[],fun j s e=>?_,fun j k s t hjk e1 e2=>?_⟩
 .rw[es];cases j with
  |zero=>cases e;exact⟨_,rfl,.fo (fun _=>rfl) hc (fun b hb=>⟨qX hb,hg b hb⟩) nd ha hk (hf.to1 a)⟩
  |succ j=>
   obtain⟨d,rfl⟩:=AZ j s e;obtain⟨v,h1,h2⟩:=B.env.sh j d e;exact⟨v,h1,.sh (h2.to1 a)⟩
 .cases j with
  |zero=>
   cases k with
   |zero=>exact bJ rfl hjk
   |succ k=>intro b _ hb;cases hb
  |succ j=>intro b hb;cases hb
theorem Fun.okU {f:aw} {k:ao} (F:Fun K x qual st f fd) (S:FnScope N (s0::ps) (aL st))
  (hbody:∀(y:aw) (cdv:ax) (A:dB) (outer:ac cZ) (s:aI) (H:Hp) (E:XK),Room k (A.deeper (dO qual (aL st) s.heap.objs.size f cdv))->
   DSs (Γ.mk1 y) (e7 CX0 P w K mg base N qual (aL st) f cdv A outer s H E).nox (c8 st) g):FnOk P w K mg base CX0 (k+1) f fd (s0::ps) (spU Γ K c ps.length (gQ (N.length-(ps.length+1)) c g)):=by
 refine F.ok S (fun vs H Q E h=>?_) (fun cdv A outer s H vs Q E hr h=>?_)
 .obtain⟨a,C,dx,us,qs,fs,ws,G,ds,d,fs',rfl,_,_,_,_,_,_,_,r,hl,_⟩:=h;rw[qi,qi,r.length,hl]
 .obtain⟨a,C,dx,us,qs,fs,ws,G,ds,d,fs',rfl,hc,gh,hg,nd,ha,hk,hf,r,hl,hd,k⟩:=h;refine⟨_,(hbody a cdv A outer s H E hr).1,?_⟩;unfold gQ at hd;obtain⟨⟨fl,ρ'⟩,hb,hq⟩:=oBd hd;clear hd;refine⟨G,kX (a::qs) H,G,_,fl,ρ',Im gh hc hg nd ha hk hf r (by rw[r.length,hl]),hb,fun σ' G' H' sm A'=>?_⟩;have post:∀fs',ρ'[0]?=aa (aa (.fo ak c fs'))->UPost Γ K c G H G' H' (a::qs) a fs':=fun fs' e0=>by
   obtain⟨v,fp,e1,e2⟩:=A'.get e0;refine⟨fun b o e hb=>A'.st.hh b o (by rw[pX hb];exact e),A'.st.gg,A'.st.gh,fun b o e hb=>A'.st.out b o (by rw[pX hb];exact e),?_⟩;cases e2 with
   |fo gs g1 g2 g3 g4 g5 g6=>
    have ea:=gs rfl;cases ea;refine⟨_,_,_,_,g1,fun b hb=>(g2 b hb).2,g3,g4,g5,g6.of1,fun b hb=>?_⟩;have h0:(if b∈a::qs then af else H b)=af:=(g2 b hb).1;split at h0
    .exact .inl (by assumption)
    .exact .inr h0
  split at hq
  .rename_i c' fs1 e0;split at hq
   .rename_i hz;subst hz;cases fl with
    |rt d1=>cases hq;exact fun v rv=>k v G' H' (post _ e0) (Rep.of1 rv)
    |nx=>cases hq;exact k .non G' H' (post _ e0) .non
    |_=>cases hq
   .cases hq
  .cases hq
structure CalU (Γ:Cn) (P:eE) (w:df) (K:aV) (mg:aj->au ax) (base:Heap) (x c:aj) (n k:ao) (F:Fo->ac D->au (D×Fo)):Prop where
 ex:∃f fd ps,FnOk P w K mg base CX0 k f fd ps (spU Γ K c n F)/\mg x=aa (.ref f)/\gf K (.ref f)=ak/\fP K fd ps []
structure CalMU (Γ:Cn) (P:eE) (w:df) (K:aV) (mg:aj->au ax) (base:Heap) (c m:aj) (n k:ao) (F:Fo->ac D->au (D×Fo)):Prop where
 ex:∃C f fd ps,Γ.cls c=aa C/\Cls K C/\Meth K C m f/\FnOk P w K mg base CX0 k f fd ps (spU Γ K c n F)/\fP K fd ps []
theorem Mi {F:Fo->ac D->au (D×Fo)} {Q:VK} {E:XK} (y:aw) (h:spU (Γ.mk1 y) K c n F vs H Q E):spU Γ K c n F vs H Q E:=by obtain⟨a,C,dx,us,ps,fs,ws,G,ds,d,fs',h0,h1,h2,h3,h4,h5,h6,h7,h8,h9,h10,k⟩:=h;refine⟨a,C,dx,us,ps,fs,ws,G,ds,d,fs',h0,h1,h2,h3,h4,h5,h6,h7.of1,h8.of1,h9,h10,fun v G' H' u r=>k v G' H' ⟨u.hH,u.gg,u.gh,u.out,?_⟩ (r.to1 y)⟩;obtain⟨C,dx,vs,ps,b1,b2,b3,b4,b5,b6,b7⟩:=u.ob;exact⟨C,dx,vs,ps,b1,b2,b3,b4,b5,b6.to1 y,b7⟩
theorem CalMU.re {k:ao} {F:Fo->ac D->au (D×Fo)} (C:CalMU Γ P w K mg base c m n k F) (y:aw):CalMU (Γ.mk1 y) P w K mg base c m n k F:=by obtain⟨C,f,fd,ps,h0,h1,h2,h3,h4⟩:=C.ex;exact⟨C,f,fd,ps,h0,h1,h2,h3.imp fun vs H Q E q=>Mi y q,h4⟩
theorem Dfn.calU {k:ao} (F:Dfn K mg x st) (S:FnScope N (s0::ps) (aL st))
  (hb:∀(kV doc pm:ax) (an:au aw) (cdv ct:ax) (us:ac ax),us.length=(s0::ps).length->hG (eS x x (eZ st) (c8 st) (aL st) .none kV doc pm an cdv ct) ⟨us,[]⟩=bq ((s0::ps).zip us))
  (hbody:∀(f y:aw) (cdv:ax) (A:dB) (outer:ac cZ) (s:aI) (H:Hp) (E:XK),Room k (A.deeper (dO x (aL st) s.heap.objs.size f cdv))->
   DSs (Γ.mk1 y) (e7 CX0 P w K mg base N x (aL st) f cdv A outer s H E).nox (c8 st) g):CalU Γ P w K mg base x c ps.length (k+1) (gQ (N.length-(ps.length+1)) c g):=by
 obtain⟨f,fd,h1,h2⟩:=F.ex;exact⟨f,fd,s0::ps,h1.okU S (hbody f),h2,h1.kp,h1.binds hb⟩
theorem DfnM.calU {k:ao} (O:ClsOk Γ K mg c C) (F:DfnM K C c m qual st) (S:FnScope N (s0::ps) (aL st))
  (hb:∀(kV doc pm:ax) (an:au aw) (cdv ct:ax) (us:ac ax),us.length=(s0::ps).length->hG (eS m qual (eZ st) (c8 st) (aL st) .none kV doc pm an cdv ct) ⟨us,[]⟩=bq ((s0::ps).zip us))
  (hbody:∀(f y:aw) (cdv:ax) (A:dB) (outer:ac cZ) (s:aI) (H:Hp) (E:XK),Room k (A.deeper (dO qual (aL st) s.heap.objs.size f cdv))->
   DSs (Γ.mk1 y) (e7 CX0 P w K mg base N qual (aL st) f cdv A outer s H E).nox (c8 st) g):CalMU Γ P w K mg base c m ps.length (k+1) (gQ (N.length-(ps.length+1)) c g):=by
 obtain⟨f,fd,h1,h2,h3⟩:=F.ex;exact⟨C,f,fd,s0::ps,O.cn,O.cl,⟨h2,h3,h1.kp⟩,h1.okU S (hbody f),h1.binds hb⟩
variable {fs':Fo}
section
variable {sb:aT} {fs:Fo}
theorem At.upost (A:At Γ K G₀ H₀ G H ρ σ) {vs:ac (aj×V)} {ps:ac aw} (hi:ρ[i]?=aa (aa (.fo sb c fs))) (hv:σ[i]?=aa (aa (.ref a))) (gs:sb=ak->Γ.self=aa a) (g1:Γ.cls c=aa C) (g2:∀b∈a::ps,H₀ b=af/\G b=af) (g3:(a::ps).Nodup) (g4:H a=aa (.ins C dx vs)) (g5:vs.map (·.1)=fs.map (·.1)) (g6:FldsR Γ K G H (vs.map (·.2)) (fs.map (·.2)) ps)
  (u:UPost Γ K c G H G' H' (a::ps) a fs'):At Γ K G₀ H₀ G' H' (ρ.set i (aa (.fo sb c fs'))) σ:=by
 obtain⟨C',dx',vs',ps',b1,b2,b3,b4,b5,b6,b7⟩:=u.ob;refine A.ch hi hv (.fo gs g1 g2 g3 g4 g5 g6) u.hH (.fo gs b1 (fun b hb=>⟨?_,b2 b hb⟩) b3 b4 b5 b6) b7 u.gg u.gh u.out;rcases b7 b hb with z|z
 .exact(g2 b z).1
 .exact A.st.hh.free z
end
section
variable {y:aj}
noncomputable def jC (c m:aj) (i:ao) (F:Fo->ac D->au (D×Fo)) (fr:FA):FS:=fun ρ=>match ρ[i]? with
 |some (aa (.fo s c' fs))=>if c'=c/\fs.lookup m=af then (fr ρ).bind fun ds=>(F fs ds).bind fun z=>aa (.nx,ρ.set i (aa (.fo s c z.2))) else af
 |_=>af
theorem nL {k:ao} (i:ao) {F:Fo->ac D->au (D×Fo)} (C:CalMU Γ X.prog X.w X.K X.mg X.base c m n k F) (hr:Room j X.A) (hk:k<=j) (ha:DA Γ X (e::es) fr) (hn:∀ρ ds,fr ρ=aa ds->ds.length=n) (hN:X.N[i]?=aa x:=by rfl) (hv:Vis X.env.scope x:=by first|exact cR rfl|exact ca (cR rfl)|exact ca (ca rfl)) (hd:(x==("__debug__":aj))=av:=by decide) (hcd:(x==("__classdict__":aj))=av:=by decide)
  (hst:aR (e::es) X.env=(av,eval e X.env)::aR es X.env:=by rfl) (hpl:(cj pos (aR es X.env)).any (·.1)=av:=by rfl)
  (ht:eval (.Call (.Attribute (.Name x vp) m apos) (e::es) [] pos) X.env=(do
   let ov ←eval (.Name x vp) X.env
   mV apos.atName
   let (f,first) ←iz [ov] (mX ov m pl)
   oE pos f first (cj pos (aR (e::es) X.env)) (iB pos (iC [] X.env))):=by rfl)
  (hs:eG (.Call (.Attribute (.Name x vp) m apos) (e::es) [] pos) af pos'.line X.env=bq av:=by rfl) :
  DS Γ X (.Expr (.Call (.Attribute (.Name x vp) m apos) (e::es) [] pos) pos') (jC c m i F fr):=⟨by
 obtain⟨Ca,f,fd,ps,h0,h1,h2,h3,h4⟩:=C.ex;refine(xF (Dj (gn hN hv hd hcd) h1 h2 h3 (hr.mono hk) h4 .nil kK ha.1 hst hpl ht) hs).imp fun E σ H=>?_;rintro⟨G₀,H₀,G,ρ,fl,ρ',A,h,k⟩;unfold jC at h;split at h
 .rename_i sb c' fs hi;split at h
  .rename_i hz;obtain⟨rfl,hz2⟩:=hz;obtain⟨ds,hds,h⟩:=oBd h;obtain⟨⟨d,fs'⟩,hF,h⟩:=oBd h;cases h;obtain⟨w,fp,q1,q2⟩:=A.get hi;cases q2 with
   |fo gs g1 g2 g3 g4 g5 g6=>
    rename_i a C' dx vs qs;have g1':=g1;rw[h0] at g1;cases g1;refine⟨_,q1,a,dx,vs,rfl,g4,FldsR.none g5 hz2,G₀,H₀,G,ρ,ds,A,hds,fun ws G2 H2 s2 r2=>?_⟩;have A2:=A.step s2;show spU Γ X.K c' n F (_::(ws++[])) H2 _ E0;rw[gM];have hg:∀b∈a::qs,H₀ b=af/\G2 b=af:=fun b hb=>by
     rcases cH.mp hb with rfl|hb'
     .exact⟨(g2 _ hb).1,(s2.out _ _ g4 rfl).trans (g2 _ hb).2⟩
     .obtain⟨o,e,ek⟩:=g6.mem b hb';exact⟨(g2 _ hb).1,(s2.out _ _ e ek).trans (g2 _ hb).2⟩
    have ha2:H2 a=aa (.ins Ca dx vs):=s2.hh _ _ g4;have g62:FldsR Γ X.K G2 H2 (vs.map (·.2)) (fs.map (·.2)) qs:=g6.stay s2.gg fun b hb=>by obtain⟨o,e,ek⟩:=g6.mem b hb;rw[e];exact s2.hh _ _ e
    exact⟨a,Ca,dx,vs,qs,fs,ws,G2,ds,d,fs',rfl,g1',s2.gh,fun b hb=>(hg b hb).2,g3,ha2,g5,g62,r2,hn ρ ds hds,hF,fun v G' H' u r=>k σ G' H' (s2.gg.trans u.gg) (A2.upost hi q1 gs g1' hg g3 ha2 g5 g62 u)⟩
  .cases h
 .cases h⟩
noncomputable def nY (c:aj) (j i:ao) (F:Fo->ac D->au (D×Fo)) (fr:FA):FS:=fun ρ=>match ρ[i]? with
 |some (aa (.fo s c' fs))=>if c'=c then (fr ρ).bind fun ds=>(F fs ds).bind fun z=>aa (.nx,(ρ.set i (aa (.fo s c z.2))).set j (aa (.sh z.1))) else af
 |_=>af
theorem Av {k l:ao} (j i:ao) {g:aj} {F:Fo->ac D->au (D×Fo)} (hNd:X.N.Nodup) (C:CalU Γ X.prog X.w X.K X.mg X.base g c n k F) (hr:Room l X.A) (hk:k<=l) (hg:Gl X g) (ha:DA Γ X es fr) (hn:∀ρ ds,fr ρ=aa ds->ds.length=n) (hN:X.N[i]?=aa x:=by rfl) (hv:Vis X.env.scope x:=by first|exact cR rfl|exact ca (cR rfl)|exact ca (ca rfl)) (hd:(x==("__debug__":aj))=av:=by decide) (hcd:(x==("__classdict__":aj))=av:=by decide)
  (hdb:(g==("__debug__":aj))=av:=by decide) (he:aR (.Name x vp::es) X.env=(av,eval (.Name x vp) X.env)::aR es X.env:=by rfl) (hpl:(cj pos (aR es X.env)).any (·.1)=av:=by rfl)
  (hj:X.N[j]?=aa y:=by rfl) (hx:Loc X.env.scope y:=by first|exact cR rfl|exact ca rfl) (hs:eG (.Call (.Name g p) (.Name x vp::es) [] pos) (aa (.Name y py)) pos'.line X.env=bq av:=by rfl) (hf:X.fn y=ak\/X.env.scope.names.lookup y=aa .local:=by first|exact .inl rfl|exact .inr rfl|assumption) :
  DS Γ X (.Assign [.Name y py] (.Call (.Name g p) (.Name x vp::es) [] pos) pos') (nY c j i F fr):=⟨by
 obtain⟨f,fd,ps,h1,h2,h3,h4⟩:=C.ex;refine(nG hNd hj hx (zw h1 (hr.mono hk) hg h2 h3 h4 .nil kK (kB (gn hN hv hd hcd) ha.1 he) hdb he hpl) hs hf).imp fun E σ H=>?_;rintro⟨G₀,H₀,G,ρ,fl,ρ',A,h,k⟩;unfold nY at h;split at h
 .rename_i sb c' fs hi;split at h
  .rename_i hz;subst hz;obtain⟨ds,hds,h⟩:=oBd h;obtain⟨⟨d,fs'⟩,hF,h⟩:=oBd h;cases h;obtain⟨w,fp,q1,q2⟩:=A.get hi;cases q2 with
   |fo gs g1 g2 g3 g4 g5 g6=>
    rename_i a Ca dx vs qs;refine⟨_,q1,G₀,H₀,G,ρ,ds,A,hds,fun ws G2 H2 s2 r2=>?_⟩;have A2:=A.step s2;show spU Γ X.K c' n F ((V.ref a::ws)++[]) H2 _ E0;rw[gM];have hg:∀b∈a::qs,H₀ b=af/\G2 b=af:=fun b hb=>by
     rcases cH.mp hb with rfl|hb'
     .exact⟨(g2 _ hb).1,(s2.out _ _ g4 rfl).trans (g2 _ hb).2⟩
     .obtain⟨o,e,ek⟩:=g6.mem b hb';exact⟨(g2 _ hb).1,(s2.out _ _ e ek).trans (g2 _ hb).2⟩
    have ha2:H2 a=aa (.ins Ca dx vs):=s2.hh _ _ g4;have g62:FldsR Γ X.K G2 H2 (vs.map (·.2)) (fs.map (·.2)) qs:=g6.stay s2.gg fun b hb=>by obtain⟨o,e,ek⟩:=g6.mem b hb;rw[e];exact s2.hh _ _ e
    exact⟨a,Ca,dx,vs,qs,fs,ws,G2,ds,d,fs',rfl,g1,s2.gh,fun b hb=>(hg b hb).2,g3,ha2,g5,g62,r2,hn ρ ds hds,hF,fun v G' H' u r=>k _ G' H' (s2.gg.trans u.gg) ((A2.upost hi q1 gs g1 hg g3 ha2 g5 g62 u).setSh r)⟩
  .cases h
 .cases h⟩
end
structure MPost (Γ:Cn) (K:aV) (c:aj) (G H G' H':Hp) (x:aw) (fs:Fo):Prop where
 hh:ba H H'
 gg:ba G G'
 gh:ba G' H'
 out:∀b o,H b=aa o->kyT o=av->G' b=G b
 ob:∃C dx vs ps,Γ.cls c=aa C/\(∀b∈x::ps,H b=af/\G' b=af)/\(x::ps).Nodup/\H' x=aa (.ins C dx vs)/\vs.map (·.1)=fs.map (·.1)/\FldsR Γ K G' H' (vs.map (·.2)) (fs.map (·.2)) ps
inductive spIU (Γ:Cn) (K:aV) (C:aw) (c:aj) (n:ao) (F:ac D->au Fo) (vs:ac V) (H:Hp) (Q:VK) (_e3:XK):Prop where
 |mk:∀x dx H1 G ds fs us,vs=.ref x::us->H=upd (upd H1 dx (.own x)) x (.ins C dx [])->H1 x=af->H1 dx=af->dx≠x->ba G H1->Reps Γ K G us ds->ds.length=n->F ds=aa fs->(∀G' H',MPost Γ K c G H1 G' H' x fs->Q .non H')->spIU Γ K C c n F vs H Q _e3
noncomputable def jX (n:ao) (c:aj) (g:FS):ac D->au Fo:=fun ds=>(g (aa (.fo ak c [])::(ds.map (fun d=>aa (Slot.sh d))++bT n af))).bind fun(r:Fl×bG)=>match r.1 with
 |.nx=>match r.2[0]? with
  |some (aa (Slot.fo ak c' fs))=>if c'=c then aa fs else af
  |_=>af
 |_=>af
theorem OM {x:aw} {us:ac V} {m:ao} (gh:ba G H1) (hc:Γ.cls c=aa C) (hx:H1 x=af) (hdx:H1 dx=af) (r:Reps Γ K G us ds) (hm:m=N.length-(us.length+1)) :
  At (Γ.mk1 x) K G H1 G (upd (upd H1 dx (.own x)) x (.ins C dx [])) (aa (.fo ak c [])::(ds.map (fun d=>aa (Slot.sh d))++bT m af)) (dR N (.ref x::us)):=by
 have B:=vU (N:=N.tail) (m:=m) gh r (by rw[y7];omega);have es:dR N (.ref x::us)=aa (.ref x)::dR N.tail us:=by
  unfold dR;rw[qo,qr,qi,y7]
  congr 3
  omega
 have lh:ba H1 (upd (upd H1 dx (.own x)) x (.ins C dx [])):=fun b o e=>by rw[aE (bK e hx),aE (bK e hdx)];exact e
 refine⟨⟨lh,.refl _,gh.trans lh,fun _ _ _ _=>rfl⟩,by rw[es,qi,qi,B.env.len],fun|0=>[x]|_+1=>[],fun j s e=>?_,fun j k s t hjk e1 e2=>?_⟩
 .rw[es];cases j with
  |zero=>cases e;exact⟨_,rfl,.fo (ps:=[]) (fun _=>rfl) hc (fun b hb=>by rw[bN.mp hb];exact⟨hx,gh.free hx⟩) (eJ.mpr ⟨(fun z=>nomatch z),kx⟩) bB rfl .nil⟩
  |succ j=>
   obtain⟨d,rfl⟩:=AZ j s e;obtain⟨v,h1,h2⟩:=B.env.sh j d e;exact⟨v,h1,.sh (h2.to1 x)⟩
 .cases j with
  |zero=>
   cases k with
   |zero=>exact bJ rfl hjk
   |succ k=>intro b _ hb;cases hb
  |succ j=>intro b hb;cases hb
theorem C7 {m:ao} {Q:VK} {E:XK} (hm:N.length-(n+1)=m) (hc:Γ.cls c=aa C) (h:spIU Γ K C c n (jX m c g) vs H Q E):∃y,TDs (Γ.mk1 y) K g {nx:=fun _ H'=>Q .non H',rt:=Q} (dR N vs) H:=by
 obtain⟨y,dx,H1,G,ds,fs,us,rfl,rfl,hy,hdy,_,gh,r,hl,hd,k⟩:=h;refine⟨y,?_⟩;unfold jX at hd;obtain⟨⟨fl,ρ'⟩,hb,hq⟩:=oBd hd;clear hd;refine⟨G,H1,G,_,fl,ρ',OM gh hc hy hdy r (by rw[r.length,hl,hm]),hb,fun σ' G' H' sm A'=>?_⟩;cases fl with
 |nx=>
  show Q .non H'
  replace hq:(match ρ'[0]? with
   |some (aa (Slot.fo ak c' fs))=>if c'=c then aa fs else af
   |_=>af)=aa fs:=hq
  split at hq
  .rename_i c' fs1 e0;split at hq
   .rename_i hz;subst hz;cases hq;obtain⟨v,fp,e1,e2⟩:=A'.get e0;cases e2 with
    |fo gs g1 g2 g3 g4 g5 g6=>
     have ea:=gs rfl;cases ea;exact k G' H' ⟨A'.st.hh,A'.st.gg,A'.st.gh,A'.st.out,_,_,_,_,g1,g2,g3,g4,g5,g6.of1⟩
   .cases hq
  .cases hq
 |_=>cases hq
theorem AG {F:ac D->au Fo} {Q:VK} {E:XK} (h:spIU Γ K C c n F vs H Q E):vs.length=n+1:=by obtain⟨y,dx,H1,G,ds,fs,us,rfl,_,_,_,_,_,r,hl,_⟩:=h;rw[qi,r.length,hl]
theorem Fun.okIU {f:aw} {k:ao} (F:Fun K x qual st f fd) (S:FnScope N (s0::ps) (aL st)) (hc:Γ.cls c=aa C)
  (hbody:∀(y:aw) (cdv:ax) (A:dB) (outer:ac cZ) (s:aI) (H:Hp) (E:XK),Room k (A.deeper (dO qual (aL st) s.heap.objs.size f cdv))->
   DSs (Γ.mk1 y) (e7 CX0 P w K mg base N qual (aL st) f cdv A outer s H E).nox (c8 st) g):FnOk P w K mg base CX0 (k+1) f fd (s0::ps) (spIU Γ K C c ps.length (jX (N.length-(ps.length+1)) c g)):=
 F.ok S (fun vs H Q E h=>AG h) fun cdv A outer s H vs Q E hr h=>by obtain⟨y,q⟩:=C7 (N:=N) rfl hc h;exact⟨_,(hbody y cdv A outer s H E hr).1,q⟩
structure CalIU (Γ:Cn) (P:eE) (w:df) (K:aV) (mg:aj->au ax) (base:Heap) (c:aj) (n k:ao) (dd:ac D) (F:ac D->au Fo):Prop where
 ex:∃C f fd ps dvs ds,Γ.cls c=aa C/\Mk K C f/\mg c=aa (.ref C)/\FnOk P w K mg base CX0 k f fd ps (spIU Γ K C c n F)/\fP K fd ps ds/\bu dvs ds/\∀G,Reps Γ K G dvs dd
theorem CalIU.re {k:ao} {dd:ac D} {F:ac D->au Fo} (C:CalIU Γ P w K mg base c n k dd F) (y:aw):CalIU (Γ.mk1 y) P w K mg base c n k dd F:=by obtain⟨C,f,fd,ps,dvs,ds,h0,h1,h2,h3,h4,h5,h6⟩:=C.ex;refine⟨C,f,fd,ps,dvs,ds,h0,h1,h2,h3.imp fun vs H Q E q=>?_,h4,h5,fun G=>(h6 G).to1 y⟩;obtain⟨x,dx,H1,G,ds,fs,us,a1,a2,a3,a4,a5,a6,a7,a8,a9,k⟩:=q;refine⟨x,dx,H1,G,ds,fs,us,a1,a2,a3,a4,a5,a6,a7.of1,a8,a9,fun G' H' u=>k G' H' ⟨u.hh,u.gg,u.gh,u.out,?_⟩⟩;obtain⟨C,dx,vs,ps,b1,b2,b3,b4,b5,b6⟩:=u.ob;exact⟨C,dx,vs,ps,b1,b2,b3,b4,b5,b6.to1 y⟩
theorem DfnM.calIU {k:ao} (O:ClsOk Γ K mg c C) (F:DfnM K C c "__init__" qual st) (S:FnScope N (s0::ps) (aL st))
  (hb:∀(kV doc pm:ax) (an:au aw) (cdv ct:ax) (us:ac ax),us.length=(s0::ps).length->hG (eS "__init__" qual (eZ st) (c8 st) (aL st) .none kV doc pm an cdv ct) ⟨us,[]⟩=bq ((s0::ps).zip us))
  (hbody:∀(f y:aw) (cdv:ax) (A:dB) (outer:ac cZ) (s:aI) (H:Hp) (E:XK),Room k (A.deeper (dO qual (aL st) s.heap.objs.size f cdv))->
   DSs (Γ.mk1 y) (e7 CX0 P w K mg base N qual (aL st) f cdv A outer s H E).nox (c8 st) g):CalIU Γ P w K mg base c ps.length (k+1) [] (jX (N.length-(ps.length+1)) c g):=by
 obtain⟨f,fd,h1,h2,h3⟩:=F.ex;exact⟨C,f,fd,s0::ps,[],[],O.cn,⟨O.makes,h2,h3,O.kp⟩,O.mgC,h1.okIU S O.cn (hbody f),h1.binds hb,.nil,fun _=>.nil⟩
section
variable {y:aj} {dd:ac D}
theorem OU {x:aw} {fs:Fo} (A:At Γ K G₀ H₀ G H ρ σ) (u:MPost Γ K c G H G' H' x fs):At Γ K G₀ H₀ G' H' (ρ.set j (aa (.fo av c fs))) (σ.set j (aa (.ref x))):=by obtain⟨C,dx,vs,ps,b1,b2,b3,b4,b5,b6⟩:=u.ob;exact A.put (i:=j) (fp:=[]) (fp':=x::ps) (.inl rfl) (fun b o e _=>u.hh b o e) (.fo (fun z=>by cases z) b1 (fun b hb=>⟨A.st.hh.free (b2 b hb).1,(b2 b hb).2⟩) b3 b4 b5 b6) (fun b hb=>.inr (b2 b hb).1) u.gg u.gh (fun b o e _=>u.out b o e) (fun b hb=>by cases hb)
theorem IM {x:aw} {fs:Fo} (gh:ba G H) (u:MPost Γ K c G H G' H' x fs):∃G2,Step G H G2 H'/\Rep Γ K G2 (.ref x) (foD c fs):=by
 obtain⟨C,dx,vs,ps,b1,b2,b3,b4,b5,b6⟩:=u.ob;have hn:∀b∈x::ps,G' b=af:=fun b hb=>(b2 b hb).2;have sm:=nE (H:=H') hn;refine⟨nJ (x::ps) H' G',⟨u.hh,u.gg.trans sm,fun b o e=>?_,fun b o e ek=>?_⟩,?_⟩
 .replace e:(if b∈x::ps then H' b else G' b)=aa o:=e
  split at e
  .exact e
  .exact u.gh b o e
 .show(if b∈x::ps then H' b else G' b)=_;rw[qY fun z=>by rw[(b2 b z).1] at e;cases e];exact u.out b o e ek
 .refine .ins (show(if x∈x::ps then H' x else G' x)=_ by rw[qX qg];exact b4) b1 (by rw[b5,qp];rfl) ?_;have:=b6.frz hn fun b hb=>qh _ hb;rw[qp] at this ⊢;exact this
noncomputable def og (c:aj) (j:ao) (F:ac D->au Fo) (dd:ac D) (fr:FA):FS:=fun ρ=>(fr ρ).bind fun ds=>(F (ds++dd)).bind fun fs=>aa (.nx,ρ.set j (aa (.fo av c fs)))
theorem Ck {m k l:ao} (j:ao) {F:ac D->au Fo} (hNd:X.N.Nodup) (C:CalIU Γ X.prog X.w X.K X.mg X.base c n k dd F) (hr:Room l X.A) (hk:k+1<=l) (hg:Gl X c) (ha:DA Γ X (e::es) fr) (hn:∀ρ ds,fr ρ=aa ds->ds.length=m) (hm:m+dd.length=n)
  (hdb:(c==("__debug__":aj))=av:=by decide) (he:aR (e::es) X.env=(av,eval e X.env)::aR es X.env:=by rfl) (hpl:(cj pos (aR es X.env)).any (·.1)=av:=by rfl)
  (hj:X.N[j]?=aa y:=by rfl) (hx:Loc X.env.scope y:=by first|exact cR rfl|exact ca rfl) (hs:eG (.Call (.Name c p) (e::es) [] pos) (aa (.Name y py)) pos'.line X.env=bq av:=by rfl) (hf:X.fn y=ak\/X.env.scope.names.lookup y=aa .local:=by first|exact .inl rfl|exact .inr rfl|assumption) :
  DS Γ X (.Assign [.Name y py] (.Call (.Name c p) (e::es) [] pos) pos') (og c j F dd fr):=⟨by
 obtain⟨Ca,f,fd,ps,dvs,dsV,h0,h1,h2,h3,h4,h5,h6⟩:=C.ex;refine(nG hNd hj hx (xY h1 h3 (hr.mono hk) hg h2 h4 h5 kK ha.1 hdb he hpl) hs hf).imp fun E σ H=>?_;rintro⟨G₀,H₀,G,ρ,fl,ρ',A,h,k⟩;unfold og at h;obtain⟨ds,hds,h⟩:=oBd h;obtain⟨fs,hF,h⟩:=oBd h;cases h;refine⟨G₀,H₀,G,ρ,ds,A,hds,fun ws G1 H1 s1 r1 x dx hx hdx ne=>?_⟩;have A1:=A.step s1;exact⟨x,dx,H1,G1,ds++dd,fs,ws++dvs,rfl,rfl,hx,hdx,ne,s1.gh,r1.append (h6 G1),by rw[qj,hn ρ ds hds,hm],hF,fun G' H' u=>⟨rfl,k _ G' H' (s1.gg.trans u.gg) (OU A1 u)⟩⟩⟩
theorem LX {m k l:ao} {F:ac D->au Fo} (C:CalIU Γ X.prog X.w X.K X.mg X.base c n k dd F) (hr:Room l X.A) (hk:k+1<=l) (hg:Gl X c) (ha:DA Γ X (e::es) fr) (hn:∀ρ ds,fr ρ=aa ds->ds.length=m) (hm:m+dd.length=n)
  (hdb:(c==("__debug__":aj))=av:=by decide) (he:aR (e::es) X.env=(av,eval e X.env)::aR es X.env:=by rfl) (hpl:(cj pos (aR es X.env)).any (·.1)=av:=by rfl) :
  DE Γ X (.Call (.Name c p) (e::es) [] pos) (cF (fun ds=>(F (ds++dd)).map (foD c)) fr):=⟨by
 obtain⟨Ca,f,fd,ps,dvs,dsV,h0,h1,h2,h3,h4,h5,h6⟩:=C.ex;refine(xY h1 h3 (hr.mono hk) hg h2 h4 h5 kK ha.1 hdb he hpl).imp fun σ H Q=>?_;rintro⟨G₀,H₀,G,ρ,d,A,h,k⟩;unfold cF at h;obtain⟨ds,hds,h⟩:=oBd h;obtain⟨fs,hF,rfl⟩:=oMd h;refine⟨G₀,H₀,G,ρ,ds,A,hds,fun ws G1 H1 s1 r1 x dx hx hdx ne=>?_⟩;refine⟨x,dx,H1,G1,ds++dd,fs,ws++dvs,rfl,rfl,hx,hdx,ne,s1.gh,r1.append (h6 G1),by rw[qj,hn ρ ds hds,hm],hF,fun G' H' u=>⟨rfl,?_⟩⟩;obtain⟨G2,s2,r2⟩:=IM s1.gh u;exact k _ G2 H' (s1.trans s2) r2⟩
end
structure FunD (K:aV) (x qual:aj) (st:Stmt) (f:aw) (fd:lB) (items:ac ax):Prop where
 ex:∃(oc:ax) (od:au aw) (T:aw) (kV doc pm:ax) (an:au aw) (cdv ct:ax) (osl:bR (au ax)) (to:Obj) (n:ao),
  fd=eS x qual (eZ st) (c8 st) (aL st) (.ref T) kV doc pm an cdv ct/\K.lookup f=aa ⟨oc,od,.func fd,osl⟩/\m4 K cdv qual=ak/\K.lookup T=aa to/\to.data=.seq items.toArray n
 kp:gf K (.ref f)=ak
theorem FunD.ok {f:aw} {items:ac ax} {k:ao} (F:FunD K x qual st f fd items) (S:FnScope N ps (aL st)) (len:∀vs H Q E,sp vs H Q E->vs.length=ps.length)
  (hbody:∀(cdv:ax) (A:dB) (outer:ac cZ) (s:aI) (H:Hp) (vs:ac V) (Q:VK) (E:XK),Room k (A.deeper (dO qual (aL st) s.heap.objs.size f cdv))->sp vs H Q E->
   ∃t,PSs (e7 CX0 P w K mg base N qual (aL st) f cdv A outer s H E).nox (c8 st) t/\t {nx:=fun _ H'=>Q .non H',rt:=Q} (dR N vs) H):FnOk P w K mg base CX0 (k+1) f fd ps sp:=by
 obtain⟨oc,od,T,kV,doc,pm,an,cdv,ct,osl,to,n,rfl,lk,hcd,_⟩:=F.ex;refine Bt lk hcd S len fun A outer s H vs Q E hr hsp=>?_;obtain⟨t,h,q⟩:=hbody cdv A outer s H vs Q E hr hsp;exact⟨t,h.nox,q⟩
theorem FunD.binds {f:aw} {items:ac ax} (F:FunD K x qual st f fd items)
  (h:∀(T:aw) (kV doc pm:ax) (an:au aw) (cdv ct:ax) (us:ac ax),(us++items).length=ps.length->∃k,hG (eS x qual (eZ st) (c8 st) (aL st) (.ref T) kV doc pm an cdv ct) ⟨us,[]⟩=rQ (.ref T) >>= k/\k (aa items.toArray)=bq (ps.zip (us++items))):fP K fd ps items:=by
 obtain⟨oc,od,T,kV,doc,pm,an,cdv,ct,osl,to,n,rfl,lk,hcd,lT,dT⟩:=F.ex;intro s us hin hl;obtain⟨k,h1,h2⟩:=h T kV doc pm an cdv ct us hl;exact .of_defaults (T:=T) rfl (hin T to lT) dT h1 h2
structure DfnMD (K:aV) (C:aw) (c m qual:aj) (st:Stmt) (dvs:ac V):Prop where
 ex:∃f fd items,FunD K m qual st f fd items/\bu dvs items/\cA K (.ref C) m=aa (aa (.ref f))/\oC K (.ref f)=ak
theorem DfnMD.mk' {f T:aw} {items:ac ax} {kV:ax} {to:Obj} (a:cA K (.ref C) m=aa (aa (.ref f))) (i:oC K (.ref f)=ak)
  (l:K.lookup f=aa ⟨oc,od,.func (eS m qual (eZ st) (c8 st) (aL st) (.ref T) kV doc pm an cdv ct),osl⟩) (cd:m4 K cdv qual=ak) (k:gf K (.ref f)=ak) (lT:K.lookup T=aa to) (dT:to.data=.seq items.toArray n) (v:bu dvs items):DfnMD K C c m qual st dvs:=⟨f,_,items,⟨⟨oc,od,T,kV,doc,pm,an,cdv,ct,osl,to,n,rfl,l,cd,lT,dT⟩,k⟩,v,a,i⟩
theorem DfnMD.calIU {k:ao} {dd:ac D} (O:ClsOk Γ K mg c C) (F:DfnMD K C c "__init__" qual st dvs) (hdd:∀G,Reps Γ K G dvs dd) (S:FnScope N (s0::ps) (aL st))
  (hb:∀(T:aw) (kV doc pm:ax) (an:au aw) (cdv ct:ax) (us items:ac ax),us.length+dvs.length=(s0::ps).length->items.length=dvs.length->∃k,hG (eS "__init__" qual (eZ st) (c8 st) (aL st) (.ref T) kV doc pm an cdv ct) ⟨us,[]⟩=rQ (.ref T) >>= k/\k (aa items.toArray)=bq ((s0::ps).zip (us++items)))
  (hbody:∀(f y:aw) (cdv:ax) (A:dB) (outer:ac cZ) (s:aI) (H:Hp) (E:XK),Room k (A.deeper (dO qual (aL st) s.heap.objs.size f cdv))->
   DSs (Γ.mk1 y) (e7 CX0 P w K mg base N qual (aL st) f cdv A outer s H E).nox (c8 st) g):CalIU Γ P w K mg base c ps.length (k+1) dd (jX (N.length-(ps.length+1)) c g):=by
 obtain⟨f,fd,items,h1,hv,h2,h3⟩:=F.ex;have hl:items.length=dvs.length:=hv.length.symm;refine⟨C,f,fd,s0::ps,dvs,items,O.cn,⟨O.makes,h2,h3,O.kp⟩,O.mgC,h1.ok S (fun vs H Q E h=>AG h) fun cdv A outer s H vs Q E hr h=>?_,h1.binds fun T kV doc pm an cdv ct us hu=>hb T kV doc pm an cdv ct us items (by rw[←hl,←qj];exact hu) hl,hv,hdd⟩;obtain⟨y,q⟩:=C7 (N:=N) rfl O.cn h;exact⟨_,(hbody f y cdv A outer s H E hr).1,q⟩
variable {cp kp:ff}
section
open PyProof
section
variable {R:lz->aI->Prop} {P:ao->ax->Prop} {St:ao->Heap->Prop}
theorem Fw (W:rD prog w A.in1 I fp wr n P St) (bt:ao->ao->aT) (kw:ac (aj×ax)) (hc:CmpOf prog w A.in1 .Lt P bt) (S:aw) (hSf:S∉fp):∀(m j:ao) (s:aI) (u:ax) (c:ao),n=j+1+m->
  St (j+1) s.heap->P (gP bt j) u->s.heap.get? S=aa (wO [u,u] c)->
  (∀v h' tk,P (gP bt (j+m)) v->(∀b o,b∉wr->b≠S->s.heap.get? b=aa o->h'.get? b=aa o)->R (.ok (.ret v)) {s with heap:=h',toks:=tk})->gL (aO prog w) A (.builtin "min.loop" ⟨[.ref I,.none,.ref S],kw⟩) R s:=by
 have sw:S∉wr:=fun z=>hSf (W.sub _ z);have nm:(rR "min"++rR ".loop":dz)="min.loop":=by decide
 intro m
 induction m with
 |zero=>
  intro j s u c e st pu so r;refine lM y9 (by
   rw[ni lN _];show aF _ A.in1 (rQ (.ref S) >>= _) _ _ s;refine qy (oP so rfl ?_);show aF _ A.in1 (uL (g8 (.ref I)) _ >>= _) _ _ s;refine qy (rP (W.done s _ _ (by rw[e];exact st) fun h' tk kp=>?_));show aF _ A.in1 (updateSeq S (fun _=>#[]) >>= _) _ _ _;have so':=kp S _ sw so;refine qy ?_;refine Fe so' rfl (qy (za (qB ?_)));exact r u _ tk pu fun b o hb hS z=>(rh _ _ (dM hS)).trans (kp b o hb z))
 |succ m ih=>
  intro j s u c e st pu so r;have lt:j+1<n:=by omega
  refine lM y9 (by
   rw[ni lN _];show aF _ A.in1 (rQ (.ref S) >>= _) _ _ s;refine qy (oP so rfl ?_);show aF _ A.in1 (uL (g8 (.ref I)) _ >>= _) _ _ s;refine qy (rP (W.item (j+1) s _ _ lt st fun v h' tk pv st' kp=>?_));have so':=kp S _ sw so;show aF _ A.in1 (uL (iz [v,v] (richCompare .Lt v u >>= _)) _ >>= _) _ _ _;refine qy (rP (qU (qy (hc (j+1) (gP bt j) v u _ _ _ pv pu ?_))));refine qy (qU (jK ?_));refine qy (za (qB ?_));have ae:j+1+m=j+(m+1):=by omega
   by_cases hb:bt (j+1) (gP bt j)=ak
   .have ab:gP bt (j+1)=j+1:=by simp only[gP,hb,c7]
    simp only[hb,c7];refine qy ?_;refine Fe so' rfl (qy (za ?_));rw[nm];refine qB ⟨nj lN _,ih (j+1) _ v _ .(c) (W.frame _ _ _ st' fun b hf o z=>?_) (by rw[ab];exact pv) (yX _ so' rfl) fun v' h2 t2 p2 k2=>?_⟩
    .exact(rh _ _ (fun q:S=b=>hSf (by rw[q];exact hf))).trans z
    .exact r v' h2 t2 (by rw[←ae];exact p2) fun b o hw hS z=>k2 b o hw hS ((rh _ _ (dM hS)).trans (kp b o hw z))
   .have hb':bt (j+1) (gP bt j)=av:=by simpa using hb
    have ab:gP bt (j+1)=gP bt j:=by simp only[gP,hb',qt,dc]
    simp only[hb',qt,dc];refine qy (za ?_);rw[nm];refine qB ⟨nj lN _,ih (j+1) _ u c .(c) st' (by rw[ab];exact pu) so' fun v' h2 t2 p2 k2=>?_⟩;exact r v' h2 t2 (by rw[←ae];exact p2) fun b o hw hS z=>k2 b o hw hS (kp b o hw z))
theorem Nt (W:rD prog w A.in1 I fp wr n P St) (bt:ao->ao->aT) (kw:ac (aj×ax)) (hc:CmpOf prog w A.in1 .Lt P bt) (S:aw) (hSf:S∉fp) (hn:0<n) {c:ao} (st:St 0 s.heap) (so:s.heap.get? S=aa (wO [] c))
  (r:∀v h' tk,P (gP bt (n-1)) v->(∀b o,b∉wr->b≠S->s.heap.get? b=aa o->h'.get? b=aa o)->R (.ok (.ret v)) {s with heap:=h',toks:=tk}):gL (aO prog w) A (.builtin "min.loop" ⟨[.ref I,.none,.ref S],kw⟩) R s:=by
 have sw:S∉wr:=fun z=>hSf (W.sub _ z);have nm:(rR "min"++rR ".loop":dz)="min.loop":=by decide
 refine lM y9 (by
  rw[ni lN _];show aF _ A.in1 (rQ (.ref S) >>= _) _ _ s;refine qy (oP so rfl ?_);show aF _ A.in1 (uL (g8 (.ref I)) _ >>= _) _ _ s;refine qy (rP (W.item 0 s _ _ hn st fun v h' tk pv st' kp=>?_));have so':=kp S _ sw so;show aF _ A.in1 (updateSeq S (fun _=>#[v,v]) >>= _) _ _ _;refine qy ?_;refine Fe so' rfl ?_;rw[nm];refine qB ⟨nj lN _,Fw W bt kw hc S hSf (n-1) 0 _ v _ .(c) (W.frame _ _ _ st' fun b hf o z=>?_) pv (yX _ so' rfl) fun v' h2 t2 p2 k2=>?_⟩
  .exact(rh _ _ (fun q:S=b=>hSf (by rw[q];exact hf))).trans z
  .exact r v' h2 t2 (by rw[nq] at p2;exact p2) fun b o hw hS z=>k2 b o hw hS ((rh _ _ (dM hS)).trans (kp b o hw z)))
theorem HP (W:rD prog w A.in1 I fp wr n P St) (x:aj) (d:ax) (kw:ac (aj×ax)) (S:aw) (hSf:S∉fp) (hn:n=0) {c:ao} (st:St 0 s.heap) (so:s.heap.get? S=aa (wO [] c))
  (r:∀h' tk,(∀b o,b∉wr->b≠S->s.heap.get? b=aa o->h'.get? b=aa o)->R (.ok (.ret d)) {s with heap:=h',toks:=tk}):gL (aO prog w) A (.builtin "min.loop" ⟨[.ref I,.none,.ref S],(x,d)::kw⟩) R s:=by
 subst hn;refine lM y9 (by rw[ni lN _];show aF _ A.in1 (rQ (.ref S) >>= _) _ _ s;refine qy (oP so rfl ?_);show aF _ A.in1 (uL (g8 (.ref I)) _ >>= _) _ _ s;refine qy (rP (W.done s _ _ st fun h' tk kp=>?_));show aF _ A.in1 (rule _ >>= _) _ _ _;refine qy (wpAny_rule ?_);exact qB (r h' tk fun b o hb _ z=>kp b o hb z))
end
theorem Jy (a v:ax):argsOk "min" ⟨[a],[(m8 "default",v)]⟩:=by unfold argsOk;kernel_rfl
theorem Ni {x d:ax} 
  (h:aF (aO prog w) A.in1 (oz x) (fun it t=>∃I fp wr n P St bt,it=.ref I/\rD prog w A.in1 I fp wr n P St/\St 0 t.heap/\(∀b∈fp,b<t.heap.objs.size)/\CmpOf prog w A.in1 .Lt P bt /\
   (n=0->∀h' tk,(∀b o,b∉wr->t.heap.get? b=aa o->h'.get? b=aa o)->Q d {t with heap:=h',toks:=tk}) /\
   (0<n->∀v h' tk,P (gP bt (n-1)) v->(∀b o,b∉wr->t.heap.get? b=aa o->h'.get? b=aa o)->Q v {t with heap:=h',toks:=tk})) E s) :
  aF (aO prog w) A (call (.builtin "min") [x] [(m8 "default",d)]) Q E s:=by
 have nm:(rR "min"++rR ".loop":dz)="min.loop":=by decide
 refine kmb_tree F.kind_min F.plain_min F.entry_min (Jy _ _) ?_;show aF _ A.in1 (Q9 "min" ["key","default"] 0 ⟨[],[(m8 "default",d)]⟩ >>= _) _ _ s;refine qy (uK (show Q9 "min" ["key","default"] 0 ⟨[],[(m8 "default",d)]⟩=bq [af,aa d] from rfl) ?_);refine qy (qB ?_);refine qy (thn h fun it t q=>?_);obtain⟨I,fp,wr,n,P,St,bt,rfl,W,st,hf,hc,q0,q1⟩:=q;have nf:t.heap.objs.size∉fp:=fun z=>jJ _ (hf _ z);refine qy (lF ?_);rw[nm];by_cases hn:n=0
 .exact qB ⟨nj lN _,HP W _ d [] t.heap.objs.size nf hn (W.frame _ _ _ st fun b _ o z=>qv _ z) (qH _ rfl) fun h' tk kp=>q0 hn h' tk fun b o hb z=>kp b o hb (qD (qw z)) (qv _ z)⟩
 .exact qB ⟨nj lN _,Nt W bt _ hc t.heap.objs.size nf .(c) (W.frame _ _ _ st fun b _ o z=>qv _ z) (qH _ rfl) fun v h' tk pv kp=>q1 .(c) v h' tk pv fun b o hb z=>kp b o hb (qD (qw z)) (qv _ z)⟩
noncomputable def t4 (ns:ac aq) (i j:ao):aT:=decide (ns.getD i 0<ns.getD j 0)
noncomputable def sZ (ns:ac aq):D:=if ns=[] then .non else .int (ns.getD (gP (t4 ns) (ns.length-1)) 0)
noncomputable def n6 (ns:ac aq):V:=if ns=[] then .non else .int (ns.getD (gP (t4 ns) (ns.length-1)) 0)
noncomputable def vM:D->au D
 |.lst l=>(mH l).map sZ
 |_=>af
noncomputable def Ot (t:TE):TE:=fun σ H Q=>t σ H fun v H1=>∃(a:aw) (ns:ac aq),[v]=[.ref a]/\H1 a=aa (.lst (ns.map V.int))/\Q (n6 ns) H1
theorem NC {t:TE} (hc:X.calm=ak) (hg:Gl X "min") (hm:X.mg "min"=af) (h:PE X e t) (he:aR [e] X.env=(av,eval e X.env)::aR [] X.env:=by rfl) (hb:cj pos (aR [e] X.env)=(av,eval e X.env)::cj pos (aR [] X.env):=by rfl)
  (hpl:(cj pos (aR [e] X.env)).any (·.1)=av:=by rfl) :
  PE X (.Call (.Name "min" p) [e] [⟨aa "default",.Constant .none j cp,kp⟩] pos) (Ot t):=by
 intro pins s σ H Q I q;refine uv (lQ I hg hm (u:=.builtin "min") (by rfl) ?_);refine callWith_kw (thn (kB h lR he pos pins s σ H (fun vs H1=>∃(a:aw) (ns:ac aq),vs=[.ref a]/\H1 a=aa (.lst (ns.map V.int))/\Q (n6 ns) H1) I q) fun us s1 ⟨vs,H1,I1,r1,q1⟩=>?_) hb hpl;obtain⟨a,ns,rfl,ha,q2⟩:=q1;obtain⟨u,rfl,ru⟩:=ij r1;cases ru;refine kws_cons (Constant_none (kws_nil ?_));show aF _ _ (call (.builtin "min") [.ref a] [(m8 "default",.none)]) _ _ _;obtain⟨its,rv,pl,_⟩:=I1.list (.inl (.inl ha));obtain⟨vl,vi⟩:=Dx rv;refine Ni (rG pl.isList ?_);have ne:a≠s1.heap.objs.size:=by obtain⟨o,_,h1,_⟩:=pl;exact qD (qw h1)
 have hP:∀(i:ao) v,its.toArray[i]?=aa v->∃t,v=.int (ns.getD i 0) t:=fun i v hv=>vi i v (by simpa using hv);have la:a<s1.heap.objs.size:=by obtain⟨o,_,h1,_⟩:=pl;exact qw h1
 have sz:its.toArray.size=ns.length:=by simp[vl]
 refine⟨s1.heap.objs.size,_,_,_,_,_,t4 ns,rfl,yJ (A:=X.A.in1) (show X.A.in1.handled=af from I1.ok.hd hc) s1.heap.objs.size a ne its.toArray,⟨⟨_,qH _ rfl,rfl,rfl⟩,pl.isList.at fun o q=>qv _ q⟩,fun b hb=>?_,CmpOf.ints_lt (fun i=>ns.getD i 0) hP,fun hn h' tk hk=>?_,fun hn v h' tk pv hk=>?_⟩
 .rw[mY];simp only[qM,qK,or_false] at hb;rcases hb with z|z
  .rw[z];exact uu _
  .rw[z];exact yV la
 .have e0:ns=[]:=yG.mp .(c);refine⟨.non,H1,I1.kept fun b o z=>hk b o ?_ (qv _ z),rfl,?_⟩
  .intro z';have:b=s1.heap.objs.size:=by simpa using z'
   exact bJ (qw z) (by rw[this];exact jJ _)
  .unfold n6 at q2;rw[qX e0] at q2;exact q2
 .have e0:ns≠[]:=fun z=>by rw[sz,z] at hn;exact bJ hn .(e)
  obtain⟨t,rfl⟩:=hP _ _ pv;refine⟨n6 ns,H1,I1.kept fun b o z=>hk b o ?_ (qv _ z),?_,q2⟩
  .intro z';have:b=s1.heap.objs.size:=by simpa using z'
   exact bJ (qw z) (by rw[this];exact jJ _)
  .unfold n6;rw[qY e0,sz];exact⟨t,rfl⟩
theorem Lm (hc:X.calm=ak) (hg:Gl X "min") (hm:X.mg "min"=af) (h:DE Γ X e f) (he:aR [e] X.env=(av,eval e X.env)::aR [] X.env:=by rfl) (hb:cj pos (aR [e] X.env)=(av,eval e X.env)::cj pos (aR [] X.env):=by rfl)
  (hpl:(cj pos (aR [e] X.env)).any (·.1)=av:=by rfl):DE Γ X (.Call (.Name "min" p) [e] [⟨aa "default",.Constant .none j cp,kp⟩] pos) (b1 vM f):=⟨(NC hc hg hm h.1 he hb hpl).imp fun σ H Q=>by
 rintro⟨G₀,H₀,G,ρ,z,A,hq,k⟩;unfold b1 at hq;obtain⟨d,hd,hi⟩:=oBd hq;refine⟨G₀,H₀,G,ρ,d,A,hd,fun v G1 H1 s1 r1=>?_⟩;unfold vM at hi;split at hi
 .obtain⟨ns,hn,rfl⟩:=oMd hi;obtain⟨a,us,rfl,ha,ra⟩:=r1.lst_inv;refine⟨a,ns,rfl,by rw[←Dd ra hn];exact s1.gh _ _ ha,k _ G1 H1 s1 ?_⟩;unfold n6 sZ;split
  .exact .non
  .exact .int _
 .cases hi⟩
end
section
open PyProof
section
variable {it d:aw} {es:bR rB} {od:Obj}
theorem AU (hs:(d==iu)=av) (hod:s.heap.get? d=aa od) (hx:od.ExactDict) (hdd:od.data=.dict es ep)
  (hQ:∀h',h'=s.heap.push {cls:=.type "dict_keyiterator",data:=.fields #[.ref d,.int 0 0,.int es.size 0,.int ep 0]}->Q (.ref s.heap.objs.size) {s with heap:=h'}) :
  aF (aO prog w) A (oz (.ref d)) Q E s:=by
 have hT:s.TypeIs (.ref d) "dict":=⟨od,hod,hx.1⟩;refine wpAny_pyIter_slot hT Ra (EB Ra hT F.entry_dict_iter ?_ (F.args_dict_iter_1 _));unfold Builtin.«dict.__iter__» Sr;refine qy (qy (Q6 hT ?_));show aF _ _ (bq (ce d)) _ _ s;refine qB ?_;show aF _ _ (Rb d >>= _) _ _ s;unfold Rb;rw[qY (by rw[hs];exact qu)];exact qy (qB (qy (Rc hod hdd (qy (Re hod hdd (qy (lF (qB
  ⟨_,rfl,"dict_keyiterator",_,⟨_,qH _ rfl,rfl⟩,Ff.lookup,hQ _ rfl⟩))))))))
theorem ub {Q:au ax->aI->Prop} (hh:A.handled=af) (hit:s.heap.IsKeyIter it d i es.size ep) (hod:s.heap.get? d=aa od) (hdd:od.data=.dict es ep)
  (hi:∀e h',es[i]?=aa e->h'.IsKeyIter it d (i+1) es.size ep->iw it s.heap h'->Q (aa e.key) {s with heap:=h'})
  (he:es[i]?=af->∀h',Fg it s.heap h'->Q af {s with heap:=h'}):aF (aO prog w) A (g8 (.ref it)) Q E s:=by
 obtain⟨o,ho,hc,hd⟩:=id hit;have hT:=hit.typeIs;unfold g8;refine qy (Fc (P1 (name:=m8 "__next__") hT Ff
  (EB Ff hT F.entry_dict_keyiterator_next ?_ (F.args_dict_keyiterator_next_1 _))))
 refine qy (qB (qy (qy ?_)));refine qy (Fh hT (qB (qy (wpAny_fieldsOf ho hd ?_))));simp only[show Ss "dict_keyiterator"=av by decide,qt,dc];show aF _ _ (if (ce d==lq)=ak then _ else _) _ _ s;rw[qY (show ¬((ce d==lq)=ak) from qu)];refine qy (qB (qy (Rc hod hdd ?_)));rw[qY (by simp)];refine qy (qB (qy (Re hod hdd ?_)));rw[qY (by simp)];refine qB ?_;simp only[show ¬((i:aq)<0) from by omega,dc,gj];cases hx:es[i]? with
 |some e=>
  refine qy (qy (Fh hT (qB (qy (Rf hT ?_)))));show aF _ _ (setField (.ref it) 1 (p5 ((i:aq)+1)) >>= _) _ _ s;refine qy (Rg ho hd (by simp) ?_);have hit':(s.heap.update it (Rh (·.setIfInBounds 1 (p5 ((i:aq)+1))))).IsKeyIter it d (i+1) es.size ep:=
   ⟨_,yX _ ho (Obj.isFreed_of_fields (Ri hd _)),(Obj.cls_mapFields ..).trans hc,by rw[Ri hd];simp[p5]⟩
  refine qy (qU (qy (Rf (s:={s with heap:=s.heap.update it (Rh (·.setIfInBounds 1 (p5 ((i:aq)+1))))}) hit'.typeIs ?_)));show aF _ _ (bq e.key) _ _ _;exact qB (qB ⟨_,rfl,qB (hi _ _ hx hit' (yY ..))⟩)
 |none=>
  refine qy (qy (Fh hT (qB ?_)));show aF _ _ (setField (.ref it) 0 .none >>= _) _ _ s;refine qy (Rg ho hd (by simp) ?_);show aF _ _ (newExc (.type "StopIteration") [] >>= _) _ _ _;simp only[newExc,newTuple];refine qy (qy (lF ?_ (by size_fits)));refine qy (m:=Rj _ _) (uK (a:=lq) (by first|rfl|(simp only[Rj];rfl)) ?_);refine lF ?_ (by size_fits);simp only[raiseNew];refine qy (wpAny_handled ?_);rw[show A.in1.handled=af from hh];refine qy (qB (wpAny_throw ?_));refine qy (Fd (T:="StopIteration") (b:=ak) ⟨_,qH _ rfl,rfl⟩ isSubtype_stop ?_);exact qB (he hx _ (((yY ..).extBut.push _).push _))
end
end
section
variable {a c o i:Expr}
end
section
variable {a c o i:Expr}
end
theorem cI.there {h:Heap} {o:HO} (x:cI P w H h a o):∃u,h.get? a=aa u:=by
 cases o with
 |lst xs=>obtain⟨_,_,_,_,e⟩:=x;exact⟨_,e⟩
 |tup xs=>obtain⟨_,_,_,p,e,_⟩:=x;exact⟨_,e⟩
 |dK kvs=>obtain⟨_,_,_,_,o,_,_,e,_⟩:=x;exact⟨_,e⟩
 |dT kvs=>obtain⟨_,_,_,_,o,_,_,e,_⟩:=x;exact⟨_,e⟩
 |set S n=>obtain⟨o,_,_,_,e,_⟩:=x;exact⟨_,e⟩
 |ins C dx fs=>obtain⟨_,_,_,e,_⟩:=x;exact⟨_,e⟩
 |own y=>obtain⟨_,e⟩:=x;exact⟨_,e⟩
 |xd fs=>obtain⟨_,⟨_,_,_,e,_⟩,_⟩:=x;exact⟨_,e⟩
 |rng lo hi=>obtain⟨_,_,_,e⟩:=x;exact⟨_,e⟩
 |frz ob u=>obtain⟨e,_⟩:=x;exact⟨_,e⟩
 |tbl ps=>exact⟨_,(show h.get? a=aa _ from x)⟩
 |met f y=>exact⟨_,(show h.get? a=aa _ from x)⟩
 |ext φ=>obtain⟨_,⟨_,e⟩,_⟩:=x;exact⟨_,e⟩
theorem Inv.none_of (I:Inv X pins σ H s) (h:∀u,s.heap.get? a=aa u->False):H a=af:=by
 cases e:H a with
 |none=>rfl
 |some o=>
  obtain⟨u,hu⟩:=(I.hok a o e).there;exact(h u hu).elim
theorem Inv.many (I:Inv X pins σ H s) (k:∀b u,s.heap.get? b=aa u->h'.get? b=aa u) (hs:ba H H') (new:∀b o,H b=af->H' b=aa o->(∀u,s.heap.get? b=aa u->False)/\cI X.prog X.w H' h' b o) :
  Inv X pins σ H' {s with heap:=h',toks:=t'}:=by
 refine I.un ⟨fun b ob q _ _ _=>k b ob q,fun b ob q _ _ _=>⟨ob.slots,k b ob q⟩,fun b ob q n _=>?_,fun b ob q _=>⟨ob,k b ob q⟩,fun b xs q=>hs _ _ q,fun b o u q=>hs _ _ q,fun b ps q=>⟨#[],by rw[hs _ _ q];simp⟩⟩ fun b o q=>?_
 .cases e:H' b with
  |none=>rfl
  |some o=>exact((new b o n e).1 ob q).elim
 .cases e:H b with
  |none=>exact(new b o e q).2
  |some o'=>
   have:=hs _ _ e;rw[q] at this;cases this;exact(I.hok b o e).stay (fun c v _ r=>k c v r) (fun c r=>hs _ _ r) fun c xs r=>hs _ _ r
variable {p3 p4:ff}
section
variable {a c o i:Expr}
end
section
variable {a c o i:Expr}
theorem Ae {k:Key} (h:(cX P w).is k u=ak):bD (kV k) u:=by
 rcases iK (k:=k) (v:=u) h with⟨i,t,rfl,rfl⟩|⟨x,t,rfl,rfl⟩
 .exact⟨t,rfl⟩
 .exact⟨t,rfl⟩
theorem B0 (k:Key):Rep Γ K G (kV k) (eW k):=by
 cases k with
 |inl i=>exact .int i
 |inr x=>exact .str x
noncomputable def vI:D->au D
 |.lst l=>aa (.lst l.reverse)
 |_=>af
theorem Reps.reverse {K:aV} {G:Hp}:∀{vs:ac V} {ds:ac D},Reps Γ K G vs ds->Reps Γ K G vs.reverse ds.reverse
 |_,_,.nil=>.nil
 |_,_,.cons h r=>by rw[yt,yt];exact r.reverse.append (.cons h .nil)
theorem M' {j} (he:DE Γ X e f):DE Γ X (.Subscript e (.Slice af af (aa (.UnaryOp .USub (.Constant (.int 1) j p3) p4)) p2) pos) (b1 vI f):=⟨fun pins s σ H Q I=>by
 rintro⟨G₀,H₀,G,ρ,d,A,h,k⟩;unfold b1 at h;obtain⟨x,hx,h⟩:=oBd h;unfold vI at h;split at h
 .rename_i l;cases h;refine yp (thn (he.1 pins s σ H (fun v H'=>∃G',Step G H G' H'/\Rep Γ X.K G' v (.lst l)) I ⟨G₀,H₀,G,ρ,_,A,hx,fun v G' H' st r=>⟨G',st,r⟩⟩) fun v s1 ⟨v',H1,I1,r1,G1,st,rp⟩=>?_);obtain⟨a,vs,rfl,ha,rv⟩:=rp.lst_inv;cases r1;refine wpAny_Slice (qB (qB ?_));refine thn ((Hb L5 Ab) pins s1 σ H1 (fun v H'=>v=.int (-1)/\H'=H1) I1 ⟨_,rfl,rfl,rfl⟩) fun vk s3 ⟨vv,H3,I3,r3,e1,e2⟩=>?_;subst e1 e2;obtain⟨t,rfl⟩:=r3;have I4:Inv X pins σ H3 {s3 with heap:=s3.heap.push {cls:=.type "slice",data:=.fields #[.none,.none,.int (-1) t]} }:=I3.kept (t':=s3.toks) fun b ob q=>qv _ q;obtain⟨its,rr,hti,hz⟩:=I4.list (.inl (.inl (st.gh _ _ ha)));show aF (aO X.prog X.w) X.A (yq e (.Slice af af (aa (.UnaryOp .USub (.Constant (.int 1) j p3) p4)) p2) (.ref a) (.ref s3.heap.objs.size)) (EP X pins σ Q) X.xe {s3 with heap:=s3.heap.push {cls:=.type "slice",data:=.fields #[.none,.none,.int (-1) t]} };refine EC (ops:=[.ref a,.ref s3.heap.objs.size]) hti.isList.typeIs EE.lookup ?_ (by with_unfolding_all rfl);refine P6 hti.isList (P2 ..) .none .none (.int _ _) .(e) ?_ (by rw[qC];have:=rr.length;omega);rw[PySem.W.krv_pick];have hn:=I4.fresh;exact⟨.ref _,_,I4.lnew (ys:=vs.reverse) (its:=its.reverse) (t':=s3.toks) (bu.reverse rr) (by rw[List.length_reverse];exact hz),rfl,kJ st.gh rv.reverse (fun w G2 H2 s2 r2=>k w G2 H2 (st.trans s2) r2) _ hn⟩
 .cases h⟩
end
section
variable {c:Expr}
noncomputable def RF (i:ao):FS:=fun ρ=>match ρ[i]? with
 |some (aa (.odk kvs))=>aa (.od kvs,ρ)
 |_=>af
noncomputable def nX (i:ao) (ft:FT):FT:=fun ρ=>match ρ[i]? with
 |some (aa (.odk kvs))=>ft (ρ.set i (aa (.sh (.dk kvs))))
 |_=>af
theorem CK (i:ao) (h:DT Γ X c ft):DT Γ X c (nX i ft):=⟨h.1.imp fun σ H Q=>by
 rintro⟨G₀,H₀,G,ρ,b,A,h,k⟩;unfold nX at h;split at h
 .rename_i kvs hi;obtain⟨G1,sm,A1⟩:=A.frzD hi (d:=.dk kvs) rfl;exact⟨G₀,H₀,G1,_,b,A1,h,fun G' H' s=>k G H' (s.back A.gh sm)⟩
 .cases h⟩
end
theorem Inv.frz {a:aw} {us:ac (Key×V)} {o:Obj} (I:Inv X pins σ H s) (e:H a=aa (.dK us)) (ho:s.heap.get? a=aa o):Inv X pins σ (upd H a (.frz o (.dK us))) s:=by
 have ne:∀b u,H b=aa u->u≠.dK us->b≠a:=fun b u q n z=>by rw[z,e] at q;cases q;exact n rfl
 have st:∀{b:aw} {u:HO},cI X.prog X.w H s.heap b u->cI X.prog X.w (upd H a (.frz o (.dK us))) s.heap b u:=fun x=>
  x.stay (fun c v _ r=>r) (fun c r=>by rw[aE (ne c _ r (by intro z;cases z))];exact r) fun c xs r=>by rw[aE (ne c _ r (by intro z;cases z))];exact r
 refine I.un (t':=s.toks) (h':=s.heap) ⟨fun b ob q _ _ _=>q,fun b ob q _ _ _=>⟨ob.slots,q⟩,fun b ob q n _=>?_,fun b ob q _=>⟨ob,q⟩,fun b xs q=>?_,fun b o u q=>?_,fun b ps q=>⟨#[],?_⟩⟩ fun b u q=>?_
 .rw[aE (fun z=>by rw[z,e] at n;cases n)];exact n
 .rw[aE (ne b _ q (by intro z;cases z))];exact q
 .rw[aE (ne b _ q (by intro z;cases z))];exact q
 .rw[aE (ne b _ q (by intro z;cases z)),q];simp
 .by_cases hb:b=a
  .subst hb;rw[bB] at q;cases q;exact⟨ho,st (I.hok b _ e)⟩
  .rw[aE hb] at q;exact st (I.hok b u q)
theorem Inv.unfrz {us:ac (Key×V)} (I:Inv X pins σ H s) (e:H a=aa (.frz o (.dK us))) (hnf:∀o u,X.H₀ a≠aa (.frz o u)):Inv X pins σ (upd H a (.dK us)) s:=by
 have ne:∀b u,H b=aa u->u≠.frz o (.dK us)->b≠a:=fun b u q n z=>by rw[z,e] at q;cases q;exact n rfl
 have nn:∀b,H b=af->upd H a (.dK us) b=af:=fun b n=>by rw[aE (fun z=>by rw[z,e] at n;cases n)];exact n
 have st:∀{b:aw} {u:HO},cI X.prog X.w H s.heap b u->cI X.prog X.w (upd H a (.dK us)) s.heap b u:=fun x=>
  x.stay (fun c v _ r=>r) (fun c r=>by rw[aE (ne c _ r (by intro z;cases z))];exact r) fun c xs r=>by rw[aE (ne c _ r (by intro z;cases z))];exact r
 refine⟨I.ok,I.os,I.bare,⟨I.base.keep,I.base.slot,fun b ob q n hx=>nn b (I.base.free b ob q n hx),I.base.there,fun b xs q=>?_,fun b ob u q=>?_,fun b ps q=>?_⟩,I.loc,I.cell,nn _ I.free,fun x c q=>nn _ (I.freeC x c q),fun p hp=>?_,fun b u q=>?_,I.len⟩
 .have:=I.base.tups b xs q;rw[aE (ne b _ this (by intro z;cases z))];exact this
 .have:=I.base.frzs b ob u q;rw[aE (fun z=>hnf ob u (by rw[←z];exact q))];exact this
 .obtain⟨more,hm⟩:=I.base.tbls b ps q;exact⟨more,by rw[aE (ne b _ hm (by intro z;cases z))];exact hm⟩
 .obtain⟨p1,p2,p3⟩:=I.pin p hp;exact⟨p1,nn _ p2,p3⟩
 .by_cases hb:b=a
  .subst hb;rw[bB] at q;cases q;exact st (I.hok b _ e).2
  .rw[aE hb] at q;exact st (I.hok b u q)
theorem Inv.nofrz {us:ac (Key×V)} (I:Inv X pins σ H s) (e:H a=aa (.dK us)):∀o u,X.H₀ a≠aa (.frz o u):=fun o u q=>by have:=I.base.frzs a o u q;rw[e] at this;cases this
namespace Law
noncomputable abbrev oS (d:D):au Slot:=aa (.sh d)
end Law
noncomputable abbrev FQ:=ac D->au D
namespace Law
theorem dC {k:ao} {F:FQ} (C:Cal Γ X.prog X.w X.K X.mg X.base x n k F) (hr:Room j X.A) (ha:DA Γ X (e::es) fr) (hn:∀ρ ds,fr ρ=aa ds->ds.length=n) (hk:k<=j:=by decide) (hg:Gl X x:=by exact rfl) (hdb:(x==("__debug__":aj))=av:=by decide) (he:aR (e::es) X.env=(av,eval e X.env)::aR es X.env:=by rfl) (hpl:(cj pos (aR es X.env)).any (·.1)=av:=by rfl):DE Γ X (.Call (.Name x p) (e::es) [] pos) (cF F fr):=fV C hr hk hg ha hn hdb he hpl
theorem bx {P:ac aj} (a:sc.kind=.function:=by rfl) (b:sc.isCoroutine=av:=by rfl) (c:sc.isGenerator=av:=by rfl) (d:N.Nodup:=by decide +kernel) (e:N.take P.length=P:=by rfl) (f:∀x∈P,sc.names.lookup x=aa .local∨sc.names.lookup x=aa .cell:=by decide +kernel) (g:∀y∈sc.names,y.2≠.free:=by decide +kernel):FnScope N P sc:=⟨a,b,c,d,e,f,g⟩
end Law
variable {s₀:aI}
section
variable {f:aw} {E:XK}
 {pins:ac (aw×Obj)} {σ:St} {H:Hp} {s:aI} {h1:Heap} {e:aw} {cls:ax} {vs:ac ax}
end
section
variable {f:aw} {E:XK}
 {R:Hp->Prop} {n:dz} {x:aj} {np cpos pos:ff} {e₀:Expr} {cc:ac Expr} {fr:FA} {Bn newId initId:dz} {bmB:ac ax}
end
section
open PySem.W Builtin Builtin.ObjectAttr Builtin.Getset_descriptor
end
section
variable {a c o i:Expr}
noncomputable def AY (x y z:aj):aj:=if (Rk x y 0 x.length 1).isEmpty=ak then x else Rl z (Su x (Rk x y 0 x.length 1) y.length)
end
section
variable {a:Expr}
end
noncomputable def del (G:Hp) (a:aw):Hp:=fun b=>if b=a then af else G b
theorem px {b:aw} (h:b≠a):del G a b=G b:=by unfold del;rw[qY h]
theorem KQ :del G a a=af:=by unfold del;rw[qX rfl]
section
open PyProof
theorem Inv.frzT {us:ac (ac Key×V)} (I:Inv X pins σ H s) (e:H a=aa (.dT us)) (ho:s.heap.get? a=aa o):Inv X pins σ (upd H a (.frz o (.dT us))) s:=by
 have ne:∀b u,H b=aa u->u≠.dT us->b≠a:=fun b u q n z=>by rw[z,e] at q;cases q;exact n rfl
 have st:∀{b:aw} {u:HO},cI X.prog X.w H s.heap b u->cI X.prog X.w (upd H a (.frz o (.dT us))) s.heap b u:=fun x=>
  x.stay (fun c v _ r=>r) (fun c r=>by rw[aE (ne c _ r (by intro z;cases z))];exact r) fun c xs r=>by rw[aE (ne c _ r (by intro z;cases z))];exact r
 refine I.un (t':=s.toks) (h':=s.heap) ⟨fun b ob q _ _ _=>q,fun b ob q _ _ _=>⟨ob.slots,q⟩,fun b ob q n _=>?_,fun b ob q _=>⟨ob,q⟩,fun b xs q=>?_,fun b o u q=>?_,fun b ps q=>⟨#[],?_⟩⟩ fun b u q=>?_
 .rw[aE (fun z=>by rw[z,e] at n;cases n)];exact n
 .rw[aE (ne b _ q (by intro z;cases z))];exact q
 .rw[aE (ne b _ q (by intro z;cases z))];exact q
 .rw[aE (ne b _ q (by intro z;cases z)),q];simp
 .by_cases hb:b=a
  .subst hb;rw[bB] at q;cases q;exact⟨ho,st (I.hok b _ e)⟩
  .rw[aE hb] at q;exact st (I.hok b u q)
theorem Inv.unfrzT {us:ac (ac Key×V)} (I:Inv X pins σ H s) (e:H a=aa (.frz o (.dT us))) (hnf:∀o u,X.H₀ a≠aa (.frz o u)):Inv X pins σ (upd H a (.dT us)) s:=by
 have ne:∀b u,H b=aa u->u≠.frz o (.dT us)->b≠a:=fun b u q n z=>by rw[z,e] at q;cases q;exact n rfl
 have nn:∀b,H b=af->upd H a (.dT us) b=af:=fun b n=>by rw[aE (fun z=>by rw[z,e] at n;cases n)];exact n
 have st:∀{b:aw} {u:HO},cI X.prog X.w H s.heap b u->cI X.prog X.w (upd H a (.dT us)) s.heap b u:=fun x=>
  x.stay (fun c v _ r=>r) (fun c r=>by rw[aE (ne c _ r (by intro z;cases z))];exact r) fun c xs r=>by rw[aE (ne c _ r (by intro z;cases z))];exact r
 refine⟨I.ok,I.os,I.bare,⟨I.base.keep,I.base.slot,fun b ob q n hx=>nn b (I.base.free b ob q n hx),I.base.there,fun b xs q=>?_,fun b ob u q=>?_,fun b ps q=>?_⟩,I.loc,I.cell,nn _ I.free,fun x c q=>nn _ (I.freeC x c q),fun p hp=>?_,fun b u q=>?_,I.len⟩
 .have:=I.base.tups b xs q;rw[aE (ne b _ this (by intro z;cases z))];exact this
 .have:=I.base.frzs b ob u q;rw[aE (fun z=>hnf ob u (by rw[←z];exact q))];exact this
 .obtain⟨more,hm⟩:=I.base.tbls b ps q;exact⟨more,by rw[aE (ne b _ hm (by intro z;cases z))];exact hm⟩
 .obtain⟨p1,p2,p3⟩:=I.pin p hp;exact⟨p1,nn _ p2,p3⟩
 .by_cases hb:b=a
  .subst hb;rw[bB] at q;cases q;exact st (I.hok b _ e).2
  .rw[aE hb] at q;exact st (I.hok b u q)
theorem Inv.nofrzT {us:ac (ac Key×V)} (I:Inv X pins σ H s) (e:H a=aa (.dT us)):∀o u,X.H₀ a≠aa (.frz o u):=fun o u q=>by have:=I.base.frzs a o u q;rw[e] at this;cases this
theorem C1 {α β:Type} {F:α->β->Prop}:∀{l:ac α} {m:ac β} {i:ao} {y:β},Paired F l m->m[i]?=aa y->∃x,l[i]?=aa x/\F x y
 |_,_,_,_,.nil,e=>by simp at e
 |_,_,0,_,.cons h _,e=>by simp at e;subst e;exact⟨_,rfl,h⟩
 |_,_,i+1,_,.cons _ t,e=>by obtain⟨x,h1,h2⟩:=C1 (i:=i) t (by simpa using e);exact⟨x,by simpa using h1,h2⟩
noncomputable def Eb (a:aw) (o:Obj) (us:ac (ac Key×V)):It:=
 ⟨fun i H=>H a=aa (.frz o (.dT us))/\i<us.length,fun i H v H'=>H'=H/\∃kv T,us[i]?=aa kv/\v=.ref T/\H T=aa (.tup (kv.1.map kV)),fun i H=>H a=aa (.frz o (.dT us))/\i=us.length⟩
theorem C3 {h:Heap} {us:ac (ac Key×V)} {es:bR rB} (ok:HOk P w H h) (e:H a=aa (.frz o (.dT us))) (hd:o.data=.dict es ep) :
  h.get? a=aa o/\es.size=us.length/\∀(i:ao) (en:rB),es[i]?=aa en->∃kv T,us[i]?=aa kv/\en.key=.ref T/\H T=aa (.tup (kv.1.map kV)):=by
 have ho:h.get? a=aa o:=(ok a _ e).1;obtain⟨z,md,xs,kt,o',es',ep',h1,h2,h3,h4,h5,h6⟩:=i4 ok (.inr ⟨o,e⟩);rw[ho] at h1;cases h1;rw[hd] at h3;cases h3;refine⟨ho,by rw[Rm h4];exact(Paired.length kt).symm,fun i en q=>?_⟩;rw[entry_at h4] at q;obtain⟨x,hx,rfl⟩:=oMd q;obtain⟨kv,k1,k2,k3,k4⟩:=C1 kt hx;exact⟨kv,x.2.1,k1,rfl,k3⟩
theorem NI (a it:aw) (o:Obj) (us:ac (ac Key×V)) (es:bR rB) (ep:ao) (hne:a≠it) (hd:o.data=.dict es ep) :
  Turn P w K tg (Eb a o us) [it] it (fun i h=>h.IsKeyIter it a i es.size ep) where
 mem:=by simp
 obj:=fun i h st b hb=>by
  have e:b=it:=by simpa using hb
  subst e;obtain⟨o,e,c,d⟩:=st;exact⟨o,e,fun v z=>by rw[d] at z;cases z⟩
 keep:=fun i h h' st k=>by obtain⟨o,e,r⟩:=st;exact⟨o,k it (by simp) o e,r⟩
 item:=by
  intro X hP hw hK hc i pins s σ H E I hf st hg;subst hP hw hK;obtain⟨hfr,hi⟩:=hg;obtain⟨f0,f1,f2,f3,f4,f5⟩:=hf it (by simp);obtain⟨ho,hsz,hat⟩:=C3 I.hok hfr hd;refine ub (I.ok.hd hc) st ho hd (fun en h' hen st' hs=>?_) fun hx=>?_
  .obtain⟨kv,T,k1,k2,k3⟩:=hat i en hen;have I1:Inv X pins σ H {s with heap:=h',toks:=s.toks}:=I.turned (fun b o hb e=>hs.extBut b o (by simpa using hb) e) f0 f1 f3 f4 f5;obtain⟨oi,e,c,d⟩:=id st';exact⟨_,rfl,pL (s:={s with heap:=h',toks:=s.toks}) e c d .(e) ⟨.ref T,H,I1,by rw[k2];rfl,⟨rfl,kv,T,k1,rfl,k3⟩,st',fun b hb=>(hf b hb).1⟩⟩
  .rw[Rn] at hx;omega
 done:=by intro X hP hw hK hc i pins s σ H E I hf st hg;subst hP hw hK;obtain⟨hfr,hi⟩:=hg;obtain⟨f0,f1,f2,f3,f4,f5⟩:=hf it (by simp);obtain⟨ho,hsz,hat⟩:=C3 I.hok hfr hd;refine ub (I.ok.hd hc) st ho hd (fun en h' hen st' hs=>?_) fun hx h' hs=>⟨rfl,I.turned (t':=s.toks) (fun b o hb e=>hs b o (by simpa using hb) e) f0 f1 f3 f4 f5⟩;have:=(gN.mp hen).1;omega
 self:=fun _ _ _ _ _ st h=>Fi st h
noncomputable def zB:D->au (ac D)
 |.fdt kvs=>aa (kvs.map fun kv=>.tup (kv.1.map eW))
 |_=>af
noncomputable def kC (f:FE):FA:=fun ρ=>(f ρ).bind zB
section
variable {c:Expr}
theorem MD (he:PE X iter te):PI X tg iter (fun σ H R=>te σ H fun x H1=>∃(a:aw) (o:Obj) (us:ac (ac Key×V)),x=.ref a/\H1 a=aa (.frz o (.dT us))/\R (Eb a o us) H1):=by
 intro pins s σ H R I h;refine thn (he pins s σ H _ I h) fun v s1 ⟨x,H1,I1,r1,a,o,us,e,ha,q⟩=>?_;subst e;cases r1;have ho:s1.heap.get? a=aa o:=(I1.hok a _ ha).1;obtain⟨z,md,xs,kt,o',es,ep,h1,h2,h3,h4,h5,h6⟩:=i4 I1.hok (.inr ⟨o,ha⟩);rw[ho] at h1;cases h1;refine AU md ho h2 h3 fun h' e'=>?_;subst e';refine⟨s1.heap.objs.size,[s1.heap.objs.size],_,_,H1,rfl,I1.kept (t':=s1.toks) fun b u e=>qv _ e,NI a s1.heap.objs.size o us es ep (qD (qw ho)) h3,⟨_,qH _ rfl,rfl,rfl⟩,fun b hb=>?_,q⟩;have e:b=s1.heap.objs.size:=by simpa using hb
 subst e;exact I1.fpOk (qx _) (I1.hok.fresh (qx _))
theorem xM {K:aV} {G:Hp}:∀ks:ac Key,Reps Γ K G (ks.map kV) (ks.map eW)
 |[]=>.nil
 |k::ks=>.cons (by cases k;exact .int _;exact .str _) (xM ks)
theorem JW (ks:ac Key):kyT (.tup (ks.map kV))=ak:=by show(ks.map kV).all kyV=ak;rw[iD];intro v hv;obtain⟨k,_,rfl⟩:=bU.mp hv;cases k<;>rfl
theorem Step.key {T:aw} {ks:ac Key} (gh:ba G H) (hT:H T=aa (.tup (ks.map kV))):Step G H (upd G T (.tup (ks.map kV))) H:=by
 refine⟨.refl _,fun b u e=>?_,fun b u e=>?_,fun b u e k=>?_⟩
 .by_cases hb:b=T
  .subst hb;rw[gh _ _ e] at hT;rw[bB,hT]
  .rw[aE hb];exact e
 .by_cases hb:b=T
  .subst hb;rw[bB] at e;rw[hT,e]
  .rw[aE hb] at e;exact gh _ _ e
 .rw[aE];intro z;subst z;rw[hT] at e;cases e;rw[JW] at k;cases k
theorem Bx (h:DE Γ X iter f):DI Γ X tg iter (kC f):=⟨(MD h.1).imp fun σ H R=>by
 rintro⟨G₀,H₀,G,ρ,ds,A,h,k⟩;unfold kC at h;obtain⟨d,hd,h⟩:=oBd h;refine⟨G₀,H₀,G,ρ,d,A,hd,fun v G' H' s r=>?_⟩;unfold zB at h;split at h
 .cases h;cases r with
  |fdt h1 h2 h3=>
   rename_i kvs a o us;have hln:us.length=kvs.length:=by simpa using cw dU h2
   refine⟨_,_,_,rfl,s.gh _ _ h1,k _ G' H' s ⟨fun i d G2 H2 hd g1 g2=>?_,fun G2 H2 g1 g2=>⟨g2 _ _ (g1 _ _ h1),by rw[qf,hln]⟩⟩⟩;rw[qk] at hd;obtain⟨kd,hkd,rfl⟩:=oMd hd;have hi:i<us.length:=by rw[hln];exact(eB.mp hkd).1
   refine⟨⟨g2 _ _ (g1 _ _ h1),hi⟩,fun x H3 ⟨e1,kv,T,hkv,ev,hT⟩=>?_⟩;subst e1 ev;have ek:kv.1=kd.1:=by have:=cw (fun l=>l[i]?) h2;simp only[qk,hkv,hkd,qe,zb] at this;exact this
   exact⟨_,.key g2 hT,.tup bB (by rw[ek];exact xM _)⟩
 .cases h⟩
end
end
section
open PyProof
noncomputable def tfD:D->aT
 |.tup t=>t.all fX
 |_=>av
noncomputable def ltf:D->aT
 |.lst l=>l.all tfD
 |_=>av
section
variable {c:Expr}
theorem pp:∀{vs:ac V} {ds:ac D},Reps Γ K G vs ds->ds.all fX=ak->Reps Γ K G' vs ds
 |_,_,.nil,_=>.nil
 |_,_,.cons r t,h=>by rw[Ro,fJ] at h;exact .cons (r.flat h.1) (pp t h.2)
theorem C9 {a:aw} {o:Obj} {u:HO} (ha:G a=aa (.frz o u)):∀{vs:ac V} {ds:ac D},Reps Γ K G vs ds->ds.all tfD=ak->Reps Γ K (del G a) vs ds
 |_,_,.nil,_=>.nil
 |_,_,.cons (v:=v) (d:=d) r t,h=>by
  rw[Ro,fJ] at h;refine .cons ?_ (C9 ha t h.2);cases r with
  |tup hb rs=>exact .tup (by rw[px (fun z=>by rw[z,ha] at hb;cases hb)];exact hb) (pp rs h.1)
  |_=>cases h.1
theorem K6 {u:HO} (ha:G a=aa (.frz o u)) (r:Rep Γ K G v d) (h:ltf d=ak):Rep Γ K (del G a) v d:=by
 cases r with
 |lst hb rs=>exact .lst (by rw[px (fun z=>by rw[z,ha] at hb;cases hb)];exact hb) (C9 ha rs h)
 |_=>cases h
noncomputable def kH:au Slot->au Slot
 |some (.sh d)=>if fX d=ak then aa (.sh d) else af
 |_=>af
noncomputable def oe (i:ao) (f:FE):FE:=fun ρ=>match ρ[i]? with
 |some (aa (.sh (.dt kvs)))=>if (kvs.map (·.2)).all fX=ak then (f ((ρ.map kH).set i (aa (.sh (.fdt kvs))))).bind fun d=>if ltf d=ak then aa d else af else af
 |_=>af
theorem D6 (i:ao) (h:DE Γ X c f):DE Γ X c (oe i f):=⟨fun pins s σ H Q I q=>by
 obtain⟨G₀,H₀,G,ρ,d,A,hq,k⟩:=q;unfold oe at hq;split at hq
 .rename_i kvs hi;split at hq
  .rename_i hfl;obtain⟨d',hd',hq⟩:=oBd hq;split at hq
   .rename_i hlt;cases hq;obtain⟨v,h1,h2⟩:=A.env.sh i _ hi;cases h2 with
    |dt g3 q4 q5=>
     rename_i a us;have q3:=A.gh _ _ g3;have hnf:=I.nofrzT q3;obtain⟨ob,hob⟩:=(I.hok a _ q3).there;have I1:=I.frzT q3 hob;have gh1:ba (upd (fun _=>af) a (.frz ob (.dT us))) (upd H a (.frz ob (.dT us))):=fun b u e=>by
      by_cases hb:b=a
      .subst hb;rw[bB] at e ⊢;exact e
      .rw[aE hb] at e;cases e
     have A1:At Γ X.K (upd (fun _=>af) a (.frz ob (.dT us))) (upd H a (.frz ob (.dT us))) (upd (fun _=>af) a (.frz ob (.dT us))) (upd H a (.frz ob (.dT us))) ((ρ.map kH).set i (aa (.sh (.fdt kvs)))) σ:=by
      have key:∀(j:ao) s,((ρ.map kH).set i (aa (.sh (.fdt kvs))))[j]?=aa (aa s)->(j=i/\s=.sh (.fdt kvs))\/∃d,s=.sh d/\fX d=ak/\ρ[j]?=aa (aa (.sh d)):=fun j s e=>by
       by_cases hj:j=i
       .subst hj;have hlt:j<(ρ.map kH).length:=by rw[qf];exact(eB.mp hi).1
        rw[oy hlt] at e;cases e;exact .inl ⟨rfl,rfl⟩
       .rw[qz (dM hj),qk] at e;obtain⟨o,ho,e⟩:=oMd e;unfold kH at e;split at e
        .split at e
         .rename_i hf;cases e;exact .inr ⟨_,rfl,hf,ho⟩
         .cases e
        .cases e
      refine⟨.refl gh1,.ofSh (by rw[List.length_set,qf];exact A.env.len) (fun j s e=>?_) fun j d e=>?_⟩
      .rcases key j s e with⟨_,z⟩|⟨d,z,_⟩<;>exact⟨_,z⟩
      .rcases key j _ e with⟨z1,z2⟩|⟨d,z,z2,z3⟩
       .subst z1;cases z2;exact⟨_,h1,.fdt bB q4 (pp q5 hfl)⟩
       .cases z;obtain⟨v,y1,y2⟩:=A.env.sh j _ z3;exact⟨v,y1,y2.flat z2⟩
     refine thn (h.1 pins s σ _ (fun x H'=>H' a=aa (.frz ob (.dT us))/\Q x (upd H' a (.dT us))) I1 ⟨_,_,_,_,_,A1,hd',fun v G' H' s' r=>⟨s'.hh _ _ bB,?_⟩⟩) fun r s1 q=>?_
     .have hH:∀b u,b≠a->H b=aa u->H' b=aa u:=fun b u hb e=>s'.hh b u (by rw[aE hb];exact e);have sm:ba (del G' a) (fun b=>match G b with|some u=>aa u|none=>del G' a b):=fun b u e=>by
       show(match G b with|some u=>aa u|none=>del G' a b)=aa u;split
       .rename_i u' hu;have hb:b≠a:=fun z=>by rw[z,KQ] at e;cases e
        rw[px hb] at e;have:=hH b u' hb (A.gh _ _ hu);rw[s'.gh _ _ e] at this;exact this.symm
       .exact e
      refine k v (fun b=>match G b with|some u=>aa u|none=>del G' a b) _ ⟨fun x u e=>?_,fun x u e=>?_,fun x u e=>?_,fun x u e ek=>?_⟩ ((K6 (s'.gg _ _ bB) r hlt).mono sm)
      .by_cases hx:x=a
       .subst hx;rw[bB,←e,q3]
       .rw[aE hx];exact hH x u hx e
      .show(match G x with|some u=>aa u|none=>del G' a x)=aa u;rw[e]
      .replace e:(match G x with|some u=>aa u|none=>del G' a x)=aa u:=e
       by_cases hx:x=a
       .subst hx;rw[g3] at e;rw[bB];exact e
       .rw[aE hx];split at e
        .rename_i u' hu;cases e;exact hH x _ hx (A.gh _ _ hu)
        .rw[px hx] at e;exact s'.gh x u e
      .show(match G x with|some u=>aa u|none=>del G' a x)=G x;by_cases hx:x=a
       .subst hx;rw[g3]
       .cases hg:G x with
        |some u'=>rfl
        |none=>
         show del G' a x=af;rw[px hx,s'.out x u (by rw[aE hx];exact e) ek,aE hx]
     .obtain⟨x,H',I',rv,hx,q⟩:=q;exact⟨x,_,I'.unfrzT hx hnf,rv,q⟩
   .cases hq
  .cases hq
 .cases hq⟩
end
end
section
open PyProof
section
variable {d:aw} {es:bR rB} {od:Obj}
theorem Ki (hh:A.handled=af) (I:aw) (hne:d≠I) (hdd:od.data=.dict es ep):rD prog w A I [I,d] [I] es.size (fun i v=>∃en,es[i]?=aa en/\v=en.key) (fun i h=>h.IsKeyIter I d i es.size ep/\h.get? d=aa od) where
 sub:=fun b hb=>by simp at hb;simp[hb]
 frame:=fun _ _ _ st hk=>⟨st.1.at fun o e=>hk I (by simp) o e,hk d (by simp) _ st.2⟩
 item:=fun i s Q E hi st hQ=>ub hh st.1 st.2 hdd (fun en h' hen st' hs=>hQ _ h' s.toks ⟨en,hen,rfl⟩ ⟨st',hs.extBut d _ hne st.2⟩ fun b o hb e=>hs.extBut b o (fun z=>hb (by simp[z])) e) fun hx=>by rw[Rn] at hx;omega
 done:=fun s Q E st hQ=>ub hh st.1 st.2 hdd (fun en h' hen st' hs=>by have:=(gN.mp hen).1;omega) fun hx h' hs=>hQ h' s.toks fun b o hb e=>hs b o (fun z=>hb (by simp[z])) e
 self:=fun _ _ _ _ st hQ=>Fi st.1 hQ
theorem N8 (lo:(d==iu)=av) (hx:od.ExactDict) (hdd:od.data=.dict es ep):PySem.W.KdlSrc prog w "dict" d d es.size (fun i v=>∃en,es[i]?=aa en/\v=en.key) (fun h=>h.get? d=aa od) where
 type:=fun _ hm=>⟨od,hm,hx.1⟩
 there:=fun _ hm=>⟨qw hm,qw hm⟩
 keep:=fun _ _ hm hk=>hk d (.inl rfl) _ hm
 notList:=by decide
 notTuple:=by decide
 hint:=fun _ _ _ _ hm hq=>PySem.W.kdl_hint_dict ⟨od,hm,hx.1⟩ hq
 iter:=fun _ _ hh hm=>⟨_,_,(fun _ _ hq=>AU lo hm hx hdd fun h' e=>by subst e;exact hq),Ki hh _ (qD (qw hm)) hdd,⟨⟨_,qH _ rfl,rfl,rfl⟩,qv _ hm⟩⟩
end
theorem xx:∀{xs:ac V} {us:ac ax},xs.length=us.length->(∀(j:ao) x u,xs[j]?=aa x->us[j]?=aa u->bD x u)->bu xs us
 |[],[],_,_=>.nil
 |[],_::_,e,_=>by cases e
 |_::_,[],e,_=>by cases e
 |x::xs,u::us,e,h=>.cons (h 0 x u rfl rfl) (xx (by simpa using e) fun j y v h1 h2=>h (j+1) y v h1 h2)
noncomputable abbrev KTs (H:Hp):ac (ac Key×V)->ac aw->Prop:=Paired fun kv T=>H T=aa (.tup (kv.1.map kV))
theorem KT.adr {H:Hp}:∀{us:ac (ac Key×V)} {xs:ac (ac Key×aw×ax)},KT H us xs->KTs H us (xs.map (·.2.1))
 |_,_,.nil=>.nil
 |_,_,.cons h t=>.cons h.2.1 (KT.adr t)
theorem Jw (hc:X.calm=ak):gu X (.type "list") (fun xs H Q=>∃(a:aw) (us:ac (ac Key×V)),xs=[.ref a]/\Rd H a (.dT us)/\∀p Ts,H p=af->KTs H us Ts->Q (.ref p) (upd H p (.lst (Ts.map V.ref)))):=by
 intro pins s σ H xs vs Q I r h;obtain⟨a,us,rfl,ha,q⟩:=h;obtain⟨u,rfl,ru⟩:=ij r;cases ru;obtain⟨z,md,ys,kt,od,es,ep,h1,h2,h3,h4,h5,h6⟩:=i4 I.hok ha;have hlen:us.length=ys.length:=Paired.length kt;have hsz:es.size=ys.length:=Rm h4;refine Rp (N8 md h2 h3) (I.ok.hd hc) h1 .(c) fun h' tk acc c hk hL hacc=>?_;have hl2:acc.toList.length=es.size:=by rw[jL];exact hacc.1
 have hno:∀u,s.heap.get? s.heap.objs.size=aa u->False:=fun u e=>jJ _ (qw e);have hn:=I.none_of hno;refine⟨.ref s.heap.objs.size,upd H s.heap.objs.size (.lst ((ys.map (·.2.1)).map V.ref)),I.many (t':=tk) hk (fun b o e=>by rw[aE (bK e hn)];exact e) (fun b o e1 e2=>?_),rfl,q _ _ hn kt.adr⟩;by_cases hb:b=s.heap.objs.size
 .subst hb;rw[bB] at e2;cases e2;refine⟨hno,by rw[qf,qf];omega,acc.toList,c,xx (by rw[qf,qf,hl2,hsz]) fun j x u h1 h2=>?_,by rw[Rq];exact hL⟩;obtain⟨en,g1,g2⟩:=hacc.2 j u (by rw[←qJ];exact h2);rw[entry_at h4] at g1;obtain⟨y,g3,rfl⟩:=oMd g1;rw[qk,qk,g3] at h1;cases h1;rw[g2];rfl
 .rw[aE hb,e1] at e2;cases e2
theorem Step.keys {K:aV} {H:Hp}:∀{us:ac (ac Key×V)} {Ts:ac aw} {kvs:ac (ac Key×D)} {G:Hp},ba G H->KTs H us Ts->us.map (·.1)=kvs.map (·.1)->∃G',Step G H G' H/\Reps Γ K G' (Ts.map V.ref) (kvs.map fun kv=>D.tup (kv.1.map eW))
 |[],_,[],G,gh,.nil,_=>⟨G,.refl gh,.nil⟩
 |[],_,_::_,_,_,_,e=>by cases e
 |_::_,_,[],_,_,_,e=>by cases e
 |u::us,_,k::kvs,G,gh,.cons (b:=T) h t,e=>by have e1:u.1=k.1:=(eU e).1;have s1:=Step.key gh h;obtain⟨G',s2,r⟩:=Step.keys s1.gh t (eU e).2;exact⟨G',s1.trans s2,.cons (.tup (s2.gg _ _ bB) (by rw[e1];exact xM _)) r⟩
noncomputable def vh:FQ
 |[.dt kvs]=>aa (.lst (kvs.map fun kv=>D.tup (kv.1.map eW)))
 |[.fdt kvs]=>aa (.lst (kvs.map fun kv=>D.tup (kv.1.map eW)))
 |_=>af
theorem Fv (hc:X.calm=ak):TyD Γ X "list" vh:=⟨_,Jw hc,fun {G H vs ds z} gh r h Q k=>by
 have fin:∀{us:ac (ac Key×V)} {kvs:ac (ac Key×D)},us.map (·.1)=kvs.map (·.1)->(∀w G' H',Step G H G' H'->Rep Γ X.K G' w (.lst (kvs.map fun kv=>D.tup (kv.1.map eW)))->Q w H')->
   ∀p Ts,H p=af->KTs H us Ts->Q (.ref p) (upd H p (.lst (Ts.map V.ref))):=fun h2 k p Ts hp hT=>by
  obtain⟨G',s,r⟩:=Step.keys (Γ:=Γ) (K:=X.K) gh hT h2;exact kJ s.gh r (fun w G2 H2 s2 r2=>k w G2 H2 (s.trans s2) r2) p hp
 unfold vh at h;split at h
 .cases h;obtain⟨v,rfl,r1⟩:=r.one;cases r1 with
  |dt h1 h2 h3=>exact⟨_,_,rfl,.inl (gh _ _ h1),fin h2 k⟩
 .cases h;obtain⟨v,rfl,r1⟩:=r.one;cases r1 with
  |fdt h1 h2 h3=>exact⟨_,_,rfl,.inr ⟨_,gh _ _ h1⟩,fin h2 k⟩
 .cases h⟩
end
section
open PyProof
noncomputable def tw:FQ
 |[.dk kvs]=>aa (.lst (kvs.map fun kv=>eW kv.1))
 |_=>af
theorem MX (hc:X.calm=ak):gu X (.type "list") (fun xs H Q=>∃(a:aw) (us:ac (Key×V)),xs=[.ref a]/\Rd H a (.dK us)/\∀p,H p=af->Q (.ref p) (upd H p (.lst (us.map fun kv=>kV kv.1)))):=by
 intro pins s σ H xs vs Q I r h;obtain⟨a,us,rfl,ha,q⟩:=h;obtain⟨u,rfl,ru⟩:=ij r;cases ru;obtain⟨z,md,va,qa,da⟩:=jx I.hok ha;obtain⟨ep,hat⟩:=da.dictAt;have hlen:us.length=va.length:=qa.length;refine Rp (PySem.W.kdl_dict (knd:=cX X.prog X.w) (kvs:=va) (ep:=ep) md) (I.ok.hd hc) hat .(c) fun h' tk acc c hk hL hacc=>?_;have hl2:acc.toList.length=va.length:=by rw[jL];exact hacc.1
 have hno:∀u,s.heap.get? s.heap.objs.size=aa u->False:=fun u e=>jJ _ (qw e);have hn:=I.none_of hno;refine⟨.ref s.heap.objs.size,upd H s.heap.objs.size (.lst (us.map fun kv=>kV kv.1)),I.many (t':=tk) hk (fun b o e=>by rw[aE (bK e hn)];exact e) (fun b o e1 e2=>?_),rfl,q _ hn⟩;by_cases hb:b=s.heap.objs.size
 .subst hb;rw[bB] at e2;cases e2;refine⟨hno,by rw[qf];exact z,acc.toList,c,xx (by rw[qf,hl2,hlen]) fun j x u h1 h2=>?_,by rw[Rq];exact hL⟩;obtain⟨k,y,g1,g2⟩:=hacc.2 j u (by rw[←qJ];exact h2);rw[qk] at h1;obtain⟨kv,g3,rfl⟩:=oMd h1;have g4:(us.map (·.1))[j]?=(va.map (·.1))[j]?:=by rw[qa.keys]
  rw[qk,qk,g1,g3] at g4;have g5:kv.1=k:=qI g4;rw[g5];exact Ae g2
 .rw[aE hb,e1] at e2;cases e2
theorem B8 {K:aV} {G:Hp}:∀{us:ac (Key×V)} {kvs:ac (Key×D)},us.map (·.1)=kvs.map (·.1)->Reps Γ K G (us.map fun kv=>kV kv.1) (kvs.map fun kv=>eW kv.1)
 |[],[],_=>.nil
 |[],_::_,e=>by cases e
 |_::_,[],e=>by cases e
 |u::us,k::kvs,e=>by have e1:u.1=k.1:=(eU e).1;exact .cons (show Rep Γ K G (kV u.1) (eW k.1) by rw[e1];exact B0 _) (B8 (eU e).2)
theorem Ea (hc:X.calm=ak):TyD Γ X "list" tw:=⟨_,MX hc,fun {G H vs ds z} gh r h Q k=>by
 unfold tw at h;split at h
 .cases h;obtain⟨v,rfl,r1⟩:=r.one;cases r1 with
  |dk h1 h2 h3=>exact⟨_,_,rfl,.inl (gh _ _ h1),kJ gh (B8 h2) k⟩
 .cases h⟩
end
section
open PyProof
section
variable {c:Expr}
noncomputable def oZ (i:ao) (ft:FT):FT:=fun ρ=>match ρ[i]? with
 |some (aa (.odt kvs))=>ft (ρ.set i (aa (.sh (.dt kvs))))
 |_=>af
theorem KP (i:ao) (h:DT Γ X c ft):DT Γ X c (oZ i ft):=⟨h.1.imp fun σ H Q=>by
 rintro⟨G₀,H₀,G,ρ,b,A,h,k⟩;unfold oZ at h;split at h
 .rename_i kvs hi;obtain⟨G1,sm,A1⟩:=A.frzD hi (d:=.dt kvs) rfl;exact⟨G₀,H₀,G1,_,b,A1,h,fun G' H' s=>k G H' (s.back A.gh sm)⟩
 .cases h⟩
noncomputable def mE (i:ao) (f:FE):FE:=fun ρ=>match ρ[i]? with
 |some (aa (.odt kvs))=>(f (ρ.set i (aa (.sh (.dt kvs))))).bind fun d=>if fX d=ak then aa d else af
 |_=>af
theorem Md (i:ao) (h:DE Γ X c f):DE Γ X c (mE i f):=⟨h.1.imp fun σ H Q=>by
 rintro⟨G₀,H₀,G,ρ,d,A,h,k⟩;unfold mE at h;split at h
 .rename_i kvs hi;obtain⟨d',hd',h⟩:=oBd h;split at h
  .rename_i hf;cases h;obtain⟨G1,sm,A1⟩:=A.frzD hi (d:=.dt kvs) rfl;exact⟨G₀,H₀,G1,_,d,A1,hd',fun v G' H' s r=>k v G H' (s.back A.gh sm) (r.flat hf)⟩
  .cases h
 .cases h⟩
end
end
section
open PyProof
theorem K8 (hc:X.calm=ak):gu X (.builtin "min") (fun xs H Q=>∃i j k,xs=[.int i,.int j,.int k]/\Q (.int (if j<i then (if k<j then k else j) else (if k<i then k else i))) H):=by
 intro pins s σ H xs us Q I r h;obtain⟨i,j,k,rfl,q⟩:=h;cases r with
 |cons r1 r=>
  cases r with
  |cons r2 r=>
   cases r with
   |cons r3 r=>
    cases r;obtain⟨t,rfl⟩:=r1;obtain⟨t',rfl⟩:=r2;obtain⟨t'',rfl⟩:=r3;refine min_three_ints (I.ok.hd hc) fun h' tk hk=>⟨_,H,I.kept hk,?_,q⟩;split
    .split<;>exact⟨_,rfl⟩
    .split<;>exact⟨_,rfl⟩
noncomputable def wL:FQ
 |[.int i,.int j,.int k]=>aa (.int (if j<i then (if k<j then k else j) else (if k<i then k else i)))
 |_=>af
theorem Pe (hc:X.calm=ak):BltD Γ X "min" wL:=⟨_,K8 hc,fun {G H vs ds z} gh r h Q k=>by
 unfold wL at h;split at h<;>cases h;cases r with
 |cons r1 r=>
  cases r with
  |cons r2 r=>
   cases r with
   |cons r3 r=>
    cases r;cases r1.int_inv;cases r2.int_inv;cases r3.int_inv;exact⟨_,_,_,rfl,k _ G H (.refl gh) (.int _)⟩⟩
end
section
open PyProof
noncomputable def Itk (a:aw) (o:Obj) (us:ac (Key×V)):It:=
 ⟨fun i H=>H a=aa (.frz o (.dK us))/\i<us.length,fun i H v H'=>H'=H/\∃kv,us[i]?=aa kv/\v=kV kv.1,fun i H=>H a=aa (.frz o (.dK us))/\i=us.length⟩
theorem Ga (a it:aw) (o:Obj) (us:ac (Key×V)) (va:ac (Key×ax)) (ep:ao) (hne:a≠it) (hd:∀h:Heap,h.get? a=aa o->h.DictAt (cX P w) a va ep) (kv:KV us va) :
  Turn P w K tg (Itk a o us) [it] it (fun i h=>h.IsKeyIter it a i va.length ep) where
 mem:=by simp
 obj:=fun i h st b hb=>by
  have e:b=it:=by simpa using hb
  subst e;obtain⟨o,e,c,d⟩:=st;exact⟨o,e,fun v z=>by rw[d] at z;cases z⟩
 keep:=fun i h h' st k=>by obtain⟨o,e,r⟩:=st;exact⟨o,k it (by simp) o e,r⟩
 item:=by
  intro X hP hw hK hc i pins s σ H E I hf st hg;subst hP hw hK;obtain⟨hfr,hi⟩:=hg;obtain⟨f0,f1,f2,f3,f4,f5⟩:=hf it (by simp);have ho:s.heap.get? a=aa o:=(I.hok a _ hfr).1;refine(Rr (knd:=cX X.prog X.w) (I.ok.hd hc) it a hne va ep).item i s _ _ (by rw[←kv.length];exact hi) ⟨st,hd _ ho⟩ fun v h' tk hv st' kk=>?_;obtain⟨k,x,hk,hr⟩:=hv;have hp:(us.map (·.1))[i]?=(va.map (·.1))[i]?:=by rw[kv.keys]
  rw[qk,qk,hk] at hp;obtain⟨p,hp1,hp2⟩:=oMd hp;have hp3:p.1=k:=hp2;have I1:Inv X pins σ H {s with heap:=h',toks:=tk}:=I.turned (fun b o hb e=>kk b o (by simpa using hb) e) f0 f1 f3 f4 f5;obtain⟨oi,e,c,d⟩:=id st'.1;exact⟨v,rfl,pL (s:={s with heap:=h',toks:=tk}) e c d .(e) ⟨kV p.1,H,I1,by rw[hp3];exact Ae hr,⟨rfl,p,hp1,rfl⟩,st'.1,fun b hb=>(hf b hb).1⟩⟩
 done:=by
  intro X hP hw hK hc i pins s σ H E I hf st hg;subst hP hw hK;obtain⟨hfr,hi⟩:=hg;obtain⟨f0,f1,f2,f3,f4,f5⟩:=hf it (by simp);have ho:s.heap.get? a=aa o:=(I.hok a _ hfr).1;have hi':i=va.length:=by rw[←kv.length];exact hi
  subst hi';exact(Rr (knd:=cX X.prog X.w) (I.ok.hd hc) it a hne va ep).done s _ _ ⟨st,hd _ ho⟩ fun h' tk kk=>⟨rfl,I.turned (fun b o hb e=>kk b o (by simpa using hb) e) f0 f1 f3 f4 f5⟩
 self:=fun _ _ _ _ _ st h=>Fi st h
section
variable {c:Expr} {g:FG}
theorem FF (he:PE X iter te):PI X tg iter (fun σ H R=>te σ H fun x H1=>∃(a:aw) (us:ac (Key×V)),x=.ref a/\H1 a=aa (.dK us)/\∀o,(∀o' u,X.H₀ a≠aa (.frz o' u))->R (Itk a o us) (upd H1 a (.frz o (.dK us)))):=by
 intro pins s σ H R I h;refine thn (he pins s σ H _ I h) fun v s1 ⟨x,H0,I0,r1,a,us,e,ha0,q0⟩=>?_;subst e;cases r1;obtain⟨o,hob⟩:=(I0.hok a _ ha0).there;have q:=q0 o (I0.nofrz ha0);have I1:=I0.frz ha0 hob;have ha:upd H0 a (.frz o (.dK us)) a=aa (.frz o (.dK us)):=bB;obtain⟨z,md,va,qa,da⟩:=jx I1.hok (.inr ⟨o,ha⟩);obtain⟨ep,hat⟩:=da.dictAt;have ho:s1.heap.get? a=aa o:=(I1.hok a _ ha).1;refine wpAny_pyIter_dict md hat ?_;refine⟨s1.heap.objs.size,[s1.heap.objs.size],_,_,_,rfl,I1.kept (t':=s1.toks) fun b u e=>qv _ e,Ga a s1.heap.objs.size o us va ep (qD (qw ho)) (fun h' e=>hat.at' fun o' e'=>by rw[ho] at e';cases e';exact e) qa,⟨_,qH _ rfl,rfl,rfl⟩,fun b hb=>?_,q⟩;have e:b=s1.heap.objs.size:=by simpa using hb
 subst e;exact I1.fpOk (qx _) (I1.hok.fresh (qx _))
noncomputable def lfD:D->aT
 |.lst l=>l.all fX
 |d=>fX d
noncomputable def lfS:au Slot->au Slot
 |some (.sh d)=>if lfD d=ak then aa (.sh d) else af
 |_=>af
theorem GH (hs:∀b vs,G b=aa (.lst vs)->G1 b=aa (.lst vs)) (r:Rep Γ K G v d) (h:lfD d=ak):Rep Γ K G1 v d:=by
 by_cases hf:fX d=ak
 .exact r.flat hf
 .cases r with
  |lst hb rs=>exact .lst (hs _ _ hb) (pp rs h)
  |_=>first|exact bJ rfl hf|cases h
noncomputable def t8 (f:FE) (g:FG) (ft:FT) (fe:FE) (fv:ac (au ao)):FA:=fun ρ=>match f ρ with
 |some (.dk kvs)=>if kvs.length<=aN then (cT g ft fe (kvs.map fun kv=>eW kv.1) ((fC fv ρ).map lfS)).bind fun ds=>if ds.all fX=ak then aa ds else af else af
 |_=>af
theorem Cj {s:Slot} (e:(ρ.map lfS)[j]?=aa (aa s)):∃d,s=.sh d/\lfD d=ak/\ρ[j]?=aa (aa (.sh d)):=by
 rw[qk] at e;obtain⟨o,ho,e⟩:=oMd e;unfold lfS at e;split at e
 .split at e
  .rename_i hf;cases e;exact⟨_,rfl,hf,ho⟩
  .cases e
 .cases e
theorem Ie (hc:X.calm=ak) (S:CompScope X scope) (F:FvOk X N' scope fv) (hi:DE Γ X iter f) (hb:DB Γ X N' scope tg ifs elt g ft fe) (hs:∀x,oA iter X.env x=bq x:=by intro _;rfl) :
  DO Γ X (.ListComp elt [⟨tg,iter,ifs,0⟩] scope pos) (t8 f g ft fe fv):=⟨fun pins s σ H Q I q=>by
 obtain⟨G₀,H₀,G,ρ,ds,A,h,k⟩:=q;unfold t8 at h;split at h
 .rename_i kvs hf;split at h
  .rename_i hz;obtain⟨ds',hd,h⟩:=oBd h;split at h
   .rename_i hfl;cases h;refine thn (DD hc S F (FF hi.1) hb.pb hs pins s σ H (fun x H2=>∃(a:aw) (o:Obj) (us:ac (Key×V)),H2 a=aa (.frz o (.dK us))/\(∀o' u,X.H₀ a≠aa (.frz o' u))/\Q x (upd H2 a (.dK us))) I ⟨G₀,H₀,G,ρ,_,A,hf,fun v G' H' s r=>?_⟩) fun r s1 q=>?_
    .cases r with
     |dk h1 h2 h3=>
      rename_i a us;have ha:=s.gh _ _ h1;refine⟨a,us,rfl,ha,fun o hnf acc hacc=>?_⟩;have hln:us.length=kvs.length:=by simpa using cw dU h2
      have gh1:ba (upd G' a (.frz o (.dK us))) (upd H' a (.frz o (.dK us))):=fun b u e=>by
       by_cases hb:b=a
       .subst hb;rw[bB] at e ⊢;exact e
       .rw[aE hb] at e ⊢;exact s.gh _ _ e
      obtain⟨A0,no0⟩:=DJ (fv:=fv) (A.step s);have no1:fm ((fC fv ρ).map lfS):=fun j t e=>by obtain⟨d,z,_⟩:=Cj e;exact⟨d,z⟩
      have A1:At Γ X.K (upd G' a (.frz o (.dK us))) (upd H' a (.frz o (.dK us))) (upd G' a (.frz o (.dK us))) (upd H' a (.frz o (.dK us))) ((fC fv ρ).map lfS) (ir fv σ):=by refine⟨.refl gh1,.ofSh (by rw[qf];exact A0.env.len) no1 fun j d e=>?_⟩;obtain⟨d',z,hl,e'⟩:=Cj e;cases z;obtain⟨v,y1,y2⟩:=A0.env.sh j _ e';exact⟨v,y1,GH (fun b vs eb=>by rw[aE (fun z=>by rw[z,h1] at eb;cases eb)];exact eb) y2 hl⟩
      have Y:Yd Γ X.K (Itk a o us) (upd G' a (.frz o (.dK us))) (kvs.map fun kv=>eW kv.1):=by
       refine⟨fun i d G2 H2 hd g1 g2=>?_,fun G2 H2 g1 g2=>⟨g2 _ _ (g1 _ _ bB),by rw[qf,hln]⟩⟩;rw[qk] at hd;obtain⟨kd,hkd,rfl⟩:=oMd hd;have hi:i<us.length:=by rw[hln];exact(eB.mp hkd).1
       refine⟨⟨g2 _ _ (g1 _ _ bB),hi⟩,fun x H3 ⟨e1,kv,hkv,ev⟩=>?_⟩;subst e1 ev;have ek:kv.1=kd.1:=by have:=cw (fun l=>l[i]?) h2;simp only[qk,hkv,hkd,qe,zb] at this;exact this
       exact⟨G2,.refl g2,by rw[ek];exact B0 _⟩
      refine AT (hb.1 [] 0 X.s₀ X.H₀ []).1.no A1 no1 Y (by rw[qf];exact hz) hd hacc fun p vs G2 H2 s2 hp rs=>?_;have h2a:H2 a=aa (.frz o (.dK us)):=s2.hh _ _ bB;have npa:a≠p:=bK h2a hp;refine⟨a,o,us,by rw[aE npa];exact h2a,hnf,?_⟩;have sw:upd (upd H2 p (.lst vs)) a (.dK us)=upd (upd H2 a (.dK us)) p (.lst vs):=by
       funext b
       by_cases hb:b=a
       .subst hb;rw[bB,aE npa,bB]
       .rw[aE hb];by_cases hb2:b=p
        .subst hb2;rw[bB,bB]
        .rw[aE hb2,aE hb2,aE hb]
      rw[sw];have hh:ba H' (upd H2 a (.dK us)):=fun b u e=>by
       by_cases hb:b=a
       .subst hb;rw[bB,←e,ha]
       .rw[aE hb];exact s2.hh _ _ (by rw[aE hb];exact e)
      exact k p vs G' (upd H2 a (.dK us)) (s.trans ⟨hh,.refl _,s.gh.trans hh,fun _ _ _ _=>rfl⟩) (by rw[aE npa.symm];exact hp) (pp rs hfl)
    .obtain⟨x,H2,I2,rv,a,o,us,hx,hnf,q⟩:=q;exact⟨x,_,I2.unfrz hx hnf,rv,q⟩
   .cases h
  .cases h
 .cases h⟩
end
end
theorem NY (us:ac ax):us=(cQ us.length).map fun i=>us.getD i .none:=by
 apply Rs
 .simp
 .intro i h1 h2;simp[hV,qE h1]
theorem bn {F:ax->ax->ax->au aw->ax->ax->lB} (h:∀a b c d e f (v:ao->ax),hG (F a b c d e f) ⟨(cQ ps.length).map v,[]⟩=bq (ps.zip ((cQ ps.length).map v))) (a b c:ax) (d:au aw) (e f:ax) (us:ac ax) (hl:us.length=ps.length) :
  hG (F a b c d e f) ⟨us,[]⟩=bq (ps.zip us):=by
 have:=h a b c d e f fun i=>us.getD i .none;rw[←hl,←NY us] at this;exact this
section
variable {f:aw} {E:XK}
 {pins:ac (aw×Obj)} {σ:St} {H:Hp} {s:aI} {e C t dx:aw}
end
section
variable {f CS fI:aw} {E:XK}
 {R:aj->Hp->Prop} {x fl:aj} {np cpos pos:ff} {e₀:Expr} {fr:FA} {k j:ao}
end
section
open PyProof
end
section
open PyProof
end
section
open PyProof
theorem BW {it t:aw} {items:bR ax} (hne:t≠it):∀(n i:ao) (s:aI) (Q:ac ax->aI->Prop),s.heap.IsListIter it t i->s.heap.IsList t items->i+n<=items.size->
  (∀h':Heap,h'.IsListIter it t (i+n)->iw it s.heap h'->Q ((items.toList.drop i).take n) {s with heap:=h'})->aF (aO prog w) A (draw (.ref it) n) Q E s
 |0,i,s,Q,hit,_,_,hQ=>by
  show aF _ _ (bq []) Q E s;exact qB (by simpa using hQ s.heap hit (ES ..))
 |n+1,i,s,Q,hit,ht,hle,hQ=>by
  have hlt:i<items.size:=by omega
  show aF _ _ (g8 (.ref it) >>= _) Q E s;refine qy (PH hit ht (x:=items[i]) (by simp[hlt]) fun h₁ hit₁ hs₁=>?_);refine qy (qU (BW hne n (i+1) _ _ hit₁ (ht.extBut hs₁.extBut hne) .(c) fun h₂ hit₂ hs₂=>qB ?_));have hd:items.toList.drop i=items[i]::items.toList.drop (i+1):=by simp[rJ,hlt]
  have:=hQ h₂ (by rw[show i+(n+1)=i+1+n by omega];exact hit₂) (hs₁.trans hs₂);rw[hd,List.take_succ_cons] at this;exact this
theorem JG {t:aw} {Q:ac ax->aI->Prop} (hh:A.handled=af) (ht:s.heap.IsList t items)
  (hQ:∀h',Fg s.heap.objs.size s.heap h'->Q items.toList {s with heap:=h'}):aF (aO prog w) A (unpackItems (.ref t) items.size af) Q E s:=by
 have hlt:t≠s.heap.objs.size:=by obtain⟨o,ho,_⟩:=ht;exact qD (qw ho)
 unfold unpackItems;refine qy ?_
 .unfold notIterableAtAll;refine qy (EL ht.typeIs slot_list_iter.lookup ?_);refine qB ?_;simp only[qt,dc];refine qy (qU (rG ht ?_));refine qy (qU (BW hlt items.size 0 _ _ ⟨_,qH _ rfl,rfl,rfl⟩ (ht.at fun o q=>qv _ q) .(c) fun h₁ hit₁ hs₁=>?_));have hall:rN items.size (Rt 0 items.toList)=items.toList:=by rw[oN];exact lJ (by simp)
  rw[hall];rw[qY (by simp)];have ht₁:h₁.IsList t items:=(ht.at fun o q=>qv _ q).extBut hs₁.extBut hlt;refine qy (qU (PJ hh hit₁ ht₁ (by simp) fun h₂ he₂=>?_));simp only[Option.isSome_none,qt,dc];refine qB (hQ h₂ fun b o hb e=>he₂ b o hb (hs₁.extBut b o hb (qv _ e)))
theorem NW {x1} {t:aw} {Q:lw->aI->Prop} (hh:A.handled=af) (ht:s.heap.IsList t items)
  (hn:(fR elts env).length=items.size) (hstar:(fR elts env).findIdx? (·.1)=af)
  (h:∀h',Fg s.heap.objs.size s.heap h'->aF (aO prog w) A (assignInOrder ((fR elts env).map (·.2)) items.toList) Q E {s with heap:=h'}) :
  aF (aO prog w) A (jM (.Tuple elts x1 pos) env (.ref t)) Q E s:=by
 rw[assign_Tuple];refine qy (EO ?_);unfold unpack;rw[hn,hstar];exact qy (qU (JG hh ht h))
inductive gLst (K:aV) (n:ao) (t:TGs) (v:V) (σ:St) (H:Hp) (Q:St->Hp->Prop):Prop where
 |mk:∀a xs,v=.ref a->SqL K H a xs->xs.length=n->t xs σ H Q->gLst K n t v σ H Q
theorem K9 {k:ao} {t:TGs} (hc:X.calm=ak) (h:PGs X es t)
  (hn:(fR es X.env).length=n:=by rfl) (hst:(fR es X.env).findIdx? (·.1)=af:=by rfl):PG X (.Tuple es k pos) (gLst X.K n t):=by
 intro pins s σ H v u Q I r hw;obtain⟨a,xs,e1,hq,hl,hw⟩:=hw;subst e1;cases r;obtain⟨its,rv,ht,hz⟩:=I.list hq;refine NW (I.ok.hd hc) ht.isList (by simp[hn,←hl,rv.length]) hst fun h' hx=>?_;have I1:Inv X pins σ H {s with heap:=h'}:=I.kept (t':=s.toks) fun b o e=>hx b o (qD (qw e)) e;exact h pins _ σ H xs _ Q I1 (by simpa using rv) hw
end
section
variable {a:Expr}
noncomputable def sP (n:ao) (gs:FGs):FG:=fun d ρ=>match d with
 |.lst ds=>if ds.length=n then gs ds ρ else af
 |_=>af
theorem Kz {k:ao} (hc:X.calm=ak) (h:DGs Γ X ts gs) (hn:(fR ts X.env).length=n:=by rfl) (hst:(fR ts X.env).findIdx? (·.1)=af:=by rfl):DG Γ X (.Tuple ts k pos) (sP n gs):=by
 refine⟨fun pins s σ H v u Q I r hw=>K9 hc h.pg hn hst pins s σ H v u Q I r ?_,fun ds ρ ρ' e q=>?_⟩
 .obtain⟨G₀,H₀,G,ρ,d,ρ',A,r,h,k⟩:=hw;unfold sP at h;split at h
  .split at h
   .rename_i hl;obtain⟨a,vs,rfl,ha,rv⟩:=r.lst_inv;exact⟨a,vs,rfl,.inl (.inl (A.gh _ _ ha)),by rw[rv.length];exact hl,G₀,H₀,G,ρ,_,ρ',A,rv,h,k⟩
   .cases h
  .cases h
 .unfold sP at e;split at e
  .split at e
   .exact h.no _ _ _ e q
   .cases e
  .cases e
end
noncomputable def iT:D->D->au D
 |.tup x,.tup y=>if x≠[]/\y≠[]/\x.length+y.length<=aN then aa (.tup (x++y)) else af
 |_,_=>af
section
variable {a:Expr}
theorem KH :f9 Γ K iT (Bc K):=by
 intro G H v u x y z gh r1 r2 h Q k;unfold iT at h;split at h
 .split at h
  .rename_i hz;cases h;obtain⟨a,vs,rfl,ha,ra⟩:=r1.tup_inv;obtain⟨b,us,rfl,hb,rb⟩:=r2.tup_inv;refine⟨a,b,vs,us,rfl,rfl,.inl (.inl (gh _ _ ha)),.inl (.inl (gh _ _ hb)),?_,by rw[ra.length,rb.length];exact hz.2.2,?_⟩
   .intro z;subst z;have:=ra.length;exact hz.1 (yG.mp this.symm)
   .refine⟨fun z=>?_,fun _ p hp=>tm gh (ra.append rb) k p hp⟩;subst z;have:=rb.length;exact bJ (yG.mp this.symm) hz.2.1
  .cases h
 .cases h
theorem pT (ha:DE Γ X a fa) (hb:DE Γ X b fb):DE Γ X (.BinOp a .Add b pos) (b2 iT fa fb):=l0 GU KH ha hb
end
namespace Law
noncomputable def top (i:ao):Stmt:=Sv.main.body.getD i (.Pass ⟨0,0,0,0⟩)
noncomputable def ji:ac aj:=["grounds","open_benches","firsts","lasts","put_pairs","notes"]
noncomputable def wH:ac aj:=["told_shop","kept_plan","kept_most","lengths","job_names","early_moments","end_marks","breaks","known_gaps"]
noncomputable def zq:ac aj:=["benches","steps","jobs","setups","links","stocks","horizon","bench_by_name","step_by_name","setup_by_names","job_by_step"]
noncomputable def Gam (C_Facts C_Grounds C_Shop:aw):Cn:=⟨fun c=>if c="Facts" then aa C_Facts else if c="Grounds" then aa C_Grounds else if c="Shop" then aa C_Shop else af,af⟩
noncomputable def gS:FQ:=aY 0
  (aB (sIf (toB (b2 ltD (vSh 1) (cF cg (ag (vSh 0) ar)))) (aM (b2 ixD (vSh 0) (vSh 1))) bA) (aM .(f)))
noncomputable def bS:FQ:=aY 3
  (aB (sIf (toB (b2 geD (vSh 0) (b2 jY (vC (.int 10)) (vC (.int 18))))) (aB (bo 3 (vSh 0)) (aB (b9 (itR et (ag (vSh 1) ar)) (aC 4) (bo 3 (b2 kU (vSh 3) (b2 jY (vC (.int 10)) (vC (.int 7)))))) (sIf (toB (b2 gtD (vSh 3) .(f))) (aM (b2 eP (b2 eP (vSh 3) (b2 jY (vC (.int 10)) (vC (.int 7)))) (vSh 2))) bA))) bA) (aB (bo 5 (b2 eP (b2 di (b2 bi (b2 bi (b2 bi (b2 eP (vSh 0) (vC (.int 2147483647))) (b2 di (b2 di (vC (.int 7919)) (vSh 1)) (vSh 1))) (b2 di (vC (.int 31)) (vSh 1))) .(i)) (vC (.int 48271))) (vC (.int 2147483647)))) (aB (bo 5 (b2 eP (b2 bi (b2 bi (b2 di (vSh 5) (vSh 5)) (b2 di (vC (.int 69621)) (vSh 1))) (vC (.int 7))) (vC (.int 2147483629)))) (aM (b2 eP (b2 eP (b2 di (vSh 5) (vSh 5)) (vC (.int 2147483587))) (vSh 2))))))
noncomputable def t6:FQ:=aY 1
  (aB (bo 1 (cF gS (ag (vSh 0) (ag .(f) ar)))) (aM (b2 ixD (aQ (szF (ag (b2 bi (vC (.int 4)) (cF bS (ag (vSh 1) (ag (vC (.int 80)) (ag (vC (.int 21)) ar))))) (ag (b2 bi .(i) (cF bS (ag (vSh 1) (ag (vC (.int 81)) (ag (b2 jY (vC (.int 10)) (vC (.int 6))) ar))))) ar)))) (b2 kU (cF bS (ag (vSh 1) (ag (vC (.int 82)) (ag (vC (.int 4)) ar)))) (vC (.int 3))))))
noncomputable def kS:FQ:=aY 0
  (aB (sIf (toB (b2 eqD (cF bS (ag (vSh 0) (ag (vSh 1) (ag (vC (.int 4)) ar)))) .(f))) (aM (cF bS (ag (vSh 0) (ag (b2 bi (vSh 1) .(i)) (ag (b2 bi (vSh 2) .(i)) ar))))) bA) (aM (cF bS (ag (vSh 0) (ag (b2 bi (vSh 1) .(i)) (ag (b2 bi (cF mv (ag (vSh 2) (ag (vC (.int 12)) ar))) .(i)) ar))))))
noncomputable def ud:FQ:=aY 5
  (aB (eY 3 (szF ar)) (aB (bo 4 .(f)) (aB (b9 (itR et (ag (cF bS (ag (vSh 0) (ag (vSh 1) (ag (vC (.int 4)) ar)))) ar)) (aC 5) (aB (bo 6 (b2 bi (vSh 4) (cF kS (ag (vSh 0) (ag (b2 bi (b2 bi (vSh 1) .(i)) (b2 di (vC (.int 4)) (vSh 5))) (ag (vSh 2) ar)))))) (aB (bo 7 (b2 bi (b2 bi (vSh 6) .(i)) (cF bS (ag (vSh 0) (ag (b2 bi (b2 bi (vSh 1) (vC (.int 3))) (b2 di (vC (.int 4)) (vSh 5))) (ag (vC (.int 4)) ar)))))) (sIf (toB (b2 leD (vSh 7) (vSh 2))) (aB (gk 3 (aZ (szF (ag (vSh 6) (ag (vSh 7) ar))))) (bo 4 (b2 bi (vSh 7) .(i)))) bA)))) (fy 3 (aM (vSh 3))))))
noncomputable def tS:FQ:=aY 5
  (aB (bo 2 (vC (.str "abcdefghijklmnopqrstuvwxyz"))) (aB (bo 3 (mF pR (vC (.str "")) (ag (aQ (bp (itR et (ag (cF bS (ag (vSh 0) (ag .(f) (ag (vC (.int 7)) ar)))) ar)) (aC 0) tT (b2 ixD (vSh 1) (cF bS (ag (vSh 2) (ag (b2 bi (vC (.int 3)) (vSh 0)) (ag (vC (.int 26)) ar))))) [af,aa 2,aa 0])) ar))) (aB (bo 4 (cF bS (ag (vSh 0) (ag .(i) (ag (b2 bi (cF cg (ag (vSh 3) ar)) .(i)) ar))))) (aB (eY 5 (szF ar)) (aB (b9 (itR et (ag (vSh 1) ar)) (aC 6) (gk 5 (b2 bi (b2 bi (b2 bi (slF (vSh 3) pN (pS (vSh 4))) (b2 ixD (vSh 2) (b2 eP (b2 di (vSh 6) (vC (.int 7))) (vC (.int 26))))) (b2 ixD (aQ (szF (ag (vC (.str "")) (ag (vC (.str "q")) ar)))) (b2 kU (vSh 6) (vC (.int 26))))) (slF (vSh 3) (pS (vSh 4)) pN)))) (fy 5 (aM (vSh 5))))))))
noncomputable def tV:FQ:=aY 7
  (aB (bo 4 (b2 ixD (aQ (szF (ag (vC (.str "cut")) (ag (vC (.str "glue")) (ag (vC (.str "paint")) ar))))) (cF bS (ag (vSh 0) (ag .(f) (ag (vC (.int 3)) ar)))))) (aB (bo 5 (cF bS (ag (vSh 0) (ag .(i) (ag (cF cg (ag (vSh 2) ar)) ar))))) (aB (bo 6 (slF (b2 bi (slF (vSh 2) (pS (vSh 5)) pN) (slF (vSh 2) pN (pS (vSh 5)))) pN (pS (b2 bi .(i) (b2 di (cF bS (ag (vSh 0) (ag (vC (.int 2)) (ag (vC (.int 2)) ar)))) (cF bS (ag (vSh 0) (ag (vC (.int 3)) (ag (vC (.int 4)) ar))))))))) (aB (eY 7 (szF ar)) (aB (b9 (itE (vSh 6)) (db 2 (bj (aC 8) (bj (aC 9) cW))) (aB (bo 10 (b2 ixD (aQ (szF (ag (vSh 3) (ag (cF mv (ag (vC (.int 5)) (ag (vSh 3) ar))) ar)))) (cF bS (ag (vSh 0) (ag (vC (.int 13)) (ag (vC (.int 2)) ar)))))) (gk 7 (aZ (szF (ag (b2 ixD (vSh 9) .(f)) (ag (cF i8 (ag .(i) (ag (cF kS (ag (vSh 0) (ag (b2 bi (vC (.int 4)) (b2 di (vC (.int 2)) (vSh 8))) (ag (vSh 10) ar)))) ar))) ar))))))) (fy 7 (aM (aZ (szF (ag (vSh 1) (ag (vSh 4) (ag (vSh 7) ar))))))))))))
noncomputable def tM:FQ:=aY 4
  (aB (oT 3) (aB (b9 (itR et (ag (cF bS (ag (vSh 0) (ag (vSh 1) (ag (vC (.int 6)) ar)))) ar)) (aC 4) (aB (bo 5 (b2 ixD (b2 ixD (vSh 2) (cF bS (ag (vSh 0) (ag (b2 bi (b2 bi (vSh 1) .(i)) (b2 di (vC (.int 3)) (vSh 4))) (ag (cF cg (ag (vSh 2) ar)) ar))))) .(f))) (aB (bo 6 (b2 ixD (b2 ixD (vSh 2) (cF bS (ag (vSh 0) (ag (b2 bi (b2 bi (vSh 1) (vC (.int 2))) (b2 di (vC (.int 3)) (vSh 4))) (ag (cF cg (ag (vSh 2) ar)) ar))))) .(f))) (sIf (oZ 3 (ic (toB (b2 neA (vSh 5) (vSh 6))) (toB (b2 vy (aZ (szF (ag (vSh 5) (ag (vSh 6) ar)))) (vSh 3))))) (eA 3 (aZ (szF (ag (vSh 5) (ag (vSh 6) ar)))) (cF bS (ag (vSh 0) (ag (b2 bi (b2 bi (vSh 1) (vC (.int 3))) (b2 di (vC (.int 3)) (vSh 4))) (ag (vC (.int 5)) ar))))) bA)))) (li 3 (aM (vSh 3)))))
noncomputable def tJ:FQ:=aY 4
  (aB (bo 3 (aQ (szF (ag (vC (.str "cut")) (ag (vC (.str "glue")) (ag (vC (.str "paint")) (ag (vC (.str "rest")) ar))))))) (aB (oT 4) (aB (b9 (itR et (ag (cF bS (ag (vSh 0) (ag .(f) (ag (vC (.int 12)) ar)))) ar)) (aC 5) (aB (bo 6 (aZ (szF (ag (b2 ixD (b2 ixD (vSh 1) (cF bS (ag (vSh 0) (ag (b2 bi .(i) (b2 di (vC (.int 4)) (vSh 5))) (ag (cF cg (ag (vSh 1) ar)) ar))))) .(f)) (ag (b2 ixD (vSh 3) (cF bS (ag (vSh 0) (ag (b2 bi (vC (.int 2)) (b2 di (vC (.int 4)) (vSh 5))) (ag (vC (.int 4)) ar))))) ar))))) (aB (bo 6 (b2 iT (vSh 6) (aZ (szF (ag (b2 ixD (vSh 3) (cF bS (ag (vSh 0) (ag (b2 bi (vC (.int 3)) (b2 di (vC (.int 4)) (vSh 5))) (ag (vC (.int 4)) ar))))) ar))))) (eA 4 (vSh 6) (b2 bi .(i) (cF bS (ag (vSh 0) (ag (b2 bi (vC (.int 4)) (b2 di (vC (.int 4)) (vSh 5))) (ag (cF mv (ag (vSh 2) (ag (vC (.int 4)) ar))) ar))))))))) (li 4 (aM (oe 4 (aQ (bp (kC (vSh 4)) (aC 0) tT (b2 iT (vSh 0) (aZ (szF (ag (b2 cO (vSh 1) (vSh 0)) ar)))) [af,aa 4]))))))))
noncomputable def sE:FQ:=aY 5
  (aB (eY 2 (szF ar)) (aB (b9 (itR et (ag (cF bS (ag (vSh 0) (ag .(f) (ag (vC (.int 3)) ar)))) ar)) (aC 3) (aB (bo 4 (cF bS (ag (vSh 0) (ag (b2 bi .(i) (vSh 3)) (ag (vC (.int 9)) ar))))) (aB (bo 5 (aQ (bp (itE (vSh 1)) (db 2 (bj (aC 0) (bj (aC 1) cW))) (toB (b2 eqD (cF bS (ag (vSh 2) (ag (b2 bi (vC (.int 4)) (vSh 3)) (ag (vC (.int 7)) ar)))) (b2 eP (vSh 0) (vC (.int 7))))) (aZ (szF (ag (b2 ixD (vSh 1) .(f)) (ag (b2 bi .(i) (b2 eP (vSh 0) (vC (.int 3)))) ar)))) [af,af,aa 0,aa 3]))) (aB (bo 6 (aQ (bp (itE (vSh 1)) (db 2 (bj (aC 0) (bj (aC 1) cW))) (toB (b2 eqD (cF bS (ag (vSh 2) (ag (b2 bi (vC (.int 8)) (vSh 3)) (ag (vC (.int 7)) ar)))) (b2 eP (vSh 0) (vC (.int 7))))) (aZ (szF (ag (b2 ixD (vSh 1) .(f)) (ag (b2 bi .(i) (b2 eP (vSh 0) (vC (.int 2)))) ar)))) [af,af,aa 0,aa 3]))) (gk 2 (aZ (szF (ag (b2 bi (vC (.str "s")) (b2 ixD (vC (.str "ab")) (vSh 3))) (ag (cF bS (ag (vSh 0) (ag (b2 bi (vC (.int 12)) (vSh 3)) (ag (b2 bi (vSh 4) .(i)) ar)))) (ag (vSh 4) (ag (vSh 5) (ag (vSh 6) ar)))))))))))) (fy 2 (aM (vSh 2)))))
noncomputable def pq:FQ:=aY 5
  (aB (eY 4 (szF ar)) (aB (b9 (itR et (ag (vC (.int 3)) ar)) (aC 5) (aB (bo 6 (aQ (bp (itR et (ag (cF cg (ag (vSh 2) ar)) ar)) (aC 0) (toB (b2 eqA (cF bS (ag (b2 ixD (vSh 3) (b2 eP (vSh 0) (cF cg (ag (vSh 3) ar)))) (ag (vC (.int 12)) (ag (vC (.int 4)) ar)))) (vSh 2))) (b2 ixD (b2 ixD (vSh 1) (vSh 0)) .(f)) [af,aa 2,aa 5,aa 1]))) (aB (sIf (toB (b2 eqD (cF bS (ag (vSh 0) (ag (b2 bi (vC (.int 20)) (vSh 5)) (ag (vC (.int 3)) ar)))) .(i))) (bo 6 (b1 vI (vSh 6))) bA) (aB (bo 7 (cF kS (ag (vSh 0) (ag (b2 bi (vC (.int 24)) (b2 di (vC (.int 4)) (vSh 5))) (ag (b2 kU (vSh 3) (vC (.int 2))) ar))))) (aB (bo 8 (b2 ixD (aQ (szF (ag (vSh 3) (ag (cF bS (ag (vSh 0) (ag (b2 bi (vC (.int 37)) (vSh 5)) (ag (b2 bi (vSh 3) .(i)) ar)))) ar)))) (b2 kU (cF bS (ag (vSh 0) (ag (b2 bi (vC (.int 40)) (vSh 5)) (ag (vC (.int 3)) ar)))) (vC (.int 2))))) (sIf (toB (b2 neA (vSh 6) (aQ (szF ar)))) (gk 4 (aZ (szF (ag (b2 bi (vC (.str "j")) (b2 ixD (vC (.str "abc")) (vSh 5))) (ag (vSh 7) (ag (vSh 8) (ag (b2 eqD (cF bS (ag (vSh 0) (ag (b2 bi (vC (.int 44)) (vSh 5)) (ag (vC (.int 2)) ar)))) .(f)) (ag (vSh 6) ar)))))))) bA)))))) (fy 4 (aM (vSh 4)))))
noncomputable def sM:FQ:=aY 10
  (aB (bo 3 (cF gS (ag (vSh 0) (ag .(f) ar)))) (aB (bo 4 (b2 bi (slF (vSh 0) (pS (vC (.int 4))) (pS (b2 bi (vC (.int 4)) (vSh 1)))) (aQ (szF (ag (cF gS (ag (vSh 0) (ag (vC (.int 3)) ar))) ar))))) (aB (bo 5 (cF mv (ag (cF i8 (ag .(i) (ag (b2 mJ (cF cg (ag (vSh 0) ar)) (vC (.int 4))) ar))) (ag (vSh 1) ar)))) (aB (eY 6 (szF ar)) (aB (b9 (itR et (ag (b2 bi .(i) (cF bS (ag (vSh 3) (ag .(f) (ag (b2 ixD (aQ (szF (ag (vC (.int 2)) (ag (vC (.int 3)) (ag (vC (.int 8)) ar))))) (cF bS (ag (vSh 3) (ag .(i) (ag (vC (.int 3)) ar))))) ar))))) ar)) (aC 7) (gk 6 (aZ (szF (ag (b2 bi (vC (.str "be")) (b2 ixD (vC (.str "abcdefgh")) (vSh 7))) (ag (cF ud (ag (b2 bi (cF gS (ag (vSh 0) (ag .(i) ar))) (b2 di (vC (.int 2)) (vSh 7))) (ag .(f) (ag (vSh 2) ar)))) ar)))))) (aB (bo 8 (cF tS (ag (cF gS (ag (vSh 0) (ag (vC (.int 2)) ar))) (ag (vSh 5) ar)))) (fy 6 (aB (bo 9 (aQ (bp (itR et (ag (vSh 5) ar)) (aC 0) tT (cF tV (ag (b2 ixD (vSh 3) (vSh 0)) (ag (b2 ixD (vSh 4) (vSh 0)) (ag (vSh 1) (ag (vSh 2) ar))))) [af,aa 6,aa 2,aa 4,aa 8]))) (aB (bo 10 (cF tM (ag (vSh 3) (ag (vC (.int 50)) (ag (vSh 9) ar))))) (aB (bo 11 (cF tJ (ag (cF gS (ag (vSh 0) (ag (vC (.int 3)) ar))) (ag (vSh 6) (ag (vSh 2) ar))))) (aB (bo 10 (oe 10 (aQ (bp (kC (vSh 10)) (aC 0) tT (b2 iT (vSh 0) (aZ (szF (ag (cF mv (ag (b2 cO (vSh 2) (vSh 0)) (ag (vSh 1) ar))) ar)))) [af,aa 2,aa 10])))) (aB (bo 12 (aQ (szF ar))) (aB (sIf (toB (b2 eqD (cF bS (ag (vSh 3) (ag (vC (.int 70)) (ag (vC (.int 3)) ar)))) .(i))) (bo 12 (cF sE (ag (cF gS (ag (vSh 0) (ag .(i) ar))) (ag (vSh 9) ar)))) bA) (aM (aZ (szF (ag (vSh 6) (ag (vSh 9) (ag (cF pq (ag (vSh 3) (ag (vSh 4) (ag (vSh 9) (ag (vSh 2) ar))))) (ag (vSh 11) (ag (vSh 10) (ag (vSh 12) (ag (vSh 2) ar)))))))))))))))))))))))
noncomputable def pe:FQ:=aY 0
  (aM (aQ (bp (itF (bM "Shop" "steps" (vSh 0))) (aC 0) tT (b2 ixD (vSh 0) .(f)) [af])))
noncomputable def jk (e9:FQ):FQ:=aY 0
  (aB (sIf (toB (cF dJ (ag (vSh 0) (ag (vC (.ty "list")) ar)))) (aM (aQ (bp (itF (vSh 0)) (aC 0) tT (cF e9 (ag (vSh 0) ar)) [af]))) bA) (aB (sIf (toB (cF dJ (ag (vSh 0) (ag (vC (.ty "tuple")) ar)))) (aM (cF wx (ag (aQ (bp (itF (vSh 0)) (aC 0) tT (cF e9 (ag (vSh 0) ar)) [af])) ar))) bA) (aM (vSh 0))))
noncomputable def jr:ao->FQ
 |0=>fun _=>af
 |n+1=>jk (jr n)
noncomputable def e9:FQ:=jr 8
noncomputable def u5:FQ:=aY 0
  (aM (cF e9 (ag (b2 ixD (b2 cO (bM "Shop" "step_by_name" (vSh 0)) (vSh 1)) (vC (.int 2))) ar)))
noncomputable def v7:FQ:=aY 0
  (aM (cF e9 (ag (b2 v6 (bM "Shop" "job_by_step" (vSh 0)) (vSh 1)) ar)))
noncomputable def pH:FQ:=aY 0
  (aM (bM "Shop" "horizon" (vSh 0)))
noncomputable def vR:FQ:=aY 0
  (aM (cF e9 (ag (bM "Shop" "benches" (vSh 0)) ar)))
noncomputable def sv:FQ:=aY 0
  (aM (cF e9 (ag (bM "Shop" "jobs" (vSh 0)) ar)))
noncomputable def n5:FQ:=aY 3
  (aB (eY 1 (szF ar)) (aB (b9 (itE (vSh 0)) (db 2 (bj (aC 2) (bj (aC 3) cW))) (ie 1 (aQ (bp (itF (slF (vSh 0) (pS (b2 bi (vSh 2) .(i))) pN)) (aC 0) tT (aZ (szF (ag (vSh 1) (ag (vSh 0) ar)))) [af,aa 3])))) (fy 1 (aM (vSh 1)))))
noncomputable def tQ:FQ:=aY 0
  (aM (cF e9 (ag (bM "Shop" "links" (vSh 0)) ar)))
noncomputable def uV:FQ:=aY 6
  (aB (oT 1) (aB (b9 (itF (cL "Shop" "job_rows" sv (vSh 0) ar)) (aC 2) (sIf (toB (b2 ixD (vSh 2) (vC (.int 3)))) (b9 (itF (cF n5 (ag (b2 ixD (vSh 2) (vC (.int 4))) ar))) (aC 3) (eA 1 (vSh 3) .(f))) bA)) (aB (b9 (itF (cL "Shop" "link_rows" tQ (vSh 0) ar)) (db 3 (bj (aC 4) (bj (aC 5) (bj (aC 6) cW)))) (eA 1 (aZ (szF (ag (vSh 4) (ag (vSh 5) ar)))) (vSh 6))) (li 1 (aM (vSh 1))))))
noncomputable def wP:FQ:=aY 4
  (aB (bo 1 (cL "Shop" "step_names" pe (vSh 0) ar)) (aB (bo 2 (cF uV (ag (vSh 0) ar))) (aB (eY 3 (szF ar)) (aB (b9 (itF (vSh 1)) (aC 4) (ie 3 (aQ (bp (itF (vSh 1)) (aC 0) (toB (b2 jD (aZ (szF (ag (vSh 1) (ag (vSh 0) ar)))) (vSh 2))) (aZ (szF (ag (vSh 1) (ag (vSh 0) (ag (b2 cO (vSh 2) (aZ (szF (ag (vSh 1) (ag (vSh 0) ar))))) ar))))) [af,aa 4,aa 2])))) (fy 3 (aM (vSh 3)))))))
noncomputable def oU:ac D->au Fo:=jX 3 "Grounds"
  (aB (jH "Grounds" "told_shop" 0 (vSh 1)) (aB (jH "Grounds" "kept_plan" 0 (ifD (toB (b2 isD (vSh 3) (vC .non))) (vC .non) (cF jV (ag (vSh 3) ar)))) (aB (jH "Grounds" "kept_most" 0 (vSh 4)) (aB (gm "Grounds" "lengths" 0 (.k [])) (aB (gm "Grounds" "job_names" 0 (.k [])) (aB (gm "Grounds" "early_moments" 0 (.k [])) (aB (gm "Grounds" "end_marks" 0 (.k [])) (aB (b9 (itF (cL "Shop" "step_names" pe (vSh 1) ar)) (aC 5) (aB (gy "Grounds" "lengths" 0 (vSh 5) (cF jV (ag (cL "Shop" "ways_of" u5 (vSh 1) (ag (vSh 5) ar)) ar))) (aB (bo 6 (cL "Shop" "job_of" v7 (vSh 1) (ag (vSh 5) ar))) (aB (gy "Grounds" "job_names" 0 (vSh 5) (ifD (toB (b2 isD (vSh 6) (vC .non))) (vC .non) (b2 ixD (vSh 6) .(f)))) (aB (gy "Grounds" "early_moments" 0 (vSh 5) (ifD (toB (b2 isD (vSh 6) (vC .non))) .(f) (b2 ixD (vSh 6) .(i)))) (aB (bo 7 (ifD (toB (b2 isD (vSh 6) (vC .non))) (cL "Shop" "last_moment" pH (vSh 1) ar) (b2 ixD (vSh 6) (vC (.int 2))))) (gy "Grounds" "end_marks" 0 (vSh 5) (cF wL (ag (vSh 2) (ag (cL "Shop" "last_moment" pH (vSh 1) ar) (ag (vSh 7) ar))))))))))) (aB (jH "Grounds" "breaks" 0 (cF jV (ag (cL "Shop" "bench_rows" vR (vSh 1) ar) ar))) (jH "Grounds" "known_gaps" 0 (cF oj (ag (aQ (bp (itF (cF wP (ag (vSh 1) ar))) (db 3 (bj (aC 0) (bj (aC 1) (bj (aC 2) cW)))) tT (aZ (szF (ag (aZ (szF (ag (vSh 0) (ag (vSh 1) ar)))) (ag (vSh 2) ar)))) [af,af,af])) ar))))))))))))
noncomputable def nW:(Fo->ac D->au (D×Fo)):=gQ 0 "Facts"
  (gy "Facts" "open_benches" 0 (vSh 1) (bwF 0 (aQ (t8 (b2 cO (bM "Grounds" "lengths" (bM "Facts" "grounds" (vSh 0))) (vSh 1)) (aC 0) (toB (b2 fQ (vSh 0) (vSh 1))) (vSh 0) [af,aa 2]))))
noncomputable def pQ:(Fo->ac D->au (D×Fo)):=gQ 0 "Facts"
  (aB (gy "Facts" "firsts" 0 (vSh 1) (vSh 2)) (gy "Facts" "lasts" 0 (vSh 1) (vSh 3)))
noncomputable def wf:FQ:=aY 0
  (aM (b2 cO (bM "Grounds" "end_marks" (bM "Facts" "grounds" (vSh 0))) (vSh 1)))
noncomputable def xo:FQ:=aY 1
  (aB (bo 2 (b2 cO (bM "Grounds" "lengths" (bM "Facts" "grounds" (vSh 0))) (vSh 1))) (aM (aQ (bp (itF (b2 cO (bM "Facts" "open_benches" (vSh 0)) (vSh 1))) (aC 0) tT (b2 cO (vSh 1) (vSh 0)) [af,aa 2]))))
noncomputable def xD:FQ:=aY 0
  (aM (b1 vM (cL "Facts" "open_lengths" xo (vSh 0) (ag (vSh 1) ar))))
noncomputable def pD:ac D->au Fo:=jX 3 "Facts"
  (aB (jH "Facts" "grounds" 0 (cF (fun ds=>(oU (ds++[])).map (foD "Grounds")) (ag (vSh 1) (ag (vSh 2) (ag (vSh 4) (ag (vSh 5) ar)))))) (aB (gm "Facts" "open_benches" 0 (.k [])) (aB (gm "Facts" "firsts" 0 (.k [])) (aB (gm "Facts" "lasts" 0 (.k [])) (aB (gm "Facts" "put_pairs" 0 (.t [])) (aB (gm "Facts" "notes" 0 (.k [])) (b9 (itF (cL "Shop" "step_names" pe (vSh 1) ar)) (aC 7) (aB (bo 8 (bwF 0 (b2 cO (bM "Grounds" "early_moments" (bM "Facts" "grounds" (vSh 0))) (vSh 7)))) (sIf (ic (toB (b2 mL (vSh 3) (vC .non))) (toB (b2 fQ (vSh 7) (vSh 3)))) (aB (bo 9 (b2 ixD (b2 ixD (vSh 3) (vSh 7)) .(i))) (aB (jC "Facts" "set_open" 0 nW (ag (vSh 7) (ag (aQ (szF (ag (b2 ixD (b2 ixD (vSh 3) (vSh 7)) .(f)) ar))) ar))) (jC "Facts" "set_window" 0 pQ (ag (vSh 7) (ag (cF i8 (ag (vSh 9) (ag (vSh 8) ar))) (ag (vSh 9) ar)))))) (aB (jC "Facts" "set_open" 0 nW (kG 0 (ag (vSh 7) (ag (cF tw (ag (b2 cO (bM "Grounds" "lengths" (bM "Facts" "grounds" (vSh 0))) (vSh 7)) ar)) ar)))) (jC "Facts" "set_window" 0 pQ (kG 0 (ag (vSh 7) (ag (cF i8 (ag (vSh 6) (ag (vSh 8) ar))) (ag (b2 mJ (cL "Facts" "end_mark" wf (vSh 0) (ag (vSh 7) ar)) (cL "Facts" "least_of" xD (vSh 0) (ag (vSh 7) ar))) ar)))))))))))))))
noncomputable def sC:FQ:=aY 0
  (aM (cy (cF dJ (ag (vSh 0) (ag (vC (.ty "int")) ar))) (pw (cF dJ (ag (vSh 0) (ag (vC (.ty "bool")) ar))))))
noncomputable def gB:FQ:=aY 0
  (aM (cy (cF sC (ag (vSh 0) ar)) (chD leD leD (vSh 1) (vSh 0) (vSh 2))))
noncomputable def fY:FQ:=aY 0
  (aM (cy (cF dJ (ag (vSh 0) (ag (vC (.ty "tuple")) ar))) (b2 eqD (cF cg (ag (vSh 0) ar)) (vSh 1))))
noncomputable def sN:FQ:=aY 0
  (aB (sIf (orT (bE (toB (cF fY (ag (vSh 0) (ag (vC (.int 2)) ar))))) (orT (bE (toB (cF gB (ag (b2 ixD (vSh 0) .(f)) (ag .(f) (ag (vSh 1) ar)))))) (bE (toB (cF gB (ag (b2 ixD (vSh 0) .(i)) (ag .(f) (ag (vSh 1) ar)))))))) (aM (vC (.bl av))) bA) (aM (b2 ltD (b2 ixD (vSh 0) .(f)) (b2 ixD (vSh 0) .(i)))))
noncomputable def gY:FQ:=aY 0
  (aM (cy (cF dJ (ag (vSh 0) (ag (vC (.ty "list")) ar))) (chD leD leD (vSh 1) (cF cg (ag (vSh 0) ar)) (vSh 2))))
noncomputable def xT:FQ:=aY 0
  (aB (sIf (orT (bE (toB (cF gY (ag (vSh 0) (ag .(f) (ag (vC (.int 10)) ar)))))) (bE (toB (cF fM (ag (aQ (bp (itF (vSh 0)) (aC 0) tT (cF sN (ag (vSh 0) (ag (vSh 1) ar))) [af,aa 1])) ar))))) (aM (vC (.bl av))) bA) (aM (cF fM (ag (aQ (bp (itR lW (ag .(i) (ag (cF cg (ag (vSh 0) ar)) ar))) (aC 0) tT (b2 ltD (b2 ixD (b2 ixD (vSh 1) (b2 mJ (vSh 0) .(i))) .(i)) (b2 ixD (b2 ixD (vSh 1) (vSh 0)) .(f))) [af,aa 0])) ar))))
noncomputable def jG:FQ:=aY 0
  (aB (sIf (orT (bE (toB (cF dJ (ag (vSh 0) (ag (vC (.ty "str")) ar))))) (bE (toB (chD leD leD .(i) (cF cg (ag (vSh 0) ar)) (vC (.int 8)))))) (aM (vC (.bl av))) bA) (aM (cF fM (ag (aQ (bp (itS (vSh 0)) (aC 0) tT (chD leD leD (vC (.str "a")) (vSh 0) (vC (.str "z"))) [af])) ar))))
noncomputable def tG:FQ:=aY 0
  (aM (cy (cF fY (ag (vSh 0) (ag (vC (.int 2)) ar))) (cy (cF jG (ag (b2 ixD (vSh 0) .(f)) ar)) (cF xT (ag (b2 ixD (vSh 0) .(i)) (ag (vSh 1) ar))))))
noncomputable def fN:FQ:=aY 0
  (aM (b2 eqD (b1 nD (vSh 0)) (cF cg (ag (vSh 0) ar))))
noncomputable def wm:FQ:=aY 0
  (aB (sIf (orT (bE (toB (cF gY (ag (vSh 0) (ag .(i) (ag (vC (.int 8)) ar)))))) (bE (toB (cF fM (ag (aQ (bp (itF (vSh 0)) (aC 0) tT (cF tG (ag (vSh 0) (ag (vSh 1) ar))) [af,aa 1])) ar))))) (aM (vC (.bl av))) bA) (aM (cF fN (ag (aQ (bp (itF (vSh 0)) (aC 0) tT (b2 ixD (vSh 0) .(f)) [af])) ar))))
noncomputable def j6:FQ:=aY 0
  (aM (cy (cF jG (ag (vSh 0) ar)) (b2 fQ (vSh 0) (vSh 1))))
noncomputable def t7:FQ:=aY 0
  (aM (cy (cF fY (ag (vSh 0) (ag (vC (.int 2)) ar))) (cy (cF j6 (ag (b2 ixD (vSh 0) .(f)) (ag (vSh 1) ar))) (cF gB (ag (b2 ixD (vSh 0) .(i)) (ag .(i) (ag (vSh 2) ar)))))))
noncomputable def wX:FQ:=aY 0
  (aB (sIf (orT (bE (toB (cF gY (ag (vSh 0) (ag .(i) (ag (vC (.int 4)) ar)))))) (bE (toB (cF fM (ag (aQ (bp (itF (vSh 0)) (aC 0) tT (cF t7 (ag (vSh 0) (ag (vSh 1) (ag (vSh 2) ar)))) [af,aa 1,aa 2])) ar))))) (aM (vC (.bl av))) bA) (aM (cF fN (ag (aQ (bp (itF (vSh 0)) (aC 0) tT (b2 ixD (vSh 0) .(f)) [af])) ar))))
noncomputable def sI:FQ:=aY 0
  (aB (sIf (orT (bE (toB (cF fY (ag (vSh 0) (ag (vC (.int 3)) ar))))) (orT (bE (toB (cF jG (ag (b2 ixD (vSh 0) .(f)) ar)))) (bE (toB (cF jG (ag (b2 ixD (vSh 0) .(i)) ar)))))) (aM (vC (.bl av))) bA) (aM (cF wX (ag (b2 ixD (vSh 0) (vC (.int 2))) (ag (vSh 1) (ag (vSh 2) ar))))))
noncomputable def wz:FQ:=aY 0
  (aB (sIf (orT (bE (toB (cF gY (ag (vSh 0) (ag .(i) (ag (vC (.int 40)) ar)))))) (bE (toB (cF fM (ag (aQ (bp (itF (vSh 0)) (aC 0) tT (cF sI (ag (vSh 0) (ag (vSh 1) (ag (vSh 2) ar)))) [af,aa 1,aa 2])) ar))))) (aM (vC (.bl av))) bA) (aM (cF fN (ag (aQ (bp (itF (vSh 0)) (aC 0) tT (b2 ixD (vSh 0) .(f)) [af])) ar))))
noncomputable def vX:FQ:=aY 0
  (aB (sIf (orT (bE (toB (cF fY (ag (vSh 0) (ag (vC (.int 5)) ar))))) (orT (bE (toB (cF jG (ag (b2 ixD (vSh 0) .(f)) ar)))) (bE (toB (cF dJ (ag (b2 ixD (vSh 0) (vC (.int 3))) (ag (vC (.ty "bool")) ar))))))) (aM (vC (.bl av))) bA) (aB (sIf (orT (bE (toB (cF gB (ag (b2 ixD (vSh 0) .(i)) (ag .(f) (ag (vSh 2) ar)))))) (bE (toB (cF gB (ag (b2 ixD (vSh 0) (vC (.int 2))) (ag .(f) (ag (vSh 2) ar))))))) (aM (vC (.bl av))) bA) (aM (cy (cF gY (ag (b2 ixD (vSh 0) (vC (.int 4))) (ag .(i) (ag (cF cg (ag (vSh 1) ar)) ar)))) (cF fM (ag (aQ (bp (itF (b2 ixD (vSh 0) (vC (.int 4)))) (aC 0) tT (cF j6 (ag (vSh 0) (ag (vSh 1) ar))) [af,aa 1])) ar))))))
noncomputable def wY:FQ:=aY 2
  (aB (sIf (orT (bE (toB (cF gY (ag (vSh 0) (ag .(f) (ag (vC (.int 40)) ar)))))) (bE (toB (cF fM (ag (aQ (bp (itF (vSh 0)) (aC 0) tT (cF vX (ag (vSh 0) (ag (vSh 1) (ag (vSh 2) ar)))) [af,aa 1,aa 2])) ar))))) (aM (vC (.bl av))) bA) (aB (eY 3 (szF ar)) (aB (b9 (itF (vSh 0)) (aC 4) (ie 3 (b2 ixD (vSh 4) (vC (.int 4))))) (fy 3 (aM (cy (cF fN (ag (aQ (bp (itF (vSh 0)) (aC 0) tT (b2 ixD (vSh 0) .(f)) [af])) ar)) (cF fN (ag (vSh 3) ar))))))))
noncomputable def tt:FQ:=aY 0
  (aB (sIf (orT (bE (toB (cF fY (ag (vSh 0) (ag (vC (.int 4)) ar))))) (bE (toB (cF j6 (ag (b2 ixD (vSh 0) .(f)) (ag (vSh 1) ar)))))) (aM (vC (.bl av))) bA) (aM (cy (cF jG (ag (b2 ixD (vSh 0) .(i)) ar)) (cy (cF jG (ag (b2 ixD (vSh 0) (vC (.int 2))) ar)) (cF gB (ag (b2 ixD (vSh 0) (vC (.int 3))) (ag .(i) (ag (vSh 2) ar))))))))
noncomputable def wF:FQ:=aY 0
  (aB (sIf (orT (bE (toB (cF gY (ag (vSh 0) (ag .(f) (ag (vC (.int 100)) ar)))))) (bE (toB (cF fM (ag (aQ (bp (itF (vSh 0)) (aC 0) tT (cF tt (ag (vSh 0) (ag (vSh 1) (ag (vSh 2) ar)))) [af,aa 1,aa 2])) ar))))) (aM (vC (.bl av))) bA) (aM (cF fN (ag (aQ (bp (itF (vSh 0)) (aC 0) tT (slF (vSh 0) pN (pS (vC (.int 3)))) [af])) ar))))
noncomputable def sy:FQ:=aY 0
  (aB (sIf (orT (bE (toB (cF fY (ag (vSh 0) (ag (vC (.int 3)) ar))))) (orT (bE (toB (cF j6 (ag (b2 ixD (vSh 0) .(f)) (ag (vSh 1) ar))))) (bE (toB (cF j6 (ag (b2 ixD (vSh 0) .(i)) (ag (vSh 1) ar))))))) (aM (vC (.bl av))) bA) (aM (cy (b2 neA (b2 ixD (vSh 0) .(f)) (b2 ixD (vSh 0) .(i))) (cF gB (ag (b2 ixD (vSh 0) (vC (.int 2))) (ag .(f) (ag (vSh 2) ar)))))))
noncomputable def xE:FQ:=aY 0
  (aB (sIf (orT (bE (toB (cF gY (ag (vSh 0) (ag .(f) (ag (vC (.int 100)) ar)))))) (bE (toB (cF fM (ag (aQ (bp (itF (vSh 0)) (aC 0) tT (cF sy (ag (vSh 0) (ag (vSh 1) (ag (vSh 2) ar)))) [af,aa 1,aa 2])) ar))))) (aM (vC (.bl av))) bA) (aM (cF fN (ag (aQ (bp (itF (vSh 0)) (aC 0) tT (slF (vSh 0) pN (pS (vC (.int 2)))) [af])) ar))))
noncomputable def sx:FQ:=aY 0
  (aM (cy (cF fY (ag (vSh 0) (ag (vC (.int 2)) ar))) (cy (cF j6 (ag (b2 ixD (vSh 0) .(f)) (ag (vSh 1) ar))) (cF gB (ag (b2 ixD (vSh 0) .(i)) (ag .(i) (ag (vC (.int 1000000)) ar)))))))
noncomputable def tN:FQ:=aY 0
  (aB (sIf (orT (bE (toB (cF gY (ag (vSh 0) (ag .(f) (ag (cF cg (ag (vSh 1) ar)) ar)))))) (bE (toB (cF fM (ag (aQ (bp (itF (vSh 0)) (aC 0) tT (cF sx (ag (vSh 0) (ag (vSh 1) ar))) [af,aa 1])) ar))))) (aM (vC (.bl av))) bA) (aM (cF fN (ag (aQ (bp (itF (vSh 0)) (aC 0) tT (b2 ixD (vSh 0) .(f)) [af])) ar))))
noncomputable def tH:FQ:=aY 0
  (aB (sIf (orT (bE (toB (cF fY (ag (vSh 0) (ag (vC (.int 5)) ar))))) (bE (toB (cF jG (ag (b2 ixD (vSh 0) .(f)) ar))))) (aM (vC (.bl av))) bA) (aB (sIf (orT (bE (toB (cF gB (ag (b2 ixD (vSh 0) (vC (.int 2))) (ag .(f) (ag (vC (.int 1000000)) ar)))))) (bE (toB (cF gB (ag (b2 ixD (vSh 0) .(i)) (ag .(f) (ag (b2 ixD (vSh 0) (vC (.int 2))) ar))))))) (aM (vC (.bl av))) bA) (aM (cy (cF tN (ag (b2 ixD (vSh 0) (vC (.int 3))) (ag (vSh 1) ar))) (cF tN (ag (b2 ixD (vSh 0) (vC (.int 4))) (ag (vSh 1) ar)))))))
noncomputable def uS:FQ:=aY 0
  (aB (sIf (orT (bE (toB (cF gY (ag (vSh 0) (ag .(f) (ag (vC (.int 6)) ar)))))) (bE (toB (cF fM (ag (aQ (bp (itF (vSh 0)) (aC 0) tT (cF tH (ag (vSh 0) (ag (vSh 1) ar))) [af,aa 1])) ar))))) (aM (vC (.bl av))) bA) (aM (cF fN (ag (aQ (bp (itF (vSh 0)) (aC 0) tT (b2 ixD (vSh 0) .(f)) [af])) ar))))
noncomputable def xL:FQ:=aY 2
  (aB (sIf (bE (toB (cF gB (ag (vSh 6) (ag .(i) (ag (vC (.int 1000000)) ar)))))) (aM (vC (.str "horizon"))) bA) (aB (sIf (bE (toB (cF wm (ag (vSh 0) (ag (vSh 6) ar))))) (aM (vC (.str "benches"))) bA) (aB (bo 7 (aQ (bp (itF (vSh 0)) (aC 0) tT (b2 ixD (vSh 0) .(f)) [af]))) (aB (sIf (bE (toB (cF wz (ag (vSh 1) (ag (vSh 7) (ag (vSh 6) ar)))))) (aM (vC (.str "steps"))) bA) (aB (bo 8 (aQ (bp (itF (vSh 1)) (aC 0) tT (b2 ixD (vSh 0) .(f)) [af]))) (aB (sIf (bE (toB (cF wY (ag (vSh 2) (ag (vSh 8) (ag (vSh 6) ar)))))) (aM (vC (.str "jobs"))) bA) (aB (sIf (bE (toB (cF wF (ag (vSh 3) (ag (vSh 7) (ag (vSh 6) ar)))))) (aM (vC (.str "setups"))) bA) (aB (sIf (bE (toB (cF xE (ag (vSh 4) (ag (vSh 8) (ag (vSh 6) ar)))))) (aM (vC (.str "links"))) bA) (aB (sIf (bE (toB (cF uS (ag (vSh 5) (ag (vSh 8) ar))))) (aM (vC (.str "stocks"))) bA) (aM (vC .non)))))))))))
noncomputable def wW:FQ:=nK 3 "Shop"
  (aB (bo 8 (cF xL (ag (vSh 1) (ag (vSh 2) (ag (vSh 3) (ag (vSh 4) (ag (vSh 5) (ag (vSh 6) (ag (vSh 7) ar))))))))) (aB (sIf (toB (b2 mL (vSh 8) (vC .non))) sNo bA) (aB (gC "Shop" "benches" 0 (cF e9 (ag (vSh 1) ar))) (aB (gC "Shop" "steps" 0 (cF e9 (ag (vSh 2) ar))) (aB (gC "Shop" "jobs" 0 (cF e9 (ag (vSh 3) ar))) (aB (gC "Shop" "setups" 0 (cF e9 (ag (vSh 4) ar))) (aB (gC "Shop" "links" 0 (cF e9 (ag (vSh 5) ar))) (aB (gC "Shop" "stocks" 0 (cF e9 (ag (vSh 6) ar))) (aB (gC "Shop" "horizon" 0 (vSh 7)) (aB (gC "Shop" "bench_by_name" 0 (cF jV (ag (aQ (bp (itF (jE "Shop" "benches" 0)) (aC 0) tT (aZ (szF (ag (b2 ixD (vSh 0) .(f)) (ag (vSh 0) ar)))) [af])) ar))) (aB (gC "Shop" "step_by_name" 0 (cF jV (ag (aQ (bp (itF (jE "Shop" "steps" 0)) (aC 0) tT (aZ (szF (ag (b2 ixD (vSh 0) .(f)) (ag (vSh 0) ar)))) [af])) ar))) (aB (gC "Shop" "setup_by_names" 0 (cF oj (ag (aQ (bp (itF (jE "Shop" "setups" 0)) (aC 0) tT (aZ (szF (ag (slF (vSh 0) pN (pS (vC (.int 3)))) (ag (b2 ixD (vSh 0) (vC (.int 3))) ar)))) [af])) ar))) (aB (n3 "Shop" "job_by_step" 0) (b9 (itF (jE "Shop" "jobs" 0)) (aC 9) (b9 (itF (b2 ixD (vSh 9) (vC (.int 4)))) (aC 10) (ju "Shop" "job_by_step" 0 (vSh 10) (vSh 9)))))))))))))))))
noncomputable def uc:FQ:=aY 0
  (aM (cF wW (ag (b2 ixD (vSh 0) .(f)) (ag (b2 ixD (vSh 0) .(i)) (ag (b2 ixD (vSh 0) (vC (.int 2))) (ag (b2 ixD (vSh 0) (vC (.int 3))) (ag (b2 ixD (vSh 0) (vC (.int 4))) (ag (b2 ixD (vSh 0) (vC (.int 5))) (ag (b2 ixD (vSh 0) (vC (.int 6))) ar)))))))))
noncomputable def lZ:FQ:=aY 11
  (aB (oT 1) (aB (b9 (itF (b2 ixD (vSh 0) (vC (.int 4)))) (db 3 (bj (aC 2) (bj (aC 3) (bj (aC 4) cW)))) (eA 1 (aZ (szF (ag (vSh 2) (ag (vSh 3) ar)))) (vSh 4))) (aB (b9 (itF (b2 ixD (vSh 0) (vC (.int 2)))) (db 5 (bj (aC 5) (bj (aC 6) (bj (aC 7) (bj (aC 8) (bj (aC 9) cW)))))) (b9 (itR et (ag (cF cg (ag (vSh 9) ar)) ar)) (aC 10) (b9 (itR et (ag (vSh 10) ar)) (aC 11) (sIf (toB (vSh 8)) (eA 1 (aZ (szF (ag (b2 ixD (vSh 9) (vSh 11)) (ag (b2 ixD (vSh 9) (vSh 10)) ar)))) (mE 1 (b3 ko (vSh 1) (aZ (szF (ag (b2 ixD (vSh 9) (vSh 11)) (ag (b2 ixD (vSh 9) (vSh 10)) ar)))) .(f)))) bA)))) (li 1 (aM (vSh 1))))))
noncomputable def wJ:FQ:=aY 1
  (aB (b9 (itF (b2 ixD (vSh 0) (vC (.int 2)))) (aC 2) (sIf (toB (b2 fQ (vSh 1) (b2 ixD (vSh 2) (vC (.int 4))))) (aM (vSh 2)) bA)) (aM (vC .non)))
noncomputable def oq:FQ:=aY 0
  (aM (cy (b2 eqD (cF cg (ag (b2 cO (bM "Facts" "open_benches" (vSh 0)) (vSh 1)) ar)) .(i)) (b2 eqA (b2 cO (bM "Facts" "open_benches" (vSh 0)) (vSh 1)) (b2 cO (bM "Facts" "open_benches" (vSh 0)) (vSh 2)))))
noncomputable def vV:FQ:=aY 1
  (aB (sIf (toB (b2 eqA (vSh 1) (vSh 2))) (aM (vC (.bl av))) bA) (aB (bo 3 (b2 cO (bM "Grounds" "job_names" (bM "Facts" "grounds" (vSh 0))) (vSh 1))) (aM (orD (cy (b2 mL (vSh 3) (vC .non)) (b2 eqA (vSh 3) (b2 cO (bM "Grounds" "job_names" (bM "Facts" "grounds" (vSh 0))) (vSh 2)))) (cL "Facts" "have_one_bench" oq (vSh 0) (ag (vSh 1) (ag (vSh 2) ar)))))))
noncomputable def wa:FQ:=aY 0
  (aM (orD (b2 jD (aZ (szF (ag (vSh 1) (ag (vSh 2) ar)))) (bM "Grounds" "known_gaps" (bM "Facts" "grounds" (vSh 0)))) (b2 jD (aZ (szF (ag (vSh 1) (ag (vSh 2) ar)))) (bM "Facts" "put_pairs" (vSh 0)))))
noncomputable def Cb:FQ:=aY 0
  (aM (bM "Grounds" "told_shop" (bM "Facts" "grounds" (vSh 0))))
noncomputable def w9:FQ:=aY 0
  (aM (b3 ko (bM "Shop" "setup_by_names" (vSh 0)) (aZ (szF (ag (vSh 1) (ag (vSh 2) (ag (vSh 3) ar))))) .(f)))
noncomputable def tI:FQ:=aY 0
  (aM (b2 ixD (b2 cO (bM "Shop" "step_by_name" (vSh 0)) (vSh 1)) .(i)))
noncomputable def xJ:FQ:=aY 2
  (aB (bo 3 (b3 ko (bM "Grounds" "known_gaps" (bM "Facts" "grounds" (vSh 0))) (aZ (szF (ag (vSh 1) (ag (vSh 2) ar)))) .(f))) (aB (sIf (bE (toB (cL "Facts" "have_one_bench" oq (vSh 0) (ag (vSh 1) (ag (vSh 2) ar))))) (aM (vSh 3)) bA) (aB (bo 4 (cL "Facts" "shop" Cb (vSh 0) ar)) (aM (cF i8 (ag (vSh 3) (ag (cL "Shop" "setup_of" w9 (vSh 4) (ag (b2 ixD (b2 cO (bM "Facts" "open_benches" (vSh 0)) (vSh 1)) .(f)) (ag (cL "Shop" "kind_of" tI (vSh 4) (ag (vSh 1) ar)) (ag (cL "Shop" "kind_of" tI (vSh 4) (ag (vSh 2) ar)) ar)))) ar)))))))
noncomputable def u7:FQ:=aY 0
  (aM (cy (cF dJ (ag (vSh 0) (ag (vC (.ty "int")) ar))) (cy (pw (cF dJ (ag (vSh 0) (ag (vC (.ty "bool")) ar)))) (b2 eqA (vSh 0) (vSh 1)))))
noncomputable def l':FQ:=aY 13
  (aB (xH (sP 3 (bj (aC 5) (bj (aC 6) (bj (aC 7) cW)))) (vSh 2)) (aB (bo 8 (cy (b2 eqD (cF cg (ag (b2 cO (vSh 5) (b2 ixD (vSh 3) .(f))) ar)) .(i)) (b2 eqA (b2 cO (vSh 5) (b2 ixD (vSh 3) .(f))) (b2 cO (vSh 5) (b2 ixD (vSh 4) .(f)))))) (aB (bo 9 (cF wJ (ag (vSh 1) (ag (b2 ixD (vSh 3) .(f)) ar)))) (aB (bo 10 (b3 ko (vSh 7) (aZ (szF (ag (b2 ixD (vSh 3) .(f)) (ag (b2 ixD (vSh 4) .(f)) ar)))) .(f))) (aB (sIf (toB (vSh 8)) (b9 (itF (b2 ixD (vSh 1) (vC (.int 3)))) (db 4 (bj (aC 11) (bj (aC 12) (bj (aC 13) (bj (aC 14) cW))))) (sIf (ic (toB (b2 eqA (aQ (szF (ag (vSh 11) ar))) (b2 cO (vSh 5) (b2 ixD (vSh 3) .(f))))) (ic (toB (b2 eqA (vSh 12) (b2 ixD (vSh 3) .(i)))) (toB (b2 eqA (vSh 13) (b2 ixD (vSh 4) .(i)))))) (bo 10 (cF i8 (ag (vSh 10) (ag (vSh 14) ar)))) bA)) bA) (aB (bo 15 (orD (vSh 8) (cy (b2 mL (vSh 9) (vC .non)) (b2 fQ (b2 ixD (vSh 4) .(f)) (b2 ixD (vSh 9) (vC (.int 4))))))) (aB (bo 16 (orD (b2 jD (aZ (szF (ag (b2 ixD (vSh 3) .(f)) (ag (b2 ixD (vSh 4) .(f)) ar)))) (vSh 7)) (b2 fQ (aZ (szF (ag (b2 ixD (vSh 3) .(f)) (ag (b2 ixD (vSh 4) .(f)) ar)))) (vSh 6)))) (aB (bo 17 (aQ (szF (ag (cL "Facts" "is_ahead" wa (vSh 0) (ag (b2 ixD (vSh 3) .(f)) (ag (b2 ixD (vSh 4) .(f)) ar))) (ag (cL "Facts" "do_meet" vV (vSh 0) (ag (b2 ixD (vSh 3) .(f)) (ag (b2 ixD (vSh 4) .(f)) ar))) ar))))) (aB (sIf (orT (toB (b2 neA (aQ (bp (itF (vSh 17)) (aC 0) tT (cF dJ (ag (vSh 0) (ag (vC (.ty "bool")) ar))) [af])) (aQ (szF (ag (vC (.bl ak)) (ag (vC (.bl ak)) ar)))))) (toB (b2 neA (vSh 17) (aQ (szF (ag (vSh 16) (ag (vSh 15) ar))))))) (aM (vC (.bl av))) bA) (aM (cF u7 (ag (cL "Facts" "gap_of" xJ (vSh 0) (ag (b2 ixD (vSh 3) .(f)) (ag (b2 ixD (vSh 4) .(f)) ar))) (ag (vSh 10) ar)))))))))))))
noncomputable def sF:(Fo->ac D->au (D×Fo)):=gQ 6 "Facts"
  (aB (vd 3) (aB (b9 (itE (b2 ixD (vSh 1) .(i))) (db 2 (bj (aC 4) (bj (aC 5) cW))) (aB (bo 6 (b2 ixD (vSh 2) (b2 eP (vSh 4) (cF cg (ag (vSh 2) ar))))) (aB (bo 7 (aQ (bp (itF (b2 ixD (vSh 5) (vC (.int 2)))) (db 2 (bj (aC 0) (bj (aC 1) cW))) tT (vSh 0) [af,af]))) (aB (sIf (toB (b2 gtD (cF bS (ag (vSh 6) (ag (vC (.int 40)) (ag (vC (.int 3)) ar)))) .(f))) (aB (bo 8 (cF bS (ag (vSh 6) (ag (vC (.int 41)) (ag (cF cg (ag (vSh 7) ar)) ar))))) (bo 7 (slF (vSh 7) (pS (vSh 8)) (pS (b2 bi (vSh 8) .(i)))))) bA) (aB (jC "Facts" "set_open" 0 nW (ag (b2 ixD (vSh 5) .(f)) (ag (vSh 7) ar))) (eA 3 (b2 ixD (vSh 5) .(f)) (vSh 7))))))) (li 3 (aM (vSh 3)))))
noncomputable def uh:(Fo->ac D->au (D×Fo)):=gQ 0 "Facts"
  (gy "Facts" "put_pairs" 0 (aZ (szF (ag (vSh 1) (ag (vSh 2) ar)))) (vC (.bl ak)))
noncomputable def sB:(Fo->ac D->au (D×Fo)):=gQ 4 "Facts"
  (aB (eY 3 (szF ar)) (aB (b9 (itR et (ag (cF bS (ag (vSh 2) (ag (vC (.int 120)) (ag (vC (.int 6)) ar)))) ar)) (aC 4) (aB (bo 5 (b2 ixD (b2 ixD (b2 ixD (vSh 1) .(i)) (cF bS (ag (vSh 2) (ag (b2 bi (vC (.int 121)) (b2 di (vC (.int 2)) (vSh 4))) (ag (cF cg (ag (b2 ixD (vSh 1) .(i)) ar)) ar))))) .(f))) (aB (bo 6 (b2 ixD (b2 ixD (b2 ixD (vSh 1) .(i)) (cF bS (ag (vSh 2) (ag (b2 bi (vC (.int 122)) (b2 di (vC (.int 2)) (vSh 4))) (ag (cF cg (ag (b2 ixD (vSh 1) .(i)) ar)) ar))))) .(f))) (sIf (toB (b2 neA (vSh 5) (vSh 6))) (aB (jC "Facts" "put_order" 0 uh (ag (vSh 5) (ag (vSh 6) ar))) (sIf (bwT 3 (toB (b2 nA (aZ (szF (ag (vSh 5) (ag (vSh 6) ar)))) (vSh 3)))) (gk 3 (aZ (szF (ag (vSh 5) (ag (vSh 6) ar))))) bA)) bA)))) (fy 3 (aM (vSh 3)))))
noncomputable def C2:FQ:=aY 0
  (aM (cF tw (ag (bM "Facts" "notes" (vSh 0)) ar)))
noncomputable def vE:FQ:=aY 0
  (aM (cF vh (ag (bM "Facts" "put_pairs" (vSh 0)) ar)))
noncomputable abbrev As:FS:=
  (aB (bo 1 (cF sM (ag (vSh 0) (ag (vC (.int 12)) (ag (cF t6 (ag (vSh 0) ar)) ar))))) (aB (bo 2 (b2 iT (b2 iT (slF (vSh 1) pN (pS (vC (.int 4)))) (aZ (szF (ag (aQ (szF ar)) ar)))) (slF (vSh 1) (pS (vC (.int 5))) pN))) (aB (og "Facts" 3 pD [.non,.non,.int 0,.int 0] (ag (cF uc (ag (vSh 2) ar)) (ag (b2 ixD (vSh 1) (vC (.int 6))) ar))) (aB (og "Facts" 4 pD [.non,.non,.int 0,.int 0] (ag (cF uc (ag (vSh 1) ar)) (ag (b2 ixD (vSh 1) (vC (.int 6))) ar))) (aB (vd 5) (aB (b9 (itF (b2 ixD (vSh 1) .(i))) (db 3 (bj (aC 6) (bj (aC 7) (bj (aC 8) cW)))) (eA 5 (vSh 6) (aQ (bp (itF (vSh 8)) (db 2 (bj (aC 0) (bj (aC 1) cW))) tT (vSh 0) [af,af])))) (aB (bo 9 (aQ (szF ar))) (aB (b9 (itF (b2 ixD (vSh 1) .(i))) (aC 10) (bo 9 (b2 bi (vSh 9) (aQ (bp (itF (b2 ixD (vSh 1) .(i))) (aC 0) (toB (b2 neA (vSh 0) (vSh 1))) (aZ (szF (ag (vSh 1) (ag (vSh 0) ar)))) [af,aa 10]))))) (aB (b9 (itF (vSh 9)) (db 2 (bj (aC 10) (bj (aC 11) cW))) (sIf (nX 5 (mN 4 (bE (toB (cF l' (ag (vSh 4) (ag (vSh 1) (ag (aQ (szF (ag (vSh 5) (ag (aQ (szF ar)) (ag (cF lZ (ag (vSh 1) ar)) ar))))) (ag (vSh 10) (ag (vSh 11) ar)))))))))) (aM (vC (.bl av))) bA)) (aB (nY "Facts" 12 4 sF (ag (vSh 1) (ag (b2 bi (slF (vSh 0) (pS (vC (.int 4))) (pS (vC (.int 16)))) (aQ (szF (ag (cF gS (ag (vSh 0) (ag (vC (.int 3)) ar))) ar)))) ar))) (aB (nY "Facts" 13 4 sB (ag (vSh 1) (ag (cF gS (ag (vSh 0) (ag .(f) ar))) ar))) (aB (b9 (itF (vSh 9)) (db 2 (bj (aC 10) (bj (aC 11) cW))) (aB (sIf (mN 4 (bE (toB (cF l' (ag (vSh 4) (ag (vSh 1) (ag (aQ (szF (ag (vSh 12) (ag (vSh 13) (ag (cF lZ (ag (vSh 1) ar)) ar))))) (ag (vSh 10) (ag (vSh 11) ar))))))))) (aM (vC (.bl av))) bA) (sIf (nX 5 (mN 3 (bE (toB (cF l' (ag (vSh 3) (ag (vSh 2) (ag (aQ (szF (ag (vSh 5) (ag (aQ (szF ar)) (ag (cF lZ (ag (vSh 2) ar)) ar))))) (ag (vSh 10) (ag (vSh 11) ar)))))))))) (aM (vC (.bl av))) bA))) (aM (bwF 4 (cy (b2 eqA (cL "Facts" "orders" vE (vSh 4) ar) (vSh 13)) (b2 eqA (cL "Facts" "noted" C2 (vSh 4) ar) (aQ (szF ar))))))))))))))))))
noncomputable def sg:FQ:=aY 13 As
end Law
set_option maxHeartbeats 4000000
variable {C_Facts C_Grounds C_Shop:aw} {r ρ':bG} {sn:ac aj} {br:ac (aq×aq)} {S x2 x4 x5 x6:au Slot} {R:Fl×bG->Prop} {acc:ac (ac Key×D)} {cs:ac aq} {O B:ac (Key×D)} {dn:ac (aj×aj)} {L:D} {os:ac (ac aj)}
namespace Law
theorem Gg {us:ac α} {its:ac β} {P:ac α->ac β->Prop} (k:∀a b c d e f g,P [a,b,c] [d,e,f,g]) (h1:us.length+4=7) (h2:its.length=4):P us its:=match us,its,h1,h2 with|[_,_,_],[_,_,_,_],_,_=>k ..
theorem OY:FnScope ["_law_script","_law_k"] ["_law_script","_law_k"] (aL (top 56)):=bx
theorem om:FnScope ["_law_cell","_law_k","_law_many","_law_left","_law_j","_law_number"] ["_law_cell","_law_k","_law_many"] (aL (top 57)):=bx
theorem zu:FnScope ["_law_script","_law_cell"] ["_law_script"] (aL (top 67)):=bx
theorem Oa:FnScope ["_law_cell","_law_k","_law_most"] ["_law_cell","_law_k","_law_most"] (aL (top 59)):=bx
theorem mI:FnScope ["_law_cell","_law_k","_law_horizon_here","_law_breaks_here","_law_at","_law_j","_law_begin","_law_end"] ["_law_cell","_law_k","_law_horizon_here"] (aL (top 60)):=bx
theorem nV:FnScope ["_law_cell","_law_many","_law_letters","_law_stem","_law_at","_law_found","_law_k"] ["_law_cell","_law_many"] (aL (top 58)):=bx
theorem kP:FnScope ["_law_cell","_law_name","_law_benches","_law_horizon_here","_law_kind","_law_at","_law_some","_law_ways","_law_k","_law_bench","_law_most"] ["_law_cell","_law_name","_law_benches","_law_horizon_here"] (aL (top 61)):=bx
theorem o4:FnScope ["_law_cell","_law_k","_law_steps","_law_found","_law_j","_law_one","_law_other"] ["_law_cell","_law_k","_law_steps"] (aL (top 63)):=bx
theorem nC:FnScope ["_law_cell","_law_benches","_law_horizon_here","_law_kinds","_law_found","_law_j","_law_key"] ["_law_cell","_law_benches","_law_horizon_here"] (aL (top 64)):=bx
theorem nv:FnScope ["_law_cell","_law_steps","_law_stocks_here","_law_j","_law_room","_law_takes","_law_puts"] ["_law_cell","_law_steps"] (aL (top 65)):=bx
theorem mC:FnScope ["_law_cell","_law_cells","_law_steps","_law_horizon_here","_law_jobs_here","_law_k","_law_some","_law_early","_law_due"] ["_law_cell","_law_cells","_law_steps","_law_horizon_here"] (aL (top 62)):=bx
theorem gR:FnScope ["_law_script","_law_most","_law_horizon_here","_law_cell","_law_cells","_law_many","_law_benches","_law_k","_law_names_here","_law_steps","_law_links","_law_setups_here","_law_stocks_here"] ["_law_script","_law_most","_law_horizon_here"] (aL (top 66)):=bx
theorem IN:FnScope ["self"] ["self"] (aL (cb (top 54) 9)):=bx
theorem FB:FnScope ["thing"] ["thing"] (aL (top 53)):=bx
theorem Os:FnScope ["self","step"] ["self","step"] (aL (cb (top 54) 10)):=bx
theorem HE:FnScope ["self","step"] ["self","step"] (aL (cb (top 54) 12)):=bx
theorem GS:FnScope ["self"] ["self"] (aL (cb (top 54) 7)):=bx
theorem Lx:FnScope ["self"] ["self"] (aL (cb (top 54) 1)):=bx
theorem OT:FnScope ["self"] ["self"] (aL (cb (top 54) 3)):=bx
theorem tX:FnScope ["things","pairs","place","one"] ["things"] (aL (top 2)):=bx
theorem IS:FnScope ["self"] ["self"] (aL (cb (top 54) 5)):=bx
theorem lS:FnScope ["shop","gaps","job","pair","one","other","gap"] ["shop"] (aL (top 3)):=bx
theorem o8:FnScope ["shop","names","gaps","orders","one"] ["shop"] (aL (top 4)):=bx
theorem si:FnScope ["self","shop","limit","kept","most","step","job","due"] ["self","shop","limit","kept","most"] (aL (cb (top 6) 0)):=bx
theorem F0:FnScope ["self","step","benches"] ["self","step","benches"] (aL (cb (top 8) 32)):=bx
theorem Gr:FnScope ["self","step","first","last"] ["self","step","first","last"] (aL (cb (top 8) 31)):=bx
theorem Ht:FnScope ["self","step"] ["self","step"] (aL (cb (top 8) 5)):=bx
theorem D5:FnScope ["self","step","lengths"] ["self","step"] (aL (cb (top 8) 13)):=bx
theorem O8:FnScope ["self","step"] ["self","step"] (aL (cb (top 8) 14)):=bx
theorem sO:FnScope ["self","shop","limit","holds","kept","most","now","step","early","start"] ["self","shop","limit","holds","kept","most","now"] (aL (cb (top 8) 0)):=bx
theorem FD:FnScope ["thing"] ["thing"] (aL (top 14)):=bx
theorem F9:FnScope ["thing","least","most"] ["thing","least","most"] (aL (top 17)):=bx
theorem Km:FnScope ["thing","many"] ["thing","many"] (aL (top 19)):=bx
theorem KL:FnScope ["row","horizon"] ["row","horizon"] (aL (top 33)):=bx
theorem Kb:FnScope ["thing","least","most"] ["thing","least","most"] (aL (top 18)):=bx
theorem Mc:FnScope ["breaks","horizon"] ["breaks","horizon"] (aL (top 34)):=bx
theorem Me:FnScope ["thing"] ["thing"] (aL (top 15)):=bx
theorem Iq:FnScope ["row","horizon"] ["row","horizon"] (aL (top 35)):=bx
theorem LL:FnScope ["things"] ["things"] (aL (top 21)):=bx
theorem IB:FnScope ["benches","horizon"] ["benches","horizon"] (aL (top 36)):=bx
theorem MK:FnScope ["thing","names"] ["thing","names"] (aL (top 20)):=bx
theorem NH:FnScope ["row","bench_names","horizon"] ["row","bench_names","horizon"] (aL (top 37)):=bx
theorem Oi:FnScope ["ways","bench_names","horizon"] ["ways","bench_names","horizon"] (aL (top 38)):=bx
theorem MW:FnScope ["row","bench_names","horizon"] ["row","bench_names","horizon"] (aL (top 39)):=bx
theorem MY:FnScope ["steps","bench_names","horizon"] ["steps","bench_names","horizon"] (aL (top 40)):=bx
theorem IK:FnScope ["row","step_names","horizon"] ["row","step_names","horizon"] (aL (top 41)):=bx
theorem vQ:FnScope ["jobs","step_names","horizon","members","row"] ["jobs","step_names","horizon"] (aL (top 42)):=bx
theorem Kg:FnScope ["row","bench_names","horizon"] ["row","bench_names","horizon"] (aL (top 43)):=bx
theorem Pm:FnScope ["setups","bench_names","horizon"] ["setups","bench_names","horizon"] (aL (top 44)):=bx
theorem Hf:FnScope ["row","step_names","horizon"] ["row","step_names","horizon"] (aL (top 45)):=bx
theorem HS:FnScope ["links","step_names","horizon"] ["links","step_names","horizon"] (aL (top 46)):=bx
theorem HQ:FnScope ["row","step_names"] ["row","step_names"] (aL (top 47)):=bx
theorem Pk:FnScope ["rows","step_names"] ["rows","step_names"] (aL (top 48)):=bx
theorem Nm:FnScope ["row","step_names"] ["row","step_names"] (aL (top 49)):=bx
theorem OQ:FnScope ["stocks","step_names"] ["stocks","step_names"] (aL (top 50)):=bx
theorem xI:FnScope ["benches","steps","jobs","setups","links","stocks","horizon","bench_names","step_names"] ["benches","steps","jobs","setups","links","stocks","horizon"] (aL (top 51)):=bx
theorem ue:FnScope ["self","benches","steps","jobs","setups","links","stocks","horizon","part","row","step"] ["self","benches","steps","jobs","setups","links","stocks","horizon"] (aL (cb (top 54) 0)):=bx
theorem NK:FnScope ["_law_lists_here"] ["_law_lists_here"] (aL (top 68)):=bx
theorem ig:FnScope ["_law_lists_here","_law_found","_law_one","_law_other","_law_gap","_law_name","_law_early","_law_due","_law_ordered","_law_steps","_law_j","_law_k"] ["_law_lists_here"] (aL (top 74)):=bx
theorem DY:FnScope ["_law_lists_here","_law_step_here","_law_job_here"] ["_law_lists_here","_law_step_here"] (aL (top 69)):=bx
theorem KU:FnScope ["self","one","other"] ["self","one","other"] (aL (cb (top 8) 25)):=bx
theorem BL:FnScope ["self","one","other","job"] ["self","one","other"] (aL (cb (top 8) 27)):=bx
theorem Gh:FnScope ["self","one","other"] ["self","one","other"] (aL (cb (top 8) 24)):=bx
theorem JN:FnScope ["self"] ["self"] (aL (cb (top 8) 1)):=bx
theorem Lk:FnScope ["self","bench","first","second"] ["self","bench","first","second"] (aL (cb (top 54) 14)):=bx
theorem Ld:FnScope ["self","step"] ["self","step"] (aL (cb (top 54) 11)):=bx
theorem vD:FnScope ["self","one","other","gap","shop"] ["self","one","other"] (aL (cb (top 8) 26)):=bx
theorem IV:FnScope ["_law_found","_law_due"] ["_law_found","_law_due"] (aL (top 71)):=bx
theorem gq:FnScope ["_law_facts","_law_lists_here","_law_more","_law_one","_law_other","_law_benches","_law_orders_here","_law_known_here","_law_same","_law_job_here","_law_gap","_law_bench","_law_first","_law_second","_law_moments","_law_meet","_law_ahead","_law_found"] ["_law_facts","_law_lists_here","_law_more","_law_one","_law_other"] (aL (top 75)):=bx
theorem kA:FnScope ["_law_facts","_law_lists_here","_law_cells","_law_benches","_law_k","_law_row","_law_cell","_law_names_here","_law_at"] ["_law_facts","_law_lists_here","_law_cells"] (aL (top 72)):=bx
theorem G6:FnScope ["self","one","other"] ["self","one","other"] (aL (cb (top 8) 33)):=bx
theorem ph:FnScope ["_law_facts","_law_lists_here","_law_cell","_law_found","_law_j","_law_one","_law_other"] ["_law_facts","_law_lists_here","_law_cell"] (aL (top 73)):=bx
theorem Hz:FnScope ["self"] ["self"] (aL (cb (top 8) 8)):=bx
theorem HC:FnScope ["self"] ["self"] (aL (cb (top 8) 7)):=bx
theorem fD:FnScope ["_law_script","_law_lists_here","_law_bare","_law_beside","_law_facts","_law_first","_law_name","_law_kind","_law_ways","_law_pairs_here","_law_one","_law_other","_law_benches","_law_orders_here"] ["_law_script"] (aL (top 76)):=bx
noncomputable def tkI (mg:aj->au ax) (x:aj):Tok:=match mg x with|some (.int _ t)=>t|_=>0
theorem tkI_of {h:Heap} {n:aq} {t:Tok} (X:K.In h) (G:h.Ns fH mg) (a:rK K fH x=aa (aa (.int n t))):mg x=aa (.int n (tkI mg x)):=by have q:=rL X G a;rw[q];unfold tkI;rw[q]
structure Vd (K:aV) (mg:aj->au ax) (C_Facts C_Grounds C_Shop:aw):Prop where
 z_all:mg "all"=af
 z_bool:mg "bool"=af
 z_dict:mg "dict"=af
 z_enumerate:mg "enumerate"=af
 z_int:mg "int"=af
 z_isinstance:mg "isinstance"=af
 z_len:mg "len"=af
 z_list:mg "list"=af
 z_max:mg "max"=af
 z_min:mg "min"=af
 z_range:mg "range"=af
 z_set:mg "set"=af
 z_str:mg "str"=af
 z_tuple:mg "tuple"=af
 k_LONGEST_NAME:mg "LONGEST_NAME"=aa (.int 8 (tkI mg "LONGEST_NAME"))
 k_MOST_AMOUNT:mg "MOST_AMOUNT"=aa (.int 1000000 (tkI mg "MOST_AMOUNT"))
 k_MOST_BENCHES:mg "MOST_BENCHES"=aa (.int 8 (tkI mg "MOST_BENCHES"))
 k_MOST_BREAKS:mg "MOST_BREAKS"=aa (.int 10 (tkI mg "MOST_BREAKS"))
 k_MOST_HORIZON:mg "MOST_HORIZON"=aa (.int 1000000 (tkI mg "MOST_HORIZON"))
 k_MOST_JOBS:mg "MOST_JOBS"=aa (.int 40 (tkI mg "MOST_JOBS"))
 k_MOST_LINKS:mg "MOST_LINKS"=aa (.int 100 (tkI mg "MOST_LINKS"))
 k_MOST_SETUPS:mg "MOST_SETUPS"=aa (.int 100 (tkI mg "MOST_SETUPS"))
 k_MOST_STEPS:mg "MOST_STEPS"=aa (.int 40 (tkI mg "MOST_STEPS"))
 k_MOST_STOCKS:mg "MOST_STOCKS"=aa (.int 6 (tkI mg "MOST_STOCKS"))
 k_MOST_WAYS:mg "MOST_WAYS"=aa (.int 4 (tkI mg "MOST_WAYS"))
 d0:Dfn K mg "_law_cell_at" (top 56)
 d1:Dfn K mg "_law_draw" (top 57)
 d2:Dfn K mg "_law_horizon" (top 67)
 d3:Dfn K mg "_law_moment" (top 59)
 d4:Dfn K mg "_law_breaks" (top 60)
 d5:Dfn K mg "_law_names" (top 58)
 d6:Dfn K mg "_law_step" (top 61)
 d7:Dfn K mg "_law_pairs" (top 63)
 d8:Dfn K mg "_law_setups" (top 64)
 d9:Dfn K mg "_law_stocks" (top 65)
 d10:Dfn K mg "_law_jobs" (top 62)
 d11:Dfn K mg "_law_lists" (top 66)
 d12:DfnM K C_Shop "Shop" "step_names" "Shop.step_names" (cb (top 54) 9)
 d13:Dfn K mg "fresh" (top 53)
 d14:DfnM K C_Shop "Shop" "ways_of" "Shop.ways_of" (cb (top 54) 10)
 d15:DfnM K C_Shop "Shop" "job_of" "Shop.job_of" (cb (top 54) 12)
 d16:DfnM K C_Shop "Shop" "last_moment" "Shop.last_moment" (cb (top 54) 7)
 d17:DfnM K C_Shop "Shop" "bench_rows" "Shop.bench_rows" (cb (top 54) 1)
 d18:DfnM K C_Shop "Shop" "job_rows" "Shop.job_rows" (cb (top 54) 3)
 d19:Dfn K mg "pairs_of" (top 2)
 d20:DfnM K C_Shop "Shop" "link_rows" "Shop.link_rows" (cb (top 54) 5)
 d21:Dfn K mg "greatest_gaps" (top 3)
 d22:Dfn K mg "known_orders" (top 4)
 d23:DfnM K C_Grounds "Grounds" "__init__" "Grounds.__init__" (cb (top 6) 0)
 d24:DfnM K C_Facts "Facts" "set_open" "Facts.set_open" (cb (top 8) 32)
 d25:DfnM K C_Facts "Facts" "set_window" "Facts.set_window" (cb (top 8) 31)
 d26:DfnM K C_Facts "Facts" "end_mark" "Facts.end_mark" (cb (top 8) 5)
 d27:DfnM K C_Facts "Facts" "open_lengths" "Facts.open_lengths" (cb (top 8) 13)
 d28:DfnM K C_Facts "Facts" "least_of" "Facts.least_of" (cb (top 8) 14)
 d29:DfnMD K C_Facts "Facts" "__init__" "Facts.__init__" (cb (top 8) 0) [.non,.non,.int 0,.int 0]
 d30:Dfn K mg "is_whole" (top 14)
 d31:Dfn K mg "is_within" (top 17)
 d32:Dfn K mg "is_tuple" (top 19)
 d33:Dfn K mg "is_break" (top 33)
 d34:Dfn K mg "is_list" (top 18)
 d35:Dfn K mg "are_breaks" (top 34)
 d36:Dfn K mg "is_name" (top 15)
 d37:Dfn K mg "is_bench" (top 35)
 d38:Dfn K mg "are_unlike" (top 21)
 d39:Dfn K mg "are_benches" (top 36)
 d40:Dfn K mg "is_one_of" (top 20)
 d41:Dfn K mg "is_way" (top 37)
 d42:Dfn K mg "are_ways" (top 38)
 d43:Dfn K mg "is_step" (top 39)
 d44:Dfn K mg "are_steps" (top 40)
 d45:Dfn K mg "is_job" (top 41)
 d46:Dfn K mg "are_jobs" (top 42)
 d47:Dfn K mg "is_setup" (top 43)
 d48:Dfn K mg "are_setups" (top 44)
 d49:Dfn K mg "is_link" (top 45)
 d50:Dfn K mg "are_links" (top 46)
 d51:Dfn K mg "is_amount" (top 47)
 d52:Dfn K mg "are_amounts" (top 48)
 d53:Dfn K mg "is_stock" (top 49)
 d54:Dfn K mg "are_stocks" (top 50)
 d55:Dfn K mg "first_bad_part" (top 51)
 d56:DfnM K C_Shop "Shop" "__init__" "Shop.__init__" (cb (top 54) 0)
 d57:Dfn K mg "_law_shop" (top 68)
 d58:Dfn K mg "_law_known" (top 74)
 d59:Dfn K mg "_law_job" (top 69)
 d60:DfnM K C_Facts "Facts" "have_one_bench" "Facts.have_one_bench" (cb (top 8) 25)
 d61:DfnM K C_Facts "Facts" "do_meet" "Facts.do_meet" (cb (top 8) 27)
 d62:DfnM K C_Facts "Facts" "is_ahead" "Facts.is_ahead" (cb (top 8) 24)
 d63:DfnM K C_Facts "Facts" "shop" "Facts.shop" (cb (top 8) 1)
 d64:DfnM K C_Shop "Shop" "setup_of" "Shop.setup_of" (cb (top 54) 14)
 d65:DfnM K C_Shop "Shop" "kind_of" "Shop.kind_of" (cb (top 54) 11)
 d66:DfnM K C_Facts "Facts" "gap_of" "Facts.gap_of" (cb (top 8) 26)
 d67:Dfn K mg "_law_whole" (top 71)
 d68:Dfn K mg "_law_right" (top 75)
 d69:Dfn K mg "_law_put" (top 72)
 d70:DfnM K C_Facts "Facts" "put_order" "Facts.put_order" (cb (top 8) 33)
 d71:Dfn K mg "_law_orders" (top 73)
 d72:DfnM K C_Facts "Facts" "noted" "Facts.noted" (cb (top 8) 8)
 d73:DfnM K C_Facts "Facts" "orders" "Facts.orders" (cb (top 8) 7)
structure Vw (K:aV) (mg:aj->au ax) (C_Facts C_Grounds C_Shop:aw):Prop extends Vd K mg C_Facts C_Grounds C_Shop where
 O_Facts:ClsOk .(a) K mg "Facts" C_Facts
 cf_Facts:CF .(a) K "Facts" ji
 O_Grounds:ClsOk .(a) K mg "Grounds" C_Grounds
 cf_Grounds:CF .(a) K "Grounds" wH
 O_Shop:ClsOk .(a) K mg "Shop" C_Shop
 cf_Shop:CF .(a) K "Shop" zq
section
variable (V:Vw K mg C_Facts C_Grounds C_Shop)
include V
theorem j7:Cal .(a) P w K mg base "_law_cell_at" 2 1 gS:=
 V.d0.cal (k:=0) OY .(b) fun f cdv A outer s H E hr=>
  (aD (bV (c9 wD (ah 1) (bO dY rfl V.z_len (by rfl) (ai (ah 0) ay)) (cr _)) (aG (aS (aJ (ah 0) (ah 1)))) bY) (aG (aS aA)))
theorem cu:Cal .(a) P w K mg base "_law_draw" 3 1 bS:=
 V.d1.cal (k:=0) om .(b) fun f cdv A outer s H E hr=>
  (aD (bV (c9 N5 (ah 0) (sR aA aA) (cr _)) (aD (bL 3 om.nd (ah 0)) (aD (dh dq rfl (gz rfl V.z_range (ai (ah 1) ay)) (aU 4 om.nd) (aG (bL 3 om.nd (pf (ah 3) (sR aA aA))))) (aG (bV (c9 Ci (ah 3) aA (cr _)) (aG (aS (gG (gG (ah 3) (sR aA aA)) (ah 2)))) bY)))) bY) (aD (bL 5 om.nd (gG (ee (bI (bI (bI (gG (ah 0) aA) (ee (ee aA (ah 1)) (ah 1))) (ee aA (ah 1))) aA) aA) aA)) (aD (bL 5 om.nd (gG (bI (bI (ee (ah 5) (ah 5)) (ee aA (ah 1))) aA) aA)) (aG (aS (gG (gG (ee (ah 5) (ah 5)) aA) (ah 2)))))))
theorem Mm:Cal .(a) P w K mg base "_law_horizon" 1 2 t6:=
 V.d2.cal (k:=1) zu .(b) fun f cdv A outer s H E hr=>
  (aD (bL 1 zu.nd (dC (j7 V) hr (ai (ah 0) (ai aA ay)) ln2)) (aG (aS (aJ (DO.de (cV (ai (bI aA (dC (cu V) hr (ai (ah 1) (ai aA (ai aA ay))) ln3)) (ai (bI aA (dC (cu V) hr (ai (ah 1) (ai aA (ai (sR aA aA) ay))) ln3)) ay)))) (pf (dC (cu V) hr (ai (ah 1) (ai aA (ai aA ay))) ln3) aA)))))
theorem wZ:Cal .(a) P w K mg base "_law_moment" 3 2 kS:=
 V.d3.cal (k:=1) Oa .(b) fun f cdv A outer s H E hr=>
  (aD (bV (c9 iI (dC (cu V) hr (ai (ah 0) (ai (ah 1) (ai aA ay))) ln3) aA (cr _)) (aG (aS (dC (cu V) hr (ai (ah 0) (ai (bI (ah 1) aA) (ai (bI (ah 2) aA) ay))) ln3))) bY) (aG (aS (dC (cu V) hr (ai (ah 0) (ai (bI (ah 1) aA) (ai (bI (bO (pd rfl) rfl V.z_min (by rfl) (ai (ah 2) (ai aA ay))) aA) ay))) ln3))))
theorem Ow:Cal .(a) P w K mg base "_law_breaks" 3 3 ud:=
 V.d4.cal (k:=2) mI .(b) fun f cdv A outer s H E hr=>
  (aD (je 3 mI.nd (cV ay)) (aD (bL 4 mI.nd aA) (aD (dh dq rfl (gz rfl V.z_range (ai (dC (cu V) hr (ai (ah 0) (ai (ah 1) (ai aA ay))) ln3) ay)) (aU 5 mI.nd) (aD (bL 6 mI.nd (bI (ah 4) (dC (wZ V) hr (ai (ah 0) (ai (bI (bI (ah 1) aA) (ee aA (ah 5))) (ai (ah 2) ay))) ln3))) (aD (bL 7 mI.nd (bI (bI (ah 6) aA) (dC (cu V) hr (ai (ah 0) (ai (bI (bI (ah 1) aA) (ee aA (ah 5))) (ai aA ay))) ln3))) (aG (bV (c9 jW (ah 7) (ah 2) (cr _)) (aD (mG 3 (cE (ai (ah 6) (ai (ah 7) ay)))) (aG (bL 4 mI.nd (bI (ah 7) aA)))) bY))))) (jv 3 (aG (aS (ah 3)))))))
theorem Kd:Cal .(a) P w K mg base "_law_names" 2 2 tS:=
 V.d5.cal (k:=1) nV .(b) fun f cdv A outer s H E hr=>
  (aD (bL 2 nV.nd dH) (aD (bL 3 nV.nd (FJ PySem.F.plainAttrs_str PySem.F.slot_str_join PySem.F.type_str_join Pq dH (ai (DO.de (cP rfl (CompScope.of rfl rfl) (FvOk.of (N':=["_law_k","_law_letters","_law_cell"]) (fv:=[af,aa 2,aa 0]) rfl) (gz rfl V.z_range (ai (dC (cu V) hr (ai (ah 0) (ai aA (ai aA ay))) ln3) ay)) ⟨fun _ _ _ _ _=>⟨(aU 0 (show(["_law_k","_law_letters","_law_cell"]:ac aj).Nodup by decide +kernel)),cK,(aJ (ah 1) (dC (cu V) hr (ai (ah 2) (ai (bI aA (ah 0)) (ai aA ay))) ln3))⟩⟩)) ay))) (aD (bL 4 nV.nd (dC (cu V) hr (ai (ah 0) (ai aA (ai (bI (bO dY rfl V.z_len (by rfl) (ai (ah 3) ay)) aA) ay))) ln3)) (aD (je 5 nV.nd (cV ay)) (aD (dh dq rfl (gz rfl V.z_range (ai (ah 1) ay)) (aU 6 nV.nd) (aG (mG 5 (bI (bI (bI (gF (ah 3) iZ (fO (ah 4))) (aJ (ah 2) (gG (ee (ah 6) aA) aA))) (aJ (DO.de (cV (ai dH (ai dH ay)))) (pf (ah 6) aA))) (gF (ah 3) (fO (ah 4)) iZ))))) (jv 5 (aG (aS (ah 5)))))))))
theorem Js:Cal .(a) P w K mg base "_law_step" 4 3 tV:=
 V.d6.cal (k:=2) kP .(b) fun f cdv A outer s H E hr=>
  (aD (bL 4 kP.nd (aJ (DO.de (cV (ai dH (ai dH (ai dH ay))))) (dC (cu V) hr (ai (ah 0) (ai aA (ai aA ay))) ln3))) (aD (bL 5 kP.nd (dC (cu V) hr (ai (ah 0) (ai aA (ai (bO dY rfl V.z_len (by rfl) (ai (ah 2) ay)) ay))) ln3)) (aD (bL 6 kP.nd (gF (bI (gF (ah 2) (fO (ah 5)) iZ) (gF (ah 2) iZ (fO (ah 5)))) iZ (fO (bI aA (ee (dC (cu V) hr (ai (ah 0) (ai aA (ai aA ay))) ln3) (dC (cu V) hr (ai (ah 0) (ai aA (ai aA ay))) ln3)))))) (aD (je 7 kP.nd (cV ay)) (aD (dh dq rfl (o6 rfl V.z_enumerate (ah 6)) (gv (n:=2) rfl (cx (aU 8 kP.nd) (cx (aU 9 kP.nd) fW))) (aD (bL 10 kP.nd (aJ (DO.de (cV (ai (ah 3) (ai (bO (pd rfl) rfl V.z_min (by rfl) (ai aA (ai (ah 3) ay))) ay)))) (dC (cu V) hr (ai (ah 0) (ai aA (ai aA ay))) ln3))) (aG (mG 7 (cE (ai (aJ (ah 9) aA) (ai (bO (oo rfl) rfl V.z_max (by rfl) (ai aA (ai (dC (wZ V) hr (ai (ah 0) (ai (bI aA (ee aA (ah 8))) (ai (ah 10) ay))) ln3) ay))) ay))))))) (jv 7 (aG (aS (cE (ai (ah 1) (ai (ah 4) (ai (ah 7) ay))))))))))))
theorem LR:Cal .(a) P w K mg base "_law_pairs" 3 2 tM:=
 V.d7.cal (k:=1) o4 .(b) fun f cdv A outer s H E hr=>
  (aD (su 3 o4.nd) (aD (dh dq rfl (gz rfl V.z_range (ai (dC (cu V) hr (ai (ah 0) (ai (ah 1) (ai aA ay))) ln3) ay)) (aU 4 o4.nd) (aD (bL 5 o4.nd (aJ (aJ (ah 2) (dC (cu V) hr (ai (ah 0) (ai (bI (bI (ah 1) aA) (ee aA (ah 4))) (ai (bO dY rfl V.z_len (by rfl) (ai (ah 2) ay)) ay))) ln3)) aA)) (aD (bL 6 o4.nd (aJ (aJ (ah 2) (dC (cu V) hr (ai (ah 0) (ai (bI (bI (ah 1) aA) (ee aA (ah 4))) (ai (bO dY rfl V.z_len (by rfl) (ai (ah 2) ay)) ay))) ln3)) aA)) (aG (bV (KP 3 (DW.dt (sY (c9 (me (fu hr)) (ah 5) (ah 6) (cr _)) (xh (c9 (LI (bH hr)) (cE (ai (ah 5) (ai (ah 6) ay))) (ah 3) (by rfl)))))) (aG (kT 3 (bH hr) (cE (ai (ah 5) (ai (ah 6) ay))) (dC (cu V) hr (ai (ah 0) (ai (bI (bI (ah 1) aA) (ee aA (ah 4))) (ai aA ay))) ln3))) bY))))) (oY 3 (aG (aS (ah 3))))))
theorem Gn:Cal .(a) P w K mg base "_law_setups" 3 2 tJ:=
 V.d8.cal (k:=1) nC .(b) fun f cdv A outer s H E hr=>
  (aD (bL 3 nC.nd (DO.de (cV (ai dH (ai dH (ai dH (ai dH ay))))))) (aD (su 4 nC.nd) (aD (dh dq rfl (gz rfl V.z_range (ai (dC (cu V) hr (ai (ah 0) (ai aA (ai aA ay))) ln3) ay)) (aU 5 nC.nd) (aD (bL 6 nC.nd (cE (ai (aJ (aJ (ah 1) (dC (cu V) hr (ai (ah 0) (ai (bI aA (ee aA (ah 5))) (ai (bO dY rfl V.z_len (by rfl) (ai (ah 1) ay)) ay))) ln3)) aA) (ai (aJ (ah 3) (dC (cu V) hr (ai (ah 0) (ai (bI aA (ee aA (ah 5))) (ai aA ay))) ln3)) ay)))) (aD (bL 6 nC.nd (pT (ah 6) (cE (ai (aJ (ah 3) (dC (cu V) hr (ai (ah 0) (ai (bI aA (ee aA (ah 5))) (ai aA ay))) ln3)) ay)))) (aG (kT 4 (bH hr) (ah 6) (bI aA (dC (cu V) hr (ai (ah 0) (ai (bI aA (ee aA (ah 5))) (ai (bO (pd rfl) rfl V.z_min (by rfl) (ai (ah 2) (ai aA ay))) ay))) ln3))))))) (oY 4 (aG (aS (D6 4 (DO.de (cP rfl (CompScope.of rfl rfl) (FvOk.of (N':=["_law_key","_law_found"]) (fv:=[af,aa 4]) rfl) (Bx (ah 4)) ⟨fun _ _ _ _ _=>⟨(aU 0 (show(["_law_key","_law_found"]:ac aj).Nodup by decide +kernel)),cK,(pT (ah 0) (cE (ai (eC (bH hr) (ah 1) (ah 0)) ay)))⟩⟩)))))))))
theorem Gp:Cal .(a) P w K mg base "_law_stocks" 2 2 sE:=
 V.d9.cal (k:=1) nv .(b) fun f cdv A outer s H E hr=>
  (aD (je 2 nv.nd (cV ay)) (aD (dh dq rfl (gz rfl V.z_range (ai (dC (cu V) hr (ai (ah 0) (ai aA (ai aA ay))) ln3) ay)) (aU 3 nv.nd) (aD (bL 4 nv.nd (dC (cu V) hr (ai (ah 0) (ai (bI aA (ah 3)) (ai aA ay))) ln3)) (aD (lV 5 nv.nd rfl (CompScope.of rfl rfl) (FvOk.of (N':=["_law_k","_law_step_here","_law_cell","_law_j"]) (fv:=[af,af,aa 0,aa 3]) rfl) (o6 rfl V.z_enumerate (ah 1)) ⟨fun _ _ _ _ _=>⟨(gv (n:=2) rfl (cx (aU 0 (show(["_law_k","_law_step_here","_law_cell","_law_j"]:ac aj).Nodup by decide +kernel)) (cx (aU 1 (show(["_law_k","_law_step_here","_law_cell","_law_j"]:ac aj).Nodup by decide +kernel)) fW))),(nM (c9 iI (dC (cu V) hr (ai (ah 2) (ai (bI aA (ah 3)) (ai aA ay))) ln3) (gG (ah 0) aA) (cr _))),(cE (ai (aJ (ah 1) aA) (ai (bI aA (gG (ah 0) aA)) ay)))⟩⟩) (aD (lV 6 nv.nd rfl (CompScope.of rfl rfl) (FvOk.of (N':=["_law_k","_law_step_here","_law_cell","_law_j"]) (fv:=[af,af,aa 0,aa 3]) rfl) (o6 rfl V.z_enumerate (ah 1)) ⟨fun _ _ _ _ _=>⟨(gv (n:=2) rfl (cx (aU 0 (show(["_law_k","_law_step_here","_law_cell","_law_j"]:ac aj).Nodup by decide +kernel)) (cx (aU 1 (show(["_law_k","_law_step_here","_law_cell","_law_j"]:ac aj).Nodup by decide +kernel)) fW))),(nM (c9 iI (dC (cu V) hr (ai (ah 2) (ai (bI aA (ah 3)) (ai aA ay))) ln3) (gG (ah 0) aA) (cr _))),(cE (ai (aJ (ah 1) aA) (ai (bI aA (gG (ah 0) aA)) ay)))⟩⟩) (aG (mG 2 (cE (ai (bI dH (aJ dH (ah 3))) (ai (dC (cu V) hr (ai (ah 0) (ai (bI aA (ah 3)) (ai (bI (ah 4) aA) ay))) ln3) (ai (ah 4) (ai (ah 5) (ai (ah 6) ay)))))))))))) (jv 2 (aG (aS (ah 2))))))
theorem Nr:Cal .(a) P w K mg base "_law_jobs" 4 3 pq:=
 V.d10.cal (k:=2) mC .(b) fun f cdv A outer s H E hr=>
  (aD (je 4 mC.nd (cV ay)) (aD (dh dq rfl (gz rfl V.z_range (ai aA ay)) (aU 5 mC.nd) (aD (lV 6 mC.nd rfl (CompScope.of rfl rfl) (FvOk.of (N':=["_law_j","_law_steps","_law_k","_law_cells"]) (fv:=[af,aa 2,aa 5,aa 1]) rfl) (gz rfl V.z_range (ai (bO dY rfl V.z_len (by rfl) (ai (ah 2) ay)) ay)) ⟨fun _ _ _ _ _=>⟨(aU 0 (show(["_law_j","_law_steps","_law_k","_law_cells"]:ac aj).Nodup by decide +kernel)),(nM (c9 (iJ (fu hr)) (dC (cu V) hr (ai (aJ (ah 3) (gG (ah 0) (bO dY rfl V.z_len (by rfl) (ai (ah 3) ay)))) (ai aA (ai aA ay))) ln3) (ah 2) (cr _))),(aJ (aJ (ah 1) (ah 0)) aA)⟩⟩) (aD (bV (c9 iI (dC (cu V) hr (ai (ah 0) (ai (bI aA (ah 5)) (ai aA ay))) ln3) aA (cr _)) (aG (bL 6 mC.nd (M' (ah 6)))) bY) (aD (bL 7 mC.nd (dC (wZ V) hr (ai (ah 0) (ai (bI aA (ee aA (ah 5))) (ai (pf (ah 3) aA) ay))) ln3)) (aD (bL 8 mC.nd (aJ (DO.de (cV (ai (ah 3) (ai (dC (cu V) hr (ai (ah 0) (ai (bI aA (ah 5)) (ai (bI (ah 3) aA) ay))) ln3) ay)))) (pf (dC (cu V) hr (ai (ah 0) (ai (bI aA (ah 5)) (ai aA ay))) ln3) aA))) (aG (bV (c9 (me (fu hr)) (ah 6) (DO.de (cV ay)) (cr _)) (aG (mG 4 (cE (ai (bI dH (aJ dH (ah 5))) (ai (ah 7) (ai (ah 8) (ai (eD iI (dC (cu V) hr (ai (ah 0) (ai (bI aA (ah 5)) (ai aA ay))) ln3) aA (cr _)) (ai (ah 6) ay)))))))) bY))))))) (jv 4 (aG (aS (ah 4))))))
theorem HD:Cal .(a) P w K mg base "_law_lists" 3 4 sM:=
 V.d11.cal (k:=3) gR .(b) fun f cdv A outer s H E hr=>
  (aD (bL 3 gR.nd (dC (j7 V) hr (ai (ah 0) (ai aA ay)) ln2)) (aD (bL 4 gR.nd (bI (gF (ah 0) (fO aA) (fO (bI aA (ah 1)))) (DO.de (cV (ai (dC (j7 V) hr (ai (ah 0) (ai aA ay)) ln2) ay))))) (aD (bL 5 gR.nd (bO (pd rfl) rfl V.z_min (by rfl) (ai (bO (oo rfl) rfl V.z_max (by rfl) (ai aA (ai (vK (bO dY rfl V.z_len (by rfl) (ai (ah 0) ay)) aA) ay))) (ai (ah 1) ay)))) (aD (je 6 gR.nd (cV ay)) (aD (dh dq rfl (gz rfl V.z_range (ai (bI aA (dC (cu V) hr (ai (ah 3) (ai aA (ai (aJ (DO.de (cV (ai aA (ai aA (ai aA ay))))) (dC (cu V) hr (ai (ah 3) (ai aA (ai aA ay))) ln3)) ay))) ln3)) ay)) (aU 7 gR.nd) (aG (mG 6 (cE (ai (bI dH (aJ dH (ah 7))) (ai (dC (Ow V) hr (ai (bI (dC (j7 V) hr (ai (ah 0) (ai aA ay)) ln2) (ee aA (ah 7))) (ai aA (ai (ah 2) ay))) ln3) ay)))))) (aD (bL 8 gR.nd (dC (Kd V) hr (ai (dC (j7 V) hr (ai (ah 0) (ai aA ay)) ln2) (ai (ah 5) ay)) ln2)) (jv 6 (aD (lV 9 gR.nd rfl (CompScope.of rfl rfl) (FvOk.of (N':=["_law_k","_law_benches","_law_horizon_here","_law_cells","_law_names_here"]) (fv:=[af,aa 6,aa 2,aa 4,aa 8]) rfl) (gz rfl V.z_range (ai (ah 5) ay)) ⟨fun _ _ _ _ _=>⟨(aU 0 (show(["_law_k","_law_benches","_law_horizon_here","_law_cells","_law_names_here"]:ac aj).Nodup by decide +kernel)),cK,(dC (Js V) hr (ai (aJ (ah 3) (ah 0)) (ai (aJ (ah 4) (ah 0)) (ai (ah 1) (ai (ah 2) ay)))) ln4)⟩⟩) (aD (bL 10 gR.nd (dC (LR V) hr (ai (ah 3) (ai aA (ai (ah 9) ay))) ln3)) (aD (bL 11 gR.nd (dC (Gn V) hr (ai (dC (j7 V) hr (ai (ah 0) (ai aA ay)) ln2) (ai (ah 6) (ai (ah 2) ay))) ln3)) (aD (bL 10 gR.nd (D6 10 (DO.de (cP rfl (CompScope.of rfl rfl) (FvOk.of (N':=["_law_pair","_law_horizon_here","_law_links"]) (fv:=[af,aa 2,aa 10]) rfl) (Bx (ah 10)) ⟨fun _ _ _ _ _=>⟨(aU 0 (show(["_law_pair","_law_horizon_here","_law_links"]:ac aj).Nodup by decide +kernel)),cK,(pT (ah 0) (cE (ai (bO (pd rfl) rfl V.z_min (by rfl) (ai (eC (bH hr) (ah 2) (ah 0)) (ai (ah 1) ay))) ay)))⟩⟩)))) (aD (bL 12 gR.nd (DO.de (cV ay))) (aD (bV (c9 iI (dC (cu V) hr (ai (ah 3) (ai aA (ai aA ay))) ln3) aA (cr _)) (aG (bL 12 gR.nd (dC (Gp V) hr (ai (dC (j7 V) hr (ai (ah 0) (ai aA ay)) ln2) (ai (ah 9) ay)) ln2))) bY) (aG (aS (cE (ai (ah 6) (ai (ah 9) (ai (dC (Nr V) hr (ai (ah 3) (ai (ah 4) (ai (ah 9) (ai (ah 2) ay)))) ln4) (ai (ah 11) (ai (ah 10) (ai (ah 12) (ai (ah 2) ay)))))))))))))))))))))))
theorem xC:CalM .(a) P w K mg base "Shop" "step_names" 1 1 pe:=
 DfnM.cal (k:=0) V.O_Shop V.d12 IN .(b) fun f cdv A outer s H E hr=>
  (aG (aS (DO.de (cP rfl (CompScope.of rfl rfl) (FvOk.of (N':=["row"]) (fv:=[af]) rfl) (bW (cM V.cf_Shop (.tail _ (.head _)) (ah 0))) ⟨fun _ _ _ _ _=>⟨(aU 0 (show(["row"]:ac aj).Nodup by decide +kernel)),cK,(aJ (ah 0) aA)⟩⟩))))
theorem Pp {k:ao} {e9:FQ} (gA:Cal .(a) P w K mg base "fresh" 1 k e9):Cal .(a) P w K mg base "fresh" 1 (k+1) (jk e9):=
 V.d13.cal (k:=k) FB .(b) fun f cdv A outer s H E hr=>
  (aD (bV (bQ (bO i7 rfl V.z_isinstance (by rfl) (ai (ah 0) (ai (iU rfl V.z_list (by rfl)) ay)))) (aG (aS (DO.de (cP rfl (CompScope.of rfl rfl) (FvOk.of (N':=["part"]) (fv:=[af]) rfl) (bW (ah 0)) ⟨fun _ _ _ _ _=>⟨(aU 0 (show(["part"]:ac aj).Nodup by decide +kernel)),cK,(fV gA hr (qx _) rfl (ai (ah 0) ay) ln1)⟩⟩)))) bY) (aD (bV (bQ (bO i7 rfl V.z_isinstance (by rfl) (ai (ah 0) (ai (iU rfl V.z_tuple (by rfl)) ay)))) (aG (aS (iM FN rfl V.z_tuple (by rfl) (ai (DO.de (cP rfl (CompScope.of rfl rfl) (FvOk.of (N':=["part"]) (fv:=[af]) rfl) (bW (ah 0)) ⟨fun _ _ _ _ _=>⟨(aU 0 (show(["part"]:ac aj).Nodup by decide +kernel)),cK,(fV gA hr (qx _) rfl (ai (ah 0) ay) ln1)⟩⟩)) ay)))) bY) (aG (aS (ah 0)))))
theorem gA:Cal .(a) P w K mg base "fresh" 1 8 e9:=by
 have h:∀n,Cal .(a) P w K mg base "fresh" 1 n (jr n):=fun n=>by
  induction n with
  |zero=>exact Dfn.none (ps:=["thing"]) V.d13 .(b)
  |succ n ih=>exact Pp V ih
 exact h 8
theorem GC:CalM .(a) P w K mg base "Shop" "ways_of" 2 9 u5:=
 DfnM.cal (k:=8) V.O_Shop V.d14 Os .(b) fun f cdv A outer s H E hr=>
  (aG (aS (dC (gA V) hr (ai (aJ (eC (bH hr) (cM V.cf_Shop (.tail _ (.tail _ (.tail _ (.tail _ .(d))))) (ah 0)) (ah 1)) aA) ay) ln1)))
theorem HW:CalM .(a) P w K mg base "Shop" "job_of" 2 9 v7:=
 DfnM.cal (k:=8) V.O_Shop V.d15 HE .(b) fun f cdv A outer s H E hr=>
  (aG (aS (dC (gA V) hr (ai (MV (bH hr) (cM V.cf_Shop (.tail _ (.tail _ (.tail _ (.tail _ (.tail _ (.tail _ .(d))))))) (ah 0)) (ah 1)) ay) ln1)))
theorem CN:CalM .(a) P w K mg base "Shop" "last_moment" 1 1 pH:=
 DfnM.cal (k:=0) V.O_Shop V.d16 GS .(b) fun f cdv A outer s H E hr=>
  (aG (aS (cM V.cf_Shop (.tail _ (.tail _ .(d))) (ah 0))))
theorem HK:CalM .(a) P w K mg base "Shop" "bench_rows" 1 9 vR:=
 DfnM.cal (k:=8) V.O_Shop V.d17 Lx .(b) fun f cdv A outer s H E hr=>
  (aG (aS (dC (gA V) hr (ai (cM V.cf_Shop (.head _) (ah 0)) ay) ln1)))
theorem GO:CalM .(a) P w K mg base "Shop" "job_rows" 1 9 sv:=
 DfnM.cal (k:=8) V.O_Shop V.d18 OT .(b) fun f cdv A outer s H E hr=>
  (aG (aS (dC (gA V) hr (ai (cM V.cf_Shop (.tail _ (.tail _ (.head _))) (ah 0)) ay) ln1)))
theorem M5:Cal .(a) P w K mg base "pairs_of" 1 1 n5:=
 V.d19.cal (k:=0) tX .(b) fun f cdv A outer s H E hr=>
  (aD (je 1 tX.nd (cV ay)) (aD (dh dq rfl (o6 rfl V.z_enumerate (ah 0)) (gv (n:=2) rfl (cx (aU 2 tX.nd) (cx (aU 3 tX.nd) fW))) (aG (vF 1 (DO.de (cP rfl (CompScope.of rfl rfl) (FvOk.of (N':=["other","one"]) (fv:=[af,aa 3]) rfl) (bW (gF (ah 0) (fO (bI (ah 2) aA)) iZ)) ⟨fun _ _ _ _ _=>⟨(aU 0 (show(["other","one"]:ac aj).Nodup by decide +kernel)),cK,(cE (ai (ah 1) (ai (ah 0) ay)))⟩⟩))))) (jv 1 (aG (aS (ah 1))))))
theorem Hy:CalM .(a) P w K mg base "Shop" "link_rows" 1 9 tQ:=
 DfnM.cal (k:=8) V.O_Shop V.d20 IS .(b) fun f cdv A outer s H E hr=>
  (aG (aS (dC (gA V) hr (ai (cM V.cf_Shop .(d) (ah 0)) ay) ln1)))
theorem MZ:Cal .(a) P w K mg base "greatest_gaps" 1 10 uV:=
 V.d21.cal (k:=9) lS .(b) fun f cdv A outer s H E hr=>
  (aD (su 1 lS.nd) (aD (dh dq rfl (bW (iR (GO V) hr .(e) (ah 0))) (aU 2 lS.nd) (aG (bV (bQ (aJ (ah 2) aA)) (aG (dh dq rfl (bW (dC (M5 V) hr (ai (aJ (ah 2) aA) ay) ln1)) (aU 3 lS.nd) (aG (kT 1 (bH hr) (ah 3) aA)))) bY))) (aD (dh dq rfl (bW (iR (Hy V) hr .(e) (ah 0))) (gv (n:=3) rfl (cx (aU 4 lS.nd) (cx (aU 5 lS.nd) (cx (aU 6 lS.nd) fW)))) (aG (kT 1 (bH hr) (cE (ai (ah 4) (ai (ah 5) ay))) (ah 6)))) (oY 1 (aG (aS (ah 1)))))))
theorem GW:Cal .(a) P w K mg base "known_orders" 1 11 wP:=
 V.d22.cal (k:=10) o8 .(b) fun f cdv A outer s H E hr=>
  (aD (bL 1 o8.nd (iR (xC V) hr .(e) (ah 0))) (aD (bL 2 o8.nd (dC (MZ V) hr (ai (ah 0) ay) ln1)) (aD (je 3 o8.nd (cV ay)) (aD (dh dq rfl (bW (ah 1)) (aU 4 o8.nd) (aG (vF 3 (DO.de (cP rfl (CompScope.of rfl rfl) (FvOk.of (N':=["other","one","gaps"]) (fv:=[af,aa 4,aa 2]) rfl) (bW (ah 1)) ⟨fun _ _ _ _ _=>⟨(aU 0 (show(["other","one","gaps"]:ac aj).Nodup by decide +kernel)),(nM (c9 (tK (bH hr)) (cE (ai (ah 1) (ai (ah 0) ay))) (ah 2) (by rfl))),(cE (ai (ah 1) (ai (ah 0) (ai (eC (bH hr) (ah 2) (cE (ai (ah 1) (ai (ah 0) ay)))) ay))))⟩⟩))))) (jv 3 (aG (aS (ah 3))))))))
theorem NZ:CalIU .(a) P w K mg base "Grounds" 4 12 [] oU:=
 DfnM.calIU (k:=11) V.O_Grounds V.d23 si .(b) fun f y cdv A outer s H E hr=>
  (aD (oh 0 (V.cf_Grounds.re y) (.head _) (ah 1)) (aD (oh 0 (V.cf_Grounds.re y) (.tail _ (.head _)) (tY (c9 tR (ah 3) il (cr _)) il (iM (o0 rfl (bH hr)) rfl V.z_dict (by rfl) (ai (ah 3) ay)))) (aD (oh 0 (V.cf_Grounds.re y) (.tail _ (.tail _ (.head _))) (ah 4)) (aD (kR 0 (V.cf_Grounds.re y) (.tail _ (.tail _ (.tail _ (.head _))))) (aD (kR 0 (V.cf_Grounds.re y) .(d)) (aD (kR 0 (V.cf_Grounds.re y) (.tail _ .(d))) (aD (kR 0 (V.cf_Grounds.re y) (.tail _ (.tail _ .(d)))) (aD (dh dq rfl (bW (iR ((xC V).re y) hr .(e) (ah 1))) (aU 5 si.nd) (aD (kM 0 (bH hr) (V.cf_Grounds.re y) (.tail _ (.tail _ (.tail _ (.head _)))) (ah 5) (iM (o0 rfl (bH hr)) rfl V.z_dict (by rfl) (ai (gU ((GC V).re y) hr .(e) (ah 1) (ai (ah 5) ay) ln1) ay))) (aD (bL 6 si.nd (gU ((HW V).re y) hr .(e) (ah 1) (ai (ah 5) ay) ln1)) (aD (kM 0 (bH hr) (V.cf_Grounds.re y) .(d) (ah 5) (tY (c9 tR (ah 6) il (cr _)) il (aJ (ah 6) aA))) (aD (kM 0 (bH hr) (V.cf_Grounds.re y) (.tail _ .(d)) (ah 5) (tY (c9 tR (ah 6) il (cr _)) aA (aJ (ah 6) aA))) (aD (bL 7 si.nd (tY (c9 tR (ah 6) il (cr _)) (iR ((CN V).re y) hr .(e) (ah 1)) (aJ (ah 6) aA))) (aG (kM 0 (bH hr) (V.cf_Grounds.re y) (.tail _ (.tail _ .(d))) (ah 5) (bO (Pe rfl) rfl V.z_min (by rfl) (ai (ah 2) (ai (iR ((CN V).re y) hr .(e) (ah 1)) (ai (ah 7) ay)))))))))))) (aD (oh 0 (V.cf_Grounds.re y) (.tail _ (.tail _ (.tail _ .(d)))) (iM (o0 rfl (bH hr)) rfl V.z_dict (by rfl) (ai (iR ((HK V).re y) hr .(e) (ah 1)) ay))) (aG (oh 0 (V.cf_Grounds.re y) (.tail _ (.tail _ (.tail _ (.tail _ .(d))))) (iM (zM rfl (bH hr)) rfl V.z_dict (by rfl) (ai (DO.de (cP rfl (CompScope.of rfl rfl) (FvOk.of (N':=["one","other","gap"]) (fv:=[af,af,af]) rfl) (bW (fV ((GW V).re y) hr .(e) rfl (ai (ah 1) ay) ln1)) ⟨fun _ _ _ _ _=>⟨(gv (n:=3) rfl (cx (aU 0 (show(["one","other","gap"]:ac aj).Nodup by decide +kernel)) (cx (aU 1 (show(["one","other","gap"]:ac aj).Nodup by decide +kernel)) (cx (aU 2 (show(["one","other","gap"]:ac aj).Nodup by decide +kernel)) fW)))),cK,(cE (ai (cE (ai (ah 0) (ai (ah 1) ay))) (ai (ah 2) ay)))⟩⟩)) ay)))))))))))))
theorem vt:CalMU .(a) P w K mg base "Facts" "set_open" 2 1 nW:=
 DfnM.calU (k:=0) V.O_Facts V.d24 F0 .(b) fun f y cdv A outer s H E hr=>
  (aG (kM 0 (bH hr) (V.cf_Facts.re y) (.tail _ (.head _)) (ah 1) (vN 0 (DO.de (Ie rfl (CompScope.of rfl rfl) (FvOk.of (N':=["bench","benches"]) (fv:=[af,aa 2]) rfl) (eC (bH hr) (cM (V.cf_Grounds.re y) (.tail _ (.tail _ (.tail _ (.head _)))) (cM (V.cf_Facts.re y) (.head _) (ah 0))) (ah 1)) ⟨fun _ _ _ _ _=>⟨(aU 0 (show(["bench","benches"]:ac aj).Nodup by decide +kernel)),(nM (c9 (nQ (bH hr)) (ah 0) (ah 1) (by rfl))),(ah 0)⟩⟩)))))
theorem Di:CalMU .(a) P w K mg base "Facts" "set_window" 3 1 pQ:=
 DfnM.calU (k:=0) V.O_Facts V.d25 Gr .(b) fun f y cdv A outer s H E hr=>
  (aD (kM 0 (bH hr) (V.cf_Facts.re y) (.tail _ (.tail _ (.head _))) (ah 1) (ah 2)) (aG (kM 0 (bH hr) (V.cf_Facts.re y) (.tail _ (.tail _ (.tail _ (.head _)))) (ah 1) (ah 3))))
theorem MJ:CalM .(a) P w K mg base "Facts" "end_mark" 2 1 wf:=
 DfnM.cal (k:=0) V.O_Facts V.d26 Ht .(b) fun f cdv A outer s H E hr=>
  (aG (aS (eC (bH hr) (cM V.cf_Grounds (.tail _ (.tail _ .(d))) (cM V.cf_Facts (.head _) (ah 0))) (ah 1))))
theorem Nk:CalM .(a) P w K mg base "Facts" "open_lengths" 2 1 xo:=
 DfnM.cal (k:=0) V.O_Facts V.d27 D5 .(b) fun f cdv A outer s H E hr=>
  (aD (bL 2 D5.nd (eC (bH hr) (cM V.cf_Grounds (.tail _ (.tail _ (.tail _ (.head _)))) (cM V.cf_Facts (.head _) (ah 0))) (ah 1))) (aG (aS (DO.de (cP rfl (CompScope.of rfl rfl) (FvOk.of (N':=["bench","lengths"]) (fv:=[af,aa 2]) rfl) (bW (eC (bH hr) (cM V.cf_Facts (.tail _ (.head _)) (ah 0)) (ah 1))) ⟨fun _ _ _ _ _=>⟨(aU 0 (show(["bench","lengths"]:ac aj).Nodup by decide +kernel)),cK,(eC (bH hr) (ah 1) (ah 0))⟩⟩)))))
theorem NG:CalM .(a) P w K mg base "Facts" "least_of" 2 2 xD:=
 DfnM.cal (k:=1) V.O_Facts V.d28 O8 .(b) fun f cdv A outer s H E hr=>
  (aG (aS (Lm rfl rfl V.z_min (gU (Nk V) hr .(e) (ah 0) (ai (ah 1) ay) ln1))))
theorem AA:CalIU .(a) P w K mg base "Facts" 6 14 [.non,.non,.int 0,.int 0] pD:=
 DfnMD.calIU (k:=13) V.O_Facts V.d29 (fun _=>by repeat constructor) sO (fun _ _ _ _ _ _ _ us its h1 h2=>by apply Gg _ h1 h2;exact fun _ _ _ _ _ _ _=>⟨_,rfl,rfl⟩) fun f y cdv A outer s H E hr=>
  (aD (oh 0 (V.cf_Facts.re y) (.head _) (LX ((NZ V).re y) hr .(e) rfl (ai (ah 1) (ai (ah 2) (ai (ah 4) (ai (ah 5) ay)))) ln4 rfl)) (aD (kR 0 (V.cf_Facts.re y) (.tail _ (.head _))) (aD (kR 0 (V.cf_Facts.re y) (.tail _ (.tail _ (.head _)))) (aD (kR 0 (V.cf_Facts.re y) (.tail _ (.tail _ (.tail _ (.head _))))) (aD (Iz 0 (V.cf_Facts.re y) .(d)) (aD (kR 0 (V.cf_Facts.re y) (.tail _ .(d))) (aG (dh dq rfl (bW (iR ((xC V).re y) hr .(e) (ah 1))) (aU 7 sO.nd) (aD (bL 8 sO.nd (vN 0 (eC (bH hr) (cM (V.cf_Grounds.re y) (.tail _ .(d)) (cM (V.cf_Facts.re y) (.head _) (ah 0))) (ah 7)))) (aG (bV (DW.dt (sY (c9 uf (ah 3) il (cr _)) (xh (c9 (nQ (bH hr)) (ah 7) (ah 3) (by rfl))))) (aD (bL 9 sO.nd (aJ (aJ (ah 3) (ah 7)) aA)) (aD (nL 0 ((vt V).re y) hr .(e) (ai (ah 7) (ai (DO.de (cV (ai (aJ (aJ (ah 3) (ah 7)) aA) ay))) ay)) ln2) (aG (nL 0 ((Di V).re y) hr .(e) (ai (ah 7) (ai (bO (oo rfl) rfl V.z_max (by rfl) (ai (ah 9) (ai (ah 8) ay))) (ai (ah 9) ay))) ln3)))) (aD (nL 0 ((vt V).re y) hr .(e) (BV 0 (ai (ah 7) (ai (iM (Ea rfl) rfl V.z_list (by rfl) (ai (eC (bH hr) (cM (V.cf_Grounds.re y) (.tail _ (.tail _ (.tail _ (.head _)))) (cM (V.cf_Facts.re y) (.head _) (ah 0))) (ah 7)) ay)) ay))) (BA ln2)) (aG (nL 0 ((Di V).re y) hr .(e) (BV 0 (ai (ah 7) (ai (bO (oo rfl) rfl V.z_max (by rfl) (ai (ah 6) (ai (ah 8) ay))) (ai (vK (gU ((MJ V).re y) hr .(e) (ah 0) (ai (ah 7) ay) ln1) (gU ((NG V).re y) hr .(e) (ah 0) (ai (ah 7) ay) ln1)) ay)))) (BA ln3)))))))))))))))
theorem L8:Cal .(a) P w K mg base "is_whole" 1 1 sC:=
 V.d30.cal (k:=0) FD .(b) fun f cdv A outer s H E hr=>
  (aG (aS (dS (bO i7 rfl V.z_isinstance (by rfl) (ai (ah 0) (ai (iU rfl V.z_int (by rfl)) ay))) (er (CY (bO i7 rfl V.z_isinstance (by rfl) (ai (ah 0) (ai (iU rfl V.z_bool (by rfl)) ay))))))))
theorem iS:Cal .(a) P w K mg base "is_within" 3 2 gB:=
 V.d31.cal (k:=1) F9 .(b) fun f cdv A outer s H E hr=>
  (aG (aS (dS (dC (L8 V) hr (ai (ah 0) ay) ln1) (er (xO jW jW (ah 1) (ah 0) (ah 2))))))
theorem kh:Cal .(a) P w K mg base "is_tuple" 2 1 fY:=
 V.d32.cal (k:=0) Km .(b) fun f cdv A outer s H E hr=>
  (aG (aS (dS (bO i7 rfl V.z_isinstance (by rfl) (ai (ah 0) (ai (iU rfl V.z_tuple (by rfl)) ay))) (er (eD iI (bO dY rfl V.z_len (by rfl) (ai (ah 0) ay)) (ah 1) (cr _))))))
theorem Gs:Cal .(a) P w K mg base "is_break" 2 3 sN:=
 V.d33.cal (k:=2) KL .(b) fun f cdv A outer s H E hr=>
  (aD (bV (DW.dt (dX (bX (bQ (dC (kh V) hr (ai (ah 0) (ai aA ay)) ln2))) (dX (bX (bQ (dC (iS V) hr (ai (aJ (ah 0) aA) (ai aA (ai (ah 1) ay))) ln3))) (e6 (bX (bQ (dC (iS V) hr (ai (aJ (ah 0) aA) (ai aA (ai (ah 1) ay))) ln3))))))) (aG (aS dF)) bY) (aG (aS (eD wD (aJ (ah 0) aA) (aJ (ah 0) aA) (cr _)))))
theorem jg:Cal .(a) P w K mg base "is_list" 3 1 gY:=
 V.d34.cal (k:=0) Kb .(b) fun f cdv A outer s H E hr=>
  (aG (aS (dS (bO i7 rfl V.z_isinstance (by rfl) (ai (ah 0) (ai (iU rfl V.z_list (by rfl)) ay))) (er (xO jW jW (ah 1) (bO dY rfl V.z_len (by rfl) (ai (ah 0) ay)) (ah 2))))))
theorem II:Cal .(a) P w K mg base "are_breaks" 2 4 xT:=
 V.d35.cal (k:=3) Mc .(b) fun f cdv A outer s H E hr=>
  (aD (bV (DW.dt (dX (bX (bQ (dC (jg V) hr (ai (ah 0) (ai aA (ai (iq rfl V.k_MOST_BREAKS) ay))) ln3))) (e6 (bX (bQ (bO (ib rfl) rfl V.z_all (by rfl) (ai (DO.de (cP rfl (CompScope.of rfl rfl) (FvOk.of (N':=["row","horizon"]) (fv:=[af,aa 1]) rfl) (bW (ah 0)) ⟨fun _ _ _ _ _=>⟨(aU 0 (show(["row","horizon"]:ac aj).Nodup by decide +kernel)),cK,(dC (Gs V) hr (ai (ah 0) (ai (ah 1) ay)) ln2)⟩⟩)) ay))))))) (aG (aS dF)) bY) (aG (aS (bO (ib rfl) rfl V.z_all (by rfl) (ai (DO.de (cP rfl (CompScope.of rfl rfl) (FvOk.of (N':=["place","breaks"]) (fv:=[af,aa 0]) rfl) (Ii rfl V.z_range (ai aA (ai (bO dY rfl V.z_len (by rfl) (ai (ah 0) ay)) ay))) ⟨fun _ _ _ _ _=>⟨(aU 0 (show(["place","breaks"]:ac aj).Nodup by decide +kernel)),cK,(eD wD (aJ (aJ (ah 1) (vK (ah 0) aA)) aA) (aJ (aJ (ah 1) (ah 0)) aA) (cr _))⟩⟩)) ay)))))
theorem kI:Cal .(a) P w K mg base "is_name" 1 1 jG:=
 V.d36.cal (k:=0) Me .(b) fun f cdv A outer s H E hr=>
  (aD (bV (DW.dt (dX (bX (bQ (bO i7 rfl V.z_isinstance (by rfl) (ai (ah 0) (ai (iU rfl V.z_str (by rfl)) ay))))) (e6 (bX (Jf jW jW aA (bO dY rfl V.z_len (by rfl) (ai (ah 0) ay)) (iq rfl V.k_LONGEST_NAME)))))) (aG (aS dF)) bY) (aG (aS (bO (ib rfl) rfl V.z_all (by rfl) (ai (DO.de (cP rfl (CompScope.of rfl rfl) (FvOk.of (N':=["sign"]) (fv:=[af]) rfl) (NN (ah 0)) ⟨fun _ _ _ _ _=>⟨(aU 0 (show(["sign"]:ac aj).Nodup by decide +kernel)),cK,(xO jW jW dH (ah 0) dH)⟩⟩)) ay)))))
theorem Ov:Cal .(a) P w K mg base "is_bench" 2 5 tG:=
 V.d37.cal (k:=4) Iq .(b) fun f cdv A outer s H E hr=>
  (aG (aS (dS (dC (kh V) hr (ai (ah 0) (ai aA ay)) ln2) (dS (dC (kI V) hr (ai (aJ (ah 0) aA) ay) ln1) (er (dC (II V) hr (ai (aJ (ah 0) aA) (ai (ah 1) ay)) ln2))))))
theorem kj:Cal .(a) P w K mg base "are_unlike" 1 1 fN:=
 V.d38.cal (k:=0) LL .(b) fun f cdv A outer s H E hr=>
  (aG (aS (eD iI (Jo rfl (bH hr) rfl V.z_len rfl V.z_set (ah 0)) (bO dY rfl V.z_len (by rfl) (ai (ah 0) ay)) (cr _))))
theorem Pb:Cal .(a) P w K mg base "are_benches" 2 6 wm:=
 V.d39.cal (k:=5) IB .(b) fun f cdv A outer s H E hr=>
  (aD (bV (DW.dt (dX (bX (bQ (dC (jg V) hr (ai (ah 0) (ai aA (ai (iq rfl V.k_MOST_BENCHES) ay))) ln3))) (e6 (bX (bQ (bO (ib rfl) rfl V.z_all (by rfl) (ai (DO.de (cP rfl (CompScope.of rfl rfl) (FvOk.of (N':=["row","horizon"]) (fv:=[af,aa 1]) rfl) (bW (ah 0)) ⟨fun _ _ _ _ _=>⟨(aU 0 (show(["row","horizon"]:ac aj).Nodup by decide +kernel)),cK,(dC (Ov V) hr (ai (ah 0) (ai (ah 1) ay)) ln2)⟩⟩)) ay))))))) (aG (aS dF)) bY) (aG (aS .(g))))
theorem nO:Cal .(a) P w K mg base "is_one_of" 2 2 j6:=
 V.d40.cal (k:=1) MK .(b) fun f cdv A outer s H E hr=>
  (aG (aS (dS (dC (kI V) hr (ai (ah 0) ay) ln1) (er (eD (nQ (bH hr)) (ah 0) (ah 1) (by rfl))))))
theorem Nj:Cal .(a) P w K mg base "is_way" 3 3 t7:=
 V.d41.cal (k:=2) NH .(b) fun f cdv A outer s H E hr=>
  (aG (aS (dS (dC (kh V) hr (ai (ah 0) (ai aA ay)) ln2) (dS (dC (nO V) hr (ai (aJ (ah 0) aA) (ai (ah 1) ay)) ln2) (er (dC (iS V) hr (ai (aJ (ah 0) aA) (ai aA (ai (ah 2) ay))) ln3))))))
theorem MC:Cal .(a) P w K mg base "are_ways" 3 4 wX:=
 V.d42.cal (k:=3) Oi .(b) fun f cdv A outer s H E hr=>
  (aD (bV (DW.dt (dX (bX (bQ (dC (jg V) hr (ai (ah 0) (ai aA (ai (iq rfl V.k_MOST_WAYS) ay))) ln3))) (e6 (bX (bQ (bO (ib rfl) rfl V.z_all (by rfl) (ai (DO.de (cP rfl (CompScope.of rfl rfl) (FvOk.of (N':=["row","bench_names","horizon"]) (fv:=[af,aa 1,aa 2]) rfl) (bW (ah 0)) ⟨fun _ _ _ _ _=>⟨(aU 0 (show(["row","bench_names","horizon"]:ac aj).Nodup by decide +kernel)),cK,(dC (Nj V) hr (ai (ah 0) (ai (ah 1) (ai (ah 2) ay))) ln3)⟩⟩)) ay))))))) (aG (aS dF)) bY) (aG (aS .(g))))
theorem GL:Cal .(a) P w K mg base "is_step" 3 5 sI:=
 V.d43.cal (k:=4) MW .(b) fun f cdv A outer s H E hr=>
  (aD (bV (DW.dt (dX (bX (bQ (dC (kh V) hr (ai (ah 0) (ai aA ay)) ln2))) (dX (bX (bQ (dC (kI V) hr (ai (aJ (ah 0) aA) ay) ln1))) (e6 (bX (bQ (dC (kI V) hr (ai (aJ (ah 0) aA) ay) ln1))))))) (aG (aS dF)) bY) (aG (aS (dC (MC V) hr (ai (aJ (ah 0) aA) (ai (ah 1) (ai (ah 2) ay))) ln3))))
theorem JI:Cal .(a) P w K mg base "are_steps" 3 6 wz:=
 V.d44.cal (k:=5) MY .(b) fun f cdv A outer s H E hr=>
  (aD (bV (DW.dt (dX (bX (bQ (dC (jg V) hr (ai (ah 0) (ai aA (ai (iq rfl V.k_MOST_STEPS) ay))) ln3))) (e6 (bX (bQ (bO (ib rfl) rfl V.z_all (by rfl) (ai (DO.de (cP rfl (CompScope.of rfl rfl) (FvOk.of (N':=["row","bench_names","horizon"]) (fv:=[af,aa 1,aa 2]) rfl) (bW (ah 0)) ⟨fun _ _ _ _ _=>⟨(aU 0 (show(["row","bench_names","horizon"]:ac aj).Nodup by decide +kernel)),cK,(dC (GL V) hr (ai (ah 0) (ai (ah 1) (ai (ah 2) ay))) ln3)⟩⟩)) ay))))))) (aG (aS dF)) bY) (aG (aS .(g))))
theorem JD:Cal .(a) P w K mg base "is_job" 3 3 vX:=
 V.d45.cal (k:=2) IK .(b) fun f cdv A outer s H E hr=>
  (aD (bV (DW.dt (dX (bX (bQ (dC (kh V) hr (ai (ah 0) (ai aA ay)) ln2))) (dX (bX (bQ (dC (kI V) hr (ai (aJ (ah 0) aA) ay) ln1))) (e6 (bX (bQ (bO i7 rfl V.z_isinstance (by rfl) (ai (aJ (ah 0) aA) (ai (iU rfl V.z_bool (by rfl)) ay))))))))) (aG (aS dF)) bY) (aD (bV (DW.dt (dX (bX (bQ (dC (iS V) hr (ai (aJ (ah 0) aA) (ai aA (ai (ah 2) ay))) ln3))) (e6 (bX (bQ (dC (iS V) hr (ai (aJ (ah 0) aA) (ai aA (ai (ah 2) ay))) ln3)))))) (aG (aS dF)) bY) (aG (aS (dS (dC (jg V) hr (ai (aJ (ah 0) aA) (ai aA (ai (bO dY rfl V.z_len (by rfl) (ai (ah 1) ay)) ay))) ln3) (er (bO (ib rfl) rfl V.z_all (by rfl) (ai (DO.de (cP rfl (CompScope.of rfl rfl) (FvOk.of (N':=["name","step_names"]) (fv:=[af,aa 1]) rfl) (bW (aJ (ah 0) aA)) ⟨fun _ _ _ _ _=>⟨(aU 0 (show(["name","step_names"]:ac aj).Nodup by decide +kernel)),cK,(dC (nO V) hr (ai (ah 0) (ai (ah 1) ay)) ln2)⟩⟩)) ay))))))))
theorem Nw:Cal .(a) P w K mg base "are_jobs" 3 4 wY:=
 V.d46.cal (k:=3) vQ .(b) fun f cdv A outer s H E hr=>
  (aD (bV (DW.dt (dX (bX (bQ (dC (jg V) hr (ai (ah 0) (ai aA (ai (iq rfl V.k_MOST_JOBS) ay))) ln3))) (e6 (bX (bQ (bO (ib rfl) rfl V.z_all (by rfl) (ai (DO.de (cP rfl (CompScope.of rfl rfl) (FvOk.of (N':=["row","step_names","horizon"]) (fv:=[af,aa 1,aa 2]) rfl) (bW (ah 0)) ⟨fun _ _ _ _ _=>⟨(aU 0 (show(["row","step_names","horizon"]:ac aj).Nodup by decide +kernel)),cK,(dC (JD V) hr (ai (ah 0) (ai (ah 1) (ai (ah 2) ay))) ln3)⟩⟩)) ay))))))) (aG (aS dF)) bY) (aD (je 3 vQ.nd (cV ay)) (aD (dh dq rfl (bW (ah 0)) (aU 4 vQ.nd) (aG (vF 3 (aJ (ah 4) aA)))) (jv 3 (aG (aS (dS .(g) (er (dC (kj V) hr (ai (ah 3) ay) ln1)))))))))
theorem LD:Cal .(a) P w K mg base "is_setup" 3 3 tt:=
 V.d47.cal (k:=2) Kg .(b) fun f cdv A outer s H E hr=>
  (aD (bV (DW.dt (dX (bX (bQ (dC (kh V) hr (ai (ah 0) (ai aA ay)) ln2))) (e6 (bX (bQ (dC (nO V) hr (ai (aJ (ah 0) aA) (ai (ah 1) ay)) ln2)))))) (aG (aS dF)) bY) (aG (aS (dS (dC (kI V) hr (ai (aJ (ah 0) aA) ay) ln1) (dS (dC (kI V) hr (ai (aJ (ah 0) aA) ay) ln1) (er (dC (iS V) hr (ai (aJ (ah 0) aA) (ai aA (ai (ah 2) ay))) ln3)))))))
theorem M4:Cal .(a) P w K mg base "are_setups" 3 4 wF:=
 V.d48.cal (k:=3) Pm .(b) fun f cdv A outer s H E hr=>
  (aD (bV (DW.dt (dX (bX (bQ (dC (jg V) hr (ai (ah 0) (ai aA (ai (iq rfl V.k_MOST_SETUPS) ay))) ln3))) (e6 (bX (bQ (bO (ib rfl) rfl V.z_all (by rfl) (ai (DO.de (cP rfl (CompScope.of rfl rfl) (FvOk.of (N':=["row","bench_names","horizon"]) (fv:=[af,aa 1,aa 2]) rfl) (bW (ah 0)) ⟨fun _ _ _ _ _=>⟨(aU 0 (show(["row","bench_names","horizon"]:ac aj).Nodup by decide +kernel)),cK,(dC (LD V) hr (ai (ah 0) (ai (ah 1) (ai (ah 2) ay))) ln3)⟩⟩)) ay))))))) (aG (aS dF)) bY) (aG (aS (dC (kj V) hr (ai (DO.de (cP rfl (CompScope.of rfl rfl) (FvOk.of (N':=["row"]) (fv:=[af]) rfl) (bW (ah 0)) ⟨fun _ _ _ _ _=>⟨(aU 0 (show(["row"]:ac aj).Nodup by decide +kernel)),cK,(gF (ah 0) iZ (fO aA))⟩⟩)) ay) ln1))))
theorem OV:Cal .(a) P w K mg base "is_link" 3 3 sy:=
 V.d49.cal (k:=2) Hf .(b) fun f cdv A outer s H E hr=>
  (aD (bV (DW.dt (dX (bX (bQ (dC (kh V) hr (ai (ah 0) (ai aA ay)) ln2))) (dX (bX (bQ (dC (nO V) hr (ai (aJ (ah 0) aA) (ai (ah 1) ay)) ln2))) (e6 (bX (bQ (dC (nO V) hr (ai (aJ (ah 0) aA) (ai (ah 1) ay)) ln2))))))) (aG (aS dF)) bY) (aG (aS (dS (eD (me (fu hr)) (aJ (ah 0) aA) (aJ (ah 0) aA) (cr _)) (er (dC (iS V) hr (ai (aJ (ah 0) aA) (ai aA (ai (ah 2) ay))) ln3))))))
theorem NB:Cal .(a) P w K mg base "are_links" 3 4 xE:=
 V.d50.cal (k:=3) HS .(b) fun f cdv A outer s H E hr=>
  (aD (bV (DW.dt (dX (bX (bQ (dC (jg V) hr (ai (ah 0) (ai aA (ai (iq rfl V.k_MOST_LINKS) ay))) ln3))) (e6 (bX (bQ (bO (ib rfl) rfl V.z_all (by rfl) (ai (DO.de (cP rfl (CompScope.of rfl rfl) (FvOk.of (N':=["row","step_names","horizon"]) (fv:=[af,aa 1,aa 2]) rfl) (bW (ah 0)) ⟨fun _ _ _ _ _=>⟨(aU 0 (show(["row","step_names","horizon"]:ac aj).Nodup by decide +kernel)),cK,(dC (OV V) hr (ai (ah 0) (ai (ah 1) (ai (ah 2) ay))) ln3)⟩⟩)) ay))))))) (aG (aS dF)) bY) (aG (aS (dC (kj V) hr (ai (DO.de (cP rfl (CompScope.of rfl rfl) (FvOk.of (N':=["row"]) (fv:=[af]) rfl) (bW (ah 0)) ⟨fun _ _ _ _ _=>⟨(aU 0 (show(["row"]:ac aj).Nodup by decide +kernel)),cK,(gF (ah 0) iZ (fO aA))⟩⟩)) ay) ln1))))
theorem Hc:Cal .(a) P w K mg base "is_amount" 2 3 sx:=
 V.d51.cal (k:=2) HQ .(b) fun f cdv A outer s H E hr=>
  (aG (aS (dS (dC (kh V) hr (ai (ah 0) (ai aA ay)) ln2) (dS (dC (nO V) hr (ai (aJ (ah 0) aA) (ai (ah 1) ay)) ln2) (er (dC (iS V) hr (ai (aJ (ah 0) aA) (ai aA (ai (iq rfl V.k_MOST_AMOUNT) ay))) ln3))))))
theorem zK:Cal .(a) P w K mg base "are_amounts" 2 4 tN:=
 V.d52.cal (k:=3) Pk .(b) fun f cdv A outer s H E hr=>
  (aD (bV (DW.dt (dX (bX (bQ (dC (jg V) hr (ai (ah 0) (ai aA (ai (bO dY rfl V.z_len (by rfl) (ai (ah 1) ay)) ay))) ln3))) (e6 (bX (bQ (bO (ib rfl) rfl V.z_all (by rfl) (ai (DO.de (cP rfl (CompScope.of rfl rfl) (FvOk.of (N':=["row","step_names"]) (fv:=[af,aa 1]) rfl) (bW (ah 0)) ⟨fun _ _ _ _ _=>⟨(aU 0 (show(["row","step_names"]:ac aj).Nodup by decide +kernel)),cK,(dC (Hc V) hr (ai (ah 0) (ai (ah 1) ay)) ln2)⟩⟩)) ay))))))) (aG (aS dF)) bY) (aG (aS .(g))))
theorem LZ:Cal .(a) P w K mg base "is_stock" 2 5 tH:=
 V.d53.cal (k:=4) Nm .(b) fun f cdv A outer s H E hr=>
  (aD (bV (DW.dt (dX (bX (bQ (dC (kh V) hr (ai (ah 0) (ai aA ay)) ln2))) (e6 (bX (bQ (dC (kI V) hr (ai (aJ (ah 0) aA) ay) ln1)))))) (aG (aS dF)) bY) (aD (bV (DW.dt (dX (bX (bQ (dC (iS V) hr (ai (aJ (ah 0) aA) (ai aA (ai (iq rfl V.k_MOST_AMOUNT) ay))) ln3))) (e6 (bX (bQ (dC (iS V) hr (ai (aJ (ah 0) aA) (ai aA (ai (aJ (ah 0) aA) ay))) ln3)))))) (aG (aS dF)) bY) (aG (aS (dS (dC (zK V) hr (ai (aJ (ah 0) aA) (ai (ah 1) ay)) ln2) (er (dC (zK V) hr (ai (aJ (ah 0) aA) (ai (ah 1) ay)) ln2)))))))
theorem Jd:Cal .(a) P w K mg base "are_stocks" 2 6 uS:=
 V.d54.cal (k:=5) OQ .(b) fun f cdv A outer s H E hr=>
  (aD (bV (DW.dt (dX (bX (bQ (dC (jg V) hr (ai (ah 0) (ai aA (ai (iq rfl V.k_MOST_STOCKS) ay))) ln3))) (e6 (bX (bQ (bO (ib rfl) rfl V.z_all (by rfl) (ai (DO.de (cP rfl (CompScope.of rfl rfl) (FvOk.of (N':=["row","step_names"]) (fv:=[af,aa 1]) rfl) (bW (ah 0)) ⟨fun _ _ _ _ _=>⟨(aU 0 (show(["row","step_names"]:ac aj).Nodup by decide +kernel)),cK,(dC (LZ V) hr (ai (ah 0) (ai (ah 1) ay)) ln2)⟩⟩)) ay))))))) (aG (aS dF)) bY) (aG (aS .(g))))
theorem IL:Cal .(a) P w K mg base "first_bad_part" 7 7 xL:=
 V.d55.cal (k:=6) xI .(b) fun f cdv A outer s H E hr=>
  (aD (bV (bX (bQ (dC (iS V) hr (ai (ah 6) (ai aA (ai (iq rfl V.k_MOST_HORIZON) ay))) ln3))) (aG (aS dH)) bY) (aD (bV (bX (bQ (dC (Pb V) hr (ai (ah 0) (ai (ah 6) ay)) ln2))) (aG (aS dH)) bY) (aD (lV 7 xI.nd rfl (CompScope.of rfl rfl) (FvOk.of (N':=["row"]) (fv:=[af]) rfl) (bW (ah 0)) ⟨fun _ _ _ _ _=>⟨(aU 0 (show(["row"]:ac aj).Nodup by decide +kernel)),cK,(aJ (ah 0) aA)⟩⟩) (aD (bV (bX (bQ (dC (JI V) hr (ai (ah 1) (ai (ah 7) (ai (ah 6) ay))) ln3))) (aG (aS dH)) bY) (aD (lV 8 xI.nd rfl (CompScope.of rfl rfl) (FvOk.of (N':=["row"]) (fv:=[af]) rfl) (bW (ah 1)) ⟨fun _ _ _ _ _=>⟨(aU 0 (show(["row"]:ac aj).Nodup by decide +kernel)),cK,(aJ (ah 0) aA)⟩⟩) (aD (bV (bX (bQ (dC (Nw V) hr (ai (ah 2) (ai (ah 8) (ai (ah 6) ay))) ln3))) (aG (aS dH)) bY) (aD (bV (bX (bQ (dC (M4 V) hr (ai (ah 3) (ai (ah 7) (ai (ah 6) ay))) ln3))) (aG (aS dH)) bY) (aD (bV (bX (bQ (dC (NB V) hr (ai (ah 4) (ai (ah 8) (ai (ah 6) ay))) ln3))) (aG (aS dH)) bY) (aD (bV (bX (bQ (dC (Jd V) hr (ai (ah 5) (ai (ah 8) ay)) ln2))) (aG (aS dH)) bY) (aG (aS il)))))))))))
theorem Of:CalI .(a) P w K mg base "Shop" 7 9 wW:=
 DfnM.calI (k:=8) V.O_Shop V.d56 ue .(b) fun f y cdv A outer s H E hr=>
  (aD (bL 8 ue.nd (fV ((IL V).re y) hr .(e) rfl (ai (ah 1) (ai (ah 2) (ai (ah 3) (ai (ah 4) (ai (ah 5) (ai (ah 6) (ai (ah 7) ay))))))) ln7)) (aD (bV (c9 uf (ah 8) il (cr _)) (aG IE) bY) (aD (jw 0 (V.cf_Shop.re y) (.head _) (fV ((gA V).re y) hr .(e) rfl (ai (ah 1) ay) ln1)) (aD (jw 0 (V.cf_Shop.re y) (.tail _ (.head _)) (fV ((gA V).re y) hr .(e) rfl (ai (ah 2) ay) ln1)) (aD (jw 0 (V.cf_Shop.re y) (.tail _ (.tail _ (.head _))) (fV ((gA V).re y) hr .(e) rfl (ai (ah 3) ay) ln1)) (aD (jw 0 (V.cf_Shop.re y) (.tail _ (.tail _ (.tail _ (.head _)))) (fV ((gA V).re y) hr .(e) rfl (ai (ah 4) ay) ln1)) (aD (jw 0 (V.cf_Shop.re y) .(d) (fV ((gA V).re y) hr .(e) rfl (ai (ah 5) ay) ln1)) (aD (jw 0 (V.cf_Shop.re y) (.tail _ .(d)) (fV ((gA V).re y) hr .(e) rfl (ai (ah 6) ay) ln1)) (aD (jw 0 (V.cf_Shop.re y) (.tail _ (.tail _ .(d))) (ah 7)) (aD (jw 0 (V.cf_Shop.re y) (.tail _ (.tail _ (.tail _ .(d)))) (iM (o0 rfl (bH hr)) rfl V.z_dict (by rfl) (ai (DO.de (cP rfl (CompScope.of rfl rfl) (FvOk.of (N':=["row"]) (fv:=[af]) rfl) (bW (tf 0 (V.cf_Shop.re y) (.head _))) ⟨fun _ _ _ _ _=>⟨(aU 0 (show(["row"]:ac aj).Nodup by decide +kernel)),cK,(cE (ai (aJ (ah 0) aA) (ai (ah 0) ay)))⟩⟩)) ay))) (aD (jw 0 (V.cf_Shop.re y) (.tail _ (.tail _ (.tail _ (.tail _ .(d))))) (iM (o0 rfl (bH hr)) rfl V.z_dict (by rfl) (ai (DO.de (cP rfl (CompScope.of rfl rfl) (FvOk.of (N':=["row"]) (fv:=[af]) rfl) (bW (tf 0 (V.cf_Shop.re y) (.tail _ (.head _)))) ⟨fun _ _ _ _ _=>⟨(aU 0 (show(["row"]:ac aj).Nodup by decide +kernel)),cK,(cE (ai (aJ (ah 0) aA) (ai (ah 0) ay)))⟩⟩)) ay))) (aD (jw 0 (V.cf_Shop.re y) (.tail _ (.tail _ (.tail _ (.tail _ (.tail _ .(d)))))) (iM (zM rfl (bH hr)) rfl V.z_dict (by rfl) (ai (DO.de (cP rfl (CompScope.of rfl rfl) (FvOk.of (N':=["row"]) (fv:=[af]) rfl) (bW (tf 0 (V.cf_Shop.re y) (.tail _ (.tail _ (.tail _ (.head _)))))) ⟨fun _ _ _ _ _=>⟨(aU 0 (show(["row"]:ac aj).Nodup by decide +kernel)),cK,(cE (ai (gF (ah 0) iZ (fO aA)) (ai (aJ (ah 0) aA) ay)))⟩⟩)) ay))) (aD (KG 0 (V.cf_Shop.re y) (.tail _ (.tail _ (.tail _ (.tail _ (.tail _ (.tail _ .(d)))))))) (aG (dh dq rfl (bW (tf 0 (V.cf_Shop.re y) (.tail _ (.tail _ (.head _))))) (aU 9 ue.nd) (aG (dh dq rfl (bW (aJ (ah 9) aA)) (aU 10 ue.nd) (aG (JR 0 (bH hr) (V.cf_Shop.re y) (.tail _ (.tail _ (.tail _ (.tail _ (.tail _ (.tail _ .(d))))))) (ah 10) (ah 9))))))))))))))))))))
theorem Dv:Cal .(a) P w K mg base "_law_shop" 1 11 uc:=
 V.d57.cal (k:=10) NK .(b) fun f cdv A outer s H E hr=>
  (aG (aS (JZ (Of V) hr .(e) rfl (ai (aJ (ah 0) aA) (ai (aJ (ah 0) aA) (ai (aJ (ah 0) aA) (ai (aJ (ah 0) aA) (ai (aJ (ah 0) aA) (ai (aJ (ah 0) aA) (ai (aJ (ah 0) aA) ay))))))) ln7)))
theorem wV:Cal .(a) P w K mg base "_law_known" 1 1 lZ:=
 V.d58.cal (k:=0) ig .(b) fun f cdv A outer s H E hr=>
  (aD (su 1 ig.nd) (aD (dh dq rfl (bW (aJ (ah 0) aA)) (gv (n:=3) rfl (cx (aU 2 ig.nd) (cx (aU 3 ig.nd) (cx (aU 4 ig.nd) fW)))) (aG (kT 1 (bH hr) (cE (ai (ah 2) (ai (ah 3) ay))) (ah 4)))) (aD (dh dq rfl (bW (aJ (ah 0) aA)) (gv (n:=5) rfl (cx (aU 5 ig.nd) (cx (aU 6 ig.nd) (cx (aU 7 ig.nd) (cx (aU 8 ig.nd) (cx (aU 9 ig.nd) fW)))))) (aG (dh dq rfl (gz rfl V.z_range (ai (bO dY rfl V.z_len (by rfl) (ai (ah 9) ay)) ay)) (aU 10 ig.nd) (aG (dh dq rfl (gz rfl V.z_range (ai (ah 10) ay)) (aU 11 ig.nd) (aG (bV (bQ (ah 8)) (aG (kT 1 (bH hr) (cE (ai (aJ (ah 9) (ah 11)) (ai (aJ (ah 9) (ah 10)) ay))) (Md 1 (rZ (bH hr) (ah 1) (cE (ai (aJ (ah 9) (ah 11)) (ai (aJ (ah 9) (ah 10)) ay))) aA)))) bY))))))) (oY 1 (aG (aS (ah 1)))))))
theorem Mu:Cal .(a) P w K mg base "_law_job" 2 1 wJ:=
 V.d59.cal (k:=0) DY .(b) fun f cdv A outer s H E hr=>
  (aD (dh dq rfl (bW (aJ (ah 0) aA)) (aU 2 DY.nd) (aG (bV (c9 (nQ (bH hr)) (ah 1) (aJ (ah 2) aA) (by rfl)) (aG (aS (ah 2))) bY))) (aG (aS il)))
theorem zo:CalM .(a) P w K mg base "Facts" "have_one_bench" 3 1 oq:=
 DfnM.cal (k:=0) V.O_Facts V.d60 KU .(b) fun f cdv A outer s H E hr=>
  (aG (aS (dS (eD iI (bO dY rfl V.z_len (by rfl) (ai (eC (bH hr) (cM V.cf_Facts (.tail _ (.head _)) (ah 0)) (ah 1)) ay)) aA (cr _)) (er (eD (iJ (fu hr)) (eC (bH hr) (cM V.cf_Facts (.tail _ (.head _)) (ah 0)) (ah 1)) (eC (bH hr) (cM V.cf_Facts (.tail _ (.head _)) (ah 0)) (ah 2)) (cr _))))))
theorem Nf:CalM .(a) P w K mg base "Facts" "do_meet" 3 2 vV:=
 DfnM.cal (k:=1) V.O_Facts V.d61 BL .(b) fun f cdv A outer s H E hr=>
  (aD (bV (c9 (iJ (fu hr)) (ah 1) (ah 2) (cr _)) (aG (aS dF)) bY) (aD (bL 3 BL.nd (eC (bH hr) (cM V.cf_Grounds .(d) (cM V.cf_Facts (.head _) (ah 0))) (ah 1))) (aG (aS (sW (dS (eD uf (ah 3) il (cr _)) (er (eD (iJ (fu hr)) (ah 3) (eC (bH hr) (cM V.cf_Grounds .(d) (cM V.cf_Facts (.head _) (ah 0))) (ah 2)) (cr _)))) (er (gU (zo V) hr .(e) (ah 0) (ai (ah 1) (ai (ah 2) ay)) ln2)))))))
theorem Ob:CalM .(a) P w K mg base "Facts" "is_ahead" 3 1 wa:=
 DfnM.cal (k:=0) V.O_Facts V.d62 Gh .(b) fun f cdv A outer s H E hr=>
  (aG (aS (sW (eD (tK (bH hr)) (cE (ai (ah 1) (ai (ah 2) ay))) (cM V.cf_Grounds (.tail _ (.tail _ (.tail _ (.tail _ .(d))))) (cM V.cf_Facts (.head _) (ah 0))) (by rfl)) (er (eD (tK (bH hr)) (cE (ai (ah 1) (ai (ah 2) ay))) (cM V.cf_Facts .(d) (ah 0)) (by rfl))))))
theorem M3:CalM .(a) P w K mg base "Facts" "shop" 1 1 Cb:=
 DfnM.cal (k:=0) V.O_Facts V.d63 JN .(b) fun f cdv A outer s H E hr=>
  (aG (aS (cM V.cf_Grounds (.head _) (cM V.cf_Facts (.head _) (ah 0)))))
theorem K3:CalM .(a) P w K mg base "Shop" "setup_of" 4 1 w9:=
 DfnM.cal (k:=0) V.O_Shop V.d64 Lk .(b) fun f cdv A outer s H E hr=>
  (aG (aS (rZ (bH hr) (cM V.cf_Shop (.tail _ (.tail _ (.tail _ (.tail _ (.tail _ .(d)))))) (ah 0)) (cE (ai (ah 1) (ai (ah 2) (ai (ah 3) ay)))) aA)))
theorem AO:CalM .(a) P w K mg base "Shop" "kind_of" 2 1 tI:=
 DfnM.cal (k:=0) V.O_Shop V.d65 Ld .(b) fun f cdv A outer s H E hr=>
  (aG (aS (aJ (eC (bH hr) (cM V.cf_Shop (.tail _ (.tail _ (.tail _ (.tail _ .(d))))) (ah 0)) (ah 1)) aA)))
theorem GE:CalM .(a) P w K mg base "Facts" "gap_of" 3 2 xJ:=
 DfnM.cal (k:=1) V.O_Facts V.d66 vD .(b) fun f cdv A outer s H E hr=>
  (aD (bL 3 vD.nd (rZ (bH hr) (cM V.cf_Grounds (.tail _ (.tail _ (.tail _ (.tail _ .(d))))) (cM V.cf_Facts (.head _) (ah 0))) (cE (ai (ah 1) (ai (ah 2) ay))) aA)) (aD (bV (bX (bQ (gU (zo V) hr .(e) (ah 0) (ai (ah 1) (ai (ah 2) ay)) ln2))) (aG (aS (ah 3))) bY) (aD (bL 4 vD.nd (iR (M3 V) hr .(e) (ah 0))) (aG (aS (bO (oo rfl) rfl V.z_max (by rfl) (ai (ah 3) (ai (gU (K3 V) hr .(e) (ah 4) (ai (aJ (eC (bH hr) (cM V.cf_Facts (.tail _ (.head _)) (ah 0)) (ah 1)) aA) (ai (gU (AO V) hr .(e) (ah 4) (ai (ah 1) ay) ln1) (ai (gU (AO V) hr .(e) (ah 4) (ai (ah 2) ay) ln1) ay))) ln3) ay))))))))
theorem IQ:Cal .(a) P w K mg base "_law_whole" 2 1 u7:=
 V.d67.cal (k:=0) IV .(b) fun f cdv A outer s H E hr=>
  (aG (aS (dS (bO i7 rfl V.z_isinstance (by rfl) (ai (ah 0) (ai (iU rfl V.z_int (by rfl)) ay))) (dS (CY (bO i7 rfl V.z_isinstance (by rfl) (ai (ah 0) (ai (iU rfl V.z_bool (by rfl)) ay)))) (er (eD (iJ (fu hr)) (ah 0) (ah 1) (cr _)))))))
theorem u9:Cal .(a) P w K mg base "_law_right" 5 3 l':=
 V.d68.cal (k:=2) gq .(b) fun f cdv A outer s H E hr=>
  (aD (Hv (ah 2) (Kz (n:=3) rfl (cx (aU 5 gq.nd) (cx (aU 6 gq.nd) (cx (aU 7 gq.nd) fW))))) (aD (bL 8 gq.nd (dS (eD iI (bO dY rfl V.z_len (by rfl) (ai (eC (bH hr) (ah 5) (aJ (ah 3) aA)) ay)) aA (cr _)) (er (eD (iJ (fu hr)) (eC (bH hr) (ah 5) (aJ (ah 3) aA)) (eC (bH hr) (ah 5) (aJ (ah 4) aA)) (cr _))))) (aD (bL 9 gq.nd (dC (Mu V) hr (ai (ah 1) (ai (aJ (ah 3) aA) ay)) ln2)) (aD (bL 10 gq.nd (rZ (bH hr) (ah 7) (cE (ai (aJ (ah 3) aA) (ai (aJ (ah 4) aA) ay))) aA)) (aD (bV (bQ (ah 8)) (aG (dh dq rfl (bW (aJ (ah 1) aA)) (gv (n:=4) rfl (cx (aU 11 gq.nd) (cx (aU 12 gq.nd) (cx (aU 13 gq.nd) (cx (aU 14 gq.nd) fW))))) (aG (bV (DW.dt (sY (c9 (iJ (fu hr)) (DO.de (cV (ai (ah 11) ay))) (eC (bH hr) (ah 5) (aJ (ah 3) aA)) (cr _)) (sY (c9 (iJ (fu hr)) (ah 12) (aJ (ah 3) aA) (cr _)) (xh (c9 (iJ (fu hr)) (ah 13) (aJ (ah 4) aA) (cr _)))))) (aG (bL 10 gq.nd (bO (oo rfl) rfl V.z_max (by rfl) (ai (ah 10) (ai (ah 14) ay))))) bY)))) bY) (aD (bL 15 gq.nd (sW (ah 8) (er (dS (eD uf (ah 9) il (cr _)) (er (eD (nQ (bH hr)) (aJ (ah 4) aA) (aJ (ah 9) aA) (by rfl))))))) (aD (bL 16 gq.nd (sW (eD (tK (bH hr)) (cE (ai (aJ (ah 3) aA) (ai (aJ (ah 4) aA) ay))) (ah 7) (by rfl)) (er (eD (nQ (bH hr)) (cE (ai (aJ (ah 3) aA) (ai (aJ (ah 4) aA) ay))) (ah 6) (by rfl))))) (aD (bL 17 gq.nd (DO.de (cV (ai (gU (Ob V) hr .(e) (ah 0) (ai (aJ (ah 3) aA) (ai (aJ (ah 4) aA) ay)) ln2) (ai (gU (Nf V) hr .(e) (ah 0) (ai (aJ (ah 3) aA) (ai (aJ (ah 4) aA) ay)) ln2) ay))))) (aD (bV (DW.dt (dX (c9 (me (fu hr)) (DO.de (cP rfl (CompScope.of rfl rfl) (FvOk.of (N':=["_law_told"]) (fv:=[af]) rfl) (bW (ah 17)) ⟨fun _ _ _ _ _=>⟨(aU 0 (show(["_law_told"]:ac aj).Nodup by decide +kernel)),cK,(bO i7 rfl V.z_isinstance (by rfl) (ai (ah 0) (ai (iU rfl V.z_bool (by rfl)) ay)))⟩⟩)) (DO.de (cV (ai dF (ai dF ay)))) (cr _)) (e6 (c9 (me (fu hr)) (ah 17) (DO.de (cV (ai (ah 16) (ai (ah 15) ay)))) (cr _))))) (aG (aS dF)) bY) (aG (aS (dC (IQ V) hr (ai (gU (GE V) hr .(e) (ah 0) (ai (aJ (ah 3) aA) (ai (aJ (ah 4) aA) ay)) ln2) (ai (ah 10) ay)) ln2))))))))))))
theorem J9:CalU .(a) P w K mg base "_law_put" "Facts" 2 2 sF:=
 Dfn.calU (k:=1) V.d69 kA .(b) fun f y cdv A outer s H E hr=>
  (aD (AW 3 kA.nd) (aD (dh dq rfl (o6 rfl V.z_enumerate (aJ (ah 1) aA)) (gv (n:=2) rfl (cx (aU 4 kA.nd) (cx (aU 5 kA.nd) fW))) (aD (bL 6 kA.nd (aJ (ah 2) (gG (ah 4) (bO dY rfl V.z_len (by rfl) (ai (ah 2) ay))))) (aD (lV 7 kA.nd rfl (CompScope.of rfl rfl) (FvOk.of (N':=["_law_bench","_law_length"]) (fv:=[af,af]) rfl) (bW (aJ (ah 5) aA)) ⟨fun _ _ _ _ _=>⟨(gv (n:=2) rfl (cx (aU 0 (show(["_law_bench","_law_length"]:ac aj).Nodup by decide +kernel)) (cx (aU 1 (show(["_law_bench","_law_length"]:ac aj).Nodup by decide +kernel)) fW))),cK,(ah 0)⟩⟩) (aD (bV (c9 Ci (fV ((cu V).re y) hr .(e) rfl (ai (ah 6) (ai aA (ai aA ay))) ln3) aA (cr _)) (aD (bL 8 kA.nd (fV ((cu V).re y) hr .(e) rfl (ai (ah 6) (ai aA (ai (bO dY rfl V.z_len (by rfl) (ai (ah 7) ay)) ay))) ln3)) (aG (bL 7 kA.nd (gF (ah 7) (fO (ah 8)) (fO (bI (ah 8) aA)))))) bY) (aD (nL 0 ((vt V).re y) hr .(e) (ai (aJ (ah 5) aA) (ai (ah 7) ay)) ln2) (aG (kT 3 (bH hr) (aJ (ah 5) aA) (ah 7)))))))) (oY 3 (aG (aS (ah 3))))))
theorem F2:CalMU .(a) P w K mg base "Facts" "put_order" 2 1 uh:=
 DfnM.calU (k:=0) V.O_Facts V.d70 G6 .(b) fun f y cdv A outer s H E hr=>
  (aG (kM 0 (bH hr) (V.cf_Facts.re y) .(d) (cE (ai (ah 1) (ai (ah 2) ay))) dF))
theorem N6:CalU .(a) P w K mg base "_law_orders" "Facts" 2 2 sB:=
 Dfn.calU (k:=1) V.d71 ph .(b) fun f y cdv A outer s H E hr=>
  (aD (je 3 ph.nd (cV ay)) (aD (dh dq rfl (gz rfl V.z_range (ai (fV ((cu V).re y) hr .(e) rfl (ai (ah 2) (ai aA (ai aA ay))) ln3) ay)) (aU 4 ph.nd) (aD (bL 5 ph.nd (aJ (aJ (aJ (ah 1) aA) (fV ((cu V).re y) hr .(e) rfl (ai (ah 2) (ai (bI aA (ee aA (ah 4))) (ai (bO dY rfl V.z_len (by rfl) (ai (aJ (ah 1) aA) ay)) ay))) ln3)) aA)) (aD (bL 6 ph.nd (aJ (aJ (aJ (ah 1) aA) (fV ((cu V).re y) hr .(e) rfl (ai (ah 2) (ai (bI aA (ee aA (ah 4))) (ai (bO dY rfl V.z_len (by rfl) (ai (aJ (ah 1) aA) ay)) ay))) ln3)) aA)) (aG (bV (c9 (me (fu hr)) (ah 5) (ah 6) (cr _)) (aD (nL 0 ((F2 V).re y) hr .(e) (ai (ah 5) (ai (ah 6) ay)) ln2) (aG (bV (MI 3 (c9 (Ke (bH hr)) (cE (ai (ah 5) (ai (ah 6) ay))) (ah 3) (by rfl))) (aG (mG 3 (cE (ai (ah 5) (ai (ah 6) ay))))) bY))) bY))))) (jv 3 (aG (aS (ah 3))))))
theorem JH:CalM .(a) P w K mg base "Facts" "noted" 1 1 C2:=
 DfnM.cal (k:=0) V.O_Facts V.d72 Hz .(b) fun f cdv A outer s H E hr=>
  (aG (aS (iM (Ea rfl) rfl V.z_list (by rfl) (ai (cM V.cf_Facts (.tail _ .(d)) (ah 0)) ay))))
theorem Nu:CalM .(a) P w K mg base "Facts" "orders" 1 1 vE:=
 DfnM.cal (k:=0) V.O_Facts V.d73 HC .(b) fun f cdv A outer s H E hr=>
  (aG (aS (iM (Fv rfl) rfl V.z_list (by rfl) (ai (cM V.cf_Facts .(d) (ah 0)) ay))))
theorem GI  (f:aw) (cdv:ax) (A:dB) (outer:ac cZ) (s:aI) (H:Hp) (E:XK) (hr:Room 15 (A.deeper (dO "law" (aL (top 76)) s.heap.objs.size f cdv))):DSs .(a) (e7 CX0 P w K mg base ["_law_script","_law_lists_here","_law_bare","_law_beside","_law_facts","_law_first","_law_name","_law_kind","_law_ways","_law_pairs_here","_law_one","_law_other","_law_benches","_law_orders_here"] "law" (aL (top 76)) f cdv A outer s H E).nox (c8 (top 76)) As:=
  (aD (bL 1 fD.nd (dC (HD V) hr (ai (ah 0) (ai aA (ai (dC (Mm V) hr (ai (ah 0) ay) ln1) ay))) ln3)) (aD (bL 2 fD.nd (pT (pT (gF (ah 1) iZ (fO aA)) (cE (ai (DO.de (cV ay)) ay))) (gF (ah 1) (fO aA) iZ))) (aD (Ck 3 fD.nd (AA V) hr .(e) rfl (ai (dC (Dv V) hr (ai (ah 2) ay) ln1) (ai (aJ (ah 1) aA) ay)) ln2 rfl) (aD (Ck 4 fD.nd (AA V) hr .(e) rfl (ai (dC (Dv V) hr (ai (ah 1) ay) ln1) (ai (aJ (ah 1) aA) ay)) ln2 rfl) (aD (AW 5 fD.nd) (aD (dh dq rfl (bW (aJ (ah 1) aA)) (gv (n:=3) rfl (cx (aU 6 fD.nd) (cx (aU 7 fD.nd) (cx (aU 8 fD.nd) fW)))) (aG (kT 5 (bH hr) (ah 6) (DO.de (cP rfl (CompScope.of rfl rfl) (FvOk.of (N':=["_law_bench","_law_length"]) (fv:=[af,af]) rfl) (bW (ah 8)) ⟨fun _ _ _ _ _=>⟨(gv (n:=2) rfl (cx (aU 0 (show(["_law_bench","_law_length"]:ac aj).Nodup by decide +kernel)) (cx (aU 1 (show(["_law_bench","_law_length"]:ac aj).Nodup by decide +kernel)) fW))),cK,(ah 0)⟩⟩))))) (aD (bL 9 fD.nd (DO.de (cV ay))) (aD (dh dq rfl (bW (aJ (ah 1) aA)) (aU 10 fD.nd) (aG (bL 9 fD.nd (bI (ah 9) (DO.de (cP rfl (CompScope.of rfl rfl) (FvOk.of (N':=["_law_other","_law_one"]) (fv:=[af,aa 10]) rfl) (bW (aJ (ah 1) aA)) ⟨fun _ _ _ _ _=>⟨(aU 0 (show(["_law_other","_law_one"]:ac aj).Nodup by decide +kernel)),(nM (c9 (me (fu hr)) (ah 0) (ah 1) (cr _))),(cE (ai (ah 1) (ai (ah 0) ay)))⟩⟩)))))) (aD (dh dq rfl (bW (ah 9)) (gv (n:=2) rfl (cx (aU 10 fD.nd) (cx (aU 11 fD.nd) fW))) (aG (bV (CK 5 (uT 4 (bX (bQ (dC (u9 V) hr (ai (ah 4) (ai (ah 1) (ai (DO.de (cV (ai (ah 5) (ai (DO.de (cV ay)) (ai (dC (wV V) hr (ai (ah 1) ay) ln1) ay))))) (ai (ah 10) (ai (ah 11) ay))))) ln5))))) (aG (aS dF)) bY))) (aD (Av 12 4 fD.nd (J9 V) hr .(e) rfl (ai (ah 1) (ai (bI (gF (ah 0) (fO aA) (fO aA)) (DO.de (cV (ai (dC (j7 V) hr (ai (ah 0) (ai aA ay)) ln2) ay)))) ay)) ln2) (aD (Av 13 4 fD.nd (N6 V) hr .(e) rfl (ai (ah 1) (ai (dC (j7 V) hr (ai (ah 0) (ai aA ay)) ln2) ay)) ln2) (aD (dh dq rfl (bW (ah 9)) (gv (n:=2) rfl (cx (aU 10 fD.nd) (cx (aU 11 fD.nd) fW))) (aD (bV (uT 4 (bX (bQ (dC (u9 V) hr (ai (ah 4) (ai (ah 1) (ai (DO.de (cV (ai (ah 12) (ai (ah 13) (ai (dC (wV V) hr (ai (ah 1) ay) ln1) ay))))) (ai (ah 10) (ai (ah 11) ay))))) ln5)))) (aG (aS dF)) bY) (aG (bV (CK 5 (uT 3 (bX (bQ (dC (u9 V) hr (ai (ah 3) (ai (ah 2) (ai (DO.de (cV (ai (ah 5) (ai (DO.de (cV ay)) (ai (dC (wV V) hr (ai (ah 2) ay) ln1) ay))))) (ai (ah 10) (ai (ah 11) ay))))) ln5))))) (aG (aS dF)) bY)))) (aG (aS (vN 4 (dS (eD (iJ (fu hr)) (iR (Nu V) hr .(e) (ah 4)) (ah 13) (cr _)) (er (eD (iJ (fu hr)) (iR (JH V) hr .(e) (ah 4)) (DO.de (cV ay)) (cr _)))))))))))))))))))
end
theorem i2:f' "int" "int"=aa ak:=rfl
theorem i3:f' "int" "bool"=aa av:=rfl
theorem i5:f' "bool" "bool"=aa ak:=rfl
theorem j1:f' "str" "str"=aa ak:=rfl
theorem k1:f' "list" "list"=aa ak:=rfl
theorem k2:f' "tuple" "list"=aa av:=rfl
theorem k3:f' "tuple" "tuple"=aa ak:=rfl
theorem k4:f' "str" "list"=aa av:=rfl
theorem k5:f' "str" "tuple"=aa av:=rfl
theorem k6:f' "int" "list"=aa av:=rfl
theorem k7:f' "int" "tuple"=aa av:=rfl
theorem k8:f' "bool" "list"=aa av:=rfl
theorem k9:f' "bool" "tuple"=aa av:=rfl
theorem k10:f' "NoneType" "list"=aa av:=rfl
theorem k11:f' "NoneType" "tuple"=aa av:=rfl
theorem sz2:(1+1<=aN)=True:=by simp[aN]
theorem sz3:(1+1+1<=aN)=True:=by simp[aN]
section
variable {x0 x1 x2 x3 x4:D} {r:ac D}
theorem jz (l:ac α) (n:ao):atI l (n:aq)=l[n]?:=by
 unfold atI ixN;rw[qX .(c)];by_cases h:n<l.length
 .rw[qX .(c)];simp
 .rw[qY .(c)];simp;omega
theorem cN:ixD (.tup (x0::r)) (.int 0)=aa x0:=jz _ 0
theorem gJ:ixD (.tup (x0::x1::r)) (.int 1)=aa x1:=jz _ 1
theorem lg:ixD (.tup (x0::x1::x2::r)) (.int 2)=aa x2:=jz _ 2
theorem sQ:ixD (.tup (x0::x1::x2::x3::r)) (.int 3)=aa x3:=jz _ 3
theorem lj:ixD (.tup (x0::x1::x2::x3::x4::r)) (.int 4)=aa x4:=jz _ 4
end
theorem xG {fe:FE} {r:bG} {f:D->D}:∀{xs:ac D} {a:au Slot},(∀x∈xs,fe (oS x::r)=aa (f x))->cT (aC 0) tT fe xs (a::r)=aa (xs.map f)
 |[],_,_=>rfl
 |x::xs,a,h=>by have h1:=h x qg;have ih:=xG (xs:=xs) (a:=oS x) fun y hy=>h y (qh _ hy);simp only[cT,aC,nr,qb,tT,c7,h1,ih,qe,qo]
theorem AN {fe:FE} {ft:FT} {r:bG} {f:D->D} {p:D->aT}:∀{xs:ac D} {a:au Slot},(∀x∈xs,ft (oS x::r)=aa (p x)/\(p x=ak->fe (oS x::r)=aa (f x)))->cT (aC 0) ft fe xs (a::r)=aa ((xs.filter p).map f)
 |[],_,_=>rfl
 |x::xs,a,h=>by
  have h1:=h x qg;have ih:=AN (xs:=xs) (a:=oS x) fun y hy=>h y (qh _ hy);simp only[cT,aC,nr,qb,h1.1,ih,uN];cases e:p x
  .simp
  .simp[h1.2 e]
theorem Cs:∀{l:ac D},(∀x∈l,x=.bl ak)->∃bs:ac aT,nI l=aa bs/\bs.all id=ak
 |[],_=>⟨[],rfl,rfl⟩
 |x::r,h=>by obtain⟨bs,h1,h2⟩:=Cs (l:=r) fun y hy=>h y (qh _ hy);have hx:=h x qg;subst hx;exact⟨ak::bs,by simp[nI,h1],by simpa using h2⟩
theorem ii {a:au Slot} {xs:ac D} (h1:fi ρ=aa xs) (h2:xs.length<=aN) (h3:fC fv ρ=a::r) (h:∀x∈xs,fe (oS x::r)=aa (.bl ak)) :
  cF fM (ag (aQ (bp fi (aC 0) tT fe fv)) ar) ρ=aa (.bl ak):=by
 have c:=xG (a:=a) (f:=fun _=>.bl ak) h;obtain⟨bs,e1,e2⟩:=Cs (l:=xs.map fun _=>D.bl ak) (by simp);simp only[cF,ag,ar,aQ,bp,h1,qb,qX h2,h3,c,qe,fM,e1];simpa using e2
theorem ki {a:au Slot} {xs:ac D} {f:D->D} (h1:fi ρ=aa xs) (h2:xs.length<=aN) (h3:fC fv ρ=a::r) (h:∀x∈xs,fe (oS x::r)=aa (f x)) :
  aQ (bp fi (aC 0) tT fe fv) ρ=aa (.lst (xs.map f)):=by
 simp only[aQ,bp,h1,qb,qX h2,h3,xG (a:=a) h,qe]
theorem pU {body:FS} {xs:ac D} (I:ao->bG->Prop) (h0:I 0 ρ) (hs:∀i x ρ,xs[i]?=aa x->I i ρ->∃ρ1 ρ2,gg x ρ=aa ρ1/\body ρ1=aa (.nx,ρ2)/\I (i+1) ρ2) :
  ∃ρ',dZ gg body xs ρ=aa (.nx,ρ')/\I xs.length ρ':=by
 have key:∀(ys:ac D) (k:ao) (ρ:bG),xs.drop k=ys->I k ρ->∃ρ',dZ gg body ys ρ=aa (.nx,ρ')/\I (k+ys.length) ρ':=by
  intro ys
  induction ys with
  |nil=>intro k ρ _ hk;exact⟨ρ,rfl,hk⟩
  |cons y r ih=>
   intro k ρ hd hk;have hy:xs[k]?=aa y:=by
    have:(xs.drop k)[0]?=aa y:=by rw[hd];rfl
    simpa using this
   obtain⟨ρ1,ρ2,h1,h2,h3⟩:=hs k y ρ hy hk;have hd':xs.drop (k+1)=r:=by rw[←List.drop_drop,hd];rfl
   obtain⟨ρ',h4,h5⟩:=ih (k+1) ρ2 hd' h3;refine⟨ρ',?_,by rw[qi];rwa [show k+1+r.length=k+(r.length+1) by omega] at h5⟩;simp only[dZ,h1,qb,h2,h4]
 obtain⟨ρ',h1,h2⟩:=key xs 0 ρ rfl h0;exact⟨ρ',h1,by rwa [nq] at h2⟩
theorem Af:(2:aq) ^ 62=4611686018427387904:=by decide +kernel
theorem Ix {i j:aq} (h:0<=i/\i<=1000000/\0<=j/\j<=1000000):lW [.int i,.int j]=aa ((cQ (j-i).toNat).map fun k:ao=>D.int (i+k)):=by unfold lW;rw[Af];exact qX ⟨by omega,by omega,by omega,by omega⟩
theorem wb {j:aq} (h:0<=j/\j<=1000000):et [.int j]=aa ((cQ j.toNat).map fun i:ao=>D.int (0+i)):=by unfold et;rw[Af];exact qX ⟨by omega,by omega⟩
theorem xr {g:ac D->au (ac D)} {r:ac D} (h1:fr ρ=aa ds) (h2:g ds=aa r):itR g fr ρ=aa r:=by unfold itR;rw[h1];exact h2
theorem aH {g:D->D->au D} {x y:D} (h1:fa ρ=aa x) (h2:fb ρ=aa y) (h3:g x y=aa z):b2 g fa fb ρ=aa z:=by unfold b2;rw[h1,qb,h2,qb];exact h3
theorem bC {g:FQ} (h1:fr ρ=aa ds) (h2:g ds=aa z):cF g fr ρ=aa z:=by unfold cF;rw[h1];exact h2
theorem aK (h1:f ρ=aa d) (h2:fr ρ=aa ds):ag f fr ρ=aa (d::ds):=by unfold ag;rw[h1,qb,h2];rfl
theorem aW :ar ρ=aa []:=rfl
theorem Dg (h:g (ds.map (fun d=>aa (Slot.sh d))++bT n af)=aa (.rt d,ρ')):aY n g ds=aa d:=by unfold aY;rw[h];rfl
theorem ck (ρ:bG) (e:ds.map (fun d=>aa (Slot.sh d))++bT n af=ρ) (h:g ρ=aa (.rt d,ρ')):aY n g ds=aa d:=by subst e;exact Dg h
theorem cm (h:f ρ=aa d):aM f ρ=aa (.rt d,ρ):=by unfold aM;rw[h];rfl
theorem cD {b:aT} (h:f ρ=aa (.bl b)):toB f ρ=aa b:=by unfold toB;rw[h];rfl
theorem mQ {A:FE} {X E:FS} (hA:A ρ=aa (.bl ak)):aB (sIf (bE (toB A)) X bA) E ρ=E ρ:=by simp only[aB,sIf,bE,cD hA,qe,qb,iE,qt,dc,bA]
theorem iW {A B:FE} {X E:FS} (hA:A ρ=aa (.bl ak)) (hB:B ρ=aa (.bl ak)):aB (sIf (orT (bE (toB A)) (bE (toB B))) X bA) E ρ=E ρ:=by simp only[aB,sIf,orT,bE,cD hA,cD hB,qe,qb,iE,qt,dc,bA]
theorem LF {A B C:FE} {X E:FS} (hA:A ρ=aa (.bl ak)) (hB:B ρ=aa (.bl ak)) (hC:C ρ=aa (.bl ak)):aB (sIf (orT (bE (toB A)) (orT (bE (toB B)) (bE (toB C)))) X bA) E ρ=E ρ:=by simp only[aB,sIf,orT,bE,cD hA,cD hB,cD hC,qe,qb,iE,qt,dc,bA]
theorem D9 {A B:FE} (hA:A ρ=aa (.bl ak)) (hB:B ρ=aa (.bl ak)):cy A B ρ=aa (.bl ak):=by simp only[cy,hA,hB,qb]
theorem jo (h:f ρ=aa d):aB (bo i f) g ρ=g (ρ.set i (oS d)):=by simp only[aB,bo,h,qe,qb]
theorem M8 (i:aq):sC [.int i]=aa (.bl ak):=by simp only[sC,aY,aM,cy,pw,cF,ag,ar,vSh,vC,dJ,tyD,qo,qP,qr,qS,bT,qc,qb,qe,oQ,i2,i3]
theorem iV (i a b:aq) (h:a<=i/\i<=b):gB [.int i,.int a,.int b]=aa (.bl ak):=by simp only[gB,M8,aY,aM,cy,cF,ag,ar,vSh,chD,leD,qo,qP,qr,qS,bT,qc,qd,qb,qe,qT h.1,qT h.2]
theorem jy (l:ac D) (a b:aq) (h:a<=l.length/\(l.length:aq)<=b):gY [.lst l,.int a,.int b]=aa (.bl ak):=by simp only[gY,aY,aM,cy,cF,ag,ar,vSh,vC,chD,dJ,tyD,cg,leD,qo,qP,qr,qS,bT,qc,qd,qb,qe,k1,qT h.1,qT h.2]
theorem sH (l:ac D) (n:aq) (h:(l.length:aq)=n):fY [.tup l,.int n]=aa (.bl ak):=by simp only[fY,aY,aM,cy,cF,ag,ar,vSh,vC,b2,dJ,tyD,cg,eqD,eqS,qo,qP,qr,qS,bT,qc,qd,qb,qe,k3,qT h]
section
variable {a b c e:D}
theorem sU:fY [.tup [a,b],.int 2]=aa (.bl ak):=sH _ _ rfl
theorem Bo:fY [.tup [a,b,c],.int 3]=aa (.bl ak):=sH _ _ rfl
theorem KD:fY [.tup [a,b,c,d],.int 4]=aa (.bl ak):=sH _ _ rfl
theorem zJ:fY [.tup [a,b,c,d,e],.int 5]=aa (.bl ak):=sH _ _ rfl
end
noncomputable def dIv (p:aq×aq):D:=.tup [.int p.1,.int p.2]
theorem NX (p:aq×aq) (h:aq) (h1:0<=p.1) (h2:p.1<p.2) (h3:p.2<=h):sN [dIv p,.int h]=aa (.bl ak):=by simp only[sN,dIv,aY,aB,sIf,aM,bA,orT,bE,toB,cF,ag,ar,vSh,vC,b2,ltD,cN,gJ,qo,qP,qr,qS,bT,qc,qd,qb,qe,dc,iE,qt,sU,iV p.1 0 h ⟨h1,by omega⟩,iV p.2 0 h ⟨by omega,h3⟩,qT h2]
noncomputable def az (c:ao):aT:=!ltS ⟨#[c]⟩ "a" && !ltS "z" ⟨#[c]⟩
theorem Kc {c:ao} (h:az c=ak):c<=122:=by
 have z:("z":aj)=⟨#[122]⟩:=by decide +kernel
 unfold az ltS at h;rw[z] at h;simp only[fJ,Bool.not_eq_true',decide_eq_false_iff_not] at h;have h2:=h.2;rcases ng 122 c with q|q
 .exact bJ (show([122]:ac ao) < [c] from List.Lex.rel q) h2
 .exact q
theorem NJ (c:ao) (r:bG):chD leD leD (vC (.str "a")) (vSh 0) (vC (.str "z")) (oS (.str ⟨#[c]⟩)::r)=aa (.bl (az c)):=by simp only[chD,vC,vSh,qc,qb,leD,az];cases ltS ⟨#[c]⟩ "a"<;>simp
noncomputable def bh (x:aj):aT:=decide (1<=x.length) && decide (x.length<=8) && x.cps.toList.all az
theorem IH (h:bh x=ak):1<=x.length/\x.length<=8:=by unfold bh at h;simp only[fJ,yQ] at h;exact h.1
theorem CP (h:bh x=ak):∀c∈x.cps.toList,az c=ak:=by unfold bh at h;simp only[fJ,iD] at h;exact h.2
theorem lf (h:bh x=ak):jG [.str x]=aa (.bl ak):=by
 obtain⟨h1,h2⟩:=IH h;have hz:x.length<=aN:=by unfold aN;omega
 have hl:(x.cps.toList.map fun c=>D.str ⟨#[c]⟩).length<=aN:=by simpa[rg] using hz
 have e1:decide ((1:aq)<=(x.length:ao))=ak:=qT .(c);have e2:decide (((x.length:ao):aq)<=8)=ak:=qT .(c);have ha:=ii (fi:=itS (vSh 0)) (fe:=chD leD leD (vC (.str "a")) (vSh 0) (vC (.str "z"))) (fv:=[af]) (ρ:=[oS (.str x)]) (r:=[]) (a:=af) (xs:=x.cps.toList.map fun c=>D.str ⟨#[c]⟩)
  (by simp[itS,vSh,vx]) hl rfl (fun y hy=>by obtain⟨c,hc,rfl⟩:=bU.mp hy;rw[NJ,CP h c hc])
 refine Dg (ρ':=[oS (.str x)]) ((iW ?_ ?_).trans (cm ha))
 .rfl
 .show chD leD leD .(i) (cF cg (ag (vSh 0) ar)) (vC (.int 8)) [oS (.str x)]=_;simp only[cF,ag,ar,vSh,vC,chD,cg,leD,qc,qb,qe,qX hz,e1,e2]
theorem xW (h:bh x=ak):Ru x=ak:=by unfold Ru;rw[Array.all_eq_true'];intro c hc;have:=Kc (CP h c (by simpa using hc));exact qT .(c)
theorem pI:∀(ns:ac aj),eL (ns.map D.str)=aa (ns.map fj)
 |[]=>by simp[eL]
 |x::r=>by simp[eL,pdD,pI r]
theorem pz:∀{ns:ac aj},(∀x∈ns,bh x=ak)->jc (ns.map fj)=ak
 |[],_=>by simp[jc]
 |x::r,h=>by simp only[qo,jc,hW,xW (h x qg),uH];exact pz fun y hy=>h y (qh _ hy)
theorem D2 (x:aj):∀(ns:ac aj),((ns.map fj).any fun z=>fK z (.str x))=decide (x∈ns)
 |[]=>by simp
 |y::r=>by
  have ih:=D2 x r;rw[qo,jP,ih];simp only[fK];by_cases e:y=x
  .subst e;simp
  .have:x≠y:=fun z=>e z.symm;simp[e,this]
theorem tU (hx:bh x=ak) (hn:∀y∈ns,bh y=ak):fQ (.str x) (.lst (ns.map D.str))=aa (.bl (decide (x∈ns))):=by
 have sh:fS (.str x)=ak:=by simp[fS,hW,xW hx,iF]
 simp only[fQ,inX,pdD,pI,qe,qb,sh,pz hn,and_self,c7,D2]
theorem ot (hx:x∈ns) (hn:∀y∈ns,bh y=ak):j6 [.str x,.lst (ns.map D.str)]=aa (.bl ak):=by simp only[j6,aY,aM,cy,cF,ag,ar,vSh,b2,qo,qP,qr,qS,bT,qc,qd,qb,qe,lf (hn x hx),tU (hn x hx) hn,qT hx]
theorem Cq [eN κ] {l:ac κ} (h:l.Nodup):ST.dd l=l:=by
 have key:∀(l a:ac κ),(a++l).Nodup->l.foldl (fun a k=>if k∈a then a else a++[k]) a=a++l:=by
  intro l
  induction l with
  |nil=>intro a _;simp
  |cons x r ih=>
   intro a hn;have hx:x∉a:=by intro z;rw[ky] at hn;exact hn.2.2 x z x qg rfl
   rw[gw,qY hx,ih (a++[x]) (by simpa using hn)];simp
 simpa[ST.dd] using key l [] (by simpa using h)
theorem jT:∀(ns:ac aj),eM (ns.map D.str)=aa (ns.map ci)
 |[]=>by simp[eM]
 |x::r=>by simp[eM,io,jT r]
theorem mo (h:ns.Nodup) (hl:ns.length<=300):fN [.lst (ns.map D.str)]=aa (.bl ak):=by have hd:(ns.map (ci:aj->Key)).Nodup:=uO _ (fun a b hab z=>hab (jI z)) h;simp only[fN,aY,aM,cF,ag,ar,vSh,b1,b2,cg,eqD,eqS,qo,qP,qr,qS,bT,qc,qb,qe,nD,qf,qX hl,jT,Cq hd];simp
theorem AB:∀(ts:ac (ac aj)),mf (ts.map fun t=>.tup (t.map D.str))=aa (ts.map fun t=>t.map ci)
 |[]=>by simp[mf]
 |t::r=>by simp[mf,jT,AB r]
theorem zN {ts:ac (ac aj)} (h:ts.Nodup) (hl:ts.length<=300):fN [.lst (ts.map fun t=>.tup (t.map D.str))]=aa (.bl ak):=by
 have inj:∀a b:ac aj,a.map (ci:aj->Key)=b.map ci->a=b:=fun a b z=>(Fj (fun x y q=>jI q)).mp z;have hd:(ts.map fun t=>t.map (ci:aj->Key)).Nodup:=uO _ (fun a b hab z=>hab (inj a b z)) h;cases ts with
 |nil=>simp only[fN,aY,aM,cF,ag,ar,vSh,b1,b2,cg,eqD,eqS,qo,qP,qr,qS,bT,qc,qb,qe,qm,nD,eM,ST.dd];simp
 |cons t r=>
  have e:eM ((t::r).map fun t=>D.tup (t.map D.str))=af:=by simp[eM,io]
  simp only[fN,aY,aM,b2,b1,vSh,qo,qP,qr,qS,bT,qc,qb,nD,cF,ag,ar,cg,qe];rw[qX (by simpa using hl)];have e':=e;rw[qo] at e';rw[e'];have t':=AB (t::r);rw[qo] at t';rw[t'];rw[qe,Cq hd];simp[eqD,eqS]
structure BenchT where
 nm:aj
 br:ac (aq×aq)
structure StepT where
 nm:aj
 kd:aj
 ws:ac (aj×aq)
structure JobT where
 nm:aj
 ea:aq
 du:aq
 od:aT
 ms:ac aj
structure SetT where
 b:aj
 p:aj
 q:aj
 n:aq
structure LinkT where
 a:aj
 b:aj
 g:aq
structure StockT where
 nm:aj
 lo:aq
 hi:aq
 tk:ac (aj×aq)
 pt:ac (aj×aq)
noncomputable def dW (w:aj×aq):D:=.tup [.str w.1,.int w.2]
noncomputable def bZ (b:BenchT):D:=.tup [.str b.nm,.lst (b.br.map dIv)]
noncomputable def aX (s:StepT):D:=.tup [.str s.nm,.str s.kd,.lst (s.ws.map dW)]
noncomputable def bc (j:JobT):D:=.tup [.str j.nm,.int j.ea,.int j.du,.bl j.od,.lst (j.ms.map D.str)]
noncomputable def dv (u:SetT):D:=.tup [.str u.b,.str u.p,.str u.q,.int u.n]
noncomputable def dA (l:LinkT):D:=.tup [.str l.a,.str l.b,.int l.g]
noncomputable def dI (k:StockT):D:=.tup [.str k.nm,.int k.lo,.int k.hi,.lst (k.tk.map dW),.lst (k.pt.map dW)]
structure GoodB (h:aq) (b:BenchT):Prop where
 nm:bh b.nm=ak
 len:b.br.length<=10
 iv:∀p∈b.br,0<=p.1/\p.1<p.2/\p.2<=h
 gap:∀(i:ao) p q,b.br[i]?=aa p->b.br[i+1]?=aa q->p.2<q.1
structure GoodS (bn:ac aj) (h:aq) (s:StepT):Prop where
 nm:bh s.nm=ak
 kd:bh s.kd=ak
 l1:1<=s.ws.length
 l4:s.ws.length<=4
 ws:∀w∈s.ws,w.1∈bn/\1<=w.2/\w.2<=h
 nd:(s.ws.map (·.1)).Nodup
structure GoodJ (sn:ac aj) (h:aq) (j:JobT):Prop where
 nm:bh j.nm=ak
 ea:0<=j.ea/\j.ea<=h
 du:0<=j.du/\j.du<=h
 l1:1<=j.ms.length
 ln:j.ms.length<=sn.length
 ms:∀m∈j.ms,m∈sn
structure GoodU (bn:ac aj) (h:aq) (u:SetT):Prop where
 b:u.b∈bn
 p:bh u.p=ak
 q:bh u.q=ak
 n:1<=u.n/\u.n<=h
structure GoodL (sn:ac aj) (h:aq) (l:LinkT):Prop where
 a:l.a∈sn
 b:l.b∈sn
 ne:l.a≠l.b
 g:0<=l.g/\l.g<=h
structure GoodA (sn:ac aj) (am:ac (aj×aq)):Prop where
 ln:am.length<=sn.length
 ws:∀w∈am,w.1∈sn/\1<=w.2/\w.2<=1000000
 nd:(am.map (·.1)).Nodup
structure GoodK (sn:ac aj) (k:StockT):Prop where
 nm:bh k.nm=ak
 lo:0<=k.lo/\k.lo<=k.hi
 hi:0<=k.hi/\k.hi<=1000000
 tk:GoodA sn k.tk
 pt:GoodA sn k.pt
structure Good (bs:ac BenchT) (ss:ac StepT) (js:ac JobT) (us:ac SetT) (ls:ac LinkT) (ks:ac StockT) (hz:aq):Prop where
 hh:1<=hz/\hz<=1000000
 bl:1<=bs.length/\bs.length<=8
 b:∀x∈bs,GoodB hz x
 bn:(bs.map (·.nm)).Nodup
 sl:1<=ss.length/\ss.length<=40
 s:∀x∈ss,GoodS (bs.map (·.nm)) hz x
 sn:(ss.map (·.nm)).Nodup
 jl:js.length<=40
 j:∀x∈js,GoodJ (ss.map (·.nm)) hz x
 jn:(js.map (·.nm)).Nodup
 jm:(js.flatMap (·.ms)).Nodup
 ul:us.length<=100
 u:∀x∈us,GoodU (bs.map (·.nm)) hz x
 un:(us.map fun u=>[u.b,u.p,u.q]).Nodup
 ll:ls.length<=100
 l:∀x∈ls,GoodL (ss.map (·.nm)) hz x
 ln:(ls.map fun l=>[l.a,l.b]).Nodup
 kl:ks.length<=6
 k:∀x∈ks,GoodK (ss.map (·.nm)) x
 kn:(ks.map (·.nm)).Nodup
theorem ixL (l:ac D) (n:ao):ixD (.lst l) (.int (n:aq))=l[n]?:=jz l n
theorem szN {k:ao} (h:n<=k) (hk:k<=1000):n<=aN:=by unfold aN;omega
variable {ss:ac StepT}
section
variable {bn:ac aj}
theorem JC (len:br.length<=10) (gap:∀(i:ao) p q,br[i]?=aa p->br[i+1]?=aa q->p.2<q.1) :
  cF fM (ag (aQ (bp (itR lW (ag .(i) (ag (cF cg (ag (vSh 0) ar)) ar))) (aC 0) tT (b2 ltD (b2 ixD (b2 ixD (vSh 1) (b2 mJ (vSh 0) .(i))) .(i)) (b2 ixD (b2 ixD (vSh 1) (vSh 0)) .(f))) [af,aa 0])) ar) [oS (.lst (br.map dIv)),oS (.int h)]=aa (.bl ak):=by
 have e0:itR lW (ag .(i) (ag (cF cg (ag (vSh 0) ar)) ar)) [oS (.lst (br.map dIv)),oS (.int h)]=aa ((cQ (((br.map dIv).length:aq)-1).toNat).map fun k:ao=>D.int (1+k)):=by exact xr rfl (Ix (i:=1) (j:=((br.map dIv).length:ao)) (by rw[qf];omega))
 refine ii (r:=[oS (.lst (br.map dIv))]) (a:=af) e0 ?_ rfl fun x hx=>?_
 .simp only[qf,qV];exact szN (k:=10) .(c) .(e)
 .obtain⟨k,hk,rfl⟩:=bU.mp hx;rw[eR,qf] at hk;have hk1:k<br.length:=by omega
  have hk2:k+1<br.length:=by omega
  have e1:br[k]?=aa br[k]:=by simp[hk1]
  have e2:br[k+1]?=aa br[k+1]:=by simp[hk2]
  have g:=gap k _ _ e1 e2;have a1:ixD (.lst (br.map dIv)) (.int (1+(k:aq)-1))=aa (dIv br[k]):=by
   have:(1+(k:aq)-1)=((k:ao):aq):=by omega
   rw[this,ixL,qk,e1];rfl
  have a2:ixD (.lst (br.map dIv)) (.int (1+(k:aq)))=aa (dIv br[k+1]):=by
   have:(1+(k:aq))=((k+1:ao):aq):=by omega
   rw[this,ixL,qk,e2];rfl
  simp only[vSh,vC,b2,ltD,mJ,qc,qd,qb,a1,a2];simp only[dIv,cN,gJ,qb,qT g]
theorem HR (len:br.length<=10) (iv:∀p∈br,0<=p.1/\p.1<p.2/\p.2<=h) (gap:∀(i:ao) p q,br[i]?=aa p->br[i+1]?=aa q->p.2<q.1) :
  xT [.lst (br.map dIv),.int h]=aa (.bl ak):=by
 refine ck [oS (.lst (br.map dIv)),oS (.int h)] rfl ((iW ?_ (ii (r:=[oS (.int h)]) (a:=af) (xs:=br.map dIv) rfl (by rw[qf];exact szN len .(e)) rfl fun x hx=>?_)).trans (cm (JC len gap)))
 .exact jy _ 0 10 ⟨by omega,by rw[qf];omega⟩
 .obtain⟨p,hp,rfl⟩:=bU.mp hx;obtain⟨h1,h2,h3⟩:=iv p hp;exact NX p h h1 h2 h3
theorem LJ {b:BenchT} (g:GoodB h b):tG [bZ b,.int h]=aa (.bl ak):=by simp only[tG,bZ,aY,aM,cy,cF,ag,ar,vSh,vC,b2,cN,gJ,qo,qP,qr,qS,bT,qc,qd,qb,qe,sU,lf g.nm,HR g.len g.iv g.gap]
theorem kL {f:α->D} {nm:α->aj} {xs:ac α} (hf:∀x,∃r,f x=.tup (.str (nm x)::r)) (h1:vSh i ρ=aa (.lst (xs.map f))) (h2:xs.length<=aN) (h3:fC fv ρ=[af]) :
  aQ (bp (itF (vSh i)) (aC 0) tT (b2 ixD (vSh 0) .(f)) fv) ρ=aa (.lst ((xs.map nm).map D.str)):=by
 have hc:=ki (fi:=itF (vSh i)) (fe:=b2 ixD (vSh 0) .(f)) (fv:=fv) (ρ:=ρ) (r:=[]) (a:=af) (xs:=xs.map f) (f:=fun d=>match d with|.tup (x::_)=>x|_=>.non) (by unfold itF;rw[h1];rfl) (by rw[qf];exact h2) h3 (fun x hx=>by obtain⟨y,_,rfl⟩:=bU.mp hx;obtain⟨r,e⟩:=hf y;simp only[b2,vSh,vC,qc,qb,e,cN])
 rw[hc]
 congr 2
 rw[qp,qp];refine iG fun x _=>?_;obtain⟨r,e⟩:=hf x;simp[e]
theorem FR {bs:ac BenchT} (l1:1<=bs.length) (l8:bs.length<=8) (g:∀x∈bs,GoodB h x) (nd:(bs.map (·.nm)).Nodup):wm [.lst (bs.map bZ),.int h]=aa (.bl ak):=by
 refine ck [oS (.lst (bs.map bZ)),oS (.int h)] rfl ((iW ?_ (ii (r:=[oS (.int h)]) (a:=af) (xs:=bs.map bZ) rfl (by rw[qf];exact szN l8 .(e)) rfl fun x hx=>?_)).trans (cm ?_))
 .exact jy _ 1 8 ⟨by rw[qf];omega,by rw[qf];omega⟩
 .obtain⟨p,hp,rfl⟩:=bU.mp hx;exact LJ (g p hp)
 .have:=kL (i:=0) (fv:=[af]) (ρ:=[oS (.lst (bs.map bZ)),oS (.int h)]) (f:=bZ) (nm:=(·.nm)) (xs:=bs) (fun x=>⟨_,rfl⟩) rfl (szN l8 .(e)) rfl;simp only[cF,ag,ar,this,qb,qe];exact mo nd (by rw[qf];omega)
theorem KF {w:aj×aq} (hb:∀y∈bn,bh y=ak) (g:w.1∈bn/\1<=w.2/\w.2<=h):t7 [dW w,.lst (bn.map D.str),.int h]=aa (.bl ak):=by simp only[t7,dW,aY,aM,cy,cF,ag,ar,vSh,vC,b2,cN,gJ,qo,qP,qr,qS,bT,qc,qd,qb,qe,sU,ot g.1 hb,iV w.2 1 h g.2]
theorem Jp {ws:ac (aj×aq)} (hb:∀y∈bn,bh y=ak) (l1:1<=ws.length) (l4:ws.length<=4) (g:∀w∈ws,w.1∈bn/\1<=w.2/\w.2<=h) (nd:(ws.map (·.1)).Nodup):wX [.lst (ws.map dW),.lst (bn.map D.str),.int h]=aa (.bl ak):=by
 refine ck [oS (.lst (ws.map dW)),oS (.lst (bn.map D.str)),oS (.int h)] rfl ((iW ?_ (ii (r:=[oS (.lst (bn.map D.str)),oS (.int h)]) (a:=af) (xs:=ws.map dW) rfl (by rw[qf];exact szN l4 .(e)) rfl fun x hx=>?_)).trans (cm ?_))
 .exact jy _ 1 4 ⟨by rw[qf];omega,by rw[qf];omega⟩
 .obtain⟨p,hp,rfl⟩:=bU.mp hx;exact KF hb (g p hp)
 .have:=kL (i:=0) (fv:=[af]) (ρ:=[oS (.lst (ws.map dW)),oS (.lst (bn.map D.str)),oS (.int h)]) (f:=dW) (nm:=(·.1)) (xs:=ws) (fun x=>⟨_,rfl⟩) rfl (szN l4 .(e)) rfl;simp only[cF,ag,ar,this,qb,qe];exact mo nd (by rw[qf];omega)
theorem Mb {s:StepT} (hb:∀y∈bn,bh y=ak) (g:GoodS bn h s):sI [aX s,.lst (bn.map D.str),.int h]=aa (.bl ak):=by simp only[sI,aX,aY,aB,sIf,aM,bA,orT,bE,toB,cF,ag,ar,vSh,vC,b2,cN,gJ,lg,qo,qP,qr,qS,bT,qc,qd,qb,qe,dc,iE,qt,Bo,lf g.nm,lf g.kd,Jp hb g.l1 g.l4 g.ws g.nd]
theorem Jv (hb:∀y∈bn,bh y=ak) (l1:1<=ss.length) (l4:ss.length<=40) (g:∀s∈ss,GoodS bn h s) (nd:(ss.map (·.nm)).Nodup):wz [.lst (ss.map aX),.lst (bn.map D.str),.int h]=aa (.bl ak):=by
 refine ck [oS (.lst (ss.map aX)),oS (.lst (bn.map D.str)),oS (.int h)] rfl ((iW ?_ (ii (r:=[oS (.lst (bn.map D.str)),oS (.int h)]) (a:=af) (xs:=ss.map aX) rfl (by rw[qf];exact szN l4 .(e)) rfl fun x hx=>?_)).trans (cm ?_))
 .exact jy _ 1 40 ⟨by rw[qf];omega,by rw[qf];omega⟩
 .obtain⟨p,hp,rfl⟩:=bU.mp hx;exact Mb hb (g p hp)
 .have:=kL (i:=0) (fv:=[af]) (ρ:=[oS (.lst (ss.map aX)),oS (.lst (bn.map D.str)),oS (.int h)]) (f:=aX) (nm:=(·.nm)) (xs:=ss) (fun x=>⟨_,rfl⟩) rfl (szN l4 .(e)) rfl;simp only[cF,ag,ar,this,qb,qe];exact mo nd (by rw[qf];omega)
end
theorem wS (a b:aj):neA (.str a) (.str b)=aa (.bl (!decide (a=b))):=rfl
theorem rY (a b:aj):eqA (.str a) (.str b)=aa (.bl (decide (a=b))):=rfl
theorem D1 {a b c:D} :jZ af (aa 3) (.tup [a,b,c,d])=aa (.tup [a,b,c]):=rfl
theorem Ku {a b c:D} :jZ af (aa 2) (.tup [a,b,c])=aa (.tup [a,b]):=rfl
theorem xm {α β:Type} {f:α->ac β} {m:ao}:∀{l:ac α},(∀x∈l,(f x).length<=m)->(l.flatMap f).length<=l.length*m
 |[],_=>by simp
 |x::r,h=>by have h1:=h x qg;have h2:=xm (l:=r) fun y hy=>h y (qh _ hy);rw[oR,qj,qi,oJ];omega
variable {js:ac JobT} {us:ac SetT} {ls:ac LinkT} {ks:ac StockT}
section
variable {bn:ac aj}
theorem Np {j:JobT} (hs:∀y∈sn,bh y=ak) (hl:sn.length<=40) (g:GoodJ sn h j):vX [bc j,.lst (sn.map D.str),.int h]=aa (.bl ak):=by
 refine ck [oS (bc j),oS (.lst (sn.map D.str)),oS (.int h)] rfl ((LF ?_ ?_ ?_).trans ((iW ?_ ?_).trans (cm (D9 ?_ (ii (r:=[oS (.lst (sn.map D.str))]) (a:=af) (xs:=j.ms.map D.str) ?_ ?_ rfl fun x hx=>?_)))))
 .exact zJ
 .simp only[bc,cF,ag,ar,vSh,vC,b2,cN,qc,qb,qe,lf g.nm]
 .simp only[bc,cF,ag,ar,vSh,vC,b2,dJ,tyD,sQ,qc,qb,qe,i5]
 .simp only[bc,cF,ag,ar,vSh,vC,b2,gJ,qc,qd,qb,qe,iV _ 0 h g.ea]
 .simp only[bc,cF,ag,ar,vSh,vC,b2,lg,qc,qd,qb,qe,iV _ 0 h g.du]
 .simp only[bc,cF,ag,ar,vSh,vC,b2,cg,lj,qc,qd,qb,qe];exact jy _ _ _ ⟨by rw[qf];have:=g.l1;omega,by rw[qf,qf];have:=g.ln;omega⟩
 .simp only[bc,vSh,vC,b2,itF,pB,lj,qc,qb]
 .rw[qf];exact szN (qN g.ln hl) .(e)
 .obtain⟨m,hm,rfl⟩:=bU.mp hx;simp only[cF,ag,ar,vSh,qc,qd,qb,qe,ot (g.ms m hm) hs]
theorem Mr {H:au Slot} (hl:js.length<=40) (g:∀j∈js,j.ms.length<=40) :
  ∃z,dZ (aC 4) (ie 3 (b2 ixD (vSh 4) (vC (.int 4)))) (js.map bc) [oS (.lst (js.map bc)),S,H,aa (.own []),af]=aa (.nx,[oS (.lst (js.map bc)),S,H,aa (.own ((js.flatMap (·.ms)).map D.str)),z]):=by
 obtain⟨ρ',h1,z,h2⟩:=pU (gg:=aC 4) (body:=ie 3 (b2 ixD (vSh 4) (vC (.int 4)))) (xs:=js.map bc) (ρ:=[oS (.lst (js.map bc)),S,H,aa (.own []),af])
  (fun i ρ=>∃z,ρ=[oS (.lst (js.map bc)),S,H,aa (.own (((js.take i).flatMap (·.ms)).map D.str)),z]) ⟨af,by simp⟩ (fun i x ρ hx hI=>by
   obtain⟨z,rfl⟩:=hI;rw[qk] at hx;obtain⟨j,hj,rfl⟩:=oMd hx;have hm:j∈js:=qQ hj;have t1:((js.take i).flatMap (·.ms)).length<=(js.take i).length*40:=xm fun y hy=>g y (uB hy);have t2:(js.take i).length<=40:=by rw[qF];omega
   have t3:=g j hm;have tk:js.take (i+1)=js.take i++[j]:=by rw[zc,hj];rfl
   have sz:(((js.take i).flatMap (·.ms)).map D.str).length+(j.ms.map D.str).length<=aN:=by rw[qf,qf];unfold aN;omega
   refine⟨_,[oS (.lst (js.map bc)),S,H,aa (.own (((js.take (i+1)).flatMap (·.ms)).map D.str)),oS (bc j)],rfl,?_,_,rfl⟩;have e:b2 ixD (vSh 4) (vC (.int 4)) [oS (.lst (js.map bc)),S,H,aa (.own (((js.take i).flatMap (·.ms)).map D.str)),oS (bc j)]=aa (.lst (j.ms.map D.str)):=by simp only[bc,vSh,vC,b2,lj,qc,qd,qb]
   simp only[ie,nr,Fk,qc,qd,e,qb,qX sz,tk];simp)
 refine⟨z,?_⟩;rw[h1,h2,qf,gO]
theorem Ls (hs:∀y∈sn,bh y=ak) (hl:sn.length<=40) (l4:js.length<=40) (g:∀j∈js,GoodJ sn h j) (nd:(js.map (·.nm)).Nodup) (nm:(js.flatMap (·.ms)).Nodup) (ml:(js.flatMap (·.ms)).length<=300):wY [.lst (js.map bc),.lst (sn.map D.str),.int h]=aa (.bl ak):=by
 obtain⟨z,hz⟩:=Mr (js:=js) (S:=oS (.lst (sn.map D.str))) (H:=oS (.int h)) l4 fun j hj=>qN (g j hj).ln hl;refine ck [oS (.lst (js.map bc)),oS (.lst (sn.map D.str)),oS (.int h),af,af] (ρ':=[oS (.lst (js.map bc)),oS (.lst (sn.map D.str)),oS (.int h),oS (.lst ((js.flatMap (·.ms)).map D.str)),z]) rfl ((iW ?_ (ii (r:=[oS (.lst (sn.map D.str)),oS (.int h)]) (a:=af) (xs:=js.map bc) rfl (by rw[qf];exact szN l4 .(e)) rfl fun x hx=>?_)).trans ?_)
 .exact jy _ 0 40 ⟨by omega,by rw[qf];omega⟩
 .obtain⟨p,hp,rfl⟩:=bU.mp hx;simp only[cF,ag,ar,vSh,qc,qd,qb,qe,Np hs hl (g p hp)]
 .have nn:=kL (i:=0) (fv:=[af]) (ρ:=[oS (.lst (js.map bc)),oS (.lst (sn.map D.str)),oS (.int h),oS (.lst ((js.flatMap (·.ms)).map D.str)),z]) (f:=bc) (nm:=(·.nm)) (xs:=js) (fun x=>⟨_,rfl⟩) rfl (szN l4 .(e)) rfl;have u1:cF fN (ag (aQ (bp (itF (vSh 0)) (aC 0) tT (b2 ixD (vSh 0) .(f)) [af])) ar) [oS (.lst (js.map bc)),oS (.lst (sn.map D.str)),oS (.int h),oS (.lst ((js.flatMap (·.ms)).map D.str)),z]=aa (.bl ak):=
   bC (aK nn aW) (mo nd (by rw[qf];omega))
  have u2:cF fN (ag (vSh 3) ar) [oS (.lst (js.map bc)),oS (.lst (sn.map D.str)),oS (.int h),oS (.lst ((js.flatMap (·.ms)).map D.str)),z]=aa (.bl ak):=
   bC (aK rfl aW) (mo nm ml)
  have r:=cm (D9 u1 u2);have z0:(0<=aN)=True:=by simp
  simp only[aB,eY,szF,ar,qb,qe,qm,z0,c7,nr,Fk,b9,itF,vSh,qc,pB];rw[hz];simp only[qb,fy,qc,qd,nr,Fk];exact r
theorem K1 {u:SetT} (hb:∀y∈bn,bh y=ak) (g:GoodU bn h u):tt [dv u,.lst (bn.map D.str),.int h]=aa (.bl ak):=by simp only[tt,dv,aY,aB,sIf,aM,bA,cy,orT,bE,toB,cF,ag,ar,vSh,vC,b2,cN,gJ,lg,sQ,qo,qP,qr,qS,bT,qc,qd,qb,qe,dc,iE,qt,KD,ot g.b hb,lf g.p,lf g.q,iV _ 1 h g.n]
theorem OE (hb:∀y∈bn,bh y=ak) (l4:us.length<=100) (g:∀u∈us,GoodU bn h u) (nd:(us.map fun u=>[u.b,u.p,u.q]).Nodup):wF [.lst (us.map dv),.lst (bn.map D.str),.int h]=aa (.bl ak):=by
 refine ck [oS (.lst (us.map dv)),oS (.lst (bn.map D.str)),oS (.int h)] rfl ((iW ?_ (ii (r:=[oS (.lst (bn.map D.str)),oS (.int h)]) (a:=af) (xs:=us.map dv) rfl (by rw[qf];exact szN l4 .(e)) rfl fun x hx=>?_)).trans (cm (bC (aK (ki (r:=[]) (a:=af) (xs:=us.map dv) (f:=fun d=>match d with|.tup [a,b,c,d]=>.tup [a,b,c]|_=>.non) rfl (by rw[qf];exact szN l4 .(e)) rfl fun x hx=>?_) aW) ?_)))
 .exact jy _ 0 100 ⟨by omega,by rw[qf];omega⟩
 .obtain⟨p,hp,rfl⟩:=bU.mp hx;simp only[cF,ag,ar,vSh,qc,qd,qb,qe,K1 hb (g p hp)]
 .obtain⟨p,hp,rfl⟩:=bU.mp hx;simp only[vSh,vC,slF,pN,pS,qc,qb,dv,D1]
 .have:=zN nd (by rw[qf];omega);rw[qp] at this ⊢;exact this
theorem HU {l:LinkT} (hs:∀y∈sn,bh y=ak) (g:GoodL sn h l):sy [dA l,.lst (sn.map D.str),.int h]=aa (.bl ak):=by have:=g.ne;simp only[sy,dA,aY,aB,sIf,aM,bA,cy,orT,bE,toB,cF,ag,ar,vSh,vC,b2,cN,gJ,lg,qo,qP,qr,qS,bT,qc,qd,qb,qe,dc,iE,oQ,qt,Bo,ot g.a hs,ot g.b hs,wS,qO g.ne,iV _ 0 h g.g]
theorem NP (hs:∀y∈sn,bh y=ak) (l4:ls.length<=100) (g:∀l∈ls,GoodL sn h l) (nd:(ls.map fun l=>[l.a,l.b]).Nodup):xE [.lst (ls.map dA),.lst (sn.map D.str),.int h]=aa (.bl ak):=by
 refine ck [oS (.lst (ls.map dA)),oS (.lst (sn.map D.str)),oS (.int h)] rfl ((iW ?_ (ii (r:=[oS (.lst (sn.map D.str)),oS (.int h)]) (a:=af) (xs:=ls.map dA) rfl (by rw[qf];exact szN l4 .(e)) rfl fun x hx=>?_)).trans (cm (bC (aK (ki (r:=[]) (a:=af) (xs:=ls.map dA) (f:=fun d=>match d with|.tup [a,b,c]=>.tup [a,b]|_=>.non) rfl (by rw[qf];exact szN l4 .(e)) rfl fun x hx=>?_) aW) ?_)))
 .exact jy _ 0 100 ⟨by omega,by rw[qf];omega⟩
 .obtain⟨p,hp,rfl⟩:=bU.mp hx;simp only[cF,ag,ar,vSh,qc,qd,qb,qe,HU hs (g p hp)]
 .obtain⟨p,hp,rfl⟩:=bU.mp hx;simp only[vSh,vC,slF,pN,pS,qc,qb,dA,Ku]
 .have:=zN nd (by rw[qf];omega);rw[qp] at this ⊢;exact this
theorem Lf {w:aj×aq} (hs:∀y∈sn,bh y=ak) (g:w.1∈sn/\1<=w.2/\w.2<=1000000):sx [dW w,.lst (sn.map D.str)]=aa (.bl ak):=by simp only[sx,dW,aY,aM,cy,cF,ag,ar,vSh,vC,b2,cN,gJ,qo,qP,qr,qS,bT,qc,qd,qb,qe,sU,ot g.1 hs,iV w.2 1 1000000 g.2]
theorem BZ {ws:ac (aj×aq)} (hs:∀y∈sn,bh y=ak) (hl:sn.length<=40) (g:GoodA sn ws):tN [.lst (ws.map dW),.lst (sn.map D.str)]=aa (.bl ak):=by
 have l4:ws.length<=40:=qN g.ln hl;refine ck [oS (.lst (ws.map dW)),oS (.lst (sn.map D.str))] rfl ((iW ?_ (ii (r:=[oS (.lst (sn.map D.str))]) (a:=af) (xs:=ws.map dW) rfl (by rw[qf];exact szN l4 .(e)) rfl fun x hx=>?_)).trans (cm ?_))
 .have e:=jy (ws.map dW) 0 ((sn.map D.str).length:ao) ⟨by omega,by rw[qf,qf];have:=g.ln;omega⟩;simp only[cF,ag,ar,vSh,vC,cg,qc,qd,qb,qe];exact e
 .obtain⟨p,hp,rfl⟩:=bU.mp hx;simp only[cF,ag,ar,vSh,qc,qd,qb,qe,Lf hs (g.ws p hp)]
 .have:=kL (i:=0) (fv:=[af]) (ρ:=[oS (.lst (ws.map dW)),oS (.lst (sn.map D.str))]) (f:=dW) (nm:=(·.1)) (xs:=ws) (fun x=>⟨_,rfl⟩) rfl (szN l4 .(e)) rfl;exact bC (aK this aW) (mo g.nd (by rw[qf];omega))
theorem KJ {k:StockT} (hs:∀y∈sn,bh y=ak) (hl:sn.length<=40) (g:GoodK sn k):tH [dI k,.lst (sn.map D.str)]=aa (.bl ak):=by simp only[tH,dI,aY,aB,sIf,aM,bA,cy,orT,bE,toB,cF,ag,ar,vSh,vC,b2,cN,gJ,lg,sQ,lj,qo,qP,qr,qS,bT,qc,qd,qb,qe,dc,iE,qt,zJ,lf g.nm,iV _ 0 1000000 g.hi,iV _ 0 _ g.lo,BZ hs hl g.tk,BZ hs hl g.pt]
theorem IY (hs:∀y∈sn,bh y=ak) (hl:sn.length<=40) (l4:ks.length<=6) (g:∀k∈ks,GoodK sn k) (nd:(ks.map (·.nm)).Nodup):uS [.lst (ks.map dI),.lst (sn.map D.str)]=aa (.bl ak):=by
 refine ck [oS (.lst (ks.map dI)),oS (.lst (sn.map D.str))] rfl ((iW ?_ (ii (r:=[oS (.lst (sn.map D.str))]) (a:=af) (xs:=ks.map dI) rfl (by rw[qf];exact szN l4 .(e)) rfl fun x hx=>?_)).trans (cm ?_))
 .exact jy _ 0 6 ⟨by omega,by rw[qf];omega⟩
 .obtain⟨p,hp,rfl⟩:=bU.mp hx;simp only[cF,ag,ar,vSh,qc,qd,qb,qe,KJ hs hl (g p hp)]
 .have:=kL (i:=0) (fv:=[af]) (ρ:=[oS (.lst (ks.map dI)),oS (.lst (sn.map D.str))]) (f:=dI) (nm:=(·.nm)) (xs:=ks) (fun x=>⟨_,rfl⟩) rfl (szN l4 .(e)) rfl;exact bC (aK this aW) (mo nd (by rw[qf];omega))
end
section
variable {bs:ac BenchT}
theorem Good.bnn (g:Good bs ss js us ls ks h):∀y∈bs.map (·.nm),bh y=ak:=fun y hy=>by obtain⟨b,hb,rfl⟩:=bU.mp hy;exact(g.b b hb).nm
theorem Good.snn (g:Good bs ss js us ls ks h):∀y∈ss.map (·.nm),bh y=ak:=fun y hy=>by obtain⟨b,hb,rfl⟩:=bU.mp hy;exact(g.s b hb).nm
theorem LV (g:Good bs ss js us ls ks h) (ml:(js.flatMap (·.ms)).length<=300):xL [.lst (bs.map bZ),.lst (ss.map aX),.lst (js.map bc),.lst (us.map dv),.lst (ls.map dA),.lst (ks.map dI),.int h]=aa .non:=by
 have hb:=g.bnn;have hs:=g.snn;have hl:(ss.map (·.nm)).length<=40:=by rw[qf];exact g.sl.2
 have n1:∀z:au Slot,aQ (bp (itF (vSh 0)) (aC 0) tT (b2 ixD (vSh 0) .(f)) [af]) [oS (.lst (bs.map bZ)),oS (.lst (ss.map aX)),oS (.lst (js.map bc)),oS (.lst (us.map dv)),oS (.lst (ls.map dA)),oS (.lst (ks.map dI)),oS (.int h),af,af]=aa (.lst ((bs.map (·.nm)).map D.str)):=fun z=>
  kL (f:=bZ) (nm:=(·.nm)) (xs:=bs) (fun x=>⟨_,rfl⟩) rfl (szN g.bl.2 .(e)) rfl
 have n2:aQ (bp (itF (vSh 1)) (aC 0) tT (b2 ixD (vSh 0) .(f)) [af]) [oS (.lst (bs.map bZ)),oS (.lst (ss.map aX)),oS (.lst (js.map bc)),oS (.lst (us.map dv)),oS (.lst (ls.map dA)),oS (.lst (ks.map dI)),oS (.int h),oS (.lst ((bs.map (·.nm)).map D.str)),af]=aa (.lst ((ss.map (·.nm)).map D.str)):=
  kL (f:=aX) (nm:=(·.nm)) (xs:=ss) (fun x=>⟨_,rfl⟩) rfl (szN g.sl.2 .(e)) rfl
 refine ck [oS (.lst (bs.map bZ)),oS (.lst (ss.map aX)),oS (.lst (js.map bc)),oS (.lst (us.map dv)),oS (.lst (ls.map dA)),oS (.lst (ks.map dI)),oS (.int h),af,af] rfl ((mQ ?_).trans ((mQ ?_).trans ((jo (n1 af)).trans ((mQ ?_).trans ((jo n2).trans ((mQ ?_).trans ((mQ ?_).trans ((mQ ?_).trans ((mQ ?_).trans (cm rfl))))))))))
 .exact iV h 1 1000000 g.hh
 .exact FR g.bl.1 g.bl.2 g.b g.bn
 .exact Jv hb g.sl.1 g.sl.2 g.s g.sn
 .exact Ls hs hl g.jl g.j g.jn g.jm ml
 .exact OE hb g.ul g.u g.un
 .exact NP hs g.ll g.l g.ln
 .exact IY hs hl g.kl g.k g.kn
end
noncomputable def Pl:ao->D->Prop
 |0,_=>False
 |n+1,.lst l=>l.length<=aN/\∀x∈l,Pl n x
 |n+1,.tup l=>l.length<=aN/\∀x∈l,Pl n x
 |_+1,.non=>True
 |_+1,.bl _=>True
 |_+1,.int _=>True
 |_+1,.str _=>True
 |_+1,_=>False
theorem hZ {X E:FS} (h:ft ρ=aa av):aB (sIf ft X bA) E ρ=E ρ:=by simp only[aB,sIf,h,qb,qt,dc,bA]
theorem ww {A B E:FS} (h:ft ρ=aa ak) (h2:A ρ=aa (.rt d,ρ')):aB (sIf ft A B) E ρ=aa (.rt d,ρ'):=by simp only[aB,sIf,h,qb,c7,h2]
theorem xq:∀(n:ao) (d:D),Pl n d->jr n [d]=aa d
 |0,_,h=>h.elim
 |n+1,.lst l,h=>by
  refine ck [oS (.lst l)] rfl (ww (cD (b:=ak) ?_) (cm ?_))
  .simp only[cF,ag,ar,vSh,vC,dJ,tyD,qc,qb,qe,k1]
  .have:=ki (fi:=itF (vSh 0)) (fe:=cF (jr n) (ag (vSh 0) ar)) (fv:=[af]) (ρ:=[oS (.lst l)]) (r:=[]) (a:=af) (xs:=l) (f:=fun x=>x) rfl h.1 rfl (fun x hx=>by simp only[cF,ag,ar,vSh,qc,qb,qe,xq n x (h.2 x hx)]);rw[Rv] at this;exact this
 |n+1,.tup l,h=>by
  refine ck [oS (.tup l)] rfl ((hZ (cD (b:=av) ?_)).trans (ww (cD (b:=ak) ?_) (cm (bC (aK (d:=.lst l) ?_ aW) rfl))))
  .simp only[cF,ag,ar,vSh,vC,dJ,tyD,qc,qb,qe,k2]
  .simp only[cF,ag,ar,vSh,vC,dJ,tyD,qc,qb,qe,k3]
  .have:=ki (fi:=itF (vSh 0)) (fe:=cF (jr n) (ag (vSh 0) ar)) (fv:=[af]) (ρ:=[oS (.tup l)]) (r:=[]) (a:=af) (xs:=l) (f:=fun x=>x) rfl h.1 rfl (fun x hx=>by simp only[cF,ag,ar,vSh,qc,qb,qe,xq n x (h.2 x hx)]);rw[Rv] at this;exact this
 |n+1,.non,h=>by
  show jk (jr n) [.non]=aa .non;unfold jk;refine ck [oS .non] rfl ((hZ (cD (b:=av) ?_)).trans ((hZ (cD (b:=av) ?_)).trans (cm (f:=vSh 0) rfl)))<;>simp only[cF,ag,ar,vSh,vC,dJ,tyD,qc,qb,qe,k10,k11]
 |n+1,.bl b,h=>by
  show jk (jr n) [.bl b]=aa (.bl b);unfold jk;refine ck [oS (.bl b)] rfl ((hZ (cD (b:=av) ?_)).trans ((hZ (cD (b:=av) ?_)).trans (cm (f:=vSh 0) rfl)))<;>simp only[cF,ag,ar,vSh,vC,dJ,tyD,qc,qb,qe,k8,k9]
 |n+1,.int b,h=>by
  show jk (jr n) [.int b]=aa (.int b);unfold jk;refine ck [oS (.int b)] rfl ((hZ (cD (b:=av) ?_)).trans ((hZ (cD (b:=av) ?_)).trans (cm (f:=vSh 0) rfl)))<;>simp only[cF,ag,ar,vSh,vC,dJ,tyD,qc,qb,qe,k6,k7]
 |n+1,.str b,h=>by show jk (jr n) [.str b]=aa (.str b);unfold jk;refine ck [oS (.str b)] rfl ((hZ (cD (b:=av) ?_)).trans ((hZ (cD (b:=av) ?_)).trans (cm (f:=vSh 0) rfl)))<;>simp only[cF,ag,ar,vSh,vC,dJ,tyD,qc,qb,qe,k4,k4,k5]
theorem iX (h:Pl 8 d):e9 [d]=aa d:=xq 8 d h
theorem ip {f:α->D} {xs:ac α} (hl:xs.length<=1000) (h:∀x∈xs,Pl n (f x)):Pl (n+1) (.lst (xs.map f)):=
 ⟨by rw[qf];exact szN hl .(e),fun x hx=>by obtain⟨y,hy,rfl⟩:=bU.mp hx;exact h y hy⟩
theorem Kr {xs:ac aj} (hl:xs.length<=1000):Pl (n+2) (.lst (xs.map D.str)):=ip hl fun x _=>(trivial:Pl (n+1) (.str x))
theorem tE {xs:ac (aj×aq)} (hl:xs.length<=1000):Pl (n+3) (.lst (xs.map dW)):=ip hl fun x _=>⟨by simp[aN],by intro y hy;simp only[qM,qK,or_false] at hy;rcases hy with rfl|rfl<;>trivial⟩
theorem D7 {b:BenchT} (g:GoodB h b):Pl (n+4) (bZ b):=⟨by simp[aN],by
 intro y hy;simp only[qM,qK,or_false] at hy;rcases hy with rfl|rfl
 .trivial
 .exact ip (by have:=g.len;omega) fun x _=>⟨by simp[aN],by intro y hy;simp only[qM,qK,or_false] at hy;rcases hy with rfl|rfl<;>trivial⟩⟩
theorem Jr {bn:ac aj} {s:StepT} (g:GoodS bn h s):Pl (n+4) (aX s):=⟨by simp[aN],by
 intro y hy;simp only[qM,qK,or_false] at hy;rcases hy with rfl|rfl|rfl
 .trivial
 .trivial
 .exact tE (by have:=g.l4;omega)⟩
theorem xu {j:JobT} (hl:sn.length<=40) (g:GoodJ sn h j):Pl (n+3) (bc j):=⟨by simp[aN],by
 intro y hy;simp only[qM,qK,or_false] at hy;rcases hy with rfl|rfl|rfl|rfl|rfl
 .trivial
 .trivial
 .trivial
 .trivial
 .exact Kr (by have:=g.ln;omega)⟩
theorem HH {u:SetT} :Pl (n+2) (dv u):=⟨by simp[aN],by intro y hy;simp only[qM,qK,or_false] at hy;rcases hy with rfl|rfl|rfl|rfl<;>trivial⟩
theorem zV {u:LinkT} :Pl (n+2) (dA u):=⟨by simp[aN],by intro y hy;simp only[qM,qK,or_false] at hy;rcases hy with rfl|rfl|rfl<;>trivial⟩
theorem MP {k:StockT} (hl:sn.length<=40) (g:GoodK sn k):Pl (n+4) (dI k):=⟨by simp[aN],by
 intro y hy;simp only[qM,qK,or_false] at hy;rcases hy with rfl|rfl|rfl|rfl|rfl
 .trivial
 .trivial
 .trivial
 .exact tE (by have:=g.tk.ln;omega)
 .exact tE (by have:=g.pt.ln;omega)⟩
theorem xz {α:Type} {nm:α->aj} {f:α->D}:∀(xs:ac α),nU (xs.map fun x=>.tup [.str (nm x),f x])=aa (xs.map fun x=>(.inr (nm x),f x))
 |[]=>rfl
 |x::r=>by simp only[qo,nU,io,qb,xz r,qe]
theorem uX {α:Type} {t:α->ac aj} {f:α->D}:∀(xs:ac α),lU (xs.map fun x=>.tup [.tup ((t x).map D.str),f x])=aa (xs.map fun x=>((t x).map ci,f x))
 |[]=>rfl
 |x::r=>by simp only[qo,lU,jT,qb,uX r,qe]
theorem wE [eN κ] {ps:ac (κ×D)} (h:(ps.map (·.1)).Nodup):pC ps=ps:=by
 have key:∀(l a:ac (κ×D)),((a++l).map (·.1)).Nodup->l.foldl (fun acc kv=>cJ acc kv.1 kv.2) a=a++l:=by
  intro l
  induction l with
  |nil=>intro a _;simp
  |cons x r ih=>
   intro a hn;have hx:(a.any fun kv=>decide (kv.1=x.1))=av:=by rw[PK];intro y hy z;rw[eO,ky] at hn;exact hn.2.2 y.1 (qW hy) x.1 (by simp) (fL z)
   rw[gw];have e:cJ a x.1 x.2=a++[x]:=by unfold cJ;rw[hx];rfl
   rw[e,ih (a++[x]) (by simpa using hn)];simp
 simpa[pC] using key ps [] (by simpa using h)
theorem mB {β:Type}:∀{fs:ac (aj×β)} {i:ao} {k:aj} {d:β},(fs.map (·.1)).Nodup->fs[i]?=aa (k,d)->fs.lookup k=aa d
 |[],i,k,d,_,h=>by simp at h
 |(a,b)::r,0,k,d,_,h=>by
  simp only[qc,zb,Rw] at h;obtain⟨rfl,rfl⟩:=h;simp[dj]
 |(a,b)::r,i+1,k,d,nd,h=>by
  rw[qd] at h;rw[qo,eJ] at nd;have ne:k≠a:=by intro z;subst z;exact nd.1 (qW (f:=(·.1)) (qQ h))
  have hb:(k==a)=av:=by simpa using ne
  simp only[dj,hb];exact mB nd.2 h
theorem kO {β:Type}:∀{fs:ac (aj×β)} {k:aj},k∉fs.map (·.1)->fs.lookup k=af
 |[],_,_=>rfl
 |(a,b)::r,k,h=>by
  rw[qo,qM,rO] at h;have hb:(k==a)=av:=by simpa using h.1
  simp only[dj,hb];exact kO h.2
noncomputable def gT (j:JobT) (acc:ac (Key×D)) (m:aj):ac (Key×D):=cJ acc (.inr m) (bc j)
noncomputable def jkv (js:ac JobT):ac (Key×D):=js.foldl (fun acc j=>j.ms.foldl (gT j) acc) []
theorem kf [eN κ] (kvs:ac (κ×D)) (k:κ) (v:D):(cJ kvs k v).length<=kvs.length+1:=by
 unfold cJ;split
 .rw[qf];omega
 .rw[qj];simp
theorem wd (j:JobT):∀(ms:ac aj) (acc:ac (Key×D)),(ms.foldl (gT j) acc).length<=acc.length+ms.length
 |[],acc=>by simp
 |m::r,acc=>by rw[gw];have h1:=wd j r (gT j acc m);have h2:(gT j acc m).length<=acc.length+1:=kf _ _ _;rw[qi];omega
theorem BO {m:ao}:∀{js:ac JobT} (acc:ac (Key×D)),(∀j∈js,j.ms.length<=m)->(js.foldl (fun acc j=>j.ms.foldl (gT j) acc) acc).length<=acc.length+js.length*m
 |[],acc,_=>by simp
 |j::r,acc,h=>by rw[gw];have h1:=BO (js:=r) (j.ms.foldl (gT j) acc) fun y hy=>h y (qh _ hy);have h2:=wd j j.ms acc;have h3:=h j qg;rw[qi,oJ];omega
noncomputable def iP (bs:ac BenchT) (ss:ac StepT) (js:ac JobT) (us:ac SetT) (ls:ac LinkT) (ks:ac StockT) (h:aq):ac (aj×D):=
 [("benches",.lst (bs.map bZ)),("steps",.lst (ss.map aX)),("jobs",.lst (js.map bc)),("setups",.lst (us.map dv)),("links",.lst (ls.map dA)),("stocks",.lst (ks.map dI)),("horizon",.int h),
 ("bench_by_name",.dk (bs.map fun b=>(.inr b.nm,bZ b))),("step_by_name",.dk (ss.map fun s=>(.inr s.nm,aX s))),("setup_by_names",.dt (us.map fun u=>([u.b,u.p,u.q].map ci,.int u.n)))]
noncomputable def nZ (bs:ac BenchT) (ss:ac StepT) (js:ac JobT) (us:ac SetT) (ls:ac LinkT) (ks:ac StockT) (h:aq):ac (aj×D):=iP bs ss js us ls ks h++[(("job_by_step":aj),D.dk (jkv js))]
noncomputable def bP (bs:ac BenchT) (ss:ac StepT) (js:ac JobT) (us:ac SetT) (ls:ac LinkT) (ks:ac StockT) (h:aq):D:=.ins "Shop" (nZ bs ss js us ls ks h)
noncomputable def lc:ac aj:=["benches","steps","jobs","setups","links","stocks","horizon","bench_by_name","step_by_name","setup_by_names","job_by_step"]
theorem sA:lc.Nodup:=by decide +kernel
theorem vz {l:ac α} (h:l.Nodup) (n:ao):(l.take n).Nodup:=rS (lE n l) h
section
variable {fs:ac (aj×D)} {f:aj} {fv:FE}
theorem jB (n:ao) (hk:lc[n]?=aa f) (hf:fs.map (·.1)=lc.take n) (h:fv (aa (.obj "Shop" fs)::r)=aa d):aB (gC "Shop" f 0 fv) g (aa (.obj "Shop" fs)::r)=g (aa (.obj "Shop" (fs++[(f,d)]))::r):=by
 have hno:fs.lookup f=af:=kO (by
  rw[hf];intro z;obtain⟨i,hi⟩:=uP z;have hin:i<n:=by
   rcases ng i n with q|q
   .exact q
   .rw[yD (by rw[qF];omega)] at hi;cases hi
  rw[yj hin] at hi;have:=(List.getElem?_inj (eB.mp hi).1 sA).mp (hi.trans hk.symm);omega)
 have hlen:fs.length<100:=by have:=cw dU hf;rw[qf,qF] at this;have k:lc.length=11:=rfl;omega
 simp only[aB,gC,h,qb,qc,hno,hlen,and_self,c7,nr]
theorem we (n i:ao) (hf:fs.map (·.1)=lc.take n) (h:fs[i]?=aa (f,d)):jE "Shop" f 0 (aa (.obj "Shop" fs)::r)=aa d:=by have e:fs.lookup f=aa d:=mB (by rw[hf];exact vz sA n) h;show(if aa ("Shop":aj)=aa ("Shop":aj) then fs.lookup f else af)=aa d;rw[qX rfl,e]
end
theorem Ed {f:α->D} {nm:α->aj} {xs:ac α} (hf:∀x,∃r,f x=.tup (.str (nm x)::r)) (h1:fo ρ=aa (.lst (xs.map f))) (h2:xs.length<=1000) (nd:(xs.map nm).Nodup) :
  cF jV (ag (aQ (bp (itF fo) (aC 0) tT (aZ (szF (ag (b2 ixD (vSh 0) .(f)) (ag (vSh 0) ar)))) [af])) ar) ρ=aa (.dk (xs.map fun x=>(.inr (nm x),f x))):=by
 have hc:=ki (fi:=itF fo) (fe:=aZ (szF (ag (b2 ixD (vSh 0) .(f)) (ag (vSh 0) ar)))) (fv:=[af]) (ρ:=ρ) (r:=[]) (a:=af) (xs:=xs.map f) (f:=fun d=>.tup [match d with|.tup (x::_)=>x|_=>.non,d]) (by unfold itF;rw[h1];rfl) (by rw[qf];exact szN h2 .(e)) rfl (fun x hx=>by obtain⟨y,_,rfl⟩:=bU.mp hx;obtain⟨r,e⟩:=hf y;simp only[ag,ar,vSh,vC,b2,aZ,szF,cN,qc,qb,qe,c7,qi,qm,nq,sz2,e])
 have e:(xs.map f).map (fun d=>D.tup [match d with|.tup (x::_)=>x|_=>.non,d])=xs.map fun x=>.tup [.str (nm x),f x]:=by rw[qp];refine iG fun x _=>?_;obtain⟨r,e⟩:=hf x;simp[e]
 rw[e] at hc;have kn:((xs.map fun x=>((.inr (nm x):Key),f x)).map (·.1)).Nodup:=by rw[qp];have:=uO (S:=fun a b:Key=>a≠b) (ci:aj->Key) (fun a b hab z=>hab (jI z)) nd;rw[qp] at this;exact this
 refine bC (aK hc aW) ?_;show(if _ then _ else _)=_;rw[qX (by rw[qf];exact h2),xz,qe,wE kn]
theorem J1 (h1:fo ρ=aa (.lst (us.map dv))) (h2:us.length<=1000) (nd:(us.map fun u=>[u.b,u.p,u.q]).Nodup) :
  cF oj (ag (aQ (bp (itF fo) (aC 0) tT (aZ (szF (ag (slF (vSh 0) pN (pS (vC (.int 3)))) (ag (b2 ixD (vSh 0) (vC (.int 3))) ar)))) [af])) ar) ρ=aa (.dt (us.map fun u=>([u.b,u.p,u.q].map ci,.int u.n))):=by
 have hc:=ki (fi:=itF fo) (fe:=aZ (szF (ag (slF (vSh 0) pN (pS (vC (.int 3)))) (ag (b2 ixD (vSh 0) (vC (.int 3))) ar)))) (fv:=[af]) (ρ:=ρ) (r:=[]) (a:=af) (xs:=us.map dv) (f:=fun d=>match d with|.tup [a,b,c,d]=>.tup [.tup [a,b,c],d]|_=>.non) (by unfold itF;rw[h1];rfl) (by rw[qf];exact szN h2 .(e)) rfl (fun x hx=>by obtain⟨y,_,rfl⟩:=bU.mp hx;simp only[ag,ar,vSh,vC,b2,aZ,szF,slF,pN,pS,sQ,qc,qb,qe,c7,qi,qm,nq,sz2,dv,D1])
 rw[qp] at hc;have kn:((us.map fun u=>([u.b,u.p,u.q].map (ci:aj->Key),D.int u.n)).map (·.1)).Nodup:=by rw[qp];have inj:∀a b:ac aj,a.map (ci:aj->Key)=b.map ci->a=b:=fun a b z=>(Fj (fun x y q=>jI q)).mp z;have:=uO (S:=fun a b:ac Key=>a≠b) (List.map (ci:aj->Key)) (fun a b hab z=>hab (inj a b z)) nd;rw[qp] at this;exact this
 refine bC (aK hc aW) ?_;show(if _ then _ else _)=_;have e:=uX (t:=fun u:SetT=>[u.b,u.p,u.q]) (f:=fun u=>.int u.n) us;rw[qX (by rw[qf];exact h2)];have e2:lU (us.map ((fun d=>match d with|.tup [a,b,c,d]=>D.tup [.tup [a,b,c],d]|_=>.non) ∘ dv))=aa (us.map fun u=>([u.b,u.p,u.q].map ci,.int u.n)):=e;rw[e2,qe,wE kn]
section
variable {bs:ac BenchT}
theorem xV:(iP bs ss js us ls ks h).map (·.1)=lc.take 10:=rfl
theorem AQ:(nZ bs ss js us ls ks h).map (·.1)=lc:=rfl
noncomputable abbrev r9 (bs:ac BenchT) (ss:ac StepT) (js:ac JobT) (us:ac SetT) (ls:ac LinkT) (ks:ac StockT) (h:aq) (a b:au Slot):bG:=[oS (.lst (bs.map bZ)),oS (.lst (ss.map aX)),oS (.lst (js.map bc)),oS (.lst (us.map dv)),oS (.lst (ls.map dA)),oS (.lst (ks.map dI)),oS (.int h),oS .non,a,b]
noncomputable abbrev ob (bs:ac BenchT) (ss:ac StepT) (js:ac JobT) (us:ac SetT) (ls:ac LinkT) (ks:ac StockT) (h:aq) (kvs:ac (Key×D)):au Slot:=aa (.objd "Shop" (iP bs ss js us ls ks h) "job_by_step" kvs)
theorem F4 {j:JobT} {kvs:ac (Key×D)} (hl:kvs.length<100000):ju "Shop" "job_by_step" 0 (vSh 10) (vSh 9) (ob bs ss js us ls ks h kvs::r9 bs ss js us ls ks h (oS (bc j)) (oS (.str m)))=aa (.nx,ob bs ss js us ls ks h (gT j kvs m)::r9 bs ss js us ls ks h (oS (bc j)) (oS (.str m))):=by have hno:(iP bs ss js us ls ks h).lookup ("job_by_step":aj)=af:=kO (by rw[xV];decide +kernel);simp only[ju,vSh,qc,qd,qb,io,hno,hl,and_self,c7,nr,gT]
theorem Lq {j:JobT} {acc:ac (Key×D)} {z:au Slot} (hl:acc.length+j.ms.length<100000):∃z',b9 (itF (b2 ixD (vSh 9) (vC (.int 4)))) (aC 10) (ju "Shop" "job_by_step" 0 (vSh 10) (vSh 9)) (ob bs ss js us ls ks h acc::r9 bs ss js us ls ks h (oS (bc j)) z)=aa (.nx,ob bs ss js us ls ks h (j.ms.foldl (gT j) acc)::r9 bs ss js us ls ks h (oS (bc j)) z'):=by
 obtain⟨ρ',h1,z',h2⟩:=pU (gg:=aC 10) (body:=ju "Shop" "job_by_step" 0 (vSh 10) (vSh 9)) (xs:=j.ms.map D.str) (ρ:=ob bs ss js us ls ks h acc::r9 bs ss js us ls ks h (oS (bc j)) z)
  (fun i ρ=>∃z,ρ=ob bs ss js us ls ks h ((j.ms.take i).foldl (gT j) acc)::r9 bs ss js us ls ks h (oS (bc j)) z) ⟨z,by simp⟩ (fun i x ρ hx hI=>by
   obtain⟨z,rfl⟩:=hI;rw[qk] at hx;obtain⟨m,hm,rfl⟩:=oMd hx;have tk:j.ms.take (i+1)=j.ms.take i++[m]:=by rw[zc,hm];rfl
   have hlen:=wd j (j.ms.take i) acc;rw[qF] at hlen;refine⟨_,_,rfl,F4 .(c),oS (.str m),?_⟩;rw[tk,uF];rfl)
 refine⟨z',?_⟩;have e:itF (b2 ixD (vSh 9) (vC (.int 4))) (ob bs ss js us ls ks h acc::r9 bs ss js us ls ks h (oS (bc j)) z)=aa (j.ms.map D.str):=by simp only[vSh,vC,b2,itF,pB,lj,qc,qd,qb,bc]
 unfold b9;rw[e,qb,h1,h2,qf,gO]
theorem Mp (hj:js.length<=40) (hm:∀j∈js,j.ms.length<=40):∃z z',dZ (aC 9) (b9 (itF (b2 ixD (vSh 9) (vC (.int 4)))) (aC 10) (ju "Shop" "job_by_step" 0 (vSh 10) (vSh 9))) (js.map bc) (ob bs ss js us ls ks h []::r9 bs ss js us ls ks h af af)=aa (.nx,ob bs ss js us ls ks h (jkv js)::r9 bs ss js us ls ks h z z'):=by
 obtain⟨ρ',h1,z,z',h2⟩:=pU (gg:=aC 9) (body:=b9 (itF (b2 ixD (vSh 9) (vC (.int 4)))) (aC 10) (ju "Shop" "job_by_step" 0 (vSh 10) (vSh 9))) (xs:=js.map bc) (ρ:=ob bs ss js us ls ks h []::r9 bs ss js us ls ks h af af)
  (fun i ρ=>∃z z',ρ=ob bs ss js us ls ks h (jkv (js.take i))::r9 bs ss js us ls ks h z z') ⟨af,af,by simp[jkv]⟩ (fun i x ρ hx hI=>by
   obtain⟨z,z',rfl⟩:=hI;rw[qk] at hx;obtain⟨j,hjm,rfl⟩:=oMd hx;have tk:js.take (i+1)=js.take i++[j]:=by rw[zc,hjm];rfl
   have hlen:=BO (m:=40) (js:=js.take i) [] fun y hy=>hm y (uB hy);rw[qF,qm] at hlen;have h4:=hm j (qQ hjm);obtain⟨w,hw⟩:=Lq (bs:=bs) (ss:=ss) (js:=js) (us:=us) (ls:=ls) (ks:=ks) (h:=h) (j:=j) (acc:=jkv (js.take i)) (z:=z') (by unfold jkv;omega);refine⟨_,_,rfl,hw,oS (bc j),w,?_⟩;rw[tk];unfold jkv;rw[uF];rfl)
 refine⟨z,z',?_⟩;rw[h1,h2,qf,gO]
theorem HV (g:Good bs ss js us ls ks h) (ml:(js.flatMap (·.ms)).length<=300):wW [.lst (bs.map bZ),.lst (ss.map aX),.lst (js.map bc),.lst (us.map dv),.lst (ls.map dA),.lst (ks.map dI),.int h]=aa .(j):=by
 have hl:(ss.map (·.nm)).length<=40:=by rw[qf];exact g.sl.2
 have f1:=iX (d:=.lst (bs.map bZ)) (ip (by have:=g.bl.2;omega) fun x hx=>D7 (g.b x hx));have f2:=iX (d:=.lst (ss.map aX)) (ip (by have:=g.sl.2;omega) fun x hx=>Jr (g.s x hx));have f3:=iX (d:=.lst (js.map bc)) (ip (by have:=g.jl;omega) fun x hx=>xu hl (g.j x hx));have f4:=iX (d:=.lst (us.map dv)) (ip (by have:=g.ul;omega) fun x hx=>HH);have f5:=iX (d:=.lst (ls.map dA)) (ip (by have:=g.ll;omega) fun x hx=>zV);have f6:=iX (d:=.lst (ks.map dI)) (ip (by have:=g.kl;omega) fun x hx=>MP hl (g.k x hx));obtain⟨z,z',ho⟩:=Mp (bs:=bs) (ss:=ss) (us:=us) (ls:=ls) (ks:=ks) (h:=h) g.jl fun j hj=>qN (g.j j hj).ln hl;have key:∀(G:FS) (ρ':bG),G (aa (.obj "Shop" [])::[oS (.lst (bs.map bZ)),oS (.lst (ss.map aX)),oS (.lst (js.map bc)),oS (.lst (us.map dv)),oS (.lst (ls.map dA)),oS (.lst (ks.map dI)),oS (.int h),af,af,af])=aa (.nx,ob bs ss js us ls ks h (jkv js)::ρ')->
   nK 3 "Shop" G [.lst (bs.map bZ),.lst (ss.map aX),.lst (js.map bc),.lst (us.map dv),.lst (ls.map dA),.lst (ks.map dI),.int h]=aa .(j):=fun G ρ' e=>by
  unfold nK;show(G (aa (.obj "Shop" [])::[oS (.lst (bs.map bZ)),oS (.lst (ss.map aX)),oS (.lst (js.map bc)),oS (.lst (us.map dv)),oS (.lst (ls.map dA)),oS (.lst (ks.map dI)),oS (.int h),af,af,af])).bind _=_;rw[e];rfl
 refine key _ (r9 bs ss js us ls ks h z z') ((jo (bC rfl (LV g ml))).trans ?_);show aB _ _ (aa (.obj "Shop" [])::r9 bs ss js us ls ks h af af)=_;refine(hZ (cD (b:=av) rfl)).trans ?_;refine(jB 0 rfl rfl (bC rfl f1)).trans ?_;refine(jB 1 rfl rfl (bC rfl f2)).trans ?_;refine(jB 2 rfl rfl (bC rfl f3)).trans ?_;refine(jB 3 rfl rfl (bC rfl f4)).trans ?_;refine(jB 4 rfl rfl (bC rfl f5)).trans ?_;refine(jB 5 rfl rfl (bC rfl f6)).trans ?_;refine(jB 6 rfl rfl (d:=.int h) rfl).trans ?_;refine(jB 7 rfl rfl (Ed (f:=bZ) (nm:=(·.nm)) (xs:=bs) (fun x=>⟨_,rfl⟩) (we 7 0 rfl rfl) (by have:=g.bl.2;omega) g.bn)).trans ?_;refine(jB 8 rfl rfl (Ed (f:=aX) (nm:=(·.nm)) (xs:=ss) (fun x=>⟨_,rfl⟩) (we 8 1 rfl rfl) (by have:=g.sl.2;omega) g.sn)).trans ?_;refine(jB 9 rfl rfl (J1 (us:=us) (we 9 3 rfl rfl) (by have:=g.ul;omega) g.un)).trans ?_;have hno:(iP bs ss js us ls ks h).lookup ("job_by_step":aj)=af:=kO (by rw[xV];decide +kernel);have hle:(iP bs ss js us ls ks h).length<100:=by simp[iP]
 have e1:n3 "Shop" "job_by_step" 0 (aa (.obj "Shop" (iP bs ss js us ls ks h))::r9 bs ss js us ls ks h af af)=aa (.nx,ob bs ss js us ls ks h []::r9 bs ss js us ls ks h af af):=by simp only[n3,qc,hno,hle,and_self,c7,nr]
 have e2:itF (jE "Shop" "jobs" 0) (ob bs ss js us ls ks h []::r9 bs ss js us ls ks h af af)=aa (js.map bc):=by
  have lk:(iP bs ss js us ls ks h).lookup ("jobs":aj)=aa (.lst (js.map bc)):=mB (i:=2) (by rw[xV];exact vz sA 10) rfl;have n1:("jobs":aj)≠"job_by_step":=by decide +kernel
  have e:jE "Shop" "jobs" 0 (ob bs ss js us ls ks h []::r9 bs ss js us ls ks h af af)=aa (.lst (js.map bc)):=by show(if aa ("Shop":aj)=aa ("Shop":aj) then (if ("jobs":aj)="job_by_step" then af else (iP bs ss js us ls ks h).lookup ("jobs":aj)) else af)=_;rw[qX rfl,qY n1,lk]
  unfold itF;rw[e];rfl
 show aB (n3 "Shop" "job_by_step" 0) (b9 (itF (jE "Shop" "jobs" 0)) (aC 9) (b9 (itF (b2 ixD (vSh 9) (vC (.int 4)))) (aC 10) (ju "Shop" "job_by_step" 0 (vSh 10) (vSh 9)))) (aa (.obj "Shop" (iP bs ss js us ls ks h))::r9 bs ss js us ls ks h af af)=_;unfold aB;rw[e1,qb];show b9 _ _ _ _=_;unfold b9;rw[e2,qb];exact ho
end
noncomputable def Wp (o:au α) (P:α->Prop):Prop:=∃a,o=aa a/\P a
section
variable {o:au α} {P Q:α->Prop}
theorem Wp.imp (h:Wp o P) (k:∀a,P a->Q a):Wp o Q:=let ⟨a,e,p⟩:=h;⟨a,e,k a p⟩
theorem dL {f:α->au β} {P:β->Prop} (h:Wp o fun a=>Wp (f a) P):Wp (o.bind f) P:=by obtain⟨a,rfl,b,e,p⟩:=h;exact⟨b,e,p⟩
theorem nB {f:α->β} {P:β->Prop} (h:Wp o fun a=>P (f a)):Wp (o.map f) P:=by obtain⟨a,rfl,p⟩:=h;exact⟨_,rfl,p⟩
theorem aP {a:α} (e:o=aa a) (p:P a):Wp o P:=⟨a,e,p⟩
theorem w_2 {G:D->D->au D} {P:D->Prop} (h:Wp (fa ρ) fun x=>Wp (fb ρ) fun y=>Wp (G x y) P):Wp (b2 G fa fb ρ) P:=dL (h.imp fun _ k=>dL k)
theorem w_1 {G:D->au D} {P:D->Prop} (h:Wp (fa ρ) fun x=>Wp (G x) P):Wp (b1 G fa ρ) P:=dL h
theorem w_c {P:D->Prop} (p:P d):Wp (vC d ρ) P:=⟨d,rfl,p⟩
theorem bf {P:D->Prop} (h:ρ[i]?=aa (oS d)) (p:P d):Wp (vSh i ρ) P:=⟨d,by unfold vSh;rw[h],p⟩
theorem bd {P:ac D->Prop} (h:Wp (fa ρ) fun x=>Wp (fr ρ) fun l=>P (x::l)):Wp (ag fa fr ρ) P:=dL (h.imp fun _ k=>nB k)
theorem cC {P:ac D->Prop} (p:P []):Wp (ar ρ) P:=⟨_,rfl,p⟩
theorem DQ {P:ac D->Prop} (h:Wp (fr ρ) fun l=>l.length<=1000/\P l):Wp (szF fr ρ) P:=dL (h.imp fun l k=>⟨l,qX (by unfold aN;omega),k.2⟩)
theorem jR {P:D->Prop} (h:Wp (fr ρ) fun l=>l.length<=1000/\P (.tup l)):Wp (aZ (szF fr) ρ) P:=nB (DQ h)
theorem u8 {P:D->Prop} (h:Wp (fr ρ) fun l=>l.length<=1000/\P (.lst l)):Wp (aQ (szF fr) ρ) P:=nB (DQ h)
theorem gH {F:FQ} {P:D->Prop} (h:Wp (fr ρ) fun l=>Wp (F l) P):Wp (cF F fr ρ) P:=dL h
theorem f8 {a b:aq} {P:D->Prop} (p:P (.int (a+b))):Wp (bi (.int a) (.int b)) P:=⟨_,rfl,p⟩
theorem mO {a b:aq} {P:D->Prop} (h:0<b) (p:∀n,0<=n->n<b->n=a%b->P (.int n)):Wp (eP (.int a) (.int b)) P:=⟨_,qX h,p _ (Qx _ .(c)) (Qy _ h) rfl⟩
theorem vo {a b:aq} {P:D->Prop} (h:0<b/\b<1073741824) (p:P (.int (a / b))):Wp (kU (.int a) (.int b)) P:=⟨_,qX h,p⟩
theorem gx {P:aT->Prop} (h:Wp (f ρ) fun d=>∃b,d=.bl b/\P b):Wp (toB f ρ) P:=dL (h.imp fun d ⟨b,e,p⟩=>by subst e;exact⟨b,rfl,p⟩)
theorem Nb {a b:aq} {P:D->Prop} (p:P (.bl (decide (a<=b)))):Wp (leD (.int a) (.int b)) P:=⟨_,rfl,p⟩
theorem ID {a b:aq} {P:D->Prop} (p:P (.bl (decide (a<b)))):Wp (ltD (.int a) (.int b)) P:=⟨_,rfl,p⟩
theorem zn {a b:aq} {P:D->Prop} (p:P (.bl (decide (b<a)))):Wp (gtD (.int a) (.int b)) P:=⟨_,rfl,p⟩
theorem M9 {a b:aq} {P:D->Prop} (p:P (.bl (decide (b<=a)))):Wp (geD (.int a) (.int b)) P:=⟨_,rfl,p⟩
theorem tq {a b:aq} {P:D->Prop} (p:∀c:aT,(c=ak↔a=b)->P (.bl c)):Wp (eqD (.int a) (.int b)) P:=⟨_,rfl,p _ (by simp)⟩
theorem On {P:aT->Prop} (h:Wp (ft ρ) fun b=>if b=ak then Wp (gt ρ) P else P av):Wp (ic ft gt ρ) P:=dL (h.imp fun b k=>by
 cases b with
 |true=>exact k
 |false=>exact⟨_,rfl,k⟩)
theorem dG (h:Wp (g ρ) fun r=>r.1=.nx/\Wp (g' r.2) R):Wp (aB g g' ρ) R:=dL (h.imp fun⟨fl,ρ'⟩ ⟨e,k⟩=>by have e:fl=.nx:=e;subst e;exact k)
theorem mw (h:Wp (f ρ) fun d=>R (.nx,ρ.set j (oS d))):Wp (bo j f ρ) R:=nB h
theorem b8 (h:Wp (f ρ) fun d=>Wp (g (ρ.set j (oS d))) R):Wp (aB (bo j f) g ρ) R:=dG (mw (h.imp fun _ k=>⟨rfl,k⟩))
theorem GY (h:Wp (fr ρ) fun d=>R (.nx,ρ.set j (aa (.own d)))):Wp (eY j fr ρ) R:=nB h
theorem O4 (h:Wp (fr ρ) fun d=>Wp (g (ρ.set j (aa (.own d)))) R):Wp (aB (eY j fr) g ρ) R:=dG (GY (h.imp fun _ k=>⟨rfl,k⟩))
theorem l7 (h:Wp (g (ρ.set j (aa (.own [])))) R):Wp (aB (eY j (szF ar)) g ρ) R:=O4 ⟨[],rfl,h⟩
theorem zz (hs:ρ[j]?=aa (aa (.own ds))) (hl:ds.length<=1000) (h:Wp (f ρ) fun d=>R (.nx,ρ.set j (aa (.own (ds++[d]))))):Wp (gk j f ρ) R:=by unfold gk;rw[hs];exact dL (h.imp fun d k=>⟨_,qX (by unfold aN;omega),k⟩)
theorem l9 (hs:ρ[j]?=aa (aa (.own ds))) (h:Wp (g (ρ.set j (oS (.lst ds)))) R):Wp (fy j g ρ) R:=by unfold fy;rw[hs];exact h
theorem fE (h:Wp (f ρ) fun d=>R (.rt d,ρ)):Wp (aM f ρ) R:=nB h
theorem fZ (h:R (.nx,ρ)):Wp (bA ρ) R:=⟨_,rfl,h⟩
theorem eK (I:ao->bG->Prop) (h:Wp (fi ρ) fun xs=>I 0 ρ/\(∀i x ρ,xs[i]?=aa x->I i ρ->Wp (gg x ρ) fun ρ1=>Wp (g ρ1) fun r=>r.1=.nx/\I (i+1) r.2)/\∀ρ,I xs.length ρ->R (.nx,ρ)):Wp (b9 fi gg g ρ) R:=dL (h.imp fun xs ⟨h0,hs,he⟩=>by
 have key:∀(n i:ao) (ρ:bG),i+n=xs.length->I i ρ->Wp (dZ gg g (xs.drop i) ρ) fun r=>r.1=.nx/\I xs.length r.2:=by
  intro n
  induction n with
  |zero=>
   intro i ρ hi hI;have e:i=xs.length:=by omega
   subst e;rw[yK];exact⟨_,rfl,rfl,hI⟩
  |succ n ih=>
   intro i ρ hi hI;have hlt:i<xs.length:=by omega
   rw[rJ hlt];unfold dZ;refine dL ((hs i xs[i] ρ (by simp[hlt]) hI).imp fun ρ1 k=>dL (k.imp fun⟨fl,ρ2⟩ ⟨e,hI2⟩=>?_));have e:fl=.nx:=e;subst e;exact ih (i+1) ρ2 .(c) hI2
 have:=key xs.length 0 ρ .(c) h0;rw[oN] at this;exact this.imp fun⟨fl,ρ'⟩ ⟨e,k⟩=>by have e:fl=.nx:=e;subst e;exact he ρ' k)
theorem gr {P:D->Prop} (h:Wp (g (ds.map (fun d=>aa (Slot.sh d))++bT n af)) fun r=>∃d,r.1=.rt d/\P d):Wp (aY n g ds) P:=dL (h.imp fun⟨fl,ρ'⟩ ⟨d,e,p⟩=>by have e:fl=.rt d:=e;subst e;exact⟨d,rfl,p⟩)
theorem iH {P:ac D->Prop} (h:Wp (fr ρ) fun l=>∃n:aq,l=[.int n]/\0<=n/\n<=1000/\P ((cQ n.toNat).map fun i:ao=>D.int (0+i))):Wp (itR et fr ρ) P:=by unfold itR;exact dL (h.imp fun l ⟨n,e,h0,h1,k⟩=>⟨_,by rw[e];exact wb ⟨h0,by omega⟩,k⟩)
theorem i6 {x:D} (h:((cQ n).map fun i:ao=>D.int (0+(i:aq)))[i]?=aa x):i<n/\x=.int i:=by rw[qk] at h;obtain⟨k,hk,rfl⟩:=oMd h;obtain⟨hlt,e⟩:=eB.mp hk;rw[List.getElem_range] at e;rw[qV] at hlt;subst e;exact⟨hlt,by rw[zd]⟩
end
theorem wU (h:Wp (ft ρ) fun b=>if b=ak then Wp (f ρ) fun d=>R (.rt d,ρ) else Wp (g' ρ) R):Wp (aB (sIf ft (aM f) bA) g' ρ) R:=by
 obtain⟨b,e,k⟩:=h;unfold aB sIf;rw[e];cases b with
 |true=>
  obtain⟨d,e2,k⟩:=k;refine⟨(.rt d,ρ),?_,k⟩;show((aM f ρ).bind _)=_;unfold aM;rw[e2];rfl
 |false=>exact k
theorem my {a b:aq} {P:D->Prop} (h:(-(2 ^ 64)<a/\a<2 ^ 64)\/(-(2 ^ 64)<b/\b<2 ^ 64)) (p:P (.int (a*b))):Wp (di (.int a) (.int b)) P:=⟨_,qX h,p⟩
theorem NU {ns:ac aq} {P:D->Prop} (p:P (.int ns.length)):Wp (cg [.scr ns]) P:=⟨_,rfl,p⟩
theorem IG {l:ac D} {P:D->Prop} (p:P (.int l.length)):Wp (cg [.lst l]) P:=⟨_,rfl,p⟩
theorem k0:(2:aq) ^ 64=18446744073709551616:=by decide +kernel
theorem IX {ns:ac aq} {n:aq} {P:D->Prop} (h0:0<=n) (h1:n<ns.length) (p:∀m,P (.int m)):Wp (ixD (.scr ns) (.int n)) P:=by
 obtain⟨k,rfl⟩:=rT h0;refine⟨.int (ns.getD k 0),?_,p _⟩;show(atI ns (k:aq)).map D.int=_;rw[jz];have:k<ns.length:=by omega
 simp[yI,this]
theorem Bi {a:aq} {P:D->Prop} (h:n<=1000000) (h2:a.natAbs<2 ^ 64) (p:P (.int (a ^ n))):Wp (jY (.int a) (.int n)) P:=⟨_,by show(if 0<=(n:aq)/\(n:aq)<=1000000/\a.natAbs<2 ^ 64 then aa (D.int (a ^ (n:aq).toNat)) else af)=_;rw[qX ⟨by omega,by omega,h2⟩,gj],p⟩
theorem gb (h:Wp (ft ρ) fun b=>(b=ak->Wp (g ρ) R)/\(b=av->Wp (g' ρ) R)):Wp (sIf ft g g' ρ) R:=dL (h.imp fun b k=>by
 cases b with
 |true=>exact k.1 rfl
 |false=>exact k.2 rfl)
theorem vg {m:α->D} {xs:ac α} (x:α) (hs:ρ[j]?=aa (aa (.own (xs.map m)))) (hl:xs.length<=1000) (h:Wp (f ρ) fun d=>d=m x/\R (.nx,ρ.set j (aa (.own ((xs++[x]).map m))))):Wp (gk j f ρ) R:=
 zz hs (by rw[qf];exact hl) (h.imp fun d ⟨e,k⟩=>by subst e;rw[eO] at k;exact k)
structure GoodI (h f:aq) (br:ac (aq×aq)):Prop where
 iv:∀p∈br,0<=p.1/\p.1<p.2/\p.2<=h/\p.2<f
 gap:∀(i:ao) p q,br[i]?=aa p->br[i+1]?=aa q->p.2<q.1
theorem GoodI.snoc {f b e:aq} (g:GoodI h f br) (h0:0<=f) (h1:f<=b) (h2:b<e) (h3:e<=h):GoodI h (e+1) (br++[(b,e)]):=by
 refine⟨fun p hp=>?_,fun i p q hp hq=>?_⟩
 .rcases eF.mp hp with hp|hp
  .have:=g.iv p hp;exact⟨this.1,this.2.1,this.2.2.1,by omega⟩
  .rw[bN.mp hp];exact⟨by show 0<=b;omega,h2,h3,by show e<e+1;omega⟩
 .by_cases hi:i+1<br.length
  .rw[qA .(c)] at hp;rw[qA hi] at hq;exact g.gap i p q hp hq
  .by_cases hi2:i+1=br.length
   .rw[qA .(c)] at hp;rw[qL .(c),show i+1-br.length=0 by omega] at hq;cases hq;have:=(g.iv p (qQ hp)).2.2.2;show p.2<b;omega
   .rw[yD (by simp;omega)] at hq;cases hq
noncomputable def bnm (bs:ac BenchT) (i:ao):aj:=(bs.map (·.nm)).getD i ⟨#[]⟩
theorem FW {bs:ac BenchT} (h:i<bs.length):bnm bs i∈bs.map (·.nm):=by unfold bnm;rw[hV,qk,qE h];exact qW (rF h)
theorem Dz {m:α->D} {nm:α->aj} (hm:∀x,∃r,m x=.tup (.str (nm x)::r)) {xs:ac α} {g:FE} {P:D->Prop} (hf:f ρ=aa (.lst (xs.map m))) (hg:Wp (g ρ) fun d=>∃n:aq,d=.int n/\0<=n/\n<xs.length/\P (.str ((xs.map nm).getD n.toNat ⟨#[]⟩))):Wp (b2 ixD (b2 ixD f g) .(f) ρ) P:=by
 obtain⟨_,e0,n,rfl,h0,h1,p⟩:=hg;obtain⟨k,rfl⟩:=rT h0;have hk:k<xs.length:=by omega
 obtain⟨r,e⟩:=hm xs[k];refine⟨.str (nm xs[k]),?_,?_⟩
 .unfold b2;rw[hf,e0];show(((ixD (.lst (xs.map m)) (.int (k:aq))).bind fun x=>(vC (.int 0) ρ).bind fun y=>ixD x y))=_;rw[ixL,qk,qE hk];show ixD (m xs[k]) (.int 0)=_;rw[e];exact cN
 .rw[gj,hV,qk,qE hk] at p;exact p
theorem Iw {bs:ac BenchT} {g:FE} {P:D->Prop} (hf:f ρ=aa (.lst (bs.map bZ))) (hg:Wp (g ρ) fun d=>∃n:aq,d=.int n/\0<=n/\n<bs.length/\P (.str (bnm bs n.toNat))):Wp (b2 ixD (b2 ixD f g) .(f) ρ) P:=Dz (m:=bZ) (nm:=fun b=>b.nm) (fun x=>⟨[.lst (x.br.map dIv)],rfl⟩) hf hg
theorem Bj {l:ac α} {x:α} (f:α->β) (h:l[i]?=aa x):(l.take (i+1)).map f=(l.take i).map f++[f x]:=by rw[jQ,h,eO];rfl
theorem Jq {l:ac α} {x:α} (f:α->ac β) (h:l[i]?=aa x):(l.take (i+1)).flatMap f=(l.take i).flatMap f++f x:=by rw[jQ,h,uQ];simp
noncomputable def snm (ss:ac StepT) (i:ao):aj:=(ss.map (·.nm)).getD i ⟨#[]⟩
theorem pF {g:FE} {P:D->Prop} (hf:f ρ=aa (.lst (ss.map aX))) (hg:Wp (g ρ) fun d=>∃n:aq,d=.int n/\0<=n/\n<ss.length/\P (.str (snm ss n.toNat))):Wp (b2 ixD (b2 ixD f g) .(f) ρ) P:=Dz (m:=aX) (nm:=fun b=>b.nm) (fun x=>⟨_,rfl⟩) hf hg
theorem uU:∀(ns:ac aj),lK (ns.map fj)=0
 |[]=>by simp[lK]
 |x::r=>by simp[lK,iF,uU r]
theorem v8 (h:∀x∈ns,bh x=ak):fS (.list (ns.map fj))=ak:=by simp[fS,hW,pz h,iF,uU]
theorem HN (h:∀x∈ns,bh x=ak):neA (.lst (ns.map D.str)) (.lst [])=aa (.bl (!ns.isEmpty)):=by
 have e0:neA (.lst (ns.map D.str)) (.lst [])=l5 (.lst (ns.map D.str)) (.lst []):=rfl;have s1:=v8 h;have s2:fS (.list [])=ak:=by simp[fS,hW,jc,iF,lK]
 have p1:pdD (.lst (ns.map D.str))=aa (.list (ns.map fj)):=by simp[pdD,pI]
 have p2:pdD (.lst [])=aa (.list []):=by simp[pdD,eL]
 have q:fK (.list (ns.map fj)) (.list [])=ns.isEmpty:=by cases ns<;>simp[fK,kz]
 rw[e0];unfold l5 eqX;rw[p1,p2,qb,qb,qX ⟨s1,s2⟩,q];rfl
theorem BK (t:ac aj):pdD (.tup (t.map D.str))=aa (.tuple (t.map fj)):=by simp[pdD,pI]
theorem tL:∀(ts:ac (ac aj)),eL (ts.map fun t=>.tup (t.map D.str))=aa (ts.map fun t=>.tuple (t.map fj))
 |[]=>by simp[eL]
 |t::r=>by simp[eL,BK,tL r]
theorem By:∀{ts:ac (ac aj)},(∀t∈ts,∀x∈t,bh x=ak)->jc (ts.map fun t=>.tuple (t.map fj))=ak
 |[],_=>by simp[jc]
 |t::r,h=>by simp only[qo,jc,hW,pz (h t qg),uH];exact By fun y hy=>h y (qh _ hy)
theorem vn:∀(a b:ac aj),kz (a.map fj) (b.map fj)=decide (a=b)
 |[],[]=>by simp[kz]
 |[],_::_=>by simp[kz]
 |_::_,[]=>by simp[kz]
 |x::r,y::t=>by
  simp only[qo,kz,fK,vn r t];by_cases e:x=y
  .subst e;simp
  .simp[e]
theorem zF (t:ac aj):∀(ts:ac (ac aj)),((ts.map fun t=>Qv (t.map fj)).any fun z=>fK z (.tuple (t.map fj)))=decide (t∈ts)
 |[]=>by simp
 |y::r=>by
  rw[qo,jP,zF t r];simp only[fK,vn];by_cases e:y=t
  .subst e;simp
  .have:t≠y:=fun z=>e z.symm;simp[e,this]
theorem Ch {t:ac aj} {ts:ac (ac aj)} (hx:∀x∈t,bh x=ak) (hn:∀y∈ts,∀x∈y,bh x=ak):nA (.tup (t.map D.str)) (.lst (ts.map fun t=>.tup (t.map D.str)))=aa (.bl (!decide (t∈ts))):=by
 have sh:fS (.tuple (t.map fj))=ak:=by simp[fS,hW,pz hx,iF,uU]
 have p1:pdD (.lst (ts.map fun t=>.tup (t.map D.str)))=aa (.list (ts.map fun t=>.tuple (t.map fj))):=by simp[pdD,tL]
 unfold nA inX;rw[BK,p1,qb,qb];simp only[sh,By hn,and_self,c7,zF,qe]
theorem tu (h:i<ss.length):snm ss i∈ss.map (·.nm):=by unfold snm;rw[hV,qk,qE h];exact qW (rF h)
theorem Nz {b:aT} (h1:ρ[i]?=aa (aa (.own ds))) (h2:ft (ρ.set i (oS (.lst ds)))=aa b):bwT i ft ρ=aa b:=by unfold bwT;rw[h1];exact h2
theorem o5 {l:ac D} {n:aq} {P:D->Prop} (h0:0<=n) (h1:n<l.length) (p:∀d∈l,P d):Wp (ixD (.lst l) (.int n)) P:=by
 obtain⟨k,rfl⟩:=rT h0;have hk:k<l.length:=by omega
 exact⟨l[k],by rw[ixL,qE hk],p _ (rF hk)⟩
theorem vO {a b:D} {P:D->Prop} (h1:P a) (h2:P b):∀d∈[a,b],P d:=by
 intro d hd;simp only[qM,qK,or_false] at hd;rcases hd with rfl|rfl
 .exact h1
 .exact h2
theorem Mf {a b c:D} {P:D->Prop} (h1:P a) (h2:P b) (h3:P c):∀d∈[a,b,c],P d:=by
 intro d hd;simp only[qM,qK,or_false] at hd;rcases hd with rfl|rfl|rfl
 .exact h1
 .exact h2
 .exact h3
theorem tP {m:α->D} {xs:ac α} (hs:ρ[j]?=aa (aa (.own (xs.map m)))) (hl:xs.length<=1000) (h:Wp (f ρ) fun d=>∃x,d=m x/\R (.nx,ρ.set j (aa (.own ((xs++[x]).map m))))):Wp (gk j f ρ) R:=
 zz hs (by rw[qf];exact hl) (h.imp fun d ⟨x,e,k⟩=>by subst e;rw[eO] at k;exact k)
theorem sT (Q:bG->Prop) (h2:∀ρ,Q ρ->Wp (g' ρ) R) (h:Wp (g ρ) fun r=>(r.1=.nx/\Q r.2)\/(∃d,r.1=.rt d)/\R r):Wp (aB g g' ρ) R:=by
 obtain⟨⟨fl,ρ'⟩,e,k⟩:=h;unfold aB;rw[e];rcases k with⟨e2,k⟩|⟨⟨d,e2⟩,k⟩
 .have e2:fl=.nx:=e2;subst e2;exact h2 _ k
 .have e2:fl=.rt d:=e2;subst e2;exact⟨_,rfl,k⟩
theorem p18 {P:D->Prop} (p:P (.int (10 ^ 18))):Wp (b2 jY (vC (.int 10)) (vC (.int 18)) ρ) P:=w_2 (w_c (w_c (Bi (n:=18) .(e) .(e) p)))
theorem p7 {P:D->Prop} (p:P (.int 10000000)):Wp (b2 jY (vC (.int 10)) (vC (.int 7)) ρ) P:=w_2 (w_c (w_c (Bi (n:=7) .(e) .(e) p)))
noncomputable abbrev drE (c k m:aq) (a b e:au Slot):bG:=[oS (.int c),oS (.int k),oS (.int m),a,b,e]
theorem Pn (c:aq) {k m:aq} (h0:0<=k) (h1:k<=1000) (hm:0<m):Wp (bS [.int c,.int k,.int m]) fun d=>∃n,d=.int n/\0<=n/\n<m:=by
 unfold bS;refine gr (sT (fun ρ=>∃a b,ρ=drE c k m a b af) ?_ ?_)
 .rintro _ ⟨a,b,rfl⟩;refine b8 (w_2 (w_2 (w_2 (w_2 (w_2 (w_2 (bf rfl (w_c (mO .(e) fun r _ _ _=>w_2 (w_2 (w_c (bf rfl (my (.inl (by rw[k0];omega)) (bf rfl (my (.inr (by rw[k0];omega)) (f8 (w_2 (w_c (bf rfl (my (.inl (by rw[k0];omega)) (f8 (w_c (f8 (w_c (my (.inr (by rw[k0];omega)) (w_c (mO .(e) fun x x0 x1 _=>?_)))))))))))))))))))))))))));refine b8 (w_2 (w_2 (w_2 (w_2 (bf rfl (bf rfl (my (.inl (by rw[k0];omega)) (w_2 (w_c (bf rfl (my (.inl (by rw[k0];omega)) (f8 (w_c (f8 (w_c (mO .(e) fun y y0 y1 _=>?_))))))))))))))));exact fE (w_2 (w_2 (w_2 (bf rfl (bf rfl (my (.inl (by rw[k0];omega)) (w_c (mO .(e) fun z _ _ _=>bf rfl (mO hm fun n n0 n1 _=>⟨_,rfl,n,rfl,n0,n1⟩)))))))))
 .refine gb (gx (w_2 (bf rfl (p18 (M9 ⟨_,rfl,fun _=>?_,fun _=>?_⟩)))))
  .refine b8 (bf rfl (dG (eK (fun _ ρ=>∃x b,ρ=drE c k m (oS (.int x)) b af) (iH (bd (bf rfl (cC ⟨k,rfl,h0,h1,⟨c,af,rfl⟩,?_,?_⟩)))))))
   .rintro i x ρ hx ⟨x,b,rfl⟩;obtain⟨_,rfl⟩:=i6 hx;exact aP rfl (mw (w_2 (bf rfl (p7 (vo .(e) ⟨rfl,_,_,rfl⟩)))))
   .rintro ρ ⟨x,b,rfl⟩;refine⟨rfl,gb (gx (w_2 (bf rfl (w_c (zn ⟨_,rfl,fun _=>?_,fun _=>?_⟩))))) ⟩
    .exact fE (w_2 (w_2 (bf rfl (p7 (mO .(e) fun z _ _ _=>bf rfl (mO hm fun n n0 n1 _=>.inr ⟨⟨_,rfl⟩,_,rfl,n,rfl,n0,n1⟩))))))
    .exact fZ (.inl ⟨rfl,_,_,rfl⟩)
  .exact fZ (.inl ⟨rfl,_,_,rfl⟩)
noncomputable def drw (c k m:aq):aq:=match bS [.int c,.int k,.int m] with
 |some (.int n)=>n
 |_=>0
theorem im (c:aq) {k m:aq} (h0:0<=k) (h1:k<=1000) (hm:0<m):bS [.int c,.int k,.int m]=aa (.int (drw c k m))/\0<=drw c k m/\drw c k m<m:=by obtain⟨_,e,n,rfl,h⟩:=Pn c h0 h1 hm;unfold drw;rw[e];exact⟨rfl,h⟩
theorem gI {a b:aq} (h : -(2 ^ 64)<a/\a<2 ^ 64:=by decide):di (.int a) (.int b)=aa (.int (a*b)):=qX (.inl h)
theorem Kw {a b:aq} (h : -(2 ^ 64)<b/\b<2 ^ 64:=by decide):di (.int a) (.int b)=aa (.int (a*b)):=qX (.inr h)
theorem cS {c k m:aq} {P:D->Prop} (ha:fa ρ=aa (.int c)) (eb:fb ρ=aa (.int k)) (ec:fc ρ=aa (.int m)) (h0:0<=k) (h1:k<=1000) (hm:0<m) (p:0<=drw c k m->drw c k m<m->P (.int (drw c k m))):Wp (cF bS (ag fa (ag fb (ag fc ar))) ρ) P:=by obtain⟨e,q0,q1⟩:=im c h0 h1 hm;exact gH (bd (aP ha (bd (aP eb (bd (aP ec (cC (aP e (p q0 q1)))))))))
theorem xX (ns:ac aq) (k:ao):Wp (gS [.scr ns,.int k]) fun d=>∃n,d=.int n:=by
 unfold gS;refine gr (wU (gx (w_2 (bf rfl (gH (bd (bf rfl (cC (NU (ID ⟨_,rfl,?_⟩))))))))));by_cases hk:(k:aq)<ns.length
 .rw[qX (qT hk)];exact w_2 (bf rfl (bf rfl (IX .(c) hk fun m=>⟨_,rfl,m,rfl⟩)))
 .rw[qY (by rw[qO hk];exact qu)];exact fE (w_c ⟨_,rfl,_,rfl⟩)
theorem lP {ns:ac aq} {k:ao} {P:D->Prop} (hf:f ρ=aa (.scr ns)) (p:∀n,P (.int n)):Wp (cF gS (ag f (ag (vC (.int k)) ar)) ρ) P:=
 gH (bd (aP hf (bd (w_c (cC ((xX ns k).imp fun d ⟨n,e⟩=>by subst e;exact p n))))))
theorem wv {a b:aq} :(if b<a then b else a)<=a/\(if b<a then b else a)<=b/\((if b<a then b else a)=a\/(if b<a then b else a)=b):=by split<;>omega
theorem G9 (c:aq) {k m:aq} (h0:0<=k) (h1:k<=900) (hm:0<=m):Wp (kS [.int c,.int k,.int m]) fun d=>∃n,d=.int n/\0<=n/\n<=m:=by
 unfold kS;refine gr (wU (gx (w_2 (cS (k:=k) (m:=4) rfl rfl rfl h0 .(c) .(e) fun _ _=>w_c (tq fun b _=>⟨b,rfl,?_⟩)))));cases b with
 |true=>exact cS (k:=k+1) (m:=m+1) rfl rfl rfl .(c) .(c) .(c) fun q0 q1=>⟨_,rfl,_,rfl,q0,by omega⟩
 |false=>
  have e:=wv (a:=m) (b:=12);exact fE (cS (k:=k+1) (m:=(if 12<m then 12 else m)+1) rfl rfl rfl .(c) .(c) .(c) fun q0 q1=>⟨_,rfl,_,rfl,q0,by omega⟩)
theorem w8 {c k m:aq} {P:D->Prop} (ha:fa ρ=aa (.int c)) (eb:fb ρ=aa (.int k)) (ec:fc ρ=aa (.int m)) (h0:0<=k) (h1:k<=900) (hm:0<=m) (p:∀n,0<=n->n<=m->P (.int n)):Wp (cF kS (ag fa (ag fb (ag fc ar))) ρ) P:=by exact gH (bd (aP ha (bd (aP eb (bd (aP ec (cC ((G9 c h0 h1 hm).imp fun d ⟨n,e,q0,q1⟩=>by subst e;exact p n q0 q1))))))))
theorem NM (ns:ac aq):Wp (t6 [.scr ns]) fun d=>∃h,d=.int h/\1<=h/\h<=1000000:=by unfold t6;refine gr (b8 (lP (k:=0) rfl fun c=>fE (w_2 (u8 (bd (w_2 (w_c (cS (k:=80) (m:=21) rfl rfl rfl .(e) .(e) .(e) fun a0 a1=>f8 (bd (w_2 (w_c (cS (k:=81) (m:=1000000) rfl rfl rfl .(e) .(e) .(e) fun b0 b1=>f8 (cC ⟨by simp,?_⟩)))))))))))));exact w_2 (cS (k:=82) (m:=4) rfl rfl rfl .(e) .(e) .(e) fun q0 q1=>w_c (vo .(e) (o5 .(c) (by simp;omega) (vO ⟨_,rfl,_,rfl,by omega,by omega⟩ ⟨_,rfl,_,rfl,by omega,by omega⟩))))
noncomputable abbrev kE (n k h:aq) (br:ac (aq×aq)) (f:aq) (a b c:au Slot):bG:=[oS (.int n),oS (.int k),oS (.int h),aa (.own (br.map dIv)),oS (.int f),a,b,c]
theorem FK (n:aq) (hh:0<=h):Wp (ud [.int n,.int 0,.int h]) fun d=>∃br:ac (aq×aq),d=.lst (br.map dIv)/\br.length<=3/\∃f,GoodI h f br:=by
 unfold ud;refine gr (l7 (b8 (w_c (dG (eK (fun i ρ=>∃(br:ac (aq×aq)) (f:aq) (a b c:au Slot),ρ=kE n 0 h br f a b c/\br.length<=i/\0<=f/\GoodI h f br) (iH (bd (cS (k:=0) (m:=4) rfl rfl rfl .(e) .(e) .(e) fun q0 q1=>cC ⟨_,rfl,q0,by omega,?_,?_,?_⟩))))))))
 .exact⟨[],0,af,af,af,rfl,qx _,ze _,⟨(fun _ z=>nomatch z),fun _ _ _ z=>by simp at z⟩⟩
 .rintro i x ρ hx ⟨br,f,a,b,c,rfl,hl,f0,g⟩;obtain⟨hi,rfl⟩:=i6 hx;refine aP rfl (b8 (w_2 (bf rfl (w8 (k:=0+1+4*(i:aq)) (m:=h) rfl (aH rfl (aH rfl rfl gI) rfl) rfl .(c) .(c) hh fun x x0 x1=>f8 (b8 (w_2 (w_2 (bf rfl (w_c (f8 (cS (k:=0+3+4*(i:aq)) (m:=4) rfl (aH rfl (aH rfl rfl gI) rfl) rfl .(c) .(c) .(e) fun y0 y1=>f8 (gb (gx (w_2 (bf rfl (bf rfl (Nb ⟨_,rfl,fun hc=>?_,fun hc=>?_⟩)))))))))))))))))
  .have hc:=fL hc;refine dG (vg (m:=dIv) (xs:=br) (f+x,f+x+1+drw n (0+3+4*(i:aq)) 4) rfl .(c) (jR (bd (bf rfl (bd (bf rfl (cC ⟨by simp,rfl,rfl,?_⟩)))))));exact mw (w_2 (bf rfl (w_c (f8 ⟨rfl,br++[(f+x,f+x+1+drw n (0+3+4*(i:aq)) 4)],_,_,_,_,rfl,by rw[qj];simp;omega,by omega,g.snoc f0 .(c) .(c) hc⟩))))
  .exact fZ ⟨rfl,br,_,_,_,_,rfl,by omega,f0,g⟩
 .rintro ρ ⟨br,f,a,b,c,rfl,hl,f0,g⟩;exact⟨rfl,l9 (ds:=br.map dIv) rfl (fE (bf rfl ⟨_,rfl,br,rfl,by simp at hl;omega,f,g⟩))⟩
theorem mr (h:g ρ=aa (.nx,ρ1)):aB g g' ρ=g' ρ1:=by unfold aB;rw[h];rfl
theorem LS (h:f ρ=aa d):bo i f ρ=aa (.nx,ρ.set i (oS d)):=by unfold bo;rw[h];rfl
theorem Dl :aB (eY i (szF ar)) g ρ=g (ρ.set i (aa (.own []))):=by
 have z0:(0<=aN)=True:=by simp
 simp only[aB,eY,szF,ar,qb,qe,qm,z0,c7]
theorem CG (h1:ρ[i]?=aa (aa (.own ds))):fy i g ρ=g (ρ.set i (oS (.lst ds))):=by unfold fy;rw[h1]
theorem mj {body:FS} {xs:ac D} (h:fi ρ=aa xs):b9 fi gg body ρ=dZ gg body xs ρ:=by unfold b9;rw[h];rfl
theorem xw {xs:ac D} (h:(xs.mapIdx fun i d=>D.tup [.int i,d])[i]?=aa d):∃x,xs[i]?=aa x/\d=.tup [.int i,x]:=by rw[Qt] at h;obtain⟨x,hx,rfl⟩:=oMd h;exact⟨x,hx,rfl⟩
theorem eQ {g:FE} {x y:D} (h1:f ρ=aa x) (h2:g ρ=aa y):aZ (szF (ag f (ag g ar))) ρ=aa (.tup [x,y]):=by simp only[aZ,szF,ag,ar,h1,h2,qb,qe,qi,qm,nq,sz2,c7]
theorem zX {g e:FE} {x y:D} (h1:f ρ=aa x) (h2:g ρ=aa y) (h3:e ρ=aa z):aZ (szF (ag f (ag g (ag e ar)))) ρ=aa (.tup [x,y,z]):=by simp only[aZ,szF,ag,ar,h1,h2,h3,qb,qe,qi,qm,nq,sz3,c7]
theorem O7 {xs:ac D} {d:aq} (h:0<=d):jZ af (aa d) (.lst xs)=aa (.lst (xs.take d.toNat)):=by
 show aa (D.lst (dw xs af (aa d)))=_;unfold dw HT.sIx;simp only;rw[qY .(c),oN,Rx]
 congr 2
 rw[zf];split
 .rfl
 .rw[lJ (qx _),lJ .(c)]
theorem OW {xs:ac D} {d:aq} (h:0<=d):jZ (aa d) af (.lst xs)=aa (.lst (xs.drop d.toNat)):=by
 show aa (D.lst (dw xs (aa d) af))=_;unfold dw HT.sIx;simp only;rw[qY .(c)]
 congr 2
 rw[zf];split
 .rw[lJ (by rw[ku];omega)]
 .rw[zg (qx _),zg .(c)];simp
theorem Cz {g:FE} {xs:ac D} {d:aq} (h1:f ρ=aa (.lst xs)) (h2:g ρ=aa (.int d)) (h:0<=d):slF f pN (pS g) ρ=aa (.lst (xs.take d.toNat)):=by unfold slF pN pS;rw[h1,h2];exact O7 h
theorem z6 {g:FE} {xs:ac D} {d:aq} (h1:f ρ=aa (.lst xs)) (h2:g ρ=aa (.int d)) (h:0<=d):slF f (pS g) pN ρ=aa (.lst (xs.drop d.toNat)):=by unfold slF pN pS;rw[h1,h2];exact OW h
section
variable {bs:ac BenchT}
noncomputable def cv (bs:ac BenchT) (ss:ac StepT) (js:ac JobT) (us:ac SetT) (ls:ac LinkT) (ks:ac StockT) (h:aq):D:=.tup [.lst (bs.map bZ),.lst (ss.map aX),.lst (js.map bc),.lst (us.map dv),.lst (ls.map dA),.lst (ks.map dI),.int h]
theorem ixT (l:ac D) (n:ao):ixD (.tup l) (.int (n:aq))=l[n]?:=jz l n
theorem BP (g:Good bs ss js us ls ks h) (ml:(js.flatMap (·.ms)).length<=300):uc [cv bs ss js us ls ks h]=aa .(j):=
 ck [oS (cv bs ss js us ls ks h)] rfl (cm (bC (aK (aH rfl rfl (ixT _ 0)) (aK (aH rfl rfl (ixT _ 1)) (aK (aH rfl rfl (ixT _ 2)) (aK (aH rfl rfl (ixT _ 3)) (aK (aH rfl rfl (ixT _ 4)) (aK (aH rfl rfl (ixT _ 5)) (aK (aH rfl rfl (ixT _ 6)) aW))))))) (HV g ml)))
theorem j5 {f:aj} (i:ao) (h1:fo ρ=aa .(j)) (h2:(nZ bs ss js us ls ks h)[i]?=aa (f,d)):bM "Shop" f fo ρ=aa d:=by unfold bM;rw[h1];show(if ("Shop":aj)="Shop" then (nZ bs ss js us ls ks h).lookup f else af)=aa d;rw[qX rfl];exact mB (by rw[AQ];exact sA) h2
theorem gV {F:FQ} (hm:m∉lc) (h1:fo ρ=aa .(j)) (h2:fr ρ=aa ds) (h3:F (bP bs ss js us ls ks h::ds)=aa d):cL "Shop" m F fo fr ρ=aa d:=by have hno:(nZ bs ss js us ls ks h).lookup m=af:=kO (by rw[AQ];exact hm);unfold cL;rw[h1];show(if ("Shop":aj)="Shop"/\(nZ bs ss js us ls ks h).lookup m=af then (fr ρ).bind fun ds=>F (bP bs ss js us ls ks h::ds) else af)=_;rw[qX ⟨rfl,hno⟩,h2];exact h3
theorem FH {f:α->D} {nm:α->aj} {xs:ac α} (hf:∀x,∃r,f x=.tup (.str (nm x)::r)) (h1:fo ρ=aa (.lst (xs.map f))) (h2:xs.length<=aN) (h3:fC fv ρ=[af]) :
  aQ (bp (itF fo) (aC 0) tT (b2 ixD (vSh 0) .(f)) fv) ρ=aa (.lst ((xs.map nm).map D.str)):=by
 have hc:=ki (fi:=itF fo) (fe:=b2 ixD (vSh 0) .(f)) (fv:=fv) (ρ:=ρ) (r:=[]) (a:=af) (xs:=xs.map f) (f:=fun d=>match d with|.tup (x::_)=>x|_=>.non) (by unfold itF;rw[h1];rfl) (by rw[qf];exact h2) h3 (fun x hx=>by obtain⟨y,_,rfl⟩:=bU.mp hx;obtain⟨r,e⟩:=hf y;simp only[b2,vSh,vC,qc,qb,e,cN])
 rw[hc]
 congr 2
 rw[qp,qp];refine iG fun x _=>?_;obtain⟨r,e⟩:=hf x;simp[e]
theorem wA (hl:ss.length<=40):pe [bP bs ss js us ls ks h]=aa (.lst ((ss.map (·.nm)).map D.str)):=
 ck [oS .(j)] rfl (cm (FH (f:=aX) (nm:=(·.nm)) (xs:=ss) (fun x=>⟨_,rfl⟩) (j5 1 rfl rfl) (szN hl .(e)) rfl))
theorem mi [eN κ] (kvs:ac (κ×D)) (k k':κ) (v:D):bw (cJ kvs k v) k'=if k'=k then aa v else bw kvs k':=by
 unfold cJ;split
 .rename_i hany;by_cases e:k'=k
  .subst e;rw[qX rfl];unfold bw
   induction kvs with
   |nil=>simp at hany
   |cons x r ih=>
    rw[qo,fg];by_cases ex:x.1=k'
    .simp[ex]
    .simp only[qY ex,qO ex];rw[jP,qO ex,EK] at hany;exact ih hany
  .rw[qY e];unfold bw
   induction kvs with
   |nil=>rfl
   |cons x r ih=>
    rw[qo,fg,fg];by_cases ex:x.1=k
    .have:¬x.1=k':=fun z=>e (z.symm.trans ex);simp only[qX ex,qO this];by_cases ha:(r.any fun kv=>decide (kv.1=k))=ak
     .exact ih ha
     .have hmap:r.map (fun kv=>if kv.1=k then (kv.1,v) else kv)=r:=by
       conv=>rhs;rw[←Ry r]
       refine iG fun y hy=>?_;have:¬y.1=k:=fun z=>ha (lO.mpr ⟨y,hy,qT z⟩);simp[this]
      rw[hmap]
    .simp only[qY ex];by_cases ex':x.1=k'
     .simp[ex']
     .simp only[qO ex'];rw[jP,qO ex,EK] at hany;exact ih hany
 .rename_i hany;have hno:∀x∈kvs,¬x.1=k:=fun x hx z=>hany (lO.mpr ⟨x,hx,qT z⟩);unfold bw;rw[List.find?_append];by_cases e:k'=k
  .subst e;rw[qX rfl];have:kvs.find? (fun kv=>decide (kv.1=k'))=af:=by rw[uC];intro x hx z;exact hno x hx (fL z)
   rw[this];simp
  .rw[qY e];have:¬k=k':=fun z=>e z.symm;simp[this]
noncomputable def prS:ac StepT->ac (StepT×StepT)
 |[]=>[]
 |s::r=>r.map (fun t=>(s,t))++prS r
noncomputable def dP (p:StepT×StepT):D:=.tup [.str p.1.nm,.str p.2.nm]
theorem xR:∀{ss:ac StepT} {n:ao},ss.length<=n->(prS ss).length<=ss.length*n
 |[],_,_=>by simp[prS]
 |s::r,n,h=>by rw[qi] at h;have:=xR (ss:=r) (n:=n) .(c);show(r.map (fun t=>(s,t))++prS r).length<=_;rw[qj,qf,qi,oJ];omega
theorem DN {g:α->D} {xs ys:ac α} (h1:ρ[i]?=aa (aa (.own (xs.map g)))) (h2:f ρ=aa (.lst (ys.map g))) (h3:xs.length+ys.length<=10000):ie i f ρ=aa (.nx,ρ.set i (aa (.own ((xs++ys).map g)))):=by unfold ie;rw[h1];show(f ρ).bind _=_;rw[h2,qb];show(if _ then _ else _)=_;rw[qX (by rw[qf,qf];unfold aN;omega),eO]
theorem L4 {l:ac α} {x:α} (h:l[i]?=aa x):l.drop i=x::l.drop (i+1):=by obtain⟨h1,h2⟩:=eB.mp h;rw[rJ h1,h2]
noncomputable abbrev prE (ss:ac StepT) (ps:ac (StepT×StepT)) (a b:au Slot):bG:=[oS (.lst ((ss.map (·.nm)).map D.str)),aa (.own (ps.map dP)),a,b]
theorem Hs (ss:ac StepT) (hl:ss.length<=40):n5 [.lst ((ss.map (·.nm)).map D.str)]=aa (.lst ((prS ss).map dP)):=by
 have hpl:=xR (ss:=ss) (n:=40) hl;obtain⟨ρ',h1,ps,a,b,h2,h3⟩:=pU (gg:=db 2 (bj (aC 2) (bj (aC 3) cW))) (body:=(ie 1 (aQ (bp (itF (slF (vSh 0) (pS (b2 bi (vSh 2) .(i))) pN)) (aC 0) tT (aZ (szF (ag (vSh 1) (ag (vSh 0) ar)))) [af,aa 3])))) (xs:=((ss.map (·.nm)).map D.str).mapIdx fun i d=>D.tup [.int i,d]) (ρ:=prE ss [] af af)
  (fun i ρ=>∃ps a b,ρ=prE ss ps a b/\ps++prS (ss.drop i)=prS ss) ⟨[],af,af,rfl,rfl⟩ (fun i x ρ hx hI=>by
   obtain⟨ps,a,b,rfl,hps⟩:=hI;obtain⟨y,hy,rfl⟩:=xw hx;rw[qp,qk] at hy;obtain⟨s,hsi,rfl⟩:=oMd hy;have hi:i<ss.length:=(eB.mp hsi).1;have hdr:=L4 hsi;have hlen:ps.length+(ss.drop (i+1)).length<=10000:=by have:=cw dU hps;rw[qj] at this;rw[ku];omega
   have e:aQ (bp (itF (slF (vSh 0) (pS (b2 bi (vSh 2) .(i))) pN)) (aC 0) tT (aZ (szF (ag (vSh 1) (ag (vSh 0) ar)))) [af,aa 3]) (prE ss ps (oS (.int i)) (oS (.str s.nm)))=aa (.lst (((ss.drop (i+1)).map fun t=>(s,t)).map dP)):=by
    have e0:itF (slF (vSh 0) (pS (b2 bi (vSh 2) .(i))) pN) (prE ss ps (oS (.int i)) (oS (.str s.nm)))=aa ((ss.drop (i+1)).map fun t=>D.str t.nm):=by have:=z6 (f:=vSh 0) (g:=b2 bi (vSh 2) .(i)) (ρ:=prE ss ps (oS (.int i)) (oS (.str s.nm))) (d:=(i:aq)+1) rfl (aH rfl rfl rfl) .(c);unfold itF;rw[this];show aa _=_;rw[show((i:aq)+1).toNat=i+1 by omega,qp,Fm];rfl
    refine(ki (r:=[oS (.str s.nm)]) (a:=af) (f:=fun d=>.tup [.str s.nm,d]) e0 (by rw[qf,ku];exact szN (k:=40) .(c) .(e)) rfl fun x hx=>eQ rfl rfl).trans ?_;rw[qp,qp];rfl
   refine⟨_,_,rfl,DN rfl e (by rw[qf];exact hlen),ps++(ss.drop (i+1)).map (fun t=>(s,t)),_,_,rfl,?_⟩;rw[←hps,hdr,lH];rfl)
 rw[rH,qf,qf,yK] at h3;have h4:ps=prS ss:=by rw[←h3];simp[prS]
 rw[h4] at h2;exact ck [oS (.lst ((ss.map (·.nm)).map D.str)),af,af,af] rfl (Dl.trans ((mr ((mj (xs:=((ss.map (·.nm)).map D.str).mapIdx fun i d=>D.tup [.int i,d]) rfl).trans (h1.trans (by rw[h2])))).trans ((CG rfl).trans (cm (f:=vSh 1) rfl))))
end
noncomputable def iN (ls:ac LinkT) (a b:aj):au LinkT:=ls.find? fun l=>decide (l.a=a/\l.b=b)
noncomputable def wrp (m:aj):StepT:=⟨m,m,[]⟩
noncomputable def jf (ms:ac aj) (a b:aj):aT:=(prS (ms.map wrp)).any fun p=>decide (p.1.nm=a/\p.2.nm=b)
noncomputable def cq (js:ac JobT) (ls:ac LinkT) (a b:aj):au aq:=match iN ls a b with
 |some l=>aa l.g
 |none=>if (js.any fun j=>j.od && jf j.ms a b)=ak then aa 0 else af
theorem pk {body:FS} {x:D} {xs:ac D} {ρ2:bG} {R:au (Fl×bG)} (h1:gg x ρ=aa ρ1) (h2:body ρ1=aa (.nx,ρ2)) (h3:dZ gg body xs ρ2=R):dZ gg body (x::xs) ρ=R:=by rw[←h3];unfold dZ;rw[h1,qb,h2,qb];cases xs<;>rfl
noncomputable abbrev kk (a b:aj):ac Key:=[.inr a,.inr b]
theorem kZ {a b d:aj} :kk a b=kk c d↔a=c/\b=d:=by simp[kk]
noncomputable def jA (acc:ac (ac Key×D)) (p:StepT×StepT):ac (ac Key×D):=cJ acc (kk p.1.nm p.2.nm) (.int 0)
noncomputable def ia (acc:ac (ac Key×D)) (j:JobT):ac (ac Key×D):=if j.od=ak then (prS (j.ms.map wrp)).foldl jA acc else acc
noncomputable def iL (acc:ac (ac Key×D)) (l:LinkT):ac (ac Key×D):=cJ acc (kk l.a l.b) (.int l.g)
theorem zU:∀(ps:ac (StepT×StepT)) (acc:ac (ac Key×D)),(ps.foldl jA acc).length<=acc.length+ps.length
 |[],acc=>qx _
 |p::r,acc=>by have:=zU r (jA acc p);have:=kf acc (kk p.1.nm p.2.nm) (.int 0);rw[gw,qi];unfold jA at *;omega
theorem vP (a b:aj):∀(ps:ac (StepT×StepT)) (acc:ac (ac Key×D)),bw (ps.foldl jA acc) (kk a b)=if (ps.any fun p=>decide (p.1.nm=a/\p.2.nm=b))=ak then aa (.int 0) else bw acc (kk a b)
 |[],acc=>rfl
 |p::r,acc=>by
  rw[gw,vP a b r,jP];unfold jA;rw[mi];by_cases h:p.1.nm=a/\p.2.nm=b
  .rw[qX (kZ.mpr ⟨h.1.symm,h.2.symm⟩),qT h];show(if _ then _ else _)=aa (D.int 0);split<;>rfl
  .rw[qY (fun z=>h ⟨(kZ.mp z).1.symm,(kZ.mp z).2.symm⟩),qO h];rfl
theorem vJ (a b:aj):∀(js:ac JobT) (acc:ac (ac Key×D)),bw (js.foldl ia acc) (kk a b)=if (js.any fun j=>j.od && jf j.ms a b)=ak then aa (.int 0) else bw acc (kk a b)
 |[],acc=>rfl
 |j::r,acc=>by
  rw[gw,vJ a b r,jP];unfold ia jf;by_cases h:j.od=ak
  .rw[qX h,vP,h,uH];cases((prS (j.ms.map wrp)).any fun p=>decide (p.1.nm=a/\p.2.nm=b))
   .rfl
   .show(if _ then _ else aa (D.int 0))=aa (D.int 0);split<;>rfl
  .have h':j.od=av:=by simpa using h
   rw[qY h,h'];rfl
theorem vL (a b:aj):∀(ls:ac LinkT) (acc:ac (ac Key×D)),(ls.map fun l=>[l.a,l.b]).Nodup->bw (ls.foldl iL acc) (kk a b)=match iN ls a b with|some l=>aa (.int l.g)|none=>bw acc (kk a b)
 |[],acc,_=>rfl
 |l::r,acc,nd=>by
  rw[qo,eJ] at nd;rw[gw,vL a b r _ nd.2];unfold iL iN;rw[mi,fg];by_cases h:l.a=a/\l.b=b
  .rw[qX (kZ.mpr ⟨h.1.symm,h.2.symm⟩),qT h];have:r.find? (fun l=>decide (l.a=a/\l.b=b))=af:=by rw[uC];intro x hx z;have z:=fL z;exact nd.1 (bU.mpr ⟨x,hx,by rw[z.1,z.2,h.1,h.2]⟩)
   rw[this]
  .rw[qY (fun z=>h ⟨(kZ.mp z).1.symm,(kZ.mp z).2.symm⟩),qO h]
section
variable {bs:ac BenchT}
theorem HJ (g:Good bs ss js us ls ks h):sv [bP bs ss js us ls ks h]=aa (.lst (js.map bc)):=by
 have hl:(ss.map (·.nm)).length<=40:=by rw[qf];exact g.sl.2
 have hp:Pl 8 (.lst (js.map bc)):=ip (by have:=g.jl;omega) fun x hx=>xu (n:=4) hl (g.j x hx);exact ck [oS .(j)] rfl (cm (bC (aK (j5 2 rfl rfl) aW) (iX hp)))
theorem NF (g:Good bs ss js us ls ks h):tQ [bP bs ss js us ls ks h]=aa (.lst (ls.map dA)):=by have hp:Pl 8 (.lst (ls.map dA)):=ip (by have:=g.ll;omega) fun x hx=>zV (n:=5);exact ck [oS .(j)] rfl (cm (bC (aK (j5 4 rfl rfl) aW) (iX hp)))
theorem Pi (ms:ac aj):(ms.map wrp).map (·.nm)=ms:=by rw[qp];exact Ry _
theorem Ih (ms:ac aj) (hl:ms.length<=40):n5 [.lst (ms.map D.str)]=aa (.lst ((prS (ms.map wrp)).map dP)):=by have:=Hs (ms.map wrp) (by rw[qf];exact hl);rw[Pi] at this;exact this
theorem Ln {p:StepT×StepT} (hl:acc.length<100000):eA 1 (vSh 3) .(f) [S,aa (.odt acc),x2,oS (dP p),x4,x5,x6]=aa (.nx,[S,aa (.odt (jA acc p)),x2,oS (dP p),x4,x5,x6]):=qX hl
theorem Bk {S x2 x4 x5 x6:au Slot}:∀(ps:ac (StepT×StepT)) (acc:ac (ac Key×D)) (z:au Slot),acc.length+ps.length<100000->∃z',dZ (aC 3) (eA 1 (vSh 3) .(f)) (ps.map dP) [S,aa (.odt acc),x2,z,x4,x5,x6]=aa (.nx,[S,aa (.odt (ps.foldl jA acc)),x2,z',x4,x5,x6])
 |[],acc,z,_=>⟨z,rfl⟩
 |p::r,acc,z,hl=>by rw[qi] at hl;have h1:=kf acc (kk p.1.nm p.2.nm) (.int 0);obtain⟨z',hz⟩:=Bk (S:=S) (x2:=x2) (x4:=x4) (x5:=x5) (x6:=x6) r (jA acc p) (oS (dP p)) (by unfold jA;omega);exact⟨z',pk rfl (Ln .(c)) hz⟩
noncomputable def gjB:FS:=sIf (toB (b2 ixD (vSh 2) (vC (.int 3)))) (b9 (itF (cF n5 (ag (b2 ixD (vSh 2) (vC (.int 4))) ar))) (aC 3) (eA 1 (vSh 3) .(f))) bA
theorem vw {A B:FS} (h:ft ρ=aa av):sIf ft A B ρ=B ρ:=by unfold sIf;rw[h,qb,qY qu]
theorem wN {A B:FS} (h:ft ρ=aa ak):sIf ft A B ρ=A ρ:=by unfold sIf;rw[h,qb,qX rfl]
theorem Jc {a b c e:D} :ixD (.tup [a,b,c,d,e]) (.int 3)=aa d:=rfl
theorem Am {S x4 x5 x6:au Slot}:∀(js:ac JobT) (acc:ac (ac Key×D)) (y z:au Slot),(∀j∈js,j.ms.length<=40)->acc.length+js.length*1600<90000->∃y' z',dZ (aC 2) gjB (js.map bc) [S,aa (.odt acc),y,z,x4,x5,x6]=aa (.nx,[S,aa (.odt (js.foldl ia acc)),y',z',x4,x5,x6])/\(js.foldl ia acc).length<=acc.length+js.length*1600
 |[],acc,y,z,_,_=>⟨y,z,rfl,yN _ _⟩
 |j::r,acc,y,z,hm,hl=>by
  rw[qi,oJ] at hl;have hj:=hm j qg;have hpl:=xR (ss:=j.ms.map wrp) (n:=40) (by rw[qf];exact hj);rw[qf] at hpl;have h40:j.ms.length*40<=1600:=by omega
  have eT:toB (b2 ixD (vSh 2) (vC (.int 3))) [S,aa (.odt acc),oS (bc j),z,x4,x5,x6]=aa j.od:=cD (aH rfl rfl Jc);have key:∃z1,gjB [S,aa (.odt acc),oS (bc j),z,x4,x5,x6]=aa (.nx,[S,aa (.odt (ia acc j)),oS (bc j),z1,x4,x5,x6])/\(ia acc j).length<=acc.length+1600:=by
   by_cases ho:j.od=ak
   .rw[ho] at eT;obtain⟨z1,hz⟩:=Bk (S:=S) (x2:=oS (bc j)) (x4:=x4) (x5:=x5) (x6:=x6) (prS (j.ms.map wrp)) acc z .(c);have eI:itF (cF n5 (ag (b2 ixD (vSh 2) (vC (.int 4))) ar)) [S,aa (.odt acc),oS (bc j),z,x4,x5,x6]=aa ((prS (j.ms.map wrp)).map dP):=by unfold itF;rw[bC (aK (aH rfl rfl lj) aW) (Ih j.ms hj)];rfl
    have hP:=zU (prS (j.ms.map wrp)) acc;unfold ia;rw[qX ho];exact⟨z1,(wN eT).trans ((mj eI).trans hz),by omega⟩
   .have ho':j.od=av:=by simpa using ho
    rw[ho'] at eT;unfold ia;rw[qY ho];exact⟨z,vw eT,by omega⟩
  obtain⟨z1,hk,hkl⟩:=key;obtain⟨y',z',hr,hrl⟩:=Am (S:=S) (x4:=x4) (x5:=x5) (x6:=x6) r (ia acc j) (oS (bc j)) z1 (fun x hx=>hm x (qh _ hx)) .(c);exact⟨y',z',pk rfl hk hr,by rw[gw,qi,oJ];omega⟩
theorem Al {S x2 x3:au Slot}:∀(ls:ac LinkT) (acc:ac (ac Key×D)) (a b c:au Slot),acc.length+ls.length<100000->∃a' b' c',dZ (db 3 (bj (aC 4) (bj (aC 5) (bj (aC 6) cW)))) (eA 1 (aZ (szF (ag (vSh 4) (ag (vSh 5) ar)))) (vSh 6)) (ls.map dA) [S,aa (.odt acc),x2,x3,a,b,c]=aa (.nx,[S,aa (.odt (ls.foldl iL acc)),x2,x3,a',b',c'])
 |[],acc,a,b,c,_=>⟨a,b,c,rfl⟩
 |l::r,acc,a,b,c,hl=>by rw[qi] at hl;have h1:=kf acc (kk l.a l.b) (.int l.g);obtain⟨a',b',c',hz⟩:=Al (S:=S) (x2:=x2) (x3:=x3) r (iL acc l) (oS (.str l.a)) (oS (.str l.b)) (oS (.int l.g)) (by unfold iL;omega);refine⟨a',b',c',pk (ρ1:=[S,aa (.odt acc),x2,x3,oS (.str l.a),oS (.str l.b),oS (.int l.g)]) rfl ?_ hz⟩;have e1:aZ (szF (ag (vSh 4) (ag (vSh 5) ar))) [S,aa (.odt acc),x2,x3,oS (.str l.a),oS (.str l.b),oS (.int l.g)]=aa (.tup [.str l.a,.str l.b]):=eQ rfl rfl;unfold eA;rw[e1];exact qX .(c)
theorem Hi (g:Good bs ss js us ls ks h):∃kvs,uV [bP bs ss js us ls ks h]=aa (.dt kvs)/\∀a b,bw kvs (kk a b)=(cq js ls a b).map D.int:=by
 have hm:∀j∈js,j.ms.length<=40:=fun j hj=>by have:=(g.j j hj).ln;rw[qf] at this;have:=g.sl.2;omega
 have hjl:=g.jl;have hll:=g.ll;obtain⟨y',z',h1,hl1⟩:=Am (S:=oS .(j)) (x4:=af) (x5:=af) (x6:=af) js [] af af hm (by rw[qm];omega);rw[qm] at hl1;obtain⟨a',b',c',h2⟩:=Al (S:=oS .(j)) (x2:=y') (x3:=z') ls (js.foldl ia []) af af af .(c);refine⟨ls.foldl iL (js.foldl ia []),?_,fun a b=>?_⟩
 .have e1:itF (cL "Shop" "job_rows" sv (vSh 0) ar) [oS .(j),aa (.odt []),af,af,af,af,af]=aa (js.map bc):=by unfold itF;rw[gV (by decide +kernel) rfl aW (HJ g)];rfl
  have e2:itF (cL "Shop" "link_rows" tQ (vSh 0) ar) [oS .(j),aa (.odt (js.foldl ia [])),y',z',af,af,af]=aa (ls.map dA):=by unfold itF;rw[gV (by decide +kernel) rfl aW (NF g)];rfl
  exact ck [oS .(j),af,af,af,af,af,af] rfl ((mr (ρ1:=[oS .(j),aa (.odt []),af,af,af,af,af]) rfl).trans ((mr ((mj e1).trans h1)).trans ((mr ((mj e2).trans h2)).trans (cm (f:=vSh 1) rfl))))
 .rw[vL a b ls _ g.ln,vJ];unfold cq;cases iN ls a b with
  |some l=>rfl
  |none=>
   show(if _ then _ else _)=_;cases(js.any fun j=>j.od && jf j.ms a b)<;>rfl
end
noncomputable abbrev GT:=aj×aj×aq
noncomputable def dGp (t:GT):D:=.tup [.str t.1,.str t.2.1,.int t.2.2]
noncomputable def ik (js:ac JobT) (ls:ac LinkT) (nms:ac aj) (a:aj):ac GT:=nms.filterMap fun b=>(cq js ls a b).map fun g=>(a,b,g)
theorem Ax (js:ac JobT) (ls:ac LinkT) (nms:ac aj) (a:aj):(ik js ls nms a).length<=nms.length:=List.length_filterMap_le _ _
theorem sr (js:ac JobT) (ls:ac LinkT) (nms:ac aj):∀xs:ac aj,(xs.flatMap (ik js ls nms)).length<=xs.length*nms.length
 |[]=>by simp
 |x::r=>by have:=sr js ls nms r;have:=Ax js ls nms x;rw[oR,qj,qi,oJ];omega
noncomputable def pG (js:ac JobT) (ls:ac LinkT) (a:aj):D->aT
 |.str b=>(cq js ls a b).isSome
 |_=>av
noncomputable def fG (js:ac JobT) (ls:ac LinkT) (a:aj):D->D
 |.str b=>.tup [.str a,.str b,.int ((cq js ls a b).getD 0)]
 |_=>.non
theorem BH (js:ac JobT) (ls:ac LinkT) (a:aj):∀nms:ac aj,((nms.map D.str).filter (pG js ls a)).map (fG js ls a)=(ik js ls nms a).map dGp
 |[]=>rfl
 |b::r=>by
  have ih:=BH js ls a r;unfold ik at ih ⊢;rw[qo,uN,ya];cases e:cq js ls a b with
  |none=>
   have e1:pG js ls a (.str b)=av:=by show(cq js ls a b).isSome=av;rw[e];rfl
   rw[e1];exact ih
  |some q=>
   have e1:pG js ls a (.str b)=ak:=by show(cq js ls a b).isSome=ak;rw[e];rfl
   have e2:fG js ls a (.str b)=dGp (a,b,q):=by show D.tup [.str a,.str b,.int ((cq js ls a b).getD 0)]=_;rw[e];rfl
   rw[e1];show fG js ls a (.str b)::_=dGp (a,b,q)::_;rw[e2];exact cw _ ih
section
variable {bs:ac BenchT}
theorem LA {a:au Slot} {xs:ac D} {f:D->D} {p:D->aT} (h1:fi ρ=aa xs) (h2:xs.length<=aN) (h3:fC fv ρ=a::r) (h:∀x∈xs,ft (oS x::r)=aa (p x)/\(p x=ak->fe (oS x::r)=aa (f x))) :
  bp fi (aC 0) ft fe fv ρ=aa ((xs.filter p).map f):=by
 simp only[bp,h1,qb,qX h2,h3,AN (a:=a) h]
theorem kY {ys:ac D} (h:fr ρ=aa ys):aQ fr ρ=aa (.lst ys):=by unfold aQ;rw[h];rfl
theorem koT (hv:∀a b,bw kvs (kk a b)=(cq js ls a b).map D.int) {a:aj} {nms:ac aj} {o:au Slot} (hl:nms.length<=40) :
  aQ (bp (itF (vSh 1)) (aC 0) (toB (b2 jD (aZ (szF (ag (vSh 1) (ag (vSh 0) ar)))) (vSh 2))) (aZ (szF (ag (vSh 1) (ag (vSh 0) (ag (b2 cO (vSh 2) (aZ (szF (ag (vSh 1) (ag (vSh 0) ar))))) ar))))) [af,aa 4,aa 2]) [S,oS (.lst (nms.map D.str)),oS (.dt kvs),o,oS (.str a)]=aa (.lst ((ik js ls nms a).map dGp)):=by
 rw[←BH];refine kY (LA (r:=[oS (.str a),oS (.dt kvs)]) (a:=af) rfl (by rw[qf];exact szN hl .(e)) rfl fun x hx=>?_);obtain⟨b,_,rfl⟩:=bU.mp hx;have e1:aZ (szF (ag (vSh 1) (ag (vSh 0) ar))) [oS (.str b),oS (.str a),oS (.dt kvs)]=aa (.tup [.str a,.str b]):=eQ rfl rfl;refine⟨cD (aH e1 rfl ?_),fun hp=>?_⟩
 .show aa (D.bl (bw kvs (kk a b)).isSome)=aa (.bl (cq js ls a b).isSome);rw[hv,m9]
 .have hp':(cq js ls a b).isSome=ak:=hp;obtain⟨q,hq⟩:=oF.mp hp';refine zX rfl rfl (aH rfl e1 ?_);show(aa (bw kvs (kk a b))).bind id=aa (.int ((cq js ls a b).getD 0));rw[hv,hq];rfl
theorem OK (g:Good bs ss js us ls ks h):wP [bP bs ss js us ls ks h]=aa (.lst (((ss.map (·.nm)).flatMap (ik js ls (ss.map (·.nm)))).map dGp)):=by
 obtain⟨kvs,hk,hv⟩:=Hi g;have hl:(ss.map (·.nm)).length<=40:=by rw[qf];exact g.sl.2
 have hN:=wA (bs:=bs) (ss:=ss) (js:=js) (us:=us) (ls:=ls) (ks:=ks) (h:=h) g.sl.2;obtain⟨ρ',h1,z,h2⟩:=pU (gg:=aC 4) (body:=(ie 3 (aQ (bp (itF (vSh 1)) (aC 0) (toB (b2 jD (aZ (szF (ag (vSh 1) (ag (vSh 0) ar)))) (vSh 2))) (aZ (szF (ag (vSh 1) (ag (vSh 0) (ag (b2 cO (vSh 2) (aZ (szF (ag (vSh 1) (ag (vSh 0) ar))))) ar))))) [af,aa 4,aa 2])))) (xs:=(ss.map (·.nm)).map D.str) (ρ:=[oS .(j),oS (.lst ((ss.map (·.nm)).map D.str)),oS (.dt kvs),aa (.own []),af])
  (fun i ρ=>∃z,ρ=[oS .(j),oS (.lst ((ss.map (·.nm)).map D.str)),oS (.dt kvs),aa (.own ((((ss.map (·.nm)).take i).flatMap (ik js ls (ss.map (·.nm)))).map dGp)),z]) ⟨af,rfl⟩ (fun i x ρ hx hI=>by
   obtain⟨z,rfl⟩:=hI;rw[qk] at hx;obtain⟨a,hp,rfl⟩:=oMd hx;have tk:((ss.map (·.nm)).take (i+1)).flatMap (ik js ls (ss.map (·.nm)))=((ss.map (·.nm)).take i).flatMap (ik js ls (ss.map (·.nm)))++ik js ls (ss.map (·.nm)) a:=by rw[zc,hp,uQ];simp
   have r1:=sr js ls (ss.map (·.nm)) ((ss.map (·.nm)).take i);have r2:=Ax js ls (ss.map (·.nm)) a;have r3:((ss.map (·.nm)).take i).length<=40:=qN (List.length_take_le' _ _) hl;have r4:((ss.map (·.nm)).take i).length*(ss.map (·.nm)).length<=40*40:=yE r3 hl;refine⟨_,_,rfl,DN rfl (koT hv hl) .(c),oS (.str a),?_⟩;rw[tk];rfl)
 rw[qf,gO] at h2;subst h2;exact ck [oS .(j),af,af,af,af] rfl ((jo (gV (by decide +kernel) rfl aW hN)).trans ((jo (bC (aK rfl aW) hk)).trans (Dl.trans ((mr ((mj rfl).trans h1)).trans ((CG rfl).trans (cm rfl))))))
end
section
variable {bs:ac BenchT}
theorem jh {α:Type} {nm:α->aj} {f:α->D}:∀{xs:ac α} {s:α},(xs.map nm).Nodup->s∈xs->bw (xs.map fun x=>((.inr (nm x):Key),f x)) (.inr (nm s))=aa (f s)
 |[],s,_,hs=>by cases hs
 |x::r,s,nd,hs=>by
  rw[qo,eJ] at nd;unfold bw;rw[qo,fg];by_cases e:nm x=nm s
  .have hxs:s=x:=by
    rcases cH.mp hs with q|q
    .exact q
    .exact bJ (qW (f:=nm) q) (by rw[←e];exact nd.1)
   subst hxs;simp
  .have hs':s∈r:=by
    rcases cH.mp hs with q|q
    .subst q;exact bJ rfl e
    .exact q
   have hne:¬((.inr (nm x):Key)=.inr (nm s)):=fun z=>e (jI z);simp only[qO hne];exact jh nd.2 hs'
theorem Kp {s:StepT} (g:Good bs ss js us ls ks h) (hs:s∈ss):u5 [bP bs ss js us ls ks h,.str s.nm]=aa (.lst (s.ws.map dW)):=by have gs:=g.s s hs;refine ck [oS .(j),oS (.str s.nm)] rfl (cm (bC (aK (aH (aH (x:=.dk (ss.map fun s=>(.inr s.nm,aX s))) (z:=aX s) (j5 8 rfl rfl) rfl ?_) rfl lg) aW) (iX (tE (by have:=gs.l4;omega)))));show bw (ss.map fun s=>((.inr s.nm:Key),aX s)) (.inr s.nm)=_;exact jh g.sn hs
theorem A9 (j:JobT) (m:aj):∀(ms:ac aj) (acc:ac (Key×D)),bw (ms.foldl (gT j) acc) (.inr m)=if m∈ms then aa (bc j) else bw acc (.inr m)
 |[],acc=>by simp
 |x::r,acc=>by
  rw[gw,A9 j m r];by_cases h1:m∈r
  .rw[qX h1,qX (qh _ h1)]
  .rw[qY h1];unfold gT;rw[mi];by_cases h2:m=x
   .subst h2;rw[qX rfl,qX qg]
   .have:¬((.inr m:Key)=.inr x):=fun z=>h2 (jI z);rw[qY this,qY];intro z;rcases cH.mp z with q|q
    .exact h2 q
    .exact h1 q
noncomputable def cG (js:ac JobT) (m:aj):au JobT:=js.find? fun j=>decide (m∈j.ms)
theorem AH (m:aj):∀(js:ac JobT) (acc:ac (Key×D)),(js.flatMap (·.ms)).Nodup->bw (js.foldl (fun acc j=>j.ms.foldl (gT j) acc) acc) (.inr m)=match cG js m with|some j=>aa (bc j)|none=>bw acc (.inr m)
 |[],acc,_=>rfl
 |j::r,acc,nd=>by
  rw[oR,ky] at nd;rw[gw,AH m r _ nd.2.1,A9];unfold cG;rw[fg];by_cases h1:m∈j.ms
  .have:r.find? (fun j=>decide (m∈j.ms))=af:=by rw[uC];intro x hx z;exact nd.2.2 m h1 m (nu.mpr ⟨x,hx,fL z⟩) rfl
   simp only[qT h1,this,qX h1]
  .simp only[qO h1,qY h1]
noncomputable def kg:au JobT->D
 |some j=>bc j
 |none=>.non
theorem tD {j:JobT} (h:cG js m=aa j):j∈js/\m∈j.ms:=⟨E4 h,by have:=QI h;exact fL this⟩
theorem HL (g:Good bs ss js us ls ks h) (m:aj):v7 [bP bs ss js us ls ks h,.str m]=aa (kg (cG js m)):=by
 have hl:(ss.map (·.nm)).length<=40:=by rw[qf];exact g.sl.2
 have hp:Pl 8 (kg (cG js m)):=by
  cases e:cG js m with
  |none=>trivial
  |some j=>exact xu hl (g.j j (tD e).1)
 refine ck [oS .(j),oS (.str m)] rfl (cm (bC (aK (aH (x:=.dk (jkv js)) (j5 10 rfl rfl) rfl ?_) aW) (iX hp)));show aa ((bw (jkv js) (.inr m)).getD .non)=_;unfold jkv;rw[AH m js [] g.jm];cases cG js m<;>rfl
theorem Bh:pH [bP bs ss js us ls ks h]=aa (.int h):=by unfold pH;exact ck [oS .(j)] rfl (cm (j5 (bs:=bs) (ss:=ss) (js:=js) (us:=us) (ls:=ls) (ks:=ks) (h:=h) (fo:=vSh 0) 6 rfl rfl))
end
noncomputable def tx (l:ac ao):aj:=⟨l.toArray⟩
theorem vf (a b:ac ao):tx a++tx b=tx (a++b):=by show(⟨a.toArray++b.toArray⟩:aj)=⟨(a++b).toArray⟩;rw[List.append_toArray]
theorem pM (l:ac ao):(tx l).length=l.length:=by show l.toArray.size=_;simp
theorem F3:∀n:ao,n<26->("abcdefghijklmnopqrstuvwxyz":aj).cps.toList[n]?=aa (97+n):=by decide +kernel
theorem zO:∀n:ao,n<26->az (97+n)=ak:=by decide +kernel
theorem CW {i:aq} (h0:0<=i) (h:i<26):ixD (.str "abcdefghijklmnopqrstuvwxyz") (.int i)=aa (.str (tx [97+i.toNat])):=by obtain⟨n,rfl⟩:=rT h0;show(if ("abcdefghijklmnopqrstuvwxyz":aj).length<=aN then (atI ("abcdefghijklmnopqrstuvwxyz":aj).cps.toList (n:aq)).map _ else af)=_;rw[qX (by decide +kernel),jz,F3 n .(c)];rfl
theorem Da:∀cs:ac ao,Str.join "" (cs.map fun c=>tx [c])=tx cs
 |[]=>rfl
 |[c]=>rfl
 |c::d::r=>by show tx [c]++tx []++Str.join "" ((d::r).map fun c=>tx [c])=_;rw[Da (d::r),vf,vf];rfl
theorem CZ:∀cs:ac ao,mD (cs.map fun c=>.str (tx [c]))=aa (cs.map fun c=>tx [c])
 |[]=>rfl
 |c::r=>by show(mD (r.map fun c=>.str (tx [c]))).map (tx [c]::·)=_;rw[CZ r];rfl
theorem IR {cs:ac ao} (h:cs.length<=100):pR (.str "") [.lst (cs.map fun c=>.str (tx [c]))]=aa (.str (tx cs)):=by
 show((mD (cs.map fun c=>.str (tx [c]))).bind fun ys=>if (ys.map (·.length)).sum+ys.length*("":aj).length<=16777216 then aa (D.str (EV "" ys)) else af)=_;have h1:=StrLaws.sumLen_le (B:=1) (cs.map fun c=>tx [c]) (fun y hy=>by obtain⟨c,_,rfl⟩:=bU.mp hy;exact qx _);rw[CZ,qb,qX (by rw[qf] at h1 ⊢;show _+cs.length*0<=_;omega)]
 show aa (D.str (Rl "" _))=_;rw[StrLaws.glued_eq_join,Da]
theorem Kk {xs:ac α} {d:aq} (h:0<=d):dw xs af (aa d)=xs.take d.toNat:=by
 unfold dw HT.sIx;simp only;rw[qY .(c),oN,Rx,zf];split
 .rfl
 .rw[lJ (qx _),lJ .(c)]
theorem Gb {xs:ac α} {d:aq} (h:0<=d):dw xs (aa d) af=xs.drop d.toNat:=by
 unfold dw HT.sIx;simp only;rw[qY .(c),zf];split
 .rw[lJ (by rw[ku];omega)]
 .rw[zg (qx _),zg .(c)];simp
theorem Df {l:ac ao} (hl:l.length<=100) (lo hi:au aq):jZ lo hi (.str (tx l))=aa (.str (tx (dw l lo hi))):=by show(if (tx l).length<=aN then aa (D.str (kD (tx l) lo hi)) else af)=_;rw[qX (by rw[pM];unfold aN;omega)];unfold kD tx;rfl
theorem o7 {fl:bG->au (au aq)} {l h:au aq} (h1:f ρ=aa d) (h2:fl ρ=aa l) (h3:fh ρ=aa h) (h4:jZ l h d=aa z):slF f fl fh ρ=aa z:=by unfold slF;rw[h1,h2,h3];exact h4
theorem wc {a b:ac ao} (h:a.length+b.length<=100):bi (.str (tx a)) (.str (tx b))=aa (.str (tx (a++b))):=by show(if (tx a).length+(tx b).length<=aN then _ else _)=_;rw[qX (by rw[pM,pM];unfold aN;omega),vf]
noncomputable def nmK (l:ac ao) (a k:ao):aj:=tx (l.take a++[97+k*7%26]++[]++l.drop a)
theorem G7 {l:ac ao} {a:ao} (hl:l.length<=6) (hz:∀c∈l,az c=ak) (k:ao):bh (nmK l a k)=ak:=by
 have h0:(l.take a).length+(l.drop a).length=l.length:=by rw[←qj,yS]
 unfold bh nmK;rw[pM];simp only[fJ,yQ];refine⟨⟨by simp only[qj,qi,qm];omega,by simp only[qj,qi,qm];omega⟩,?_⟩;show(l.take a++[97+k*7%26]++[]++l.drop a).all az=ak;rw[iD];intro c hc;rw[gM,lH] at hc;rcases eF.mp hc with hc|hc
 .exact hz c (uB hc)
 .rcases cH.mp hc with rfl|hc
  .exact zO _ .(c)
  .exact hz c (QG hc)
theorem Gm {l:ac ao} {a:ao} (ha:a<=l.length) (h:nmK l a i=nmK l a j):i*7%26=j*7%26:=by unfold nmK tx at h;have h:=cw (fun s:aj=>s.cps.toList) h;simp only[gM,lH] at h;have h:=List.append_cancel_left h;simp at h;omega
theorem MN {l:ac ao} {a m:ao} (ha:a<=l.length) (hm:m<=26):((cQ m).map (nmK l a)).Nodup:=by refine uD.mpr (E6 ?_ (QP (n:=m)));intro i j hi hj hlt e;have:=Gm ha e;have:=eR.mp hj;omega
theorem CQ {α:Type} {fe:FE} {r:bG} {m:α->D} {Q:ao->α->Prop}:∀(n s:ao) (a:au Slot),(∀i,s<=i->i<s+n->Wp (fe (oS (.int (0+(i:aq)))::r)) fun d=>∃x,d=m x/\Q i x)->Wp (cT (aC 0) tT fe ((zh s n).map fun i:ao=>D.int (0+(i:aq))) (a::r)) fun l=>∃xs:ac α,l=xs.map m/\xs.length=n/\∀i x,xs[i]?=aa x->Q (s+i) x
 |0,s,a,_=>⟨[],rfl,[],rfl,rfl,fun i x h=>by simp at h⟩
 |n+1,s,a,h=>by
  obtain⟨_,e,x,rfl,q⟩:=h s (qx _) .(c);obtain⟨_,e2,xs,rfl,hl,hq⟩:=CQ (m:=m) (Q:=Q) n (s+1) (oS (.int (0+(s:aq)))) fun i h1 h2=>h i .(c) .(c);refine⟨(x::xs).map m,?_,x::xs,rfl,by rw[qi,hl],fun i y hy=>?_⟩
  .rw[Fn,qo];show((fe (oS (.int (0+(s:aq)))::r)).bind fun d=>(cT (aC 0) tT fe _ (oS (.int (0+(s:aq)))::r)).map (d::·))=_;rw[e,qb,e2];rfl
  .cases i with
   |zero=>simp at hy;subst hy;exact q
   |succ i=>
    have:=hq i y (by simpa using hy);rw[show s+1+i=s+(i+1) by omega] at this;exact this
theorem Ah {m:α->D} (Q:ao->α->Prop) {P:D->Prop} (hf:Wp (fr ρ) fun l=>l=[.int (n:aq)]) (hn:n<=1000) (hv:fC fv ρ=af::r) (h:∀i,i<n->Wp (fe (oS (.int (i:aq))::r)) fun d=>∃x,d=m x/\Q i x) (p:∀xs:ac α,xs.length=n->(∀i x,xs[i]?=aa x->Q i x)->P (.lst (xs.map m))):Wp (aQ (bp (itR et fr) (aC 0) tT fe fv) ρ) P:=by
 obtain⟨_,e,rfl⟩:=hf;obtain⟨_,e2,xs,rfl,hl,hq⟩:=CQ (fe:=fe) (r:=r) (m:=m) (Q:=Q) n 0 af fun i _ h2=>by rw[zd];exact h i .(c)
 refine⟨.lst (xs.map m),?_,p xs hl fun i x hx=>by have:=hq i x hx;rw[nq] at this;exact this⟩;unfold aQ bp;rw[xr e (wb ⟨by omega,by omega⟩),qb,qX (by rw[qf,qV];unfold aN;omega),hv,gj,Rz,e2];rfl
noncomputable abbrev nmE (c m:aq) (l:ac ao) (a:aq) (ns:ac aj) (k:au Slot):bG:=[oS (.int c),oS (.int m),oS (.str "abcdefghijklmnopqrstuvwxyz"),oS (.str (tx l)),oS (.int a),aa (.own (ns.map D.str)),k]
theorem Le (c:aq) {m:ao} (hm:m<=12):Wp (tS [.int c,.int m]) fun d=>∃ns:ac aj,d=.lst (ns.map D.str)/\ns.length=m/\ns.Nodup/\∀x∈ns,bh x=ak:=by
 obtain⟨e0,a0,a1⟩:=im c (k:=0) (m:=7) .(e) .(e) .(e);unfold tS;refine gr (b8 (w_c (b8 (dL (w_c (dL (bd (Ah (m:=fun c:ao=>.str (tx [c])) (n:=(drw c 0 7).toNat) (fun _ c=>az c=ak) ⟨_,aK (bC rfl e0) aW,by rw[Int.toNat_of_nonneg a0]⟩ .(c) rfl ?_ fun cs cl cz=>cC ?_))))))))
 .intro i hi;refine w_2 (bf rfl (cS (k:=3+(i:aq)) (m:=26) rfl rfl rfl .(c) .(c) .(e) fun q0 q1=>aP (CW q0 q1) ⟨_,rfl,zO _ .(c)⟩))
 refine aP (IR .(c)) ?_;have cz:∀c∈cs,az c=ak:=fun c hc=>by obtain⟨i,hi⟩:=uP hc;exact cz i c hi
 have l6:cs.length<=6:=by omega
 refine b8 (cS (k:=1) (m:=(cs.length:aq)+1) rfl rfl (aH (x:=.int cs.length) (bC (aK rfl aW) ?_) rfl rfl) .(e) .(e) .(c) fun q0 q1=>l7 ?_)
 .show(if (tx cs).length<=aN then aa (D.int ((tx cs).length:ao)) else af)=_;rw[pM,qX (by unfold aN;omega)]
 obtain⟨a,ha⟩:=rT q0;rw[ha] at q1;rw[ha];refine dG (eK (fun i ρ=>∃k,ρ=nmE c m cs a ((cQ i).map (nmK cs a)) k/\i<=m) (iH (bd (bf rfl (cC ⟨m,rfl,by omega,by omega,⟨af,rfl,g9 _⟩,?_,?_⟩)))))
 .rintro k x ρ hx ⟨z,rfl,_⟩;obtain⟨hk,rfl⟩:=i6 hx;rw[gj] at hk;have t0:(cs.take a).length+(cs.drop a).length=cs.length:=by rw[←qj,yS]
  refine aP rfl (vg (m:=D.str) (xs:=(cQ k).map (nmK cs a)) (nmK cs a k) rfl (by rw[qf,qV];omega) (aP (aH (z:=.str (nmK cs a k)) (aH (z:=.str (tx (cs.take a++[97+k*7%26]++[]))) (aH (z:=.str (tx (cs.take a++[97+k*7%26]))) (o7 rfl rfl rfl (Df .(c) _ _)) (aH rfl (aH (x:=.int ((k:aq)*7)) (aH rfl rfl Kw) rfl rfl) (CW .(c) .(c))) ?_) (aH (x:=.lst [.str "",.str "q"]) (y:=.int 0) rfl (aH rfl rfl ?_) rfl) ?_) (o7 rfl rfl rfl (Df .(c) _ _)) ?_) ⟨rfl,rfl,oS (.int k),?_,by omega⟩))
  .rw[Kk .(c),gj,show((k:aq)*7%26).toNat=k*7%26 by omega];exact wc (by simp only[qi,qm];omega)
  .have e:(k:aq) / 26=0:=by omega
   show aa (D.int ((k:aq) / 26))=_;rw[e]
  .exact wc (b:=[]) (by simp only[qj,qi,qm];omega)
  .rw[Gb .(c),gj];exact wc (by simp only[qj,qi,qm];omega)
  .rw[show cQ (k+1)=cQ k++[k] from Fp,eO (f:=nmK cs a)];rfl
 .rintro ρ ⟨k,rfl,hl⟩;refine⟨rfl,l9 (ds:=((cQ _).map (nmK cs a)).map D.str) rfl (fE (bf rfl ⟨_,rfl,_,rfl,by simp,MN .(c) (by simp;omega),fun x hx=>?_⟩))⟩;obtain⟨k,_,rfl⟩:=bU.mp hx;exact G7 l6 cz k
theorem vH {l:ac aj} {n:aq} {P:D->Prop} (h0:0<=n) (h1:n<l.length) (p:∀s∈l,P (.str s)):Wp (ixD (.lst (l.map D.str)) (.int n)) P:=
 o5 h0 (by rw[qf];exact h1) fun d hd=>by obtain⟨s,hs,rfl⟩:=bU.mp hd;exact p s hs
theorem K0 {a b:aq} {P:D->Prop} (p:P (.int (if b > a then b else a))):Wp (i8 [.int a,.int b]) P:=⟨_,rfl,p⟩
noncomputable def kd3:ac aj:=["cut","glue","paint"]
theorem Gz:∀s∈kd3,bh s=ak:=by decide +kernel
noncomputable abbrev seE (c:aq) (nm:aj) (bs:ac BenchT) (h:aq) (kd:aj) (a:aq) (rt:ac BenchT) (ws:ac (aj×aq)) (x y z:au Slot):bG:=[oS (.int c),oS (.str nm),oS (.lst (bs.map bZ)),oS (.int h),oS (.str kd),oS (.int a),oS (.lst (rt.map bZ)),aa (.own (ws.map dW)),x,y,z]
theorem tp {m:α->D} {x y:ac α} (h:x.length+y.length<=1000):bi (.lst (x.map m)) (.lst (y.map m))=aa (.lst ((x++y).map m)):=by rw[eO];exact qX (by rw[qf,qf];unfold aN;omega)
theorem B5 {a b:aq} (a0:0<=a) (a1:a<2) (b0:0<=b) (b1:b<4):0<=a*b/\a*b<=3:=by rcases(show a=0\/a=1 by omega) with rfl|rfl<;>omega
theorem Jx (c:aq) {nm:aj} {bs:ac BenchT} (hn:bh nm=ak) (hb:1<=bs.length/\bs.length<=8) (nd:(bs.map (·.nm)).Nodup) (hh:1<=h):Wp (tV [.int c,.str nm,.lst (bs.map bZ),.int h]) fun d=>∃s:StepT,d=aX s/\s.nm=nm/\GoodS (bs.map (·.nm)) h s:=by
 have bl:cg [.lst (bs.map bZ)]=aa (.int bs.length):=by show aa (D.int (bs.map bZ).length)=_;rw[qf]
 unfold tV;refine gr (b8 (w_2 (aP (a:=.lst (kd3.map D.str)) rfl (cS (k:=0) (m:=3) rfl rfl rfl .(e) .(e) .(e) fun q0 q1=>vH q0 q1 fun kd hk=>?_))));refine b8 (cS (k:=1) (m:=bs.length) rfl rfl (bC rfl bl) .(e) .(e) .(c) fun q2 q3=>?_);obtain⟨a,ha⟩:=rT q2;rw[ha] at q3 ⊢;obtain⟨e4,a0,a1⟩:=im c (k:=2) (m:=2) .(e) .(e) .(e);obtain⟨e5,b0,b1⟩:=im c (k:=3) (m:=4) .(e) .(e) .(e);obtain⟨n,hn4⟩:∃n:ao,1+drw c 2 2*drw c 3 4=n:=⟨(1+drw c 2 2*drw c 3 4).toNat,by have:=B5 a0 a1 b0 b1;omega⟩;have n4:1<=n/\n<=4:=by have:=B5 a0 a1 b0 b1;omega
 have len:(bs.drop a++bs.take a).length=bs.length:=by rw[qj,ku,qF];omega
 have pm:(bs.drop a++bs.take a).Perm bs:=by have:=List.perm_append_comm (l₁:=bs.drop a) (l₂:=bs.take a);rw[yS] at this;exact this
 refine b8 ⟨.lst (((bs.drop a++bs.take a).take n).map bZ),?_,l7 ?_⟩
 .refine(Cz (xs:=(bs.drop a++bs.take a).map bZ) (d:=n) (aH (x:=.lst ((bs.drop a).map bZ)) (y:=.lst ((bs.take a).map bZ)) ?_ ?_ (tp (by rw[←qj,len];omega))) (aH rfl (aH (bC rfl e4) (bC rfl e5) (qX (.inl (by rw[k0];omega)))) (cw (fun x=>aa (D.int x)) hn4)) .(c)).trans ?_
  .refine(z6 (xs:=bs.map bZ) (d:=a) rfl rfl .(c)).trans ?_;rw[gj,Fm]
  .refine(Cz (xs:=bs.map bZ) (d:=a) rfl rfl .(c)).trans ?_;rw[gj,zi]
  .rw[gj,zi]
 have rl:((bs.drop a++bs.take a).take n).length<=4/\1<=((bs.drop a++bs.take a).take n).length:=by rw[qF,len];omega
 have rn:(((bs.drop a++bs.take a).take n).map (·.nm)).Nodup:=by refine rS ((lE _ _).map _) ?_;exact((pm.map (·.nm)).nodup_iff).mpr nd
 have rm:∀b∈(bs.drop a++bs.take a).take n,b∈bs:=fun b hb=>pm.subset (uB hb);generalize (bs.drop a++bs.take a).take n=rt at rl rn rm ⊢;refine dG (eK (fun i ρ=>∃(ws:ac (aj×aq)) (x y z:au Slot),ρ=seE c nm bs h kd a rt ws x y z/\ws.map (·.1)=(rt.take i).map (·.nm)/\∀w∈ws,1<=w.2/\w.2<=h) (aP (a:=(rt.map bZ).mapIdx fun i d=>D.tup [.int i,d]) rfl ⟨⟨[],af,af,af,rfl,by simp,fun _ z=>nomatch z⟩,?_,?_⟩))
 .rintro i x ρ hx ⟨ws,x',y,z,rfl,hw,hg⟩;obtain⟨_,hy,rfl⟩:=xw hx;rw[qk] at hy;obtain⟨b,hb',rfl⟩:=oMd hy;have hi:i<rt.length:=(eB.mp hb').1;have wl:ws.length<=4:=by have:=cw dU hw;rw[qf,qf,qF] at this;omega
  have mn:=wv (a:=5) (b:=h);have fin:∀m:aq,1<=m->m<=h->Wp (gk 7 (aZ (szF (ag (b2 ixD (vSh 9) .(f)) (ag (cF i8 (ag .(i) (ag (cF kS (ag (vSh 0) (ag (b2 bi (vC (.int 4)) (b2 di (vC (.int 2)) (vSh 8))) (ag (vSh 10) ar)))) ar))) ar)))) (seE c nm bs h kd a rt ws (oS (.int i)) (oS (bZ b)) (oS (.int m)))) fun r=>r.1=.nx/\∃(ws:ac (aj×aq)) (x y z:au Slot),r.2=seE c nm bs h kd a rt ws x y z/\ws.map (·.1)=(rt.take (i+1)).map (·.nm)/\∀w∈ws,1<=w.2/\w.2<=h:=by
   intro m m1 mh;refine tP (m:=dW) (xs:=ws) rfl .(c) (jR (bd (aP (aH rfl rfl cN) (bd (gH (bd (w_c (bd (w8 (k:=4+2*(i:aq)) (m:=m) rfl (aH rfl (aH rfl rfl gI) rfl) rfl .(c) .(c) .(c) fun v v0 v1=>cC (K0 (cC ⟨by simp,(b.nm,if v > 1 then v else 1),rfl,rfl,ws++[(b.nm,if v > 1 then v else 1)],_,_,_,rfl,?_,fun w hw=>?_⟩)))))))))))
   .rw[eO,hw,Bj _ hb'];rfl
   .rcases eF.mp hw with hw|hw
    .exact hg w hw
    .rw[bN.mp hw];show 1<=(if v > 1 then v else 1)/\(if v > 1 then v else 1)<=h;split<;>omega
  exact aP rfl (b8 (w_2 (aP (a:=.lst [.int h,.int (if h<5 then h else 5)]) rfl (cS (k:=13) (m:=2) rfl rfl rfl .(e) .(e) .(e) fun q0 q1=>o5 q0 q1 (vO (fin _ hh (ze _)) (fin _ .(c) .(c)))))))
 .rintro ρ ⟨ws,x,y,z,rfl,hw,hg⟩;rw[rH,qf,gO] at hw;have wl:ws.length=rt.length:=by have:=cw dU hw;simpa using this
  refine⟨rfl,l9 (ds:=ws.map dW) rfl (fE (jR (bd (bf rfl (bd (bf rfl (bd (bf rfl (cC ⟨by simp,_,rfl,⟨nm,kd,ws⟩,rfl,rfl,hn,Gz kd hk,by show 1<=ws.length;omega,by show ws.length<=4;omega,fun w hw'=>⟨?_,hg w hw'⟩,by rw[hw];exact rn⟩))))))))) ⟩;have:w.1∈ws.map (·.1):=qW hw';rw[hw] at this;obtain⟨b,hb2,e⟩:=bU.mp this;rw[←e];exact qW (rm b hb2)
noncomputable abbrev Es:=ac (ac aj×aq)
noncomputable def dKV (es:Es):ac (ac Key×D):=es.map fun e=>(e.1.map ci,.int e.2)
theorem nR {a b:ac aj} :a.map (ci:aj->Key)=b.map ci↔a=b:=Fj fun _ _=>jI
theorem Dq {es:Es} {t:ac aj} {n:aq} {A:ac aj->Prop} {B:aq->Prop} (nd:(es.map (·.1)).Nodup) (al:∀e∈es,A e.1/\B e.2) (pt:A t) (pn:B n):∃es':Es,cJ (dKV es) (t.map ci) (.int n)=dKV es'/\(es'.map (·.1)).Nodup/\(∀e∈es',A e.1/\B e.2)/\es'.length<=es.length+1:=by
 unfold cJ;split
 .refine⟨es.map fun e=>if e.1=t then (e.1,n) else e,?_,?_,fun e he=>?_,by rw[qf];omega⟩
  .unfold dKV;rw[qp,qp];refine iG fun e _=>?_;show(if e.1.map ci=t.map ci then _ else _)=_;by_cases h:e.1=t
   .rw[qX (nR.mpr h)];simp[h]
   .rw[qY (fun z=>h (nR.mp z))];simp[h]
  .rw[qp];have:es.map ((·.1) ∘ fun e=>if e.1=t then (e.1,n) else e)=es.map (·.1):=iG fun e _=>by show(if e.1=t then (e.1,n) else e).1=e.1;split<;>rfl
   rw[this];exact nd
  .obtain⟨e0,h0,rfl⟩:=bU.mp he;split
   .exact⟨(al e0 h0).1,pn⟩
   .exact al e0 h0
 .rename_i hno;refine⟨es++[(t,n)],by unfold dKV;rw[eO];rfl,?_,fun e he=>?_,by rw[qj];exact qx _⟩
  .rw[eO];refine ky.mpr ⟨nd,by simp,fun x hx y hy e=>hno ?_⟩;obtain⟨z,hz,rfl⟩:=bU.mp hx;have hy:y=t:=by simpa using hy
   exact lO.mpr ⟨_,qW hz,qT (nR.mpr (e.trans hy))⟩
  .rcases eF.mp he with he|he
   .exact al e he
   .rw[bN.mp he];exact⟨pt,pn⟩
theorem xZ:∀{es:Es} {e:ac aj×aq},(es.map (·.1)).Nodup->e∈es->bw (dKV es) (e.1.map ci)=aa (.int e.2)
 |[],_,_,h=>nomatch h
 |x::r,e,nd,he=>by
  rw[qo,eJ] at nd;unfold bw dKV;rw[qo,fg];rcases cH.mp he with rfl|he
  .simp
  .have hne:¬(x.1.map (ci:aj->Key)=e.1.map ci):=fun z=>nd.1 (by rw[nR.mp z];exact qW he);simp only[qO hne];exact xZ nd.2 he
theorem BM {α:Type} {fe:FE} {r:bG} {k m:α->D}:∀{xs:ac α} {a:au Slot},(∀x∈xs,fe (oS (k x)::r)=aa (m x))->cT (aC 0) tT fe (xs.map k) (a::r)=aa (xs.map m)
 |[],_,_=>rfl
 |x::xs,a,h=>by show((fe (oS (k x)::r)).bind fun d=>(cT (aC 0) tT fe (xs.map k) (oS (k x)::r)).map (d::·))=_;rw[h x qg,qb,BM fun y hy=>h y (qh _ hy)];rfl
theorem zW {es:Es} (v:aq->aq) (h:ρ[i]?=aa (oS (.dt (dKV es)))) (hl:es.length<=1000) (hs:∀e∈es,0<e.1.length/\e.1.length<=10) (hv:fC fv ((ρ.map kH).set i (oS (.fdt (dKV es))))=af::r)
  (he:∀e∈es,fe (oS (.tup (e.1.map D.str))::r)=aa (.int (v e.2))):oe i (aQ (bp (kC (vSh i)) (aC 0) tT (b2 iT (vSh 0) (aZ (szF (ag fe ar)))) fv)) ρ=aa (.lst (es.map fun e=>.tup (e.1.map D.str++[.int (v e.2)]))):=by
 have hi:i < ρ.length:=(eB.mp h).1;have e1:kC (vSh i) ((ρ.map kH).set i (oS (.fdt (dKV es))))=aa (es.map fun e=>.tup (e.1.map D.str)):=by unfold kC vSh;rw[oy (by rw[qf];exact hi)];show aa ((dKV es).map fun kv=>D.tup (kv.1.map eW))=_;unfold dKV;rw[qp];refine cw aa (iG fun e _=>?_);show D.tup ((e.1.map ci).map eW)=_;rw[qp];rfl
 unfold oe;rw[h];show(if ((dKV es).map (·.2)).all fX=ak then _ else _)=_;rw[qX (by unfold dKV;rw[qp,uR,iD];intro x _;rfl)]
 have e2:aQ (bp (kC (vSh i)) (aC 0) tT (b2 iT (vSh 0) (aZ (szF (ag fe ar)))) fv) ((ρ.map kH).set i (oS (.fdt (dKV es))))=aa (.lst (es.map fun e=>.tup (e.1.map D.str++[.int (v e.2)]))):=by
  unfold aQ bp;rw[e1,qb,qX (by rw[qf];unfold aN;omega),hv];rw[BM (k:=fun e:ac aj×aq=>D.tup (e.1.map D.str)) (m:=fun e=>.tup (e.1.map D.str++[.int (v e.2)]))]
  .rfl
  .intro e hm;show b2 iT (vSh 0) (aZ (szF (ag fe ar))) (oS (.tup (e.1.map D.str))::r)=aa (.tup (e.1.map D.str++[.int (v e.2)]));refine aH (y:=.tup [.int (v e.2)]) rfl ?_ ?_
   .unfold aZ szF;rw[aK (he e hm) aW];rfl
   .refine qX ⟨?_,by simp,by rw[qf];have:=hs e hm;simp only[qi,qm];unfold aN;omega⟩;intro z;have:=hs e hm;rw[List.map_eq_nil_iff] at z;rw[z] at this;simp at this
 rw[e2,qb,qX];show(es.map fun e=>D.tup (e.1.map D.str++[.int (v e.2)])).all tfD=ak;rw[uR,iD];intro e _;show(e.1.map D.str++[D.int (v e.2)]).all fX=ak;rw[List.all_append,uR];simp only[fJ,iD];exact⟨fun _ _=>rfl,fun x hx=>by rw[bN.mp hx];rfl⟩
theorem D3 {es:Es} {t:ac aj} {fv:FE} (hs:ρ[i]?=aa (aa (.odt (dKV es)))) (hl:es.length<=1000) (hk:fk ρ=aa (.tup (t.map D.str))) (hv:Wp (fv ρ) fun d=>∃n,d=.int n/\R (.nx,ρ.set i (aa (.odt (cJ (dKV es) (t.map ci) (.int n)))))):Wp (eA i fk fv ρ) R:=by obtain⟨_,e,n,rfl,k⟩:=hv;refine⟨_,?_,k⟩;unfold eA;rw[e,hk,hs];show((eM (t.map D.str)).bind _)=_;rw[jT];exact qX (by unfold dKV;rw[qf];omega)
theorem Jz {P:aT->Prop} (h:ρ[i]?=aa (aa (.odt kvs))) (k:Wp (ft (ρ.set i (oS (.dt kvs)))) P):Wp (oZ i ft ρ) P:=by unfold oZ;rw[h];exact k
noncomputable def LkA (ss:ac StepT) (t:ac aj):Prop:=∃a b,t=[a,b]/\a∈ss.map (·.nm)/\b∈ss.map (·.nm)/\a≠b
noncomputable abbrev prW (c:aq) (ss:ac StepT) (es:Es) (x y z:au Slot):bG:=[oS (.int c),oS (.int 50),oS (.lst (ss.map aX)),aa (.odt (dKV es)),x,y,z]
theorem Mo (c:aq) (hs:1<=ss.length/\ss.length<=40):Wp (tM [.int c,.int 50,.lst (ss.map aX)]) fun d=>∃es:Es,d=.dt (dKV es)/\es.length<=5/\(es.map (·.1)).Nodup/\∀e∈es,LkA ss e.1/\0<=e.2/\e.2<5:=by
 have sl:cg [.lst (ss.map aX)]=aa (.int ss.length):=by show aa (D.int (ss.map aX).length)=_;rw[qf]
 unfold tM;refine gr (dG (aP (a:=(.nx,prW c ss [] af af af)) rfl ⟨rfl,dG (eK (fun i ρ=>∃(es:Es) (x y z:au Slot),ρ=prW c ss es x y z/\es.length<=i/\(es.map (·.1)).Nodup/\∀e∈es,LkA ss e.1/\0<=e.2/\e.2<5) (iH (bd (cS (k:=50) (m:=6) rfl rfl rfl .(e) .(e) .(e) fun q0 q1=>cC ⟨_,rfl,q0,by omega,⟨[],af,af,af,rfl,qx _,kx,fun _ z=>nomatch z⟩,?_,?_⟩))))⟩))
 .rintro i x ρ hx ⟨es,x',y,z,rfl,hl,nd,al⟩;obtain⟨hi,rfl⟩:=i6 hx;refine aP rfl (b8 (pF rfl (cS (k:=50+1+3*(i:aq)) (m:=ss.length) rfl (aH rfl (aH rfl rfl gI) rfl) (bC rfl sl) .(c) .(c) .(c) fun a0 a1=>⟨_,rfl,a0,a1,?_⟩)));refine b8 (pF rfl (cS (k:=50+2+3*(i:aq)) (m:=ss.length) rfl (aH rfl (aH rfl rfl gI) rfl) (bC rfl sl) .(c) .(c) .(c) fun b0 b1=>⟨_,rfl,b0,b1,?_⟩));have m1:=tu (ss:=ss) (i:=(drw c (50+1+3*(i:aq)) ss.length).toNat) .(c);have m2:=tu (ss:=ss) (i:=(drw c (50+2+3*(i:aq)) ss.length).toNat) .(c);generalize snm ss (drw c (50+1+3*(i:aq)) ss.length).toNat=o1 at m1 ⊢;generalize snm ss (drw c (50+2+3*(i:aq)) ss.length).toNat=o2 at m2 ⊢;refine gb (Jz (kvs:=dKV es) rfl (On (gx (w_2 (bf rfl (bf rfl (aP (wS _ _) ⟨_,rfl,?_⟩)))))));by_cases e:o1=o2
  .rw[qT e];exact⟨(fun z=>nomatch z),fun _=>fZ ⟨rfl,es,_,_,_,rfl,by omega,nd,al⟩⟩
  .rw[qO e];refine gx (w_2 (aP (eQ rfl rfl) (bf rfl (aP (a:=.bl (!(bw (dKV es) (kk o1 o2)).isSome)) rfl ⟨_,rfl,fun _=>?_,fun _=>fZ ⟨rfl,es,_,_,_,rfl,by omega,nd,al⟩⟩))));refine D3 (t:=[o1,o2]) rfl .(c) (eQ rfl rfl) (cS (k:=50+3+3*(i:aq)) (m:=5) rfl (aH rfl (aH rfl rfl gI) rfl) rfl .(c) .(c) .(e) fun g0 g1=>⟨_,rfl,rfl,?_⟩);obtain⟨es',e1,e2,e3,e4⟩:=Dq (A:=LkA ss) (B:=fun n=>0<=n/\n<5) nd al ⟨o1,o2,rfl,m1,m2,e⟩ ⟨g0,g1⟩;rw[e1];exact⟨es',_,_,_,rfl,by omega,e2,e3⟩
 .rintro ρ ⟨es,x,y,z,rfl,hl,nd,al⟩;exact⟨rfl,fE (ρ:=[oS (.int c),oS (.int 50),oS (.lst (ss.map aX)),oS (.dt (dKV es)),x,y,z]) (bf rfl ⟨_,rfl,es,rfl,by simp at hl;omega,nd,al⟩)⟩
noncomputable def kd4:ac aj:=["cut","glue","paint","rest"]
theorem DM:∀s∈kd4,bh s=ak:=by decide +kernel
noncomputable def xy (bs:ac BenchT) (t:ac aj):Prop:=∃b p q,t=[b,p,q]/\b∈bs.map (·.nm)/\bh p=ak/\bh q=ak
noncomputable abbrev sxE (c:aq) (bs:ac BenchT) (h:aq) (es:Es) (x y:au Slot):bG:=[oS (.int c),oS (.lst (bs.map bZ)),oS (.int h),oS (.lst (kd4.map D.str)),aa (.odt (dKV es)),x,y]
theorem Ks (c:aq) {bs:ac BenchT} (hh:1<=h) (hb:1<=bs.length/\bs.length<=8):Wp (tJ [.int c,.lst (bs.map bZ),.int h]) fun d=>∃es:Es,d=.lst (es.map fun e=>.tup (e.1.map D.str++[.int e.2]))/\es.length<=11/\(es.map (·.1)).Nodup/\∀e∈es,xy bs e.1/\1<=e.2/\e.2<=h:=by
 have bl:cg [.lst (bs.map bZ)]=aa (.int bs.length):=by show aa (D.int (bs.map bZ).length)=_;rw[qf]
 have mn:=wv (a:=h) (b:=4);unfold tJ;refine gr (b8 (aP (a:=.lst (kd4.map D.str)) rfl (dG (aP (a:=(.nx,sxE c bs h [] af af)) rfl ⟨rfl,dG (eK (fun i ρ=>∃(es:Es) (x y:au Slot),ρ=sxE c bs h es x y/\es.length<=i/\(es.map (·.1)).Nodup/\∀e∈es,xy bs e.1/\1<=e.2/\e.2<=h) (iH (bd (cS (k:=0) (m:=12) rfl rfl rfl .(e) .(e) .(e) fun q0 q1=>cC ⟨_,rfl,q0,by omega,⟨[],af,af,rfl,qx _,kx,fun _ z=>nomatch z⟩,?_,?_⟩))))⟩))))
 .rintro i x ρ hx ⟨es,x',y,rfl,hl,nd,al⟩;obtain⟨hi,rfl⟩:=i6 hx;refine aP rfl (b8 (jR (bd (Iw rfl (cS (k:=1+4*(i:aq)) (m:=bs.length) rfl (aH rfl (aH rfl rfl gI) rfl) (bC rfl bl) .(c) .(c) .(c) fun a0 a1=>⟨_,rfl,a0,a1,bd (w_2 (bf rfl (cS (k:=2+4*(i:aq)) (m:=4) rfl (aH rfl (aH rfl rfl gI) rfl) rfl .(c) .(c) .(e) fun b0 b1=>vH b0 b1 fun p hp=>cC ⟨by simp,?_⟩)))⟩)))));have m1:=FW (bs:=bs) (i:=(drw c (1+4*(i:aq)) bs.length).toNat) .(c);generalize bnm bs (drw c (1+4*(i:aq)) bs.length).toNat=b at m1 ⊢;refine b8 (w_2 (bf rfl (jR (bd (w_2 (bf rfl (cS (k:=3+4*(i:aq)) (m:=4) rfl (aH rfl (aH rfl rfl gI) rfl) rfl .(c) .(c) .(e) fun b0 b1=>vH b0 b1 fun q hq=>cC ⟨by simp,aP (a:=.tup ([b,p,q].map D.str)) rfl ?_⟩)))))));refine D3 (es:=es) (t:=[b,p,q]) rfl .(c) rfl (w_2 (w_c (cS (k:=4+4*(i:aq)) (m:=if 4<h then 4 else h) rfl (aH rfl (aH rfl rfl gI) rfl) rfl .(c) .(c) .(c) fun g0 g1=>f8 ⟨_,rfl,rfl,?_⟩)));obtain⟨es',e1,e2,e3,e4⟩:=Dq (A:=xy bs) (B:=fun n=>1<=n/\n<=h) nd al ⟨b,p,q,rfl,m1,DM p hp,DM q hq⟩ (show 1<=1+drw c (4+4*(i:aq)) (if 4<h then 4 else h)/\_<=h from⟨by omega,by omega⟩);rw[e1];exact⟨es',_,_,rfl,by omega,e2,e3⟩
 .rintro ρ ⟨es,x,y,rfl,hl,nd,al⟩;have hl2:es.length<=11:=by simp at hl;omega
  refine⟨rfl,fE (ρ:=[oS (.int c),oS (.lst (bs.map bZ)),oS (.int h),oS (.lst (kd4.map D.str)),oS (.dt (dKV es)),x,y]) (aP (zW (fun n=>n) rfl .(c) (fun e he=>?_) rfl fun e he=>?_) ⟨_,rfl,es,rfl,hl2,nd,al⟩)⟩
  .obtain⟨⟨b,p,q,e0,_⟩,_⟩:=al e he;rw[e0];exact⟨by simp,by simp⟩
  .refine aH rfl rfl ?_;show((eM (e.1.map D.str)).map (bw (dKV es))).bind id=_;rw[jT,qe,xZ nd he];rfl
noncomputable def en:ao->ac D->ac D
 |_,[]=>[]
 |s,x::r=>.tup [.int s,x]::en (s+1) r
theorem AR:∀(xs:ac D) (s:ao),xs.mapIdx (fun i d=>D.tup [.int ((s+i:ao):aq),d])=en s xs
 |[],_=>rfl
 |x::r,s=>by
  rw[List.mapIdx_cons];show _::_=_::en (s+1) r;rw[←AR r (s+1)]
  congr 1
  congr 1
  funext i d
  rw[show s+(i+1)=s+1+i by omega]
theorem en0 (xs:ac D):(xs.mapIdx fun i d=>D.tup [.int (i:aq),d])=en 0 xs:=by
 rw[←AR xs 0]
 congr 1
 funext i d
 rw[nq]
theorem Aa {fe:FE} {ft:FT} {r:bG} {v:ao->aq} (hv:∀i,1<=v i/\v i<=3) (h1:∀(i:ao) s,∃b,ft (oS (.int i)::oS (aX s)::r)=aa b) (h2:∀(i:ao) s,fe (oS (.int i)::oS (aX s)::r)=aa (dW (s.nm,v i))):∀(ss:ac StepT) (k:ao) (a b:au Slot),∃am:ac (aj×aq),cT (db 2 (bj (aC 0) (bj (aC 1) cW))) ft fe (en k (ss.map aX)) (a::b::r)=aa (am.map dW)/\(am.map (·.1)).Sublist (ss.map (·.nm))/\∀w∈am,1<=w.2/\w.2<=3
 |[],k,a,b=>⟨[],rfl,Fq _,fun _ z=>nomatch z⟩
 |s::ss,k,a,b=>by
  obtain⟨am,e,sb,g⟩:=Aa hv h1 h2 ss (k+1) (oS (.int k)) (oS (aX s));obtain⟨t,ht⟩:=h1 k s;have e1:cT (db 2 (bj (aC 0) (bj (aC 1) cW))) ft fe (en k ((s::ss).map aX)) (a::b::r)=(ft (oS (.int k)::oS (aX s)::r)).bind fun t=>if t=ak then (fe (oS (.int k)::oS (aX s)::r)).bind fun d=>(cT (db 2 (bj (aC 0) (bj (aC 1) cW))) ft fe (en (k+1) (ss.map aX)) (oS (.int k)::oS (aX s)::r)).map (d::·) else cT (db 2 (bj (aC 0) (bj (aC 1) cW))) ft fe (en (k+1) (ss.map aX)) (oS (.int k)::oS (aX s)::r):=rfl
  rw[e1,ht,qb,e,h2,qb];cases t with
  |false=>exact⟨am,rfl,Sw _ sb,g⟩
  |true=>exact⟨(s.nm,v k)::am,rfl,Sx _ sb,fun w hw=>(cH.mp hw).elim (fun e=>by rw[e];exact hv k) (g w)⟩
theorem Cv {n:aq} {fi:FE} {P:D->Prop} (v:ao->aq) (hf:fi ρ=aa (.lst (ss.map aX))) (hs:ss.length<=40) (nd:(ss.map (·.nm)).Nodup) (hr:fC fv ρ=af::af::r) (hv:∀i,1<=v i/\v i<=3) (h1:∀(i:ao) s,∃b,ft (oS (.int i)::oS (aX s)::r)=aa b) (h2:∀(i:ao) s,fe (oS (.int i)::oS (aX s)::r)=aa (dW (s.nm,v i))) (p:∀am,GoodA (ss.map (·.nm)) am->P (.lst (am.map dW))):Wp (aQ (bp (itE fi) (db 2 (bj (aC 0) (bj (aC 1) cW))) ft fe fv) ρ) P:=by
 obtain⟨am,e,sb,g⟩:=Aa hv h1 h2 ss 0 af af;refine⟨.lst (am.map dW),?_,p am ⟨by have:=sb.length_le;simpa using this,fun w hw=>⟨sb.subset (qW hw),(g w hw).1,by have:=(g w hw).2;omega⟩,sb.nodup nd⟩⟩;have i0:itE fi ρ=aa (en 0 (ss.map aX)):=by unfold itE;rw[hf,←en0];rfl
 have el:(en 0 (ss.map aX)).length<=aN:=by rw[←en0,rH,qf];unfold aN;omega
 unfold aQ bp;rw[i0,qb,qX el,hr,e];rfl
noncomputable def sN2:ac aj:=["sa","sb"]
theorem AI:(∀x∈sN2,bh x=ak)/\sN2.Nodup:=by decide +kernel
theorem Hd:∀{k:ao},k<2->∃x:aj,sN2[k]?=aa x/\(ixD (.str "ab") (.int (k:aq))).bind (fun y=>bi (.str "s") y)=aa (.str x)
 |0,_=>⟨"sa",rfl,rfl⟩
 |1,_=>⟨"sb",rfl,rfl⟩
 |n+2,h=>by omega
noncomputable abbrev skE (c:aq) (ss:ac StepT) (ks:ac StockT) (a b x y:au Slot):bG:=[oS (.int c),oS (.lst (ss.map aX)),aa (.own (ks.map dI)),a,b,x,y]
theorem Lg (c:aq) (hs:ss.length<=40) (nd:(ss.map (·.nm)).Nodup):Wp (sE [.int c,.lst (ss.map aX)]) fun d=>∃ks:ac StockT,d=.lst (ks.map dI)/\ks.length<=2/\(ks.map (·.nm)).Nodup/\∀k∈ks,GoodK (ss.map (·.nm)) k:=by
 unfold sE;refine gr (l7 (dG (eK (fun i ρ=>i<=2/\∃(ks:ac StockT) (a b x y:au Slot),ρ=skE c ss ks a b x y/\ks.map (·.nm)=sN2.take i/\∀k∈ks,GoodK (ss.map (·.nm)) k) (iH (bd (cS (k:=0) (m:=3) rfl rfl rfl .(e) .(e) .(e) fun q0 q1=>cC ⟨_,rfl,q0,by omega,⟨by decide,[],af,af,af,af,rfl,rfl,fun _ z=>nomatch z⟩,?_,?_⟩))))))
 .rintro i x ρ hx ⟨_,ks,a,b,x',y,rfl,hn,hg⟩;obtain⟨hi,rfl⟩:=i6 hx;have kl:ks.length<=2:=by have:=cw dU hn;rw[qf,qF] at this;have:sN2.length=2:=rfl;omega
  obtain⟨nm,e1,e2⟩:=Hd (k:=i) .(c);refine aP rfl (b8 (cS (k:=1+(i:aq)) (m:=9) rfl rfl rfl .(c) .(c) .(e) fun r0 r1=>?_));refine b8 (Cv (n:=0) (fun i=>1+(i:aq)%3) rfl hs nd rfl (fun i=>by omega) (fun j s=>?_) (fun j s=>?_) fun tk gt=>?_)
  .obtain⟨e,_⟩:=im c (k:=4+(i:aq)) (m:=7) .(c) .(c) .(e);exact⟨_,cD (aH (bC (aK rfl (aK rfl (aK rfl aW))) e) rfl rfl)⟩
  .exact eQ (aH rfl rfl cN) rfl
  refine b8 (Cv (n:=0) (fun i=>1+(i:aq)%2) rfl hs nd rfl (fun i=>by omega) (fun j s=>?_) (fun j s=>?_) fun pt gp=>?_)
  .obtain⟨e,_⟩:=im c (k:=8+(i:aq)) (m:=7) .(c) .(c) .(e);exact⟨_,cD (aH (bC (aK rfl (aK rfl (aK rfl aW))) e) rfl rfl)⟩
  .exact eQ (aH rfl rfl cN) rfl
  refine tP (m:=dI) (xs:=ks) rfl .(c) (jR (bd (aP (aH (y:=(ixD (.str "ab") (.int (i:aq))).getD .non) (z:=.str nm) rfl ?_ ?_) (bd (cS (k:=12+(i:aq)) (m:=drw c (1+(i:aq)) 9+1) rfl rfl rfl .(c) .(c) .(c) fun f0 f1=>bd (bf rfl (bd (bf rfl (bd (bf rfl (cC ⟨by simp,⟨nm,drw c (12+(i:aq)) (drw c (1+(i:aq)) 9+1),drw c (1+(i:aq)) 9,tk,pt⟩,rfl,rfl,by omega,_,_,_,_,_,rfl,?_,fun k hk=>?_⟩)))))))))))
  .rcases(show i=0\/i=1 by omega) with rfl|rfl<;>rfl
  .rw[←e2];rcases(show i=0\/i=1 by omega) with rfl|rfl<;>rfl
  .rw[eO,hn,jQ,e1];rfl
  .rcases eF.mp hk with hk|hk
   .exact hg k hk
   .rw[bN.mp hk];exact⟨AI.1 nm (qQ e1),⟨f0,Int.le_of_lt_add_one f1⟩,⟨r0,by show drw c (1+(i:aq)) 9<=_;omega⟩,gt,gp⟩
 .rintro ρ ⟨_,ks,a,b,x,y,rfl,hn,hg⟩;refine⟨rfl,l9 (ds:=ks.map dI) rfl (fE (bf rfl ⟨_,rfl,ks,rfl,?_,?_,hg⟩))⟩
  .have:=cw dU hn;rw[qf,qF] at this;have:sN2.length=2:=rfl;omega
  .rw[hn];exact rS (lE _ _) AI.2
noncomputable def jN3:ac aj:=["ja","jb","jc"]
theorem C6:(∀x∈jN3,bh x=ak)/\jN3.Nodup:=by decide +kernel
theorem JM:∀{k:ao},k<3->∃x:aj,jN3[k]?=aa x/\(ixD (.str "abc") (.int (k:aq))).bind (fun y=>bi (.str "j") y)=aa (.str x)
 |0,_=>⟨"ja",rfl,rfl⟩
 |1,_=>⟨"jb",rfl,rfl⟩
 |2,_=>⟨"jc",rfl,rfl⟩
 |n+3,h=>by omega
noncomputable def grp (cs:ac aq) (j:ao):aq:=drw (cs.getD (j%cs.length) 0) 12 4
noncomputable def mem (cs:ac aq) (ss:ac StepT) (k n s:ao):ac aj:=((zh s n).filter fun j=>decide (grp cs j=k)).map (snm ss)
theorem Jj (h:j<ss.length) {g:FE} (hf:f ρ=aa (.lst (ss.map aX))) (hg:g ρ=aa (.int (j:aq))):b2 ixD (b2 ixD f g) .(f) ρ=aa (.str (snm ss j)):=by obtain⟨_,e,rfl⟩:=pF (P:=fun d=>d=.str (snm ss j)) hf (aP hg ⟨j,rfl,by omega,by omega,by rw[gj]⟩);exact e
theorem zH (hc:0<cs.length) (j:ao) {g:FE} (hf:f ρ=aa (.lst (cs.map D.int))) (hg:g ρ=aa (.int (j:aq))):b2 ixD f (b2 eP g (cF cg (ag f ar))) ρ=aa (.int (cs.getD (j%cs.length) 0)):=by
 have hj:j%cs.length<cs.length:=yM _ hc;refine aH (y:=.int ((j%cs.length:ao):aq)) hf (aH (y:=.int cs.length) hg (bC (aK hf aW) ?_) ?_) ?_
 .show aa (D.int (cs.map D.int).length)=_;rw[qf]
 .show(if (0:aq)<cs.length then aa (D.int ((j:aq)%cs.length)) else af)=_;rw[qX .(c)];rfl
 .rw[ixL,qk,hV,qE hj];rfl
theorem sL {x:D} {xs:ac D} {a:au Slot} {b:aT} (ht:ft (oS x::r)=aa b):cT (aC 0) ft fe (x::xs) (a::r)=if b=ak then (fe (oS x::r)).bind fun d=>(cT (aC 0) ft fe xs (oS x::r)).map (d::·) else cT (aC 0) ft fe xs (oS x::r):=by show((ft (oS x::r)).bind fun t=>if t=ak then (fe (oS x::r)).bind fun d=>(cT (aC 0) ft fe xs (oS x::r)).map (d::·) else cT (aC 0) ft fe xs (oS x::r))=_;rw[ht,qb]
theorem Dt {cs:ac aq} {ss:ac StepT} {k:ao} (hc:0<cs.length):∀(n s:ao) (a:au Slot),s+n<=ss.length->cT (aC 0) (toB (b2 eqA (cF bS (ag (b2 ixD (vSh 3) (b2 eP (vSh 0) (cF cg (ag (vSh 3) ar)))) (ag (vC (.int 12)) (ag (vC (.int 4)) ar)))) (vSh 2))) (b2 ixD (b2 ixD (vSh 1) (vSh 0)) .(f)) ((zh s n).map fun i:ao=>D.int (0+(i:aq))) [a,oS (.lst (ss.map aX)),oS (.int k),oS (.lst (cs.map D.int))]=aa ((mem cs ss k n s).map D.str)
 |0,_,_,_=>rfl
 |n+1,s,a,h=>by
  obtain⟨e,_⟩:=im (cs.getD (s%cs.length) 0) (k:=12) (m:=4) .(e) .(e) .(e);have ih:=Dt (k:=k) hc n (s+1) (oS (.int (0+(s:aq)))) (ss:=ss) .(c);have t:toB (b2 eqA (cF bS (ag (b2 ixD (vSh 3) (b2 eP (vSh 0) (cF cg (ag (vSh 3) ar)))) (ag (vC (.int 12)) (ag (vC (.int 4)) ar)))) (vSh 2)) [oS (.int (0+(s:aq))),oS (.lst (ss.map aX)),oS (.int k),oS (.lst (cs.map D.int))]=aa (decide (grp cs s=k)):=
   cD (aH (bC (aK (zH hc s rfl (by rw[zd];rfl)) (aK rfl (aK rfl aW))) e) rfl rfl)
  have v:b2 ixD (b2 ixD (vSh 1) (vSh 0)) .(f) [oS (.int (0+(s:aq))),oS (.lst (ss.map aX)),oS (.int k),oS (.lst (cs.map D.int))]=aa (.str (snm ss s)):=Jj .(c) rfl (by rw[zd];rfl);rw[Fn,qo,sL t,v,ih];unfold mem;rw[Fn,uN];cases decide (grp cs s=k)<;>rfl
theorem Cu (cs:ac aq) (ss:ac StepT) (k:ao):(mem cs ss k ss.length 0).Sublist (ss.map (·.nm)):=by
 have e:ss.map (·.nm)=(zh 0 ss.length).map (snm ss):=by refine Rs (by simp) fun i h1 h2=>?_;unfold snm;simp at h1;simp[h1]
 unfold mem;rw[e];exact List.filter_sublist.map _
theorem BY {k:ao} (h:x∈mem cs ss k ss.length 0):∃j,j<ss.length/\x=snm ss j/\grp cs j=k:=by obtain⟨j,hj,rfl⟩:=bU.mp h;obtain⟨h1,h2⟩:=Eh.mp hj;have:=List.mem_range'_1.mp h1;exact⟨j,by omega,rfl,fL h2⟩
structure StJ (cs:ac aq) (ss:ac StepT) (h:aq) (i:ao) (js:ac JobT):Prop where
 nm:(js.map (·.nm)).Sublist (jN3.take i)
 nd:(js.flatMap (·.ms)).Nodup
 ms:∀x∈js.flatMap (·.ms),∃j,j<ss.length/\x=snm ss j/\grp cs j<i
 gd:∀j∈js,GoodJ (ss.map (·.nm)) h j
 ln:js.length<=i
theorem FP (nd:(ss.map (·.nm)).Nodup) {a b:ao} (ha:a<ss.length) (hb:b<ss.length) (h:snm ss a=snm ss b):a=b:=by unfold snm at h;rw[hV,hV,qE (by simpa using ha),qE (by simpa using hb)] at h;exact(Ej nd).mp h
theorem StJ.add (st:StJ cs ss h i js) (nd:(ss.map (·.nm)).Nodup) {j:JobT} (hn:jN3[i]?=aa j.nm) (pm:j.ms.Perm (mem cs ss i ss.length 0)) (he:0<=j.ea/\j.ea<=h) (hd:0<=j.du/\j.du<=h) (h1:j.ms≠[]):StJ cs ss h (i+1) (js++[j]):=by
 have sb:=Cu cs ss i;refine⟨?_,?_,fun x hx=>?_,fun y hy=>?_,by have:=st.ln;rw[qj];exact Nat.succ_le_succ this⟩
 .rw[eO,jQ,hn];exact st.nm.append (Fq _)
 .rw[uQ];refine ky.mpr ⟨st.nd,?_,fun x hx y hy e=>?_⟩
  .simp only[oR,Fs,gM];exact pm.nodup_iff.mpr (sb.nodup nd)
  .obtain⟨a,ha,e1,g1⟩:=st.ms x hx;simp only[oR,Fs,gM] at hy;obtain⟨b,hb,e2,g2⟩:=BY (pm.subset hy);have:=FP nd ha hb (by rw[←e1,←e2,e]);subst this;omega
 .rw[uQ] at hx;rcases eF.mp hx with hx|hx
  .obtain⟨a,ha,e1,g1⟩:=st.ms x hx;exact⟨a,ha,e1,by omega⟩
  .simp only[oR,Fs,gM] at hx;obtain⟨b,hb,e2,g2⟩:=BY (pm.subset hx);exact⟨b,hb,e2,by omega⟩
 .rcases eF.mp hy with hy|hy
  .exact st.gd y hy
  .rw[bN.mp hy];exact⟨C6.1 _ (qQ hn),he,hd,List.length_pos_iff.mpr h1,by rw[pm.length_eq];exact sb.length_le,fun m hm=>sb.subset (pm.subset hm)⟩
theorem StJ.skip (st:StJ cs ss h i js):StJ cs ss h (i+1) js:=
 ⟨st.nm.trans (List.take_sublist_take_left .(c)),st.nd,fun x hx=>by obtain⟨a,ha,e1,g1⟩:=st.ms x hx;exact⟨a,ha,e1,by omega⟩,st.gd,by have:=st.ln;omega⟩
noncomputable abbrev jbE (c:aq) (cs:ac aq) (ss:ac StepT) (h:aq) (js:ac JobT) (a b x y:au Slot):bG:=[oS (.int c),oS (.lst (cs.map D.int)),oS (.lst (ss.map aX)),oS (.int h),aa (.own (js.map bc)),a,b,x,y]
theorem JY (c:aq) (hc:0<cs.length) (hh:1<=h/\h<=1000000) (hs:ss.length<=40) (nd:(ss.map (·.nm)).Nodup) (nb:∀x∈ss.map (·.nm),bh x=ak):Wp (pq [.int c,.lst (cs.map D.int),.lst (ss.map aX),.int h]) fun d=>∃js:ac JobT,d=.lst (js.map bc)/\js.length<=3/\(js.map (·.nm)).Nodup/\(js.flatMap (·.ms)).Nodup/\∀j∈js,GoodJ (ss.map (·.nm)) h j:=by
 unfold pq;refine gr (l7 (dG (eK (fun i ρ=>∃(js:ac JobT) (a b x y:au Slot),ρ=jbE c cs ss h js a b x y/\StJ cs ss h i js) (iH (bd (w_c (cC ⟨3,rfl,by decide,by decide,⟨[],af,af,af,af,rfl,List.nil_sublist _,kx,(fun _ z=>nomatch z),(fun _ z=>nomatch z),qx _⟩,?_,?_⟩)))))))
 .rintro i x ρ hx ⟨js,a,b,x',y,rfl,st⟩;obtain⟨hi,rfl⟩:=i6 hx;have hi:i<3:=hi;obtain⟨nm,e1,e2⟩:=JM hi;refine aP rfl (b8 (aP (a:=.lst ((mem cs ss i ss.length 0).map D.str)) ?_ ?_))
  .unfold aQ bp;rw[xr (aK (bC (z:=.int ss.length) (aK rfl aW) (by show aa (D.int (ss.map aX).length)=_;rw[qf])) aW) (wb ⟨by omega,by omega⟩),qb,qX (by rw[qf,qV];unfold aN;omega),gj,Rz];exact cw (rE D.lst) (Dt hc ss.length 0 af .(c))
  refine sT (fun ρ=>∃ms:ac aj,ρ=jbE c cs ss h js (oS (.int i)) (oS (.lst (ms.map D.str))) x' y/\ms.Perm (mem cs ss i ss.length 0)) ?_ (gb (gx (w_2 (cS (k:=20+(i:aq)) (m:=3) rfl rfl rfl .(c) .(c) .(e) fun _ _=>w_c (tq fun b _=>⟨b,rfl,fun _=>?_,fun _=>?_⟩)))))
  rotate_left
  .exact mw (w_1 (bf rfl (aP (a:=.lst ((mem cs ss i ss.length 0).reverse.map D.str)) (by rw[List.map_reverse];rfl) (.inl ⟨rfl,_,rfl,List.reverse_perm _⟩))))
  .exact fZ (.inl ⟨rfl,_,rfl,List.Perm.refl _⟩)
  .rintro _ ⟨ms,rfl,pm⟩;have mb:∀x∈ms,bh x=ak:=fun x hx=>nb x ((Cu cs ss i).subset (pm.subset hx));refine b8 (w8 (k:=24+4*(i:aq)) (m:=h / 2) rfl (aH rfl (aH rfl rfl gI) rfl) (aH rfl rfl rfl) .(c) .(c) .(c) fun ea ea0 ea1=>?_);have fin:∀du:aq,0<=du->du<=h->Wp ((sIf (toB (b2 neA (vSh 6) (aQ (szF ar)))) (gk 4 (aZ (szF (ag (b2 bi (vC (.str "j")) (b2 ixD (vC (.str "abc")) (vSh 5))) (ag (vSh 7) (ag (vSh 8) (ag (b2 eqD (cF bS (ag (vSh 0) (ag (b2 bi (vC (.int 44)) (vSh 5)) (ag (vC (.int 2)) ar)))) .(f)) (ag (vSh 6) ar)))))))) bA) (jbE c cs ss h js (oS (.int i)) (oS (.lst (ms.map D.str))) (oS (.int ea)) (oS (.int du)))) fun r=>r.1=.nx/\∃(js:ac JobT) (a b x y:au Slot),r.2=jbE c cs ss h js a b x y/\StJ cs ss h (i+1) js:=by
    intro du d0 d1;refine gb (gx (w_2 (bf rfl (aP (a:=.lst []) rfl (aP (HN mb) ⟨_,rfl,fun hm=>?_,fun _=>fZ ⟨rfl,js,_,_,_,_,rfl,st.skip⟩⟩)))));have hm:ms≠[]:=by intro z;rw[z] at hm;simp at hm
    have jl:=st.ln;refine tP (m:=bc) (xs:=js) rfl .(c) (jR (bd (aP (aH (y:=(ixD (.str "abc") (.int (i:aq))).getD .non) (z:=.str nm) rfl ?_ ?_) (bd (bf rfl (bd (bf rfl (bd (w_2 (cS (k:=44+(i:aq)) (m:=2) rfl rfl rfl .(c) .(c) .(e) fun _ _=>w_c (tq fun od _=>bd (bf rfl (cC ⟨by simp,⟨nm,ea,du,od,ms⟩,rfl,rfl,_,_,_,_,_,rfl,st.add nd e1 pm ⟨ea0,by show ea<=h;omega⟩ ⟨d0,d1⟩ hm⟩)))))))))))))
    .rcases(show i=0\/i=1\/i=2 by omega) with rfl|rfl|rfl<;>rfl
    .rw[←e2];rcases(show i=0\/i=1\/i=2 by omega) with rfl|rfl|rfl<;>rfl
   refine b8 (w_2 (u8 (bd (bf rfl (bd (cS (k:=37+(i:aq)) (m:=h+1) rfl rfl rfl .(c) .(c) .(c) fun d0 d1=>cC ⟨by simp,?_⟩))))));exact w_2 (cS (k:=40+(i:aq)) (m:=3) rfl rfl rfl .(c) .(c) .(e) fun q0 q1=>w_c (vo .(e) (o5 .(c) (by simp;omega) (vO (fin h .(c) (ze _)) (fin _ d0 .(c))))))
 .rintro ρ ⟨js,a,b,x,y,rfl,st⟩;have st:StJ cs ss h 3 js:=st;exact⟨rfl,l9 (ds:=js.map bc) rfl (fE (bf rfl ⟨_,rfl,js,rfl,st.ln,rS (st.nm.trans (lE _ _)) C6.2,st.nd,st.gd⟩))⟩
noncomputable def bN8:ac aj:=["bea","beb","bec","bed","bee","bef","beg","beh"]
theorem CD:(∀x∈bN8,bh x=ak)/\bN8.Nodup:=by decide +kernel
theorem LO:∀{k:ao},k<8->∃x:aj,bN8[k]?=aa x/\∃y,ixD (.str "abcdefgh") (.int (k:aq))=aa y/\bi (.str "be") y=aa (.str x)
 |0,_=>⟨_,rfl,_,rfl,rfl⟩
 |1,_=>⟨_,rfl,_,rfl,rfl⟩
 |2,_=>⟨_,rfl,_,rfl,rfl⟩
 |3,_=>⟨_,rfl,_,rfl,rfl⟩
 |4,_=>⟨_,rfl,_,rfl,rfl⟩
 |5,_=>⟨_,rfl,_,rfl,rfl⟩
 |6,_=>⟨_,rfl,_,rfl,rfl⟩
 |7,_=>⟨_,rfl,_,rfl,rfl⟩
 |n+8,h=>by omega
theorem vj (ns:ac aq):(dw ns (aa 4) (aa 16)).length=min (ns.length-4) 12:=by show(rN (min 16 ns.length-min 4 ns.length) (Rt (min 4 ns.length) ns)).length=_;rw[qF,ku];omega
noncomputable abbrev liE (ns:ac aq) (h c:aq) (cs:ac aq) (m:ao) (b:au Slot) (r:bG):bG:=oS (.scr ns)::oS (.int 12)::oS (.int h)::oS (.int c)::oS (.lst (cs.map D.int))::oS (.int m)::b::r
theorem Hw {nm:α->aj} {xs:ac α} (hl:xs.length=ns.length) (h:∀(i:ao) x,xs[i]?=aa x->ns[i]?=aa (nm x)):xs.map nm=ns:=by
 refine Qs fun i=>?_;rw[qk];cases e:xs[i]? with
 |none=>
  have:=List.getElem?_eq_none_iff.mp e;rw[yD .(c)];rfl
 |some x=>rw[h i x e];rfl
theorem Ms (ns:ac aq) (hns:ns.length<=63) (hh:1<=h/\h<=1000000):Wp (sM [.scr ns,.int 12,.int h]) fun d=>∃(bs:ac BenchT) (ss:ac StepT) (js:ac JobT) (us:ac SetT) (ls:ac LinkT) (ks:ac StockT),d=cv bs ss js us ls ks h/\Good bs ss js us ls ks h/\ss.length<=12/\js.length<=3:=by
 unfold sM;refine gr (b8 (lP (k:=0) rfl fun c=>?_));refine b8 (w_2 (aP (o7 (z:=.lst ((dw ns (aa 4) (aa 16)).map D.int)) rfl rfl rfl rfl) (u8 (bd (lP (k:=3) rfl fun c3=>cC ⟨by simp,aP (tp (y:=[c3]) (by rw[vj];simp;omega)) ?_⟩)))));obtain⟨cs,hcs⟩:∃cs,cs=dw ns (aa 4) (aa 16)++[c3]:=⟨_,rfl⟩;have csl:cs.length=min (ns.length-4) 12+1:=by rw[hcs,qj,vj];rfl
 rw[←hcs];clear hcs;obtain⟨m,hm⟩:∃m:ao,m=min (max 1 (ns.length-4)) 12:=⟨_,rfl⟩;refine b8 (aP (a:=.int m) (bC (aK (bC (z:=.int (max 1 (ns.length-4):ao)) (aK rfl (aK (aH (bC rfl rfl) rfl rfl) aW)) ?_) (aK rfl aW)) ?_) ?_)
 .show aa (D.int (if (ns.length:aq)-4 > 1 then (ns.length:aq)-4 else 1))=_
  congr 2
  split<;>omega
 .show aa (D.int (if (12:aq)<(max 1 (ns.length-4):ao) then 12 else (max 1 (ns.length-4):ao)))=_
  congr 2
  split<;>omega
 have m12:1<=m/\m<=12:=by omega
 have mc:m<=cs.length:=by omega
 clear hm;have e2:=im c (k:=0) (m:=2) .(e) .(e) .(e);have e3:=im c (k:=0) (m:=3) .(e) .(e) .(e);have e8:=im c (k:=0) (m:=8) .(e) .(e) .(e);have many:Wp (b2 bi .(i) (cF bS (ag (vSh 3) (ag .(f) (ag (b2 ixD (aQ (szF (ag (vC (.int 2)) (ag (vC (.int 3)) (ag (vC (.int 8)) ar))))) (cF bS (ag (vSh 3) (ag .(i) (ag (vC (.int 3)) ar))))) ar)))) (liE ns h c cs m (aa (.own [])) [af,af,af,af,af,af])) fun d=>∃n:ao,d=.int n/\1<=n/\n<=8:=by
  refine w_2 (w_c (gH (bd (bf rfl (bd (w_c (bd (w_2 (aP (a:=.lst [.int 2,.int 3,.int 8]) rfl (cS (k:=1) (m:=3) rfl rfl rfl .(e) .(e) .(e) fun q0 q1=>o5 q0 q1 (Mf ?_ ?_ ?_)))))))))))
  .exact cC (aP e2.1 (f8 ⟨(1+drw c 0 2).toNat,by congr 1;omega,by omega,by omega⟩))
  .exact cC (aP e3.1 (f8 ⟨(1+drw c 0 3).toNat,by congr 1;omega,by omega,by omega⟩))
  .exact cC (aP e8.1 (f8 ⟨(1+drw c 0 8).toNat,by congr 1;omega,by omega,by omega⟩))
 obtain⟨_,enb,nb,rfl,n1,n8⟩:=many;refine l7 (dG (eK (fun i ρ=>i<=8/\∃(bs:ac BenchT) (k:au Slot),ρ=liE ns h c cs m (aa (.own (bs.map bZ))) [k,af,af,af,af,af]/\bs.map (·.nm)=bN8.take i/\∀b∈bs,GoodB h b) (iH (bd (aP enb (cC ⟨nb,rfl,by omega,by omega,⟨by decide,[],af,rfl,rfl,fun _ z=>nomatch z⟩,?_,?_⟩))))))
 .rintro i x ρ hx ⟨_,bs,k,rfl,hn,hg⟩;obtain⟨hi,rfl⟩:=i6 hx;have hi:i<8:=by omega
  have bl:bs.length=i:=by have:=cw dU hn;rw[qf,qF] at this;have:bN8.length=8:=rfl;omega
  obtain⟨nm,e1,y,e2,e3⟩:=LO hi;refine aP rfl (tP (m:=bZ) (xs:=bs) rfl .(c) (jR (bd (aP (aH rfl (aH rfl rfl e2) e3) (bd (gH (bd (w_2 (lP (k:=1) rfl fun c1=>aP (aH rfl rfl gI) (f8 (bd (w_c (bd (bf rfl (cC ((FK (c1+2*(i:aq)) (h:=h) .(c)).imp fun d ⟨br,e,bl2,f,gi⟩=>?_))))))))))))))));subst e;refine cC ⟨by simp,⟨nm,br⟩,rfl,rfl,by omega,_,_,rfl,?_,fun b hb=>?_⟩
  .rw[eO,hn,jQ,e1];rfl
  .rcases eF.mp hb with hb|hb
   .exact hg b hb
   .rw[bN.mp hb];exact⟨CD.1 nm (qQ e1),by show br.length<=10;omega,fun p hp=>by have:=gi.iv p hp;exact⟨this.1,this.2.1,this.2.2.1⟩,gi.gap⟩
 .rintro ρ ⟨_,bs,k,rfl,hn,hg⟩;rw[qf,qV,gj] at hn;have bl:bs.length=nb:=by have:=cw dU hn;rw[qf,qF] at this;have:bN8.length=8:=rfl;omega
  have bdn:(bs.map (·.nm)).Nodup:=by rw[hn];exact rS (lE _ _) CD.2
  clear hn;refine⟨rfl,b8 (gH (bd (lP (k:=2) rfl fun c2=>bd (bf rfl (cC ((Le c2 m12.2).imp fun d ⟨sn,e,sl,snd,snb⟩=>?_)))))) ⟩;subst e;refine l9 (ds:=bs.map bZ) rfl ?_;refine b8 (Ah (m:=aX) (n:=m) (fun i s=>sn[i]?=aa s.nm/\GoodS (bs.map (·.nm)) h s) ⟨_,aK rfl aW,rfl⟩ .(c) rfl (fun i hi=>?_) fun ss ssl ssq=>?_)
  .have e1:b2 ixD (vSh 3) (vSh 0) [oS (.int (i:aq)),oS (.lst (bs.map bZ)),oS (.int h),oS (.lst (cs.map D.int)),oS (.lst (sn.map D.str))]=aa (.int (cs[i]'.(c))):=aH rfl rfl (by rw[ixL,qk,qE .(c)];rfl);have e2:b2 ixD (vSh 4) (vSh 0) [oS (.int (i:aq)),oS (.lst (bs.map bZ)),oS (.int h),oS (.lst (cs.map D.int)),oS (.lst (sn.map D.str))]=aa (.str (sn[i]'.(c))):=aH rfl rfl (by rw[ixL,qk,qE .(c)];rfl);exact gH (bd (aP e1 (bd (aP e2 (bd (bf rfl (bd (bf rfl (cC ((Jx _ (snb _ (rF _)) .(c) bdn hh.1).imp fun d ⟨s,e,en,gs⟩=>⟨s,e,by rw[en,qE .(c)],gs⟩))))))))))
  have hsn:ss.map (·.nm)=sn:=Hw .(c) fun i x hx=>(ssq i x hx).1;have gss:∀s∈ss,GoodS (bs.map (·.nm)) h s:=fun s hs=>by obtain⟨i,hi⟩:=uP hs;exact(ssq i s hi).2
  have sdn:(ss.map (·.nm)).Nodup:=by rw[hsn];exact snd
  have snb':∀x∈ss.map (·.nm),bh x=ak:=by rw[hsn];exact snb
  refine b8 (gH (bd (bf rfl (bd (w_c (bd (bf rfl (cC ((Mo c (ss:=ss) .(c)).imp fun d ⟨es,e,el,end',eg⟩=>?_)))))))));subst e;refine b8 (gH (bd (lP (k:=3) rfl fun c3=>bd (bf rfl (bd (bf rfl (cC ((Ks c3 (bs:=bs) hh.1 .(c)).imp fun d ⟨eu,e,ul,und,ug⟩=>?_))))))));subst e;refine b8 (aP (zW (es:=es) (fun n=>if h<n then h else n) rfl .(c) (fun e he=>?_) rfl fun e he=>?_) ?_)
  .obtain⟨⟨a,b,e0,_⟩,_⟩:=eg e he;rw[e0];exact⟨by simp,by simp⟩
  .refine bC (aK (aH (z:=.int e.2) rfl rfl ?_) (aK rfl aW)) rfl;show((eM (e.1.map D.str)).map (bw (dKV es))).bind id=_;rw[jT,qe,xZ end' he];rfl
  obtain⟨ls,els⟩:∃ls:ac LinkT,ls=es.map fun e=>⟨e.1.getD 0 "",e.1.getD 1 "",if h<e.2 then h else e.2⟩:=⟨_,rfl⟩;obtain⟨us,eus⟩:∃us:ac SetT,us=eu.map fun e=>⟨e.1.getD 0 "",e.1.getD 1 "",e.1.getD 2 "",e.2⟩:=⟨_,rfl⟩;have l1:(es.map fun e=>D.tup (e.1.map D.str++[.int (if h<e.2 then h else e.2)]))=ls.map dA:=by rw[els,qp];refine iG fun e he=>?_;obtain⟨⟨a,b,e0,_⟩,_⟩:=eg e he;rw[e0];show _=dA ⟨e.1.getD 0 "",e.1.getD 1 "",_⟩;rw[e0];rfl
  have u1:(eu.map fun e=>D.tup (e.1.map D.str++[.int e.2]))=us.map dv:=by rw[eus,qp];refine iG fun e he=>?_;obtain⟨⟨a,b,q,e0,_⟩,_⟩:=ug e he;rw[e0];show _=dv ⟨e.1.getD 0 "",e.1.getD 1 "",e.1.getD 2 "",_⟩;rw[e0];rfl
  have l2:(ls.map fun l=>[l.a,l.b])=es.map (·.1):=by rw[els,qp];refine iG fun e he=>?_;obtain⟨⟨a,b,e0,_⟩,_⟩:=eg e he;show[e.1.getD 0 "",e.1.getD 1 ""]=e.1;rw[e0];rfl
  have u2:(us.map fun u=>[u.b,u.p,u.q])=eu.map (·.1):=by rw[eus,qp];refine iG fun e he=>?_;obtain⟨⟨a,b,q,e0,_⟩,_⟩:=ug e he;show[e.1.getD 0 "",e.1.getD 1 "",e.1.getD 2 ""]=e.1;rw[e0];rfl
  have l3:∀l∈ls,GoodL (ss.map (·.nm)) h l:=fun l hl=>by rw[els] at hl;obtain⟨e,he,rfl⟩:=bU.mp hl;obtain⟨⟨a,b,e0,h1,h2,h3⟩,h4,h5⟩:=eg e he;rw[e0];refine⟨h1,h2,h3,?_⟩;show 0<=(if h<e.2 then h else e.2)/\(if h<e.2 then h else e.2)<=h;split<;>omega
  have u3:∀u∈us,GoodU (bs.map (·.nm)) h u:=fun u hu=>by rw[eus] at hu;obtain⟨e,he,rfl⟩:=bU.mp hu;obtain⟨⟨a,b,q,e0,h1,h2,h3⟩,h4⟩:=ug e he;rw[e0];exact⟨h1,h2,h3,h4⟩
  have l4:ls.length<=5:=by rw[els,qf];exact el
  have u4:us.length<=11:=by rw[eus,qf];exact ul
  rw[l1,u1];rw[←l2] at end';rw[←u2] at und;clear l1 u1 els eus l2 u2 eg ug;have gok:∀js ks,js.length<=3->(js.map (·.nm)).Nodup->(js.flatMap (·.ms)).Nodup->(∀j∈js,GoodJ (ss.map (·.nm)) h j)->ks.length<=2->(ks.map (·.nm)).Nodup->(∀k∈ks,GoodK (ss.map (·.nm)) k)->Good bs ss js us ls ks h:=fun js ks h1 h2 h3 h4 h5 h6 h7=>
   ⟨hh,by omega,hg,bdn,by omega,gss,sdn,by omega,h4,h2,h3,by omega,u3,und,by omega,l3,end',by omega,h7,h6⟩
  have fin:∀ks:ac StockT,ks.length<=2->(ks.map (·.nm)).Nodup->(∀k∈ks,GoodK (ss.map (·.nm)) k)->Wp ((aM (aZ (szF (ag (vSh 6) (ag (vSh 9) (ag (cF pq (ag (vSh 3) (ag (vSh 4) (ag (vSh 9) (ag (vSh 2) ar))))) (ag (vSh 11) (ag (vSh 10) (ag (vSh 12) (ag (vSh 2) ar)))))))))) (liE ns h c cs m (oS (.lst (bs.map bZ))) [k,oS (.lst (sn.map D.str)),oS (.lst (ss.map aX)),oS (.lst (ls.map dA)),oS (.lst (us.map dv)),oS (.lst (ks.map dI))])) fun r=>∃d,r.1=.rt d/\∃(bs:ac BenchT) (ss:ac StepT) (js:ac JobT) (us:ac SetT) (ls:ac LinkT) (ks:ac StockT),d=cv bs ss js us ls ks h/\Good bs ss js us ls ks h/\ss.length<=12/\js.length<=3:=by intro ks k1 k2 k3;refine fE (jR (bd (bf rfl (bd (bf rfl (bd (gH (bd (bf rfl (bd (bf rfl (bd (bf rfl (bd (bf rfl (cC ((JY c (cs:=cs) (ss:=ss) .(c) hh .(c) sdn snb').imp fun d ⟨js,e,j1,j2,j3,j4⟩=>?_)))))))))))))))));subst e;exact bd (bf rfl (bd (bf rfl (bd (bf rfl (bd (bf rfl (cC ⟨by simp,_,rfl,bs,ss,js,us,ls,ks,rfl,gok js ks j1 j2 j3 j4 k1 k2 k3,by omega,j1⟩))))))))
  refine b8 (aP (a:=.lst (([]:ac StockT).map dI)) rfl (dG (gb (gx (w_2 (cS (k:=70) (m:=3) rfl rfl rfl .(e) .(e) .(e) fun _ _=>w_c (tq fun b _=>⟨b,rfl,fun _=>?_,fun _=>fZ ⟨rfl,fin [] (by simp) kx fun _ z=>nomatch z⟩⟩)))))));refine mw (gH (bd (lP (k:=1) rfl fun c1=>bd (bf rfl (cC ((Lg c1 (ss:=ss) .(c) sdn).imp fun d ⟨ks,e,k1,k2,k3⟩=>?_))))));subst e;exact⟨rfl,fin ks k1 k2 k3⟩
theorem Dr {l:ac α} (nd:l.Nodup) {x:α} (h:l[i]?=aa x):x∉l.take i:=fun hm=>by obtain⟨j,hj,e⟩:=yH.mp hm;rw[qF] at hj;obtain⟨hi,e2⟩:=eB.mp h;rw[List.getElem_take] at e;have:=(Ej nd).mp (e.trans e2.symm);omega
theorem vT:∀{fs:Fo} {j:ao} {f:aj} {x y:Fld},(fs.map (·.1)).Nodup->fs[j]?=aa (f,y)->fU f x fs=fs.set j (f,x)
 |[],j,f,x,y,_,h=>by simp at h
 |(g,z)::r,0,f,x,y,_,h=>by
  simp only[qc,zb,Rw] at h;obtain⟨rfl,rfl⟩:=h;unfold fU;rw[qX rfl];rfl
 |(g,z)::r,j+1,f,x,y,nd,h=>by rw[qo,eJ] at nd;rw[qd] at h;have hne:¬f=g:=fun e=>nd.1 (by rw[←e];exact qW (f:=(·.1)) (qQ h));unfold fU;rw[qY hne,vT nd.2 h];rfl
section
variable {f k:aj} {fs:Fo} {b:aT} {fv:FE} {kvs:ac (Key×D)} {kts:ac (ac Key×D)} {y:Fld}
theorem lX (j:ao) (hs:ρ[i]?=aa (aa (.fo b c fs))) (nd:(fs.map (·.1)).Nodup) (hj:fs[j]?=aa (f,.k kvs)) (hk:fk ρ=aa (.str k)) (hv:fv ρ=aa d) (hl:kvs.length<100000):gy c f i fk fv ρ=aa (.nx,ρ.set i (aa (.fo b c (fs.set j (f,.k (cJ kvs (.inr k) d)))))):=by unfold gy;rw[hv,hk,hs];show(if c=c then match fs.lookup f with|some (.k kvs)=>_|some (.t kvs)=>_|_=>_ else af)=_;rw[qX rfl,mB nd hj,←vT nd hj];exact qX hl
theorem Ik (j:ao) {t:ac aj} (hs:ρ[i]?=aa (aa (.fo b c fs))) (nd:(fs.map (·.1)).Nodup) (hj:fs[j]?=aa (f,.t kts)) (hk:fk ρ=aa (.tup (t.map D.str))) (hv:fv ρ=aa d) (hl:kts.length<100000):gy c f i fk fv ρ=aa (.nx,ρ.set i (aa (.fo b c (fs.set j (f,.t (cJ kts (t.map ci) d)))))):=by unfold gy;rw[hv,hk,hs];show(if c=c then match fs.lookup f with|some (.k kvs)=>_|some (.t kvs)=>_|_=>_ else af)=_;rw[qX rfl,mB nd hj,←vT nd hj];show((eM (t.map D.str)).bind _)=_;rw[jT];exact qX hl
theorem BB {ks:ac aj} (nd:ks.Nodup) (n:ao) (hk:ks[n]?=aa f) (hf:fs.map (·.1)=ks.take n) (hn:n<100):fs.lookup f=af/\fs.length<100:=by refine⟨kO (by rw[hf];exact Dr nd hk),?_⟩;have:=cw dU hf;rw[qf,qF] at this;omega
theorem nN {ks:ac aj} (nd:ks.Nodup) (n:ao) (hs:ρ[i]?=aa (aa (.fo b c fs))) (hk:ks[n]?=aa f) (hf:fs.map (·.1)=ks.take n) (hv:fv ρ=aa d) (hn:n<100:=by decide):jH c f i fv ρ=aa (.nx,ρ.set i (aa (.fo b c (fs++[(f,.d d)])))):=by unfold jH;rw[hv,hs];exact qX ⟨rfl,BB nd n hk hf hn⟩
theorem j8 {ks:ac aj} (nd:ks.Nodup) (n:ao) (hs:ρ[i]?=aa (aa (.fo b c fs))) (hk:ks[n]?=aa f) (hf:fs.map (·.1)=ks.take n) (hn:n<100:=by decide):gm c f i y ρ=aa (.nx,ρ.set i (aa (.fo b c (fs++[(f,y)])))):=by unfold gm;rw[hs];exact qX ⟨rfl,BB nd n hk hf hn⟩
theorem se (j:ao) (nd:(fs.map (·.1)).Nodup) (hj:fs[j]?=aa (f,y)) (h1:fo ρ=aa (foD c fs)):bM c f fo ρ=aa (foF y):=by unfold bM;rw[h1];show(if c=c then (fs.map fun z=>(z.1,foF z.2)).lookup f else af)=_;rw[qX rfl];refine mB (i:=j) (by rw[qp];exact nd) ?_;rw[qk,hj];rfl
theorem n9 {F:FQ} (hm:m∉fs.map (·.1)) (h1:fo ρ=aa (foD c fs)) (h2:fr ρ=aa ds) (h3:F (foD c fs::ds)=aa d):cL c m F fo fr ρ=aa d:=by have hno:(fs.map fun z=>(z.1,foF z.2)).lookup m=af:=kO (by rw[qp];exact hm);unfold cL;rw[h1];show(if c=c/\(fs.map fun z=>(z.1,foF z.2)).lookup m=af then (fr ρ).bind fun ds=>F (foD c fs::ds) else af)=_;rw[qX ⟨rfl,hno⟩,h2];exact h3
theorem BD {P:Fo->Prop} (h:Wp (g (aa (.fo ak c [])::(ds.map (fun d=>aa (Slot.sh d))++bT n af))) fun r=>r.1=.nx/\∃fs,r.2[0]?=aa (aa (.fo ak c fs))/\P fs):Wp (jX n c g ds) P:=by obtain⟨⟨fl,ρ'⟩,e,e1,fs,e2,p⟩:=h;have e1:fl=.nx:=e1;subst e1;refine⟨fs,?_,p⟩;unfold jX;rw[e,qb];show(match ρ'[0]? with|some (aa (Slot.fo ak c' fs))=>if c'=c then aa fs else af|_=>af)=_;rw[e2];exact qX rfl
theorem dy (e:g ρ=aa (.nx,ρ1)) (h:Wp (g' ρ1) R):Wp (aB g g' ρ) R:=dG (aP e ⟨rfl,h⟩)
end
section
variable {bs:ac BenchT}
noncomputable abbrev kvS (f:StepT->D) (xs:ac StepT):ac (Key×D):=xs.map fun s=>(.inr s.nm,f s)
theorem Je [eN κ] {kvs:ac (κ×D)} {k:κ} {v:D} (h:k∉kvs.map (·.1)):cJ kvs k v=kvs++[(k,v)]:=by unfold cJ;rw[qY];intro z;obtain⟨x,hx,e⟩:=lO.mp z;exact h (fL e▸qW hx)
theorem mP (nd:(ss.map (·.nm)).Nodup) {s:StepT} (hs:ss[i]?=aa s) (f:StepT->D):cJ (kvS f (ss.take i)) (.inr s.nm) (f s)=kvS f (ss.take (i+1)):=by have e:kvS f (ss.take (i+1))=kvS f (ss.take i)++[(.inr s.nm,f s)]:=Bj _ hs;rw[Je,e];intro z;obtain⟨p,hp,e⟩:=bU.mp z;obtain⟨t,ht,rfl⟩:=bU.mp hp;have e:t.nm=s.nm:=jI e;refine Dr nd (i:=i) (x:=s.nm) (by rw[qk,hs];rfl) ?_;rw[←e,←zi];exact qW ht
theorem mz (f:StepT->D) (hl:ss.length<=40) (i:ao):(kvS f (ss.take i)).length<100000:=by rw[qf,qF];omega
noncomputable def lwD (s:StepT):D:=.dk (s.ws.map fun w=>(.inr w.1,.int w.2))
noncomputable def jnD (js:ac JobT) (m:aj):D:=match cG js m with
 |some j=>.str j.nm
 |none=>.non
noncomputable def eaI (js:ac JobT) (m:aj):aq:=match cG js m with
 |some j=>j.ea
 |none=>0
noncomputable def duI (js:ac JobT) (h:aq) (m:aj):aq:=match cG js m with
 |some j=>j.du
 |none=>h
noncomputable def mkI (js:ac JobT) (h:aq) (m:aj):aq:=if h<h then (if duI js h m<h then duI js h m else h) else (if duI js h m<h then duI js h m else h)
noncomputable abbrev gF4 (S:D) (js:ac JobT) (h:aq) (l j e m:ac StepT):Fo:=[("told_shop",.d S),("kept_plan",.d .non),("kept_most",.d (.int 0)),("lengths",.k (kvS lwD l)),("job_names",.k (kvS (fun s=>jnD js s.nm) j)),("early_moments",.k (kvS (fun s=>.int (eaI js s.nm)) e)),("end_marks",.k (kvS (fun s=>.int (mkI js h s.nm)) m))]
theorem iO:wH.Nodup:=by decide +kernel
noncomputable abbrev grE (fs:Fo) (S:D) (h:aq) (a b c:au Slot):bG:=[aa (.fo ak "Grounds" fs),oS S,oS (.int h),oS .non,oS (.int 0),a,b,c]
theorem Be {nm:α->aj} {f:α->D} {xs:ac α} (hl:xs.length<=1000) (nd:(xs.map nm).Nodup):jV [.lst (xs.map fun x=>.tup [.str (nm x),f x])]=aa (.dk (xs.map fun x=>(.inr (nm x),f x))):=by
 have kn:((xs.map fun x=>((.inr (nm x):Key),f x)).map (·.1)).Nodup:=by rw[qp];have:=uO (S:=fun a b:Key=>a≠b) (ci:aj->Key) (fun a b hab z=>hab (jI z)) nd;rw[qp] at this;exact this
 show(if _ then _ else _)=_;rw[qX (by rw[qf];exact hl),xz,qe,wE kn]
theorem Dp {κ:Type} [eN κ] {F:κ->au D} {k:κ}:∀{ps:ac (κ×D)} {acc:ac (κ×D)},(∀p∈ps,F p.1=aa p.2)->(F k≠af->k∈ps.map (·.1)\/bw acc k=F k)->(F k=af->bw acc k=af)->bw (ps.foldl (fun acc kv=>cJ acc kv.1 kv.2) acc) k=F k
 |[],acc,_,h2,h3=>by
  cases e:F k with
  |none=>exact h3 e
  |some d=>
   rcases h2 (by rw[e];exact fun z=>nomatch z) with h|h
   .cases h
   .exact h.trans e
 |p::r,acc,h1,h2,h3=>by
  rw[gw];have hp:=h1 p qg;refine Dp (fun q hq=>h1 q (qh _ hq)) (fun hk=>?_) fun hk=>?_
  .rw[mi];by_cases e:k=p.1
   .rw[qX e,e,hp];exact .inr rfl
   .rw[qY e];rcases h2 hk with h|h
    .exact .inl ((cH.mp h).resolve_left e)
    .exact .inr h
  .rw[mi,qY (fun e=>by rw[e,hp] at hk;cases hk)];exact h3 hk
noncomputable def FY (js:ac JobT) (ls:ac LinkT):ac Key->au D
 |[.inr a,.inr b]=>(cq js ls a b).map D.int
 |_=>af
theorem Ml (g:Good bs ss js us ls ks h) (s12:ss.length<=12):∃kvs,oj [.lst ((((ss.map (·.nm)).flatMap (ik js ls (ss.map (·.nm)))).map fun t=>.tup [.tup ([t.1,t.2.1].map D.str),.int t.2.2]))]=aa (.dt kvs)/\∀a∈ss.map (·.nm),∀b∈ss.map (·.nm),bw kvs (kk a b)=(cq js ls a b).map D.int:=by
 have hl:=sr js ls (ss.map (·.nm)) (ss.map (·.nm));rw[qf] at hl;have h2:ss.length*ss.length<=12*12:=yE s12 s12;refine⟨pC ((((ss.map (·.nm)).flatMap (ik js ls (ss.map (·.nm)))).map fun t=>([t.1,t.2.1].map ci,.int t.2.2))),?_,fun a ha b hb=>?_⟩
 .show(if _ then _ else _)=_;rw[qX (by rw[qf];omega),uX (t:=fun t:GT=>[t.1,t.2.1]) (f:=fun t=>.int t.2.2)];rfl
 .refine Dp (F:=FY js ls) (fun p hp=>?_) (fun hk=>.inl ?_) fun _=>rfl
  .obtain⟨t,ht,rfl⟩:=bU.mp hp;obtain⟨x,_,hx⟩:=nu.mp ht;obtain⟨y,_,hy⟩:=p6.mp hx;obtain⟨q,hq,rfl⟩:=oMd hy;show(cq js ls x y).map D.int=_;rw[hq];rfl
  .have hk:(cq js ls a b).map D.int≠af:=hk;cases e:cq js ls a b with
   |none=>rw[e] at hk;exact bJ rfl hk
   |some q=>exact bU.mpr ⟨_,bU.mpr ⟨(a,b,q),nu.mpr ⟨a,ha,p6.mpr ⟨b,hb,by rw[e];rfl⟩⟩,rfl⟩,rfl⟩
theorem zy:∀(os:ac GT) (a b c:au Slot),cT (db 3 (bj (aC 0) (bj (aC 1) (bj (aC 2) cW)))) tT (aZ (szF (ag (aZ (szF (ag (vSh 0) (ag (vSh 1) ar)))) (ag (vSh 2) ar)))) (os.map dGp) [a,b,c]=aa (os.map fun t=>.tup [.tup ([t.1,t.2.1].map D.str),.int t.2.2])
 |[],_,_,_=>rfl
 |t::r,a,b,c=>by have e:cT (db 3 (bj (aC 0) (bj (aC 1) (bj (aC 2) cW)))) tT (aZ (szF (ag (aZ (szF (ag (vSh 0) (ag (vSh 1) ar)))) (ag (vSh 2) ar)))) ((t::r).map dGp) [a,b,c]=(cT (db 3 (bj (aC 0) (bj (aC 1) (bj (aC 2) cW)))) tT (aZ (szF (ag (aZ (szF (ag (vSh 0) (ag (vSh 1) ar)))) (ag (vSh 2) ar)))) (r.map dGp) [oS (.str t.1),oS (.str t.2.1),oS (.int t.2.2)]).map (D.tup [.tup ([t.1,t.2.1].map D.str),.int t.2.2]::·):=rfl;rw[e,zy r];rfl
theorem GG (g:Good bs ss js us ls ks h):vR [bP bs ss js us ls ks h]=aa (.lst (bs.map bZ)):=by have hp:Pl 8 (.lst (bs.map bZ)):=ip (by have:=g.bl;omega) fun x hx=>D7 (n:=3) (g.b x hx);exact ck [oS .(j)] rfl (cm (bC (aK (j5 0 rfl rfl) aW) (iX hp)))
noncomputable abbrev gFo (bs:ac BenchT) (ss:ac StepT) (js:ac JobT) (us:ac SetT) (ls:ac LinkT) (ks:ac StockT) (h:aq) (kvs:ac (ac Key×D)):Fo:=gF4 .(j) js h ss ss ss ss++([("breaks",.d (.dk (bs.map fun b=>(.inr b.nm,.lst (b.br.map dIv))))),("known_gaps",.d (.dt kvs))]:Fo)
structure Gaps (ss:ac StepT) (js:ac JobT) (ls:ac LinkT) (kvs:ac (ac Key×D)):Prop where
 at':∀a∈ss.map (·.nm),∀b∈ss.map (·.nm),bw kvs (kk a b)=(cq js ls a b).map D.int
theorem xS (js:ac JobT) (m:aj) {x:D} {F:JobT->D} (hs:ρ[i]?=aa (oS (kg (cG js m)))) (ha:fa ρ=aa x) (hb:∀j,ρ[i]?=aa (oS (bc j))->fb ρ=aa (F j)):ifD (toB (b2 isD (vSh i) (vC .non))) fa fb ρ=aa (match cG js m with|some j=>F j|none=>x):=by
 unfold ifD;cases e:cG js m with
 |none=>
  rw[e] at hs;have:toB (b2 isD (vSh i) (vC .non)) ρ=aa ak:=cD (aH (x:=.non) (by unfold vSh;rw[hs];rfl) rfl rfl);rw[this,qb,qX rfl,ha]
 |some j=>
  rw[e] at hs;have:toB (b2 isD (vSh i) (vC .non)) ρ=aa av:=cD (aH (x:=bc j) (by unfold vSh;rw[hs];rfl) rfl rfl);rw[this,qb,qY qu];exact hb j hs
theorem Od (g:Good bs ss js us ls ks h) (s12:ss.length<=12):Wp (oU [bP bs ss js us ls ks h,.int h,.non,.int 0]) fun fs=>∃kvs,fs=gFo bs ss js us ls ks h kvs/\Gaps ss js ls kvs:=by
 have hN:=wA (bs:=bs) (ss:=ss) (js:=js) (us:=us) (ls:=ls) (ks:=ks) (h:=h) g.sl.2;obtain⟨kvs,hk,hv⟩:=Ml g s12;unfold oU;refine BD (dy (nN iO 0 rfl rfl rfl rfl) (dy (nN iO 1 rfl rfl rfl rfl) (dy (nN iO 2 rfl rfl rfl rfl) (dy (j8 iO 3 rfl rfl rfl) (dy (j8 iO 4 rfl rfl rfl) (dy (j8 iO 5 rfl rfl rfl) (dy (j8 iO 6 rfl rfl rfl) ?_)))))));show Wp (aB _ _ (grE (gF4 .(j) js h (ss.take 0) (ss.take 0) (ss.take 0) (ss.take 0)) .(j) h af af af)) _;refine dG (eK (fun i ρ=>∃a b c,ρ=grE (gF4 .(j) js h (ss.take i) (ss.take i) (ss.take i) (ss.take i)) .(j) h a b c) (dL (aP (gV (by decide +kernel) rfl aW hN) (aP rfl ⟨⟨af,af,af,rfl⟩,?_,?_⟩))))
 .rintro i x ρ hx ⟨a,b,c,rfl⟩;rw[qp,qk] at hx;obtain⟨s,hs,rfl⟩:=oMd hx;have hm:=qQ hs;have gs:=g.s s hm;have nd:∀l j e m:ac StepT,((gF4 .(j) js h l j e m).map (·.1)).Nodup:=fun l j e m=>vz iO 7;refine aP rfl (dy (lX (fs:=gF4 .(j) js h (ss.take i) (ss.take i) (ss.take i) (ss.take i)) (k:=s.nm) (d:=lwD s) 3 rfl (nd _ _ _ _) rfl rfl (bC (aK (gV (by decide +kernel) rfl (aK rfl aW) (Kp g hm)) aW) (Be (by have:=gs.l4;omega) gs.nd)) (mz _ g.sl.2 _)) ?_);rw[mP g.sn hs lwD];refine b8 (aP (gV (by decide +kernel) rfl (aK rfl aW) (HL g s.nm)) ?_);refine dy (lX (fs:=gF4 .(j) js h (ss.take (i+1)) (ss.take i) (ss.take i) (ss.take i)) (k:=s.nm) (d:=jnD js s.nm) 4 rfl (nd _ _ _ _) rfl rfl (xS js s.nm (F:=fun j=>.str j.nm) rfl rfl fun j hj=>aH (x:=bc j) (by unfold vSh;rw[hj]) rfl cN) (mz _ g.sl.2 _)) ?_;rw[mP g.sn hs fun s=>jnD js s.nm];have e5:∀fs:Fo,ifD (toB (b2 isD (vSh 6) (vC .non))) .(f) (b2 ixD (vSh 6) .(i)) (grE fs .(j) h (oS (.str s.nm)) (oS (kg (cG js s.nm))) c)=aa (.int (eaI js s.nm)):=fun fs=>by refine(xS js s.nm (F:=fun j=>.int j.ea) rfl rfl fun j hj=>aH (x:=bc j) (by unfold vSh;rw[hj]) rfl gJ).trans ?_;unfold eaI;cases cG js s.nm<;>rfl
  refine dy (lX (fs:=gF4 .(j) js h (ss.take (i+1)) (ss.take (i+1)) (ss.take i) (ss.take i)) (k:=s.nm) (d:=.int (eaI js s.nm)) 5 rfl (nd _ _ _ _) rfl rfl (e5 _) (mz _ g.sl.2 _)) ?_;rw[mP g.sn hs fun s=>.int (eaI js s.nm)];refine b8 (aP (a:=.int (duI js h s.nm)) ?_ ?_)
  .refine(xS js s.nm (x:=.int h) (F:=fun j=>.int j.du) rfl (gV (by decide +kernel) rfl aW Bh) fun j hj=>aH (x:=bc j) (by unfold vSh;rw[hj]) rfl lg).trans ?_;unfold duI;cases cG js s.nm<;>rfl
  refine aP (lX (fs:=gF4 .(j) js h (ss.take (i+1)) (ss.take (i+1)) (ss.take (i+1)) (ss.take i)) (k:=s.nm) (d:=.int (mkI js h s.nm)) 6 rfl (nd _ _ _ _) rfl rfl (bC (aK rfl (aK (gV (by decide +kernel) rfl aW Bh) (aK rfl aW))) rfl) (mz _ g.sl.2 _)) ⟨rfl,?_⟩;rw[mP g.sn hs fun s=>.int (mkI js h s.nm)];exact⟨_,_,_,rfl⟩
 .rintro ρ ⟨a,b,c,rfl⟩;rw[qf,qf,gO];refine⟨rfl,dy (nN (fs:=gF4 .(j) js h ss ss ss ss) iO 7 rfl rfl rfl (bC (aK (gV (by decide +kernel) rfl aW (GG g)) aW) (Be (nm:=fun b:BenchT=>b.nm) (f:=fun b=>.lst (b.br.map dIv)) (by have:=g.bl;omega) g.bn))) (aP (nN iO 8 rfl rfl rfl (bC (aK ?_ aW) hk)) ⟨rfl,_,rfl,kvs,rfl,⟨hv⟩⟩)⟩
  .have hl:=sr js ls (ss.map (·.nm)) (ss.map (·.nm));rw[qf] at hl;have h2:ss.length*ss.length<=12*12:=yE s12 s12;refine kY ?_;unfold bp itF;rw[bC (aK rfl aW) (OK g)];show(if _ then _ else _)=_;rw[qX (by rw[qf];unfold aN;omega)];exact zy _ _ _ _
end
theorem vm:∀l:ac aj,jF (l.map D.str)=ak
 |[]=>rfl
 |x::r=>by show(plD (.str x) && jF (r.map D.str))=ak;rw[vm r];rfl
section
variable {bs:ac BenchT} {A:ac (Key×D)} {P:ac (ac Key×D)} {s:StepT}
noncomputable abbrev fF (G:D) (O A B:ac (Key×D)) (P:ac (ac Key×D)):Fo:=[("grounds",.d G),("open_benches",.k O),("firsts",.k A),("lasts",.k B),("put_pairs",.t P),("notes",.k [])]
theorem ma:ji.Nodup:=by decide +kernel
theorem lY (G:D) (O A B:ac (Key×D)) (P:ac (ac Key×D)):((fF G O A B P).map (·.1)).Nodup:=ma
noncomputable abbrev gD (bs:ac BenchT) (ss:ac StepT) (js:ac JobT) (us:ac SetT) (ls:ac LinkT) (ks:ac StockT) (h:aq) (kvs:ac (ac Key×D)):D:=foD "Grounds" (gFo bs ss js us ls ks h kvs)
noncomputable abbrev fcD (bs:ac BenchT) (ss:ac StepT) (js:ac JobT) (us:ac SetT) (ls:ac LinkT) (ks:ac StockT) (h:aq) (kvs:ac (ac Key×D)) (O A B:ac (Key×D)) (P:ac (ac Key×D)):D:=foD "Facts" (fF (gD bs ss js us ls ks h kvs) O A B P)
theorem sk {f:aj} {y:Fld} (j:ao) (h1:fo ρ=aa .(h)) (hj:(fF (gD bs ss js us ls ks h kvs) O A B P)[j]?=aa (f,y)):bM "Facts" f fo ρ=aa (foF y):=se j (lY _ _ _ _ _) hj h1
theorem mq {f:aj} {y:Fld} (j:ao) (h1:fo ρ=aa .(h)) (hj:(gFo bs ss js us ls ks h kvs)[j]?=aa (f,y)):bM "Grounds" f (bM "Facts" "grounds" fo) ρ=aa (foF y):=se (c:="Grounds") (fs:=gFo bs ss js us ls ks h kvs) j iO hj (sk 0 h1 rfl)
noncomputable def wn (s:StepT):ac aj:=s.ws.map (·.1)
theorem xg {fs:Fo} (h:g (aa (.fo ak c fs)::(ds.map (fun d=>aa (Slot.sh d))++bT n af))=aa (.nx,aa (.fo ak c fs')::ρ')):gQ n c g fs ds=aa (.non,fs'):=by unfold gQ;rw[h,qb];exact qX rfl
theorem wo {b:aT} {fs:Fo} (h1:ρ[i]?=aa (aa (.fo b c fs))) (h2:f (ρ.set i (oS (foD c fs)))=aa d) (h3:plD d=ak):bwF i f ρ=aa d:=by unfold bwF;rw[h1];show(f _).bind _=_;rw[h2];exact qX h3
theorem Db {f:FA} {b:aT} {fs:Fo} (h1:ρ[i]?=aa (aa (.fo b c fs))) (h2:f (ρ.set i (oS (foD c fs)))=aa ds) (h3:jF ds=ak):kG i f ρ=aa ds:=by unfold kG;rw[h1];show(f _).bind _=_;rw[h2];exact qX h3
theorem Dh {bn:ac aj} (hb:∀x∈bn,bh x=ak):∀(ws:ac aj) (a:au Slot),(∀x∈ws,bh x=ak)->cT (aC 0) (toB (b2 fQ (vSh 0) (vSh 1))) (vSh 0) (ws.map D.str) [a,oS (.lst (bn.map D.str))]=aa ((ws.filter fun x=>decide (x∈bn)).map D.str)
 |[],_,_=>rfl
 |x::r,a,hw=>by have ih:=Dh hb r (oS (.str x)) fun y hy=>hw y (qh _ hy);have t:toB (b2 fQ (vSh 0) (vSh 1)) [oS (.str x),oS (.lst (bn.map D.str))]=aa (decide (x∈bn)):=cD (aH rfl rfl (tU (hw x qg) hb));rw[qo,sL t,ih,uN];cases decide (x∈bn)<;>rfl
theorem tO (g:Good bs ss js us ls ks h) (hs:s∈ss):∀x∈wn s,bh x=ak:=fun x hx=>by obtain⟨w,hw,rfl⟩:=bU.mp hx;exact g.bnn _ ((g.s s hs).ws w hw).1
theorem xA (g:Good bs ss js us ls ks h) (hs:s∈ss) (h1:fo ρ=aa .(h)) (hk:fk ρ=aa (.str s.nm)):b2 cO (bM "Grounds" "lengths" (bM "Facts" "grounds" fo)) fk ρ=aa (lwD s):=
 aH (mq 3 h1 rfl) hk (show((aa (bw (kvS lwD ss) (.inr s.nm))).bind id)=_ by rw[jh (nm:=fun s:StepT=>s.nm) g.sn hs];rfl)
theorem Dm:(s.ws.map fun w=>((.inr w.1:Key),D.int w.2)).map (fun kv=>eW kv.1)=(wn s).map D.str:=by unfold wn;rw[qp,qp];rfl
theorem Bp (g:Good bs ss js us ls ks h) (hs:s∈ss) {bn:ac aj} (hb:∀x∈bn,bh x=ak) (hl:O.length<100000):nW (fF (gD bs ss js us ls ks h kvs) O A B P) [.str s.nm,.lst (bn.map D.str)]=aa (.non,fF (gD bs ss js us ls ks h kvs) (cJ O (.inr s.nm) (.lst (((wn s).filter fun x=>decide (x∈bn)).map D.str))) A B P):=by
 unfold nW;refine xg (ρ':=[oS (.str s.nm),oS (.lst (bn.map D.str))]) (lX 1 rfl (lY _ _ _ _ _) rfl rfl (wo rfl (kY ?_) (vm _)) hl);unfold t8;rw[xA g hs (kvs:=kvs) (O:=O) (A:=A) (B:=B) (P:=P) rfl rfl];have hfl:lfS (oS (.lst (bn.map D.str)))=oS (.lst (bn.map D.str)):=qX (by show(bn.map D.str).all fX=ak;rw[uR,iD];exact fun _ _=>rfl)
 show(if (s.ws.map fun w=>((.inr w.1:Key),D.int w.2)).length<=aN then (cT _ _ _ ((s.ws.map fun w=>((.inr w.1:Key),D.int w.2)).map fun kv=>eW kv.1) [af,lfS (oS (.lst (bn.map D.str)))]).bind _ else af)=_;rw[qX (by rw[qf];have:=(g.s s hs).l4;unfold aN;omega),hfl,Dm,Dh hb (wn s) af (tO g hs),qb,qX];rw[uR,iD];exact fun _ _=>rfl
theorem Nq {k:aj} {x y:D} {G:D} (ha:A.length<100000) (hb:B.length<100000):pQ (fF G O A B P) [.str k,x,y]=aa (.non,fF G O (cJ A (.inr k) x) (cJ B (.inr k) y) P):=by unfold pQ;exact xg (ρ':=[oS (.str k),oS x,oS y]) ((mr (lX 2 rfl (lY _ _ _ _ _) rfl rfl rfl ha)).trans (lX 3 rfl (lY _ _ _ _ _) rfl rfl rfl hb))
theorem Gv (g:Good bs ss js us ls ks h) (hs:s∈ss):wf [fcD bs ss js us ls ks h kvs O A B P,.str s.nm]=aa (.int (mkI js h s.nm)):=
 ck [oS .(h),oS (.str s.nm)] rfl (cm (aH (mq 6 rfl rfl) rfl (show((aa (bw (kvS (fun s=>.int (mkI js h s.nm)) ss) (.inr s.nm))).bind id)=_ by rw[jh (nm:=fun s:StepT=>s.nm) g.sn hs];rfl)))
theorem Bq {F:aj->au aq} {d:D} (hF:∀b,cO d (.str b)=(F b).map D.int):∀(l:ac aj) (a:au Slot),(∀b∈l,(F b).isSome=ak)->∃ns:ac aq,cT (aC 0) tT (b2 cO (vSh 1) (vSh 0)) (l.map D.str) [a,oS d]=aa (ns.map D.int)/\ns.length=l.length
 |[],_,_=>⟨[],rfl,rfl⟩
 |x::r,a,hl=>by obtain⟨ns,e,el⟩:=Bq hF r (oS (.str x)) fun b hb=>hl b (qh _ hb);obtain⟨n,hn⟩:=oF.mp (hl x qg);refine⟨n::ns,?_,by rw[qi,qi,el]⟩;rw[qo,sL (b:=ak) rfl,qX rfl,e];have:b2 cO (vSh 1) (vSh 0) [oS (.str x),oS d]=aa (.int n):=aH rfl rfl (by rw[hF,hn];rfl);rw[this];rfl
theorem Cf:∀l:ac aq,mH (l.map D.int)=aa l
 |[]=>rfl
 |x::r=>by show(mH (r.map D.int)).map _=_;rw[Cf r];rfl
theorem Lw (g:Good bs ss js us ls ks h) (hs:s∈ss) (ho:bw O (.inr s.nm)=aa (.lst ((wn s).map D.str))):∃n:aq,xD [fcD bs ss js us ls ks h kvs O A B P,.str s.nm]=aa (.int n):=by
 have gs:=g.s s hs;obtain⟨ns,e,el⟩:=Bq (F:=fun b=>(s.ws.find? fun w=>decide ((.inr w.1:Key)=.inr b)).map (·.2)) (d:=lwD s) (fun b=>by
  show(aa (bw (s.ws.map fun w=>((.inr w.1:Key),D.int w.2)) (.inr b))).bind id=_;unfold bw;rw[RA];show rE _ (rE _ _)=_;rw[RB,RB];rfl) (wn s) af fun b hb=>by obtain⟨w,hw,rfl⟩:=bU.mp hb;rw[m9,RC];exact⟨w,hw,qT rfl⟩
 have e2:xo [fcD bs ss js us ls ks h kvs O A B P,.str s.nm]=aa (.lst (ns.map D.int)):=by refine ck [oS .(h),oS (.str s.nm),af] rfl ((jo (xA g hs rfl rfl)).trans (cm (kY ?_)));unfold bp itF;rw[aH (sk 1 rfl rfl) rfl (show((aa (bw O (.inr s.nm))).bind id)=_ by rw[ho];rfl)];show(if ((wn s).map D.str).length<=aN then _ else _)=_;rw[qX (by unfold wn;rw[qf,qf];have:=gs.l4;unfold aN;omega)];exact e
 refine⟨ns.getD (gP (t4 ns) (ns.length-1)) 0,ck [oS .(h),oS (.str s.nm)] rfl (cm ?_)⟩;unfold b1;rw[n9 (c:="Facts") (show("open_lengths":aj)∉ji by decide +kernel) rfl (aK rfl aW) e2];show(mH (ns.map D.int)).map sZ=_;rw[Cf,qe];unfold sZ;rw[qY];intro z;have:=gs.l1;unfold wn at el;rw[z,qf] at el;simp at el;omega
noncomputable abbrev opD (s:StepT):D:=.lst ((wn s).map D.str)
noncomputable abbrev fiE (fs:Fo) (S:D) (h:aq) (a b c:au Slot):bG:=[aa (.fo ak "Facts" fs),oS S,oS (.int h),oS .non,oS .non,oS (.int 0),oS (.int 0),a,b,c]
theorem sJ {F:Fo->ac D->au (D×Fo)} {b:aT} {fs:Fo} (h1:ρ[i]?=aa (aa (.fo b c fs))) (hm:m∉fs.map (·.1)) (h2:fr ρ=aa ds) (h3:F fs ds=aa (d,fs')):jC c m i F fr ρ=aa (.nx,ρ.set i (aa (.fo b c fs'))):=by unfold jC;rw[h1];show(if c=c/\fs.lookup m=af then _ else af)=_;rw[qX ⟨rfl,kO hm⟩,h2,qb,h3];rfl
theorem B2 (l:ac aj):l.filter (fun x=>decide (x∈l))=l:=List.filter_eq_self.mpr fun x hx=>qT hx
theorem B6 (g:Good bs ss js us ls ks h) (s12:ss.length<=12):Wp (pD [bP bs ss js us ls ks h,.int h,.non,.non,.int 0,.int 0]) fun fs=>∃kvs A B,fs=fF (gD bs ss js us ls ks h kvs) (kvS opD ss) A B []/\Gaps ss js ls kvs:=by
 have hN:=wA (bs:=bs) (ss:=ss) (js:=js) (us:=us) (ls:=ls) (ks:=ks) (h:=h) g.sl.2;obtain⟨_,hg,kvs,rfl,hk⟩:=Od g s12;have nm:∀{m:aj},m∉ji->∀{G:D} {O A B:ac (Key×D)} {P:ac (ac Key×D)},m∉(fF G O A B P).map (·.1):=fun hm=>hm;unfold pD;refine BD (dy (nN (d:=gD bs ss js us ls ks h kvs) ma 0 rfl rfl rfl (bC (aK rfl (aK rfl (aK rfl (aK rfl aW)))) (show(oU _).map _=_ by rw[show([bP bs ss js us ls ks h,D.int h,.non,.int 0]++[]:ac D)=[bP bs ss js us ls ks h,.int h,.non,.int 0] from rfl,hg];rfl))) (dy (j8 ma 1 rfl rfl rfl) (dy (j8 ma 2 rfl rfl rfl) (dy (j8 ma 3 rfl rfl rfl) (dy (j8 ma 4 rfl rfl rfl) (dy (j8 ma 5 rfl rfl rfl) ?_))))));show Wp (b9 _ _ _ (fiE (fF (gD bs ss js us ls ks h kvs) (kvS opD (ss.take 0)) [] [] []) .(j) h af af af)) _;refine eK (fun i ρ=>∃A B a b c,ρ=fiE (fF (gD bs ss js us ls ks h kvs) (kvS opD (ss.take i)) A B []) .(j) h a b c/\A.length<=i/\B.length<=i) (dL (aP (gV (by decide +kernel) rfl aW hN) (aP rfl ⟨⟨[],[],af,af,af,rfl,qx _,qx _⟩,?_,?_⟩)))
 .rintro i x ρ hx ⟨A,B,a,b,c,rfl,la,lb⟩;rw[qp,qk] at hx;obtain⟨s,hs,rfl⟩:=oMd hx;have hm:=qQ hs;have hi:i<ss.length:=(eB.mp hs).1;refine aP rfl (b8 (aP (wo (d:=.int (eaI js s.nm)) rfl (aH (mq 5 rfl rfl) rfl (show((aa (bw (kvS (fun s=>.int (eaI js s.nm)) ss) (.inr s.nm))).bind id)=_ by rw[jh (nm:=fun s:StepT=>s.nm) g.sn hm];rfl)) rfl) ?_));refine gb (aP (a:=av) rfl ⟨(fun z=>nomatch z),fun _=>?_⟩);refine dy (sJ rfl (nm (by decide +kernel)) (Db rfl (aK rfl (aK (bC (z:=.lst ((wn s).map D.str)) (aK (xA g hm rfl rfl) aW) ?_) aW)) ?_) (Bp g hm (tO g hm) (mz _ g.sl.2 _))) ?_
  .show aa (D.lst ((s.ws.map fun w=>((.inr w.1:Key),D.int w.2)).map fun kv=>eW kv.1))=_;rw[Dm]
  .show(plD (.str s.nm) && (jF ((wn s).map D.str) && ak))=ak;rw[vm];rfl
  rw[B2,mP g.sn hs opD];obtain⟨n,hn⟩:=Lw (kvs:=kvs) (O:=kvS opD (ss.take (i+1))) (A:=A) (B:=B) (P:=[]) g hm (by refine jh (nm:=fun s:StepT=>s.nm) (f:=opD) (rS ((lE _ _).map _) g.sn) ?_;rw[jQ,hs];simp)
  refine aP (sJ rfl (nm (by decide +kernel)) (Db rfl (aK rfl (aK (bC (aK rfl (aK rfl aW)) rfl) (aK (aH (n9 (c:="Facts") (nm (by decide +kernel)) rfl (aK rfl aW) (Gv g hm)) (n9 (c:="Facts") (nm (by decide +kernel)) rfl (aK rfl aW) hn) rfl) aW))) rfl) (Nq .(c) .(c))) ⟨rfl,?_⟩;exact⟨_,_,_,_,_,rfl,qN (kf _ _ _) .(c),qN (kf _ _ _) .(c)⟩
 .rintro ρ ⟨A,B,a,b,c,rfl,la,lb⟩;rw[qf,qf,gO];exact⟨rfl,_,rfl,kvs,A,B,rfl,hk⟩
end
theorem sK {a b:aT} (h1:fa ρ=aa (.bl a)) (h2:a=av->fb ρ=aa (.bl b)):orD fa fb ρ=aa (.bl (a || b)):=by
 unfold orD;rw[h1];cases a
 .exact h2 rfl
 .rfl
theorem nF {a b:aT} (h1:fa ρ=aa (.bl a)) (h2:a=ak->fb ρ=aa (.bl b)):cy fa fb ρ=aa (.bl (a && b)):=by
 unfold cy;rw[h1];cases a
 .rfl
 .exact h2 rfl
theorem oV {b:aT} (h:ft ρ=aa b):bE ft ρ=aa (!b):=by unfold bE;rw[h];rfl
theorem Do {a b:ac aj} (ha:∀x∈a,bh x=ak) (hb:∀x∈b,bh x=ak):eqA (.lst (a.map D.str)) (.lst (b.map D.str))=aa (.bl (decide (a=b))):=by
 have e0:eqA (.lst (a.map D.str)) (.lst (b.map D.str))=mm (.lst (a.map D.str)) (.lst (b.map D.str)):=rfl;have p:∀l:ac aj,pdD (.lst (l.map D.str))=aa (.list (l.map fj)):=fun l=>by simp[pdD,pI]
 rw[e0];unfold mm eqX;rw[p a,p b,qb,qb,qX ⟨v8 ha,v8 hb⟩];show aa (D.bl (kz (a.map fj) (b.map fj)))=_;rw[vn]
variable {bm:StepT->ac aj}
section
variable {bs:ac BenchT} {A:ac (Key×D)} {P:ac (ac Key×D)} {s t:StepT}
structure Op (ss:ac StepT) (bm:StepT->ac aj) (O:ac (Key×D)):Prop where
 at':∀s∈ss,bw O (.inr s.nm)=aa (.lst ((bm s).map D.str))
structure Bn (ss:ac StepT) (bm:StepT->ac aj):Prop where
 nb:∀s∈ss,∀x∈bm s,bh x=ak
noncomputable def sm (bm:StepT->ac aj) (s t:StepT):aT:=decide ((bm s).length=1) && decide (bm s=bm t)
theorem AM (hb:Bn ss bm) (ho:Op ss bm O) (hs:s∈ss) (ht:t∈ss) (h1:fa ρ=aa (.lst ((bm s).map D.str))) (h2:fb ρ=aa (.lst ((bm t).map D.str))):cy (b2 eqD (cF cg (ag fa ar)) .(i)) (b2 eqA fa fb) ρ=aa (.bl (sm bm s t)):=by
 have e1:b2 eqD (cF cg (ag fa ar)) .(i) ρ=aa (.bl (decide ((bm s).length=1))):=by
  refine(aH (x:=.int (bm s).length) (bC (aK h1 aW) ?_) rfl rfl).trans ?_
  .show aa (D.int ((bm s).map D.str).length)=_;rw[qf]
  .congr 2
   rw[zj];omega
 have e2:b2 eqA fa fb ρ=aa (.bl (decide (bm s=bm t))):=aH h1 h2 (Do (hb.nb s hs) (hb.nb t ht));exact nF e1 fun _=>e2
theorem xp (ho:Op ss bm O) (hs:s∈ss) (h1:fo ρ=aa .(h)) (h2:fk ρ=aa (.str s.nm)):b2 cO (bM "Facts" "open_benches" fo) fk ρ=aa (.lst ((bm s).map D.str)):=
 aH (sk 1 h1 rfl) h2 (show((aa (bw O (.inr s.nm))).bind id)=_ by rw[ho.at' s hs];rfl)
theorem z8 (hb:Bn ss bm) (ho:Op ss bm O) (hs:s∈ss) (ht:t∈ss):oq [fcD bs ss js us ls ks h kvs O A B P,.str s.nm,.str t.nm]=aa (.bl (sm bm s t)):=
 ck [oS .(h),oS (.str s.nm),oS (.str t.nm)] rfl (cm (AM hb ho hs ht (xp ho hs rfl rfl) (xp ho ht rfl rfl)))
theorem oa {F:FQ} (hm:m∉ji) (h1:fo ρ=aa .(h)) (h2:fr ρ=aa ds) (h3:F (fcD bs ss js us ls ks h kvs O A B P::ds)=aa d):cL "Facts" m F fo fr ρ=aa d:=n9 (fs:=fF (gD bs ss js us ls ks h kvs) O A B P) hm h1 h2 h3
theorem uniq {α β:Type} {f:α->β}:∀{l:ac α} {x y:α},(l.map f).Nodup->x∈l->y∈l->f x=f y->x=y
 |[],_,_,_,h,_,_=>nomatch h
 |z::r,x,y,nd,hx,hy,e=>by
  rw[qo,eJ] at nd;rcases cH.mp hx with h1|h1
  .rcases cH.mp hy with h2|h2
   .rw[h1,h2]
   .exact bJ (qW (f:=f) h2) (by rw[←e,h1];exact nd.1)
  .rcases cH.mp hy with h2|h2
   .exact bJ (qW (f:=f) h1) (by rw[e,h2];exact nd.1)
   .exact uniq nd.2 h1 h2 e
theorem vc:∀{js:ac JobT} {j:JobT} {m:aj},(js.flatMap (·.ms)).Nodup->j∈js->m∈j.ms->cG js m=aa j
 |[],_,_,_,h,_=>nomatch h
 |z::r,j,m,nd,hj,hm=>by
  rw[oR,ky] at nd;unfold cG;rw[fg];rcases cH.mp hj with rfl|hj
  .rw[qT hm]
  .have:¬m∈z.ms:=fun hz=>nd.2.2 m hz m (nu.mpr ⟨j,hj,hm⟩) rfl;rw[qO this];exact vc nd.2.1 hj hm
noncomputable def sj (js:ac JobT) (a b:aj):aT:=match cG js a with
 |some j=>decide (b∈j.ms)
 |none=>av
theorem zr (g:Good bs ss js us ls ks h) (hs:s∈ss) (h1:fo ρ=aa .(h)) (h2:fk ρ=aa (.str s.nm)):b2 cO (bM "Grounds" "job_names" (bM "Facts" "grounds" fo)) fk ρ=aa (jnD js s.nm):=
 aH (mq 4 h1 rfl) h2 (show((aa (bw (kvS (fun s=>jnD js s.nm) ss) (.inr s.nm))).bind id)=_ by rw[jh (nm:=fun s:StepT=>s.nm) g.sn hs];rfl)
theorem KI (g:Good bs ss js us ls ks h) (hb:Bn ss bm) (ho:Op ss bm O) (hs:s∈ss) (ht:t∈ss) (hne:s.nm≠t.nm):vV [fcD bs ss js us ls ks h kvs O A B P,.str s.nm,.str t.nm]=aa (.bl (sj js s.nm t.nm || sm bm s t)):=by
 have em:∀z:au Slot,cL "Facts" "have_one_bench" oq (vSh 0) (ag (vSh 1) (ag (vSh 2) ar)) [oS .(h),oS (.str s.nm),oS (.str t.nm),z]=aa (.bl (sm bm s t)):=fun z=>oa (by decide +kernel) rfl (aK rfl (aK rfl aW)) (z8 hb ho hs ht);have ej:∀z:au Slot,b2 cO (bM "Grounds" "job_names" (bM "Facts" "grounds" (vSh 0))) (vSh 2) [oS .(h),oS (.str s.nm),oS (.str t.nm),z]=aa (jnD js t.nm):=fun z=>zr g ht rfl rfl;refine ck [oS .(h),oS (.str s.nm),oS (.str t.nm),af] rfl ((hZ (cD (aH rfl rfl ((rY _ _).trans (by rw[qO hne]))))).trans ((jo (zr g hs rfl rfl)).trans (cm ?_)));have e1:b2 mL (vSh 3) (vC .non) [oS .(h),oS (.str s.nm),oS (.str t.nm),oS (jnD js s.nm)]=aa (.bl (cG js s.nm).isSome):=by refine aH rfl rfl ?_;unfold jnD;cases cG js s.nm<;>rfl
 have e2:(cG js s.nm).isSome=ak->b2 eqA (vSh 3) (b2 cO (bM "Grounds" "job_names" (bM "Facts" "grounds" (vSh 0))) (vSh 2)) [oS .(h),oS (.str s.nm),oS (.str t.nm),oS (jnD js s.nm)]=aa (.bl (sj js s.nm t.nm)):=by
  intro hj;refine aH rfl (ej _) ?_;obtain⟨j,hj⟩:=oF.mp hj;obtain⟨hm,hms⟩:=tD hj;unfold jnD sj;rw[hj];cases e:cG js t.nm with
  |none=>
   show aa (D.bl av)=_
   congr 2
   refine(qO fun z=>?_).symm;rw[vc g.jm hm z] at e;cases e
  |some j'=>
   obtain⟨hm',hms'⟩:=tD e;refine(rY j.nm j'.nm).trans ?_
   congr 2
   rw[zj];constructor
   .intro z;rw[uniq g.jn hm hm' z];exact hms'
   .intro z;rw[vc g.jm hm z] at e;cases e;rfl
 refine(sK (nF e1 e2) fun _=>em _).trans ?_
 congr 2
 unfold sj;cases cG js s.nm<;>rfl
theorem Ph (hk:Gaps ss js ls kvs) (hs:s∈ss) (ht:t∈ss):wa [fcD bs ss js us ls ks h kvs O A B P,.str s.nm,.str t.nm]=aa (.bl ((cq js ls s.nm t.nm).isSome || (bw P (kk s.nm t.nm)).isSome)):=by
 refine ck [oS .(h),oS (.str s.nm),oS (.str t.nm)] rfl (cm ?_);have e1:b2 jD (aZ (szF (ag (vSh 1) (ag (vSh 2) ar)))) (bM "Grounds" "known_gaps" (bM "Facts" "grounds" (vSh 0))) [oS .(h),oS (.str s.nm),oS (.str t.nm)]=aa (.bl (cq js ls s.nm t.nm).isSome):=by refine aH (eQ rfl rfl) (mq 8 rfl rfl) ?_;show aa (D.bl (bw kvs (kk s.nm t.nm)).isSome)=_;rw[hk.at' _ (qW hs) _ (qW ht),m9]
 have e2:b2 jD (aZ (szF (ag (vSh 1) (ag (vSh 2) ar)))) (bM "Facts" "put_pairs" (vSh 0)) [oS .(h),oS (.str s.nm),oS (.str t.nm)]=aa (.bl (bw P (kk s.nm t.nm)).isSome):=aH (eQ rfl rfl) (sk 4 rfl rfl) rfl;exact sK e1 fun _=>e2
theorem Dy (g:Good bs ss js us ls ks h) (hs:s∈ss):tI [bP bs ss js us ls ks h,.str s.nm]=aa (.str s.kd):=by refine ck [oS .(j),oS (.str s.nm)] rfl (cm (aH (aH (x:=.dk (ss.map fun s=>(.inr s.nm,aX s))) (z:=aX s) (j5 8 rfl rfl) rfl ?_) rfl gJ));show bw (ss.map fun s=>((.inr s.nm:Key),aX s)) (.inr s.nm)=_;exact jh (nm:=fun q:StepT=>q.nm) g.sn hs
noncomputable def uM (us:ac SetT) (b p q:aj):au SetT:=us.find? fun u=>decide ([u.b,u.p,u.q]=[b,p,q])
noncomputable def stI (us:ac SetT) (b p q:aj):aq:=match uM us b p q with
 |some u=>u.n
 |none=>0
theorem OO {b p q:aj} :w9 [bP bs ss js us ls ks h,.str b,.str p,.str q]=aa (.int (stI us b p q)):=by
 refine ck [oS .(j),oS (.str b),oS (.str p),oS (.str q)] rfl (cm ?_);unfold b3;rw[j5 (bs:=bs) (ss:=ss) (js:=js) (us:=us) (ls:=ls) (ks:=ks) (h:=h) (fo:=vSh 0) 9 rfl rfl,zX rfl rfl rfl];show aa ((bw (us.map fun u=>([u.b,u.p,u.q].map (ci:aj->Key),D.int u.n)) ([b,p,q].map ci)).getD (.int 0))=_;unfold bw stI uM;rw[RA];have e:us.find? ((fun kv=>decide (kv.1=[b,p,q].map (ci:aj->Key))) ∘ fun u=>([u.b,u.p,u.q].map (ci:aj->Key),D.int u.n))=us.find? fun u=>decide ([u.b,u.p,u.q]=[b,p,q]):=by
  congr 1
  funext u
  exact zj.mpr nR
 rw[e];cases us.find? fun u=>decide ([u.b,u.p,u.q]=[b,p,q])<;>rfl
noncomputable def gpI (js:ac JobT) (us:ac SetT) (ls:ac LinkT) (bm:StepT->ac aj) (s t:StepT):aq:=
 if sm bm s t=ak then (if stI us ((bm s).getD 0 "") s.kd t.kd > (cq js ls s.nm t.nm).getD 0 then stI us ((bm s).getD 0 "") s.kd t.kd else (cq js ls s.nm t.nm).getD 0) else (cq js ls s.nm t.nm).getD 0
theorem KM (g:Good bs ss js us ls ks h) (hk:Gaps ss js ls kvs) (hb:Bn ss bm) (ho:Op ss bm O) (hs:s∈ss) (ht:t∈ss):xJ [fcD bs ss js us ls ks h kvs O A B P,.str s.nm,.str t.nm]=aa (.int (gpI js us ls bm s t)):=by
 have em:∀y z:au Slot,cL "Facts" "have_one_bench" oq (vSh 0) (ag (vSh 1) (ag (vSh 2) ar)) [oS .(h),oS (.str s.nm),oS (.str t.nm),y,z]=aa (.bl (sm bm s t)):=fun y z=>oa (by decide +kernel) rfl (aK rfl (aK rfl aW)) (z8 hb ho hs ht);have e1:b3 ko (bM "Grounds" "known_gaps" (bM "Facts" "grounds" (vSh 0))) (aZ (szF (ag (vSh 1) (ag (vSh 2) ar)))) .(f) [oS .(h),oS (.str s.nm),oS (.str t.nm),af,af]=aa (.int ((cq js ls s.nm t.nm).getD 0)):=by unfold b3;rw[mq (bs:=bs) (ss:=ss) (js:=js) (us:=us) (ls:=ls) (ks:=ks) (h:=h) (kvs:=kvs) (O:=O) (A:=A) (B:=B) (P:=P) (fo:=vSh 0) 8 rfl rfl,eQ rfl rfl];show aa ((bw kvs (kk s.nm t.nm)).getD (.int 0))=_;rw[hk.at' _ (qW hs) _ (qW ht)];cases cq js ls s.nm t.nm<;>rfl
 unfold gpI;cases e:sm bm s t with
 |false=>
  rw[qY qu];refine ck [oS .(h),oS (.str s.nm),oS (.str t.nm),af,af] rfl ((jo e1).trans (ww ?_ (cm rfl)));exact oV (cD ((em _ _).trans (by rw[e])))
 |true=>
  rw[qX rfl];have l1:(bm s).length=1:=by unfold sm at e;rw[fJ] at e;exact fL e.1
  obtain⟨b0,hb0⟩:=RD.mp l1;refine ck [oS .(h),oS (.str s.nm),oS (.str t.nm),af,af] rfl ((jo e1).trans ((hZ ?_).trans ((jo (d:=bP bs ss js us ls ks h) ?_).trans (cm (bC (aK rfl (aK (d:=.int (stI us ((bm s).getD 0 "") s.kd t.kd)) ?_ aW)) rfl)))))
  .exact oV (cD ((em _ _).trans (by rw[e])))
  .exact oa (by decide +kernel) rfl aW (ck [oS .(h)] rfl (cm (mq 0 rfl rfl)))
  .refine gV (by decide +kernel) rfl (aK (aH (xp ho hs rfl rfl) rfl (z:=.str ((bm s).getD 0 "")) ?_) (aK (gV (by decide +kernel) rfl (aK rfl aW) (Dy g hs)) (aK (gV (by decide +kernel) rfl (aK rfl aW) (Dy g ht)) aW))) OO;rw[hb0];rfl
end
theorem Mq (m:aj) (r:ac aj) (a b:aj):jf (m::r) a b=((r.any fun t=>decide (m=a/\t=b)) || jf r a b):=by unfold jf;rw[qo];show((r.map wrp).map (fun t=>(wrp m,t))++prS (r.map wrp)).any _=_;rw[List.any_append,qp,List.any_map];rfl
theorem zl {a b:aj}:∀{ms:ac aj},jf ms a b=ak↔∃k j:ao,k<j/\ms[k]?=aa a/\ms[j]?=aa b
 |[]=>⟨fun h=>(nomatch h),fun⟨k,j,_,h,_⟩=>by simp at h⟩
 |m::r=>by
  rw[Mq,ET,lO,zl];constructor
  .rintro(⟨t,ht,e⟩|⟨k,j,h1,h2,h3⟩)
   .obtain⟨rfl,rfl⟩:=fL e;obtain⟨j,hj⟩:=uP ht;exact⟨0,j+1,by omega,rfl,hj⟩
   .exact⟨k+1,j+1,by omega,h2,h3⟩
  .rintro⟨k,j,h1,h2,h3⟩;obtain⟨j,rfl⟩:∃i,j=i+1:=⟨j-1,by omega⟩;rw[qd] at h3;cases k with
   |zero=>
    rw[qc] at h2;exact .inl ⟨b,qQ h3,qT ⟨qI h2,rfl⟩⟩
   |succ k=>exact .inr ⟨k,j,by omega,h2,h3⟩
noncomputable def KV (ls:ac LinkT) (dn:ac (aj×aj)) (acc:ac (ac Key×D)):Prop:=∀a b,bw acc (kk a b)=match iN ls a b with
 |some l=>aa (.int l.g)
 |none=>if (a,b)∈dn then aa (.int 0) else af
theorem KV.flat (h:KV ls dn acc) (x y:aj):∃n,(bw acc (kk x y)).getD (.int 0)=.int n:=by
 rw[h x y];cases iN ls x y with
 |some l=>exact⟨l.g,rfl⟩
 |none=>
  show ∃n,(if (x,y)∈dn then aa (D.int 0) else af).getD (.int 0)=.int n;split
  .exact⟨0,rfl⟩
  .exact⟨0,rfl⟩
theorem KV.put (h:KV ls dn acc) (x y:aj):KV ls (dn++[(x,y)]) (cJ acc (kk x y) ((bw acc (kk x y)).getD (.int 0))):=by
 intro a b;rw[mi];by_cases e:kk a b=kk x y
 .obtain⟨rfl,rfl⟩:=kZ.mp e;rw[qX rfl,h a b];cases iN ls a b with
  |some l=>rfl
  |none=>
   show aa ((if (a,b)∈dn then aa (D.int 0) else af).getD (.int 0))=if (a,b)∈dn++[(a,b)] then aa (D.int 0) else af
   have hm:(a,b)∈dn++[(a,b)]:=by simp
   rw[qX hm];split<;>rfl
 .rw[qY e,h a b];have hne:¬((a,b)=(x,y)):=fun z=>e (kZ.mpr ⟨cw (·.1) z,cw (·.2) z⟩);cases iN ls a b with
  |some l=>rfl
  |none=>
   show(if (a,b)∈dn then aa (D.int 0) else af)=if (a,b)∈dn++[(x,y)] then aa (D.int 0) else af
   simp[hne]
theorem JU (h1:ρ[i]?=aa (aa (.odt acc))) (h2:f (ρ.set i (oS (.dt acc)))=aa d) (h3:fX d=ak):mE i f ρ=aa d:=by unfold mE;rw[h1];show(f _).bind _=_;rw[h2];exact qX h3
theorem Cp {t:ac aj} {fv:FE} (h1:ρ[i]?=aa (aa (.odt acc))) (hl:acc.length<100000) (hk:fk ρ=aa (.tup (t.map D.str))) (hv:fv ρ=aa d):eA i fk fv ρ=aa (.nx,ρ.set i (aa (.odt (cJ acc (t.map ci) d)))):=by unfold eA;rw[hv,hk,h1];show((eM (t.map D.str)).bind _)=_;rw[jT];exact qX hl
noncomputable def pr2 (ms:ac aj) (j:ao):ac (aj×aj):=(cQ j).map fun k=>(ms.getD k "",ms.getD j "")
noncomputable def qq (b:aT) (l:ac (aj×aj)):ac (aj×aj):=if b=ak then l else []
noncomputable def jp (j:JobT):ac (aj×aj):=qq j.od ((cQ j.ms.length).flatMap (pr2 j.ms))
section
variable {bs:ac BenchT}
noncomputable abbrev knE (L:D) (acc:ac (ac Key×D)) (a b c:au Slot) (j:JobT) (x y:au Slot):bG:=[oS L,aa (.odt acc),a,b,c,oS (.str j.nm),oS (.int j.ea),oS (.int j.du),oS (.bl j.od),oS (.lst (j.ms.map D.str)),x,y]
theorem AV {a b c:au Slot} {j:JobT} {x y:au Slot} (hn:n<j.ms.length) (hf:f (knE L acc a b c j x y)=aa (.int (n:aq))):b2 ixD (vSh 9) f (knE L acc a b c j x y)=aa (.str (j.ms.getD n "")):=
 aH rfl hf (by rw[ixL,qk,hV,qE hn];rfl)
theorem OG {a b c:au Slot} {j:JobT} {jj:ao} (hj:jj<j.ms.length) (hl:j.ms.length<=12) (hk:KV ls dn acc) (ha:acc.length<=1000) {y:au Slot} :Wp (b9 (itR et (ag (vSh 10) ar)) (aC 11) (sIf (toB (vSh 8)) (eA 1 (aZ (szF (ag (b2 ixD (vSh 9) (vSh 11)) (ag (b2 ixD (vSh 9) (vSh 10)) ar)))) (mE 1 (b3 ko (vSh 1) (aZ (szF (ag (b2 ixD (vSh 9) (vSh 11)) (ag (b2 ixD (vSh 9) (vSh 10)) ar)))) .(f)))) bA) (knE L acc a b c j (oS (.int jj)) y)) fun r=>r.1=.nx/\∃acc' y',r.2=knE L acc' a b c j (oS (.int jj)) y'/\KV ls (dn++qq j.od (pr2 j.ms jj)) acc'/\acc'.length<=acc.length+12:=by
 refine eK (fun k ρ=>∃acc' y',ρ=knE L acc' a b c j (oS (.int jj)) y'/\KV ls (dn++qq j.od ((cQ k).map fun k=>(j.ms.getD k "",j.ms.getD jj ""))) acc'/\acc'.length<=acc.length+k) (iH (bd (bf rfl (cC ⟨jj,rfl,by omega,by omega,⟨acc,y,rfl,?_,qx _⟩,?_,?_⟩))))
 .unfold qq;split<;>exact(gM dn).symm▸hk
 .rintro k x ρ hx ⟨acc',y',rfl,hk',hl'⟩;obtain⟨hi,rfl⟩:=i6 hx;rw[gj] at hi;refine aP rfl (gb (gx (bf rfl ⟨_,rfl,fun ho=>?_,fun ho=>?_⟩)))
  .obtain⟨n,hn⟩:=hk'.flat (j.ms.getD k "") (j.ms.getD jj "");refine aP (Cp (acc:=acc') (t:=[j.ms.getD k "",j.ms.getD jj ""]) (d:=(bw acc' (kk (j.ms.getD k "") (j.ms.getD jj ""))).getD (.int 0)) rfl .(c) (eQ (AV .(c) rfl) (AV hj rfl)) (JU rfl ?_ (by rw[hn];rfl))) ⟨rfl,_,_,rfl,?_,qN (kf _ _ _) .(c)⟩
   .unfold b3;show Ft (aa (D.dt acc')) _=_;rw[qb];have e:aZ (szF (ag (b2 ixD (vSh 9) (vSh 11)) (ag (b2 ixD (vSh 9) (vSh 10)) ar))) ((knE L acc' a b c j (oS (.int jj)) (oS (.int (k:aq)))).set 1 (oS (.dt acc')))=aa (.tup [.str (j.ms.getD k ""),.str (j.ms.getD jj "")]):=eQ (aH rfl rfl (by rw[ixL,qk,hV,qE (show k<j.ms.length by omega)];rfl)) (aH rfl rfl (by rw[ixL,qk,hV,qE hj];rfl));show Ft (aZ _ ((knE L acc' a b c j (oS (.int jj)) (oS (.int (k:aq)))).set 1 (oS (.dt acc')))) _=_;rw[e];rfl
   .have:=hk'.put (j.ms.getD k "") (j.ms.getD jj "");unfold qq at this ⊢;rw[qX ho] at this ⊢;rw[Fp,eO,←lH];exact this
  .refine fZ ⟨rfl,acc',_,rfl,?_,by omega⟩;unfold qq at hk' ⊢;rw[qY (by rw[ho];exact qu)] at hk' ⊢;exact hk'
 .rintro ρ ⟨acc',y',rfl,hk',hl'⟩;rw[qf,qV,gj] at hk' hl';exact⟨rfl,acc',y',rfl,hk',by omega⟩
theorem N4 (b:aT) (l m:ac (aj×aj)):qq b (l++m)=qq b l++qq b m:=by unfold qq;split<;>rfl
theorem F' {a b c:au Slot} {j:JobT} (hl:j.ms.length<=12) (hk:KV ls dn acc) (ha:acc.length<=800) {x y:au Slot} :Wp (b9 (itR et (ag (cF cg (ag (vSh 9) ar)) ar)) (aC 10) (b9 (itR et (ag (vSh 10) ar)) (aC 11) (sIf (toB (vSh 8)) (eA 1 (aZ (szF (ag (b2 ixD (vSh 9) (vSh 11)) (ag (b2 ixD (vSh 9) (vSh 10)) ar)))) (mE 1 (b3 ko (vSh 1) (aZ (szF (ag (b2 ixD (vSh 9) (vSh 11)) (ag (b2 ixD (vSh 9) (vSh 10)) ar)))) .(f)))) bA)) (knE L acc a b c j x y)) fun r=>r.1=.nx/\∃acc' x' y',r.2=knE L acc' a b c j x' y'/\KV ls (dn++jp j) acc'/\acc'.length<=acc.length+144:=by
 refine eK (fun i ρ=>∃acc' x' y',ρ=knE L acc' a b c j x' y'/\KV ls (dn++qq j.od ((cQ i).flatMap (pr2 j.ms))) acc'/\acc'.length<=acc.length+12*i) (iH (bd (gH (bd (bf rfl (cC (IG (cC ⟨_,rfl,by rw[qf];omega,by rw[qf];omega,⟨acc,x,y,rfl,?_,by omega⟩,?_,?_⟩))))))))
 .unfold qq;split<;>exact(gM dn).symm▸hk
 .rintro i z ρ hx ⟨acc',x',y',rfl,hk',hl'⟩;obtain⟨hi,rfl⟩:=i6 hx;rw[gj,qf] at hi;refine aP rfl ((OG (ls:=ls) hi hl hk' .(c)).imp fun r ⟨e,acc2,y2,e2,k2,l2⟩=>⟨e,acc2,_,y2,e2,?_,by omega⟩);rw[Fp,uQ,N4,←lH];simpa using k2
 .rintro ρ ⟨acc',x',y',rfl,hk',hl'⟩;rw[qf,qV,gj,qf] at hk' hl';exact⟨rfl,acc',x',y',rfl,hk',by omega⟩
theorem DC {j:JobT} {a b:aj} :(a,b)∈jp j↔(j.od && jf j.ms a b)=ak:=by
 rw[fJ,zl];unfold jp qq;constructor
 .intro hm;split at hm
  .rename_i ho;obtain⟨jj,hj,hp⟩:=nu.mp hm;obtain⟨k,hk,e⟩:=bU.mp hp;have h1:=eR.mp hj;have h2:=eR.mp hk;injection e with e1 e2;refine⟨ho,k,jj,h2,?_,?_⟩
   .rw[←e1,hV,qE .(c)];rfl
   .rw[←e2,hV,qE .(c)];rfl
  .cases hm
 .rintro⟨ho,k,jj,h1,h2,h3⟩;rw[qX ho];refine nu.mpr ⟨jj,eR.mpr (eB.mp h3).1,bU.mpr ⟨k,eR.mpr h1,?_⟩⟩;rw[hV,hV,h2,h3];rfl
theorem Dn (g:Good bs ss js us ls ks h) (s12:ss.length<=12) (j3:js.length<=3):∃kn,lZ [cv bs ss js us ls ks h]=aa (.dt kn)/\∀a b,bw kn (kk a b)=(cq js ls a b).map D.int:=by
 have ll:=g.ll;have main:Wp (lZ [cv bs ss js us ls ks h]) fun d=>∃kn,d=.dt kn/\KV ls (js.flatMap jp) kn:=by
  unfold lZ;refine gr (dy (ρ1:=[oS (cv bs ss js us ls ks h),aa (.odt []),af,af,af,af,af,af,af,af,af,af]) rfl (dG (eK (fun i ρ=>∃a b c,ρ=[oS (cv bs ss js us ls ks h),aa (.odt ((ls.take i).foldl iL [])),a,b,c,af,af,af,af,af,af,af]/\((ls.take i).foldl iL []).length<=i) (dL (aP (aH rfl rfl (ixT _ 4)) (aP rfl ⟨⟨af,af,af,rfl,qx _⟩,?_,?_⟩))))))
  .rintro i x ρ hx ⟨a,b,c,rfl,hl⟩;rw[qk] at hx;obtain⟨l,hi,rfl⟩:=oMd hx;have hi2:i<ls.length:=(eB.mp hi).1;have e:(ls.take (i+1)).foldl iL []=iL ((ls.take i).foldl iL []) l:=by rw[jQ,hi,uF];rfl
   refine aP rfl (aP (Cp (t:=[l.a,l.b]) (d:=.int l.g) rfl .(c) (eQ rfl rfl) rfl) ⟨rfl,?_⟩);rw[e];exact⟨_,_,_,rfl,qN (kf _ _ _) .(c)⟩
  .rintro ρ ⟨a,b,c,rfl,hl⟩;rw[qf,gO] at hl ⊢;refine⟨rfl,dG (eK (fun i ρ=>∃acc x5 x6 x7 x8 x9 x10 x11,ρ=[oS (cv bs ss js us ls ks h),aa (.odt acc),a,b,c,x5,x6,x7,x8,x9,x10,x11]/\KV ls ((js.take i).flatMap jp) acc/\acc.length<=100+144*i) (dL (aP (aH rfl rfl (ixT _ 2)) (aP rfl ⟨⟨_,_,_,_,_,_,_,_,rfl,fun a b=>?_,by omega⟩,?_,?_⟩)))) ⟩
   .rw[vL a b ls _ g.ln];cases iN ls a b<;>rfl
   .rintro i x ρ hx ⟨acc,x5,x6,x7,x8,x9,x10,x11,rfl,hk,hl⟩;rw[qk] at hx;obtain⟨j,hi,rfl⟩:=oMd hx;have hi2:i<js.length:=(eB.mp hi).1;have jl:=(g.j j (qQ hi)).ln;rw[qf] at jl;refine aP (a:=knE (cv bs ss js us ls ks h) acc a b c j x10 x11) rfl ((F' (ls:=ls) .(c) hk .(c)).imp ?_);rintro r ⟨e,acc2,x',y',e2,k2,l2⟩;refine⟨e,acc2,_,_,_,_,_,_,_,e2,?_,by omega⟩;rw[Jq _ hi];exact k2
   .rintro ρ ⟨acc,x5,x6,x7,x8,x9,x10,x11,rfl,hk,hl⟩;rw[qf,gO] at hk;exact⟨rfl,fE (ρ:=oS (cv bs ss js us ls ks h)::oS (.dt acc)::a::b::c::[x5,x6,x7,x8,x9,x10,x11]) (bf rfl ⟨_,rfl,acc,rfl,hk⟩)⟩
 obtain⟨_,e,kn,rfl,hk⟩:=main;refine⟨kn,e,fun a b=>?_⟩;rw[hk a b];unfold cq;cases iN ls a b with
 |some l=>rfl
 |none=>
  show(if (a,b)∈js.flatMap jp then aa (D.int 0) else af)=(if (js.any fun j=>j.od && jf j.ms a b)=ak then aa (0:aq) else af).map D.int;by_cases hm:(a,b)∈js.flatMap jp
  .obtain⟨j,hj,hp⟩:=nu.mp hm;rw[qX hm,qX (lO.mpr ⟨j,hj,DC.mp hp⟩)];rfl
  .rw[qY hm,qY fun z=>?_]
   .rfl
   .obtain⟨j,hj,hp⟩:=lO.mp z;exact hm (nu.mpr ⟨j,hj,DC.mpr hp⟩)
theorem zQ {m:aj} {JL:D} (hm:bh m=ak):∀(js:ac JobT) (a:au Slot),(∀j∈js,∀x∈j.ms,bh x=ak)->∃a',dZ (aC 2) (sIf (toB (b2 fQ (vSh 1) (b2 ixD (vSh 2) (vC (.int 4))))) (aM (vSh 2)) bA) (js.map bc) [oS JL,oS (.str m),a]=aa ((match cG js m with|some j=>Fl.rt (bc j)|none=>Fl.nx),[oS JL,oS (.str m),a'])
 |[],a,_=>⟨a,rfl⟩
 |j::r,a,hn=>by
  have hT:toB (b2 fQ (vSh 1) (b2 ixD (vSh 2) (vC (.int 4)))) [oS JL,oS (.str m),oS (bc j)]=aa (decide (m∈j.ms)):=
   cD (aH rfl (aH rfl rfl lj) (tU hm (hn j qg)))
  have hg:aC 2 (bc j) [oS JL,oS (.str m),a]=aa [oS JL,oS (.str m),oS (bc j)]:=rfl;by_cases hj:m∈j.ms
  .refine⟨oS (bc j),?_⟩;have e:cG (j::r) m=aa j:=by unfold cG;rw[fg,qT hj]
   rw[qT hj] at hT;rw[e,qo];unfold dZ;rw[hg,qb,wN hT];rfl
  .have e:cG (j::r) m=cG r m:=by unfold cG;rw[fg,qO hj]
   rw[qO hj] at hT;obtain⟨a',ha⟩:=zQ hm r (oS (bc j)) (fun x hx=>hn x (qh _ hx));refine⟨a',?_⟩;rw[e,qo];unfold dZ;rw[hg,qb,vw hT];exact ha
theorem Jb (hm:bh m=ak) (hn:∀j∈js,∀x∈j.ms,bh x=ak):wJ [cv bs ss js us ls ks h,.str m]=aa (kg (cG js m)):=by
 obtain⟨a',e⟩:=zQ (JL:=cv bs ss js us ls ks h) hm js af hn;have e2:b9 (itF (b2 ixD (vSh 0) (vC (.int 2)))) (aC 2) (sIf (toB (b2 fQ (vSh 1) (b2 ixD (vSh 2) (vC (.int 4))))) (aM (vSh 2)) bA) [oS (cv bs ss js us ls ks h),oS (.str m),af]=_:=(mj (xs:=js.map bc) (show itF _ _=_ by unfold itF;rw[aH rfl rfl (ixT _ 2)];rfl)).trans e;cases hj:cG js m with
 |none=>
  rw[hj] at e2;exact ck [oS (cv bs ss js us ls ks h),oS (.str m),af] rfl ((mr e2).trans (cm rfl))
 |some j=>
  rw[hj] at e2;refine ck [oS (cv bs ss js us ls ks h),oS (.str m),af] (ρ':=[oS (cv bs ss js us ls ks h),oS (.str m),a']) rfl ?_;unfold aB;rw[e2];rfl
end
theorem Kn {t:ac aj} {ts:ac (ac aj)} (hx:∀x∈t,bh x=ak) (hn:∀y∈ts,∀x∈y,bh x=ak):fQ (.tup (t.map D.str)) (.lst (ts.map fun t=>.tup (t.map D.str)))=aa (.bl (decide (t∈ts))):=by
 have e:=Ch hx hn;unfold nA at e;unfold fQ;obtain⟨b,hb,e⟩:=oMd e;rw[hb];have e:(!b)=!decide (t∈ts):=by injection e
 have e:b=decide (t∈ts):=by simpa using e
 rw[e];rfl
theorem CM (x y:aT):neA (.lst [.bl x,.bl y]) (.lst [.bl x,.bl y])=aa (.bl av):=by cases x<;>cases y<;>rfl
theorem JJ (x y:aT) (h:f ρ=aa (.lst [.bl x,.bl y])):aQ (bp (itF f) (aC 0) tT (cF dJ (ag (vSh 0) (ag (vC (.ty "bool")) ar))) [af]) ρ=aa (.lst [.bl ak,.bl ak]):=by unfold aQ bp itF;rw[h];rfl
theorem K4 (n:aq):u7 [.int n,.int n]=aa (.bl ak):=by refine ck [oS (.int n),oS (.int n)] rfl (cm ?_);refine(nF (a:=ak) (b:=ak) rfl fun _=>nF (a:=ak) (b:=ak) rfl fun _=>aH rfl rfl ?_).trans rfl;show aa (D.bl (decide (n=n)))=_;rw[qT rfl]
theorem Ka (gl:∀l∈ls,GoodL sn h l) (a b:aj):0<=(cq js ls a b).getD 0:=by
 unfold cq iN;cases e:ls.find? fun l=>decide (l.a=a/\l.b=b) with
 |some l=>exact(gl l (E4 e)).g.1
 |none=>
  show 0<=(if _ then aa (0:aq) else af).getD 0;split<;>exact ze _
section
variable {bs:ac BenchT} {A Bm:ac (Key×D)} {P kn:ac (ac Key×D)} {s t:StepT}
noncomputable abbrev riE (F L M:D) (s t:StepT) (Bm:ac (Key×D)) (os kn:D) (sa jb:D) (gp:aq) (r:bG):bG:=oS F::oS L::oS M::oS (aX s)::oS (aX t)::oS (.dk Bm)::oS os::oS kn::oS sa::oS jb::oS (.int gp)::r
theorem Lr {b:aj} {l:ac aj} (hb:bh b=ak) (hl:∀x∈l,bh x=ak):eqA (.lst [.str b]) (.lst (l.map D.str))=aa (.bl (decide ([b]=l))):=Do (a:=[b]) (fun x hx=>by rw[bN.mp hx];exact hb) hl
theorem v9 {F L M os kn' sa jb:D} {b0:aj} (hq:Op ss bm Bm) (hs:s∈ss) (h0:bm s=[b0]) (nb:bh b0=ak) {x y z:au Slot}:∀(us:ac SetT) (gp:aq) (a b c d:au Slot),(us.map fun u=>[u.b,u.p,u.q]).Nodup->(∀u∈us,bh u.b=ak)->∃a' b' c' d',dZ (db 4 (bj (aC 11) (bj (aC 12) (bj (aC 13) (bj (aC 14) cW))))) (sIf (ic (toB (b2 eqA (aQ (szF (ag (vSh 11) ar))) (b2 cO (vSh 5) (b2 ixD (vSh 3) .(f))))) (ic (toB (b2 eqA (vSh 12) (b2 ixD (vSh 3) .(i)))) (toB (b2 eqA (vSh 13) (b2 ixD (vSh 4) .(i)))))) (bo 10 (cF i8 (ag (vSh 10) (ag (vSh 14) ar)))) bA) (us.map dv) (riE F L M s t Bm os kn' sa jb gp [a,b,c,d,x,y,z])=aa (.nx,riE F L M s t Bm os kn' sa jb (match uM us b0 s.kd t.kd with|some u=>if u.n > gp then u.n else gp|none=>gp) [a',b',c',d',x,y,z])
 |[],gp,a,b,c,d,_,_=>⟨a,b,c,d,rfl⟩
 |u::r,gp,a,b,c,d,nd,hb=>by
  rw[qo,eJ] at nd;have hT:ic (toB (b2 eqA (aQ (szF (ag (vSh 11) ar))) (b2 cO (vSh 5) (b2 ixD (vSh 3) .(f))))) (ic (toB (b2 eqA (vSh 12) (b2 ixD (vSh 3) .(i)))) (toB (b2 eqA (vSh 13) (b2 ixD (vSh 4) .(i))))) (riE F L M s t Bm os kn' sa jb gp [oS (.str u.b),oS (.str u.p),oS (.str u.q),oS (.int u.n),x,y,z])=aa (decide ([u.b,u.p,u.q]=[b0,s.kd,t.kd])):=by
   have t1:toB (b2 eqA (aQ (szF (ag (vSh 11) ar))) (b2 cO (vSh 5) (b2 ixD (vSh 3) .(f)))) (riE F L M s t Bm os kn' sa jb gp [oS (.str u.b),oS (.str u.p),oS (.str u.q),oS (.int u.n),x,y,z])=aa (decide (u.b=b0)):=by
    refine cD (aH (x:=.lst [.str u.b]) (y:=.lst ((bm s).map D.str)) rfl (aH (y:=.str s.nm) rfl (aH rfl rfl cN) (show((aa (bw Bm (.inr s.nm))).bind id)=_ by rw[hq.at' s hs];rfl)) ?_);rw[h0];refine(Lr (l:=[b0]) (hb u qg) fun x hx=>by rw[bN.mp hx];exact nb).trans ?_
    congr 2
    rw[zj];simp
   have t2:toB (b2 eqA (vSh 12) (b2 ixD (vSh 3) .(i))) (riE F L M s t Bm os kn' sa jb gp [oS (.str u.b),oS (.str u.p),oS (.str u.q),oS (.int u.n),x,y,z])=aa (decide (u.p=s.kd)):=cD (aH rfl (aH rfl rfl gJ) (rY _ _));have t3:toB (b2 eqA (vSh 13) (b2 ixD (vSh 4) .(i))) (riE F L M s t Bm os kn' sa jb gp [oS (.str u.b),oS (.str u.p),oS (.str u.q),oS (.int u.n),x,y,z])=aa (decide (u.q=t.kd)):=cD (aH rfl (aH rfl rfl gJ) (rY _ _));unfold ic;rw[t1,t2,t3,qb,qb];by_cases e1:u.b=b0<;>by_cases e2:u.p=s.kd<;>by_cases e3:u.q=t.kd<;>simp[e1,e2,e3]
  by_cases e:[u.b,u.p,u.q]=[b0,s.kd,t.kd]
  .have hn:uM r b0 s.kd t.kd=af:=by unfold uM;rw[uC];intro v hv z;exact nd.1 (bU.mpr ⟨v,hv,(fL z).trans e.symm⟩)
   have hc:uM (u::r) b0 s.kd t.kd=aa u:=by unfold uM;rw[fg,qT e]
   rw[qT e] at hT;obtain⟨a',b',c',d',ih⟩:=v9 (F:=F) (L:=L) (M:=M) (os:=os) (kn':=kn') (sa:=sa) (jb:=jb) hq hs h0 nb (x:=x) (y:=y) (z:=z) r (if u.n > gp then u.n else gp) (oS (.str u.b)) (oS (.str u.p)) (oS (.str u.q)) (oS (.int u.n)) nd.2 fun v hv=>hb v (qh _ hv);rw[hn] at ih;rw[hc];exact⟨a',b',c',d',pk (ρ1:=riE F L M s t Bm os kn' sa jb gp [oS (.str u.b),oS (.str u.p),oS (.str u.q),oS (.int u.n),x,y,z]) rfl ((wN hT).trans (LS (bC rfl rfl))) ih⟩
  .have hc:uM (u::r) b0 s.kd t.kd=uM r b0 s.kd t.kd:=by unfold uM;rw[fg,qO e]
   rw[qO e] at hT;obtain⟨a',b',c',d',ih⟩:=v9 (F:=F) (L:=L) (M:=M) (os:=os) (kn':=kn') (sa:=sa) (jb:=jb) hq hs h0 nb (x:=x) (y:=y) (z:=z) r gp (oS (.str u.b)) (oS (.str u.p)) (oS (.str u.q)) (oS (.int u.n)) nd.2 fun v hv=>hb v (qh _ hv);rw[hc];exact⟨a',b',c',d',pk (ρ1:=riE F L M s t Bm os kn' sa jb gp [oS (.str u.b),oS (.str u.p),oS (.str u.q),oS (.int u.n),x,y,z]) rfl (vw hT) ih⟩
theorem vS (g:Good bs ss js us ls ks h) (hk:Gaps ss js ls kvs) (hb:Bn ss bm) (ho:Op ss bm O) (hq:Op ss bm Bm) (hkn:∀a b,bw kn (kk a b)=(cq js ls a b).map D.int) (hn:∀y∈os,∀x∈y,bh x=ak) (hs:s∈ss) (ht:t∈ss) (hne:s.nm≠t.nm) (hP:(bw P (kk s.nm t.nm)).isSome=decide ([s.nm,t.nm]∈os)) :
  l' [fcD bs ss js us ls ks h kvs O A B P,cv bs ss js us ls ks h,.lst [.dk Bm,.lst (os.map fun t=>.tup (t.map D.str)),.dt kn],aX s,aX t]=aa (.bl ak):=by
 have ns:bh s.nm=ak:=g.snn _ (qW hs);have nt:bh t.nm=ak:=g.snn _ (qW ht);have jn:∀j∈js,∀x∈j.ms,bh x=ak:=fun j hj x hx=>g.snn _ ((g.j j hj).ms x hx);obtain⟨_,e,rfl⟩:Wp (l' [fcD bs ss js us ls ks h kvs O A B P,cv bs ss js us ls ks h,.lst [.dk Bm,.lst (os.map fun t=>.tup (t.map D.str)),.dt kn],aX s,aX t]) fun d=>d=.bl ak:=by
  unfold l';refine gr (dy (ρ1:=[oS .(h),oS (cv bs ss js us ls ks h),aa (.sh (.lst [.dk Bm,.lst (os.map fun t=>.tup (t.map D.str)),.dt kn])),oS (aX s),oS (aX t),oS (.dk Bm),aa (.sh (.lst (os.map fun t=>.tup (t.map D.str)))),oS (.dt kn),af,af,af,af,af,af,af,af,af,af]) rfl ?_);refine b8 (aP (AM hb hq hs ht (aH (y:=.str s.nm) rfl (aH rfl rfl cN) (show((aa (bw Bm (.inr s.nm))).bind id)=_ by rw[hq.at' s hs];rfl)) (aH (y:=.str t.nm) rfl (aH rfl rfl cN) (show((aa (bw Bm (.inr t.nm))).bind id)=_ by rw[hq.at' t ht];rfl))) ?_);refine b8 (aP (bC (aK rfl (aK (aH rfl rfl cN) aW)) (Jb ns jn)) ?_);refine b8 (aP (a:=.int ((cq js ls s.nm t.nm).getD 0)) ?_ ?_)
  .unfold b3;show Ft (aa (D.dt kn)) _=_;rw[qb,eQ (aH rfl rfl cN) (aH rfl rfl cN)];show aa ((bw kn (kk s.nm t.nm)).getD (.int 0))=_;rw[hkn];cases cq js ls s.nm t.nm<;>rfl
  show Wp (aB _ _ (riE .(h) (cv bs ss js us ls ks h) (.lst [.dk Bm,.lst (os.map fun t=>.tup (t.map D.str)),.dt kn]) s t Bm (.lst (os.map fun t=>.tup (t.map D.str))) (.dt kn) (.bl (sm bm s t)) (kg (cG js s.nm)) ((cq js ls s.nm t.nm).getD 0) [af,af,af,af,af,af,af])) _;refine sT (fun ρ=>∃a b c d,ρ=riE .(h) (cv bs ss js us ls ks h) (.lst [.dk Bm,.lst (os.map fun t=>.tup (t.map D.str)),.dt kn]) s t Bm (.lst (os.map fun t=>.tup (t.map D.str))) (.dt kn) (.bl (sm bm s t)) (kg (cG js s.nm)) (gpI js us ls bm s t) [a,b,c,d,af,af,af]) ?_ (gb (gx (bf rfl ⟨_,rfl,fun hm=>?_,fun hm=>fZ (.inl ⟨rfl,af,af,af,af,?_⟩)⟩)))
  rotate_left
  .have l1:(bm s).length=1:=by unfold sm at hm;rw[fJ] at hm;exact fL hm.1
   obtain⟨b0,hb0⟩:=RD.mp l1;have nb0:bh b0=ak:=hb.nb s hs b0 (by rw[hb0];exact qg);obtain⟨a',b',c',d',e⟩:=v9 (F:=fcD bs ss js us ls ks h kvs O A B P) (L:=cv bs ss js us ls ks h) (M:=.lst [.dk Bm,.lst (os.map fun t=>.tup (t.map D.str)),.dt kn]) (os:=.lst (os.map fun t=>.tup (t.map D.str))) (kn':=.dt kn) (sa:=.bl (sm bm s t)) (jb:=kg (cG js s.nm)) (t:=t) hq hs hb0 nb0 (x:=af) (y:=af) (z:=af) us ((cq js ls s.nm t.nm).getD 0) af af af af g.un fun u hu=>g.bnn _ (g.u u hu).b;refine aP ((mj (xs:=us.map dv) (show itF _ _=_ by unfold itF;rw[aH rfl rfl (ixT _ 3)];rfl)).trans e) (.inl ⟨rfl,a',b',c',d',?_⟩);have eg:gpI js us ls bm s t=(match uM us b0 s.kd t.kd with|some u=>if u.n > (cq js ls s.nm t.nm).getD 0 then u.n else (cq js ls s.nm t.nm).getD 0|none=>(cq js ls s.nm t.nm).getD 0):=by
    have p:=Ka (js:=js) g.l s.nm t.nm;unfold gpI stI;rw[qX hm,hb0];show(if (match uM us b0 s.kd t.kd with|some u=>u.n|none=>0) > _ then (match uM us b0 s.kd t.kd with|some u=>u.n|none=>0) else _)=_;cases uM us b0 s.kd t.kd with
    |some u=>rfl
    |none=>exact qY (show ¬(0:aq) > (cq js ls s.nm t.nm).getD 0 by omega)
   rw[eg]
  .have eg:gpI js us ls bm s t=(cq js ls s.nm t.nm).getD 0:=by unfold gpI;rw[qY (by rw[hm];exact qu)]
   rw[eg]
  rintro _ ⟨a,b,c,d,rfl⟩;refine b8 (aP (sK (a:=sm bm s t) (b:=sj js s.nm t.nm) rfl fun _=>?_) ?_)
  .refine(nF (a:=(cG js s.nm).isSome) (b:=sj js s.nm t.nm) (aH rfl rfl ?_) fun hj=>?_).trans ?_
   .cases cG js s.nm<;>rfl
   .obtain⟨j,hj⟩:=oF.mp hj;refine aH (x:=.str t.nm) (y:=.lst (j.ms.map D.str)) (aH rfl rfl cN) (aH (x:=bc j) (by show aa (kg (cG js s.nm))=_;rw[hj];rfl) rfl lj) ?_;unfold sj;rw[hj];exact tU nt (jn j (tD hj).1)
   .congr 2
    unfold sj;cases cG js s.nm<;>rfl
  refine b8 (aP (sK (a:=(cq js ls s.nm t.nm).isSome) (b:=decide ([s.nm,t.nm]∈os)) (aH (eQ (aH rfl rfl cN) (aH rfl rfl cN)) rfl ?_) fun _=>aH (eQ (aH rfl rfl cN) (aH rfl rfl cN)) rfl (Kn (t:=[s.nm,t.nm]) (fun x hx=>?_) hn)) ?_)
  .show aa (D.bl (bw kn (kk s.nm t.nm)).isSome)=_;rw[hkn,m9]
  .simp at hx;rcases hx with rfl|rfl
   .exact ns
   .exact nt
  rw[←hP];refine b8 (aP (a:=.lst [.bl ((cq js ls s.nm t.nm).isSome || (bw P (kk s.nm t.nm)).isSome),.bl (sj js s.nm t.nm || sm bm s t)]) (kY (show szF _ _=_ by unfold szF;rw[aK (oa (by decide +kernel) rfl (aK (aH rfl rfl cN) (aK (aH rfl rfl cN) aW)) (Ph hk hs ht)) (aK (oa (by decide +kernel) rfl (aK (aH rfl rfl cN) (aK (aH rfl rfl cN) aW)) (KI g hb ho hs ht hne)) aW)];rfl)) ?_);rw[Bool.or_comm (sj js s.nm t.nm)];refine wU (aP (a:=av) ?_ ?_)
  .refine(show orT _ _ _=aa av from ?_);unfold orT;rw[cD (aH (JJ _ _ rfl) (y:=.lst [.bl ak,.bl ak]) rfl (CM ak ak)),cD (aH (x:=.lst [.bl ((cq js ls s.nm t.nm).isSome || (bw P (kk s.nm t.nm)).isSome),.bl (sm bm s t || sj js s.nm t.nm)]) (y:=.lst [.bl ((cq js ls s.nm t.nm).isSome || (bw P (kk s.nm t.nm)).isSome),.bl (sm bm s t || sj js s.nm t.nm)]) rfl rfl (CM _ _))];rfl
  .rw[qY qu];exact fE (aP (bC (aK (oa (by decide +kernel) rfl (aK (aH rfl rfl cN) (aK (aH rfl rfl cN) aW)) (KM g hk hb ho hs ht)) (aK rfl aW)) (K4 _)) ⟨_,rfl,rfl⟩)
 exact e
end
noncomputable def ix:ac StepT->aj->ao
 |[],_=>0
 |s::r,m=>if s.nm=m then 0 else ix r m+1
theorem tj:∀{ss:ac StepT} {i:ao} {s:StepT},(ss.map (·.nm)).Nodup->ss[i]?=aa s->ix ss s.nm=i
 |[],i,s,_,h=>by simp at h
 |t::r,0,s,_,h=>by
  obtain rfl:t=s:=by simpa using h
  exact qX rfl
 |t::r,i+1,s,nd,h=>by rw[qo,eJ] at nd;rw[qd] at h;unfold ix;rw[qY (fun e=>nd.1 (by rw[e];exact qW (qQ h))),tj nd.2 h]
noncomputable def nz (cs:ac aq) (k:ao) (s:StepT):ac aj:=if drw (cs.getD (k%cs.length) 0) 40 3 > 0 then ((wn s).drop (drw (cs.getD (k%cs.length) 0) 41 (wn s).length).toNat).take 1 else wn s
noncomputable def bz (cs:ac aq) (ss:ac StepT) (s:StepT):ac aj:=nz cs (ix ss s.nm) s
theorem Gu (cs:ac aq) (k:ao) (s:StepT):(nz cs k s).Sublist (wn s):=by
 unfold nz;split
 .exact(lE _ _).trans (QH _ _)
 .exact Fq _
theorem Bl:∀{l:ac aj} {x:aj},l.Nodup->x∈l->l.filter (fun y=>decide (y∈[x]))=[x]
 |[],_,_,h=>nomatch h
 |y::r,x,nd,h=>by
  rw[eJ] at nd;rw[uN];by_cases e:y=x
  .subst e;have:r.filter (fun z=>decide (z∈[y]))=[]:=List.filter_eq_nil_iff.mpr fun z hz q=>nd.1 (by rw[←bN.mp (fL q)];exact hz);rw[this];simp
  .have hx:x∈r:=(cH.mp h).resolve_left fun q=>e q.symm;rw[qY (fun q=>e (bN.mp (fL q))),Bl nd.2 hx]
theorem Iv (cs:ac aq) (k:ao) {s:StepT} (nd:(wn s).Nodup) (l1:1<=(wn s).length):(wn s).filter (fun x=>decide (x∈nz cs k s))=nz cs k s:=by
 unfold nz;split
 .obtain⟨_,q0,q1⟩:=im (cs.getD (k%cs.length) 0) (k:=41) (m:=(wn s).length) .(e) .(e) .(c);have hlt:(drw (cs.getD (k%cs.length) 0) 41 (wn s).length).toNat<(wn s).length:=by omega
  generalize (drw (cs.getD (k%cs.length) 0) 41 (wn s).length).toNat=a at hlt ⊢;rw[rJ hlt];exact Bl nd (rF hlt)
 .exact B2 _
theorem zL:∀(ws:ac (aj×aq)) (a b:au Slot),cT (db 2 (bj (aC 0) (bj (aC 1) cW))) tT (vSh 0) (ws.map dW) [a,b]=aa ((ws.map (·.1)).map D.str)
 |[],_,_=>rfl
 |w::r,a,b=>by have e:cT (db 2 (bj (aC 0) (bj (aC 1) cW))) tT (vSh 0) ((w::r).map dW) [a,b]=(cT (db 2 (bj (aC 0) (bj (aC 1) cW))) tT (vSh 0) (r.map dW) [oS (.str w.1),oS (.int w.2)]).map (D.str w.1::·):=rfl;rw[e,zL r];rfl
theorem zD {s:StepT} (h4:s.ws.length<=4) (hf:f ρ=aa (.lst (s.ws.map dW))):aQ (bp (itF f) (db 2 (bj (aC 0) (bj (aC 1) cW))) tT (vSh 0) [af,af]) ρ=aa (.lst ((wn s).map D.str)):=by refine kY ?_;unfold bp itF;rw[hf];show(if (s.ws.map dW).length<=aN then _ else _)=_;rw[qX (by rw[qf];unfold aN;omega)];exact zL s.ws af af
theorem AY {l:ac aj} {a:aq} (h0:0<=a) (h1:a<l.length):jZ (aa a) (aa (a+1)) (.lst (l.map D.str))=aa (.lst (((l.drop a.toNat).take 1).map D.str)):=by show aa (D.lst (dw (l.map D.str) (aa a) (aa (a+1))))=_;unfold dw HT.sIx;simp only[qf];rw[qY .(c),qY .(c),show min a.toNat l.length=a.toNat by omega,show min (a+1).toNat l.length-a.toNat=1 by omega,zi,Fm]
theorem A7 {k:aj} {fv:FE} {acc:ac (Key×D)} (h1:ρ[i]?=aa (aa (.odk acc))) (hl:acc.length<100000) (hk:fk ρ=aa (.str k)) (hv:fv ρ=aa d):eA i fk fv ρ=aa (.nx,ρ.set i (aa (.odk (cJ acc (.inr k) d)))):=by unfold eA;rw[hv,hk,h1];exact qX hl
theorem Bw {fs:Fo} {P:D×Fo->Prop} (h:Wp (g (aa (.fo ak c fs)::(ds.map (fun d=>aa (Slot.sh d))++bT n af))) fun r=>∃d fs',r.1=.rt d/\r.2[0]?=aa (aa (.fo ak c fs'))/\P (d,fs')):Wp (gQ n c g fs ds) P:=by obtain⟨⟨fl,ρ'⟩,e,d,fs',e1,e2,p⟩:=h;have e1:fl=.rt d:=e1;subst e1;refine⟨(d,fs'),?_,p⟩;unfold gQ;rw[e,qb];show(match ρ'[0]? with|some (aa (Slot.fo ak c' fs'))=>_|_=>af)=_;rw[e2];exact qX rfl
section
variable {bs:ac BenchT} {A:ac (Key×D)} {P:ac (ac Key×D)} {s t:StepT}
theorem GP (g:Good bs ss js us ls ks h) (hs:s∈ss):(wn s).Nodup/\1<=(wn s).length/\(wn s).length<=4:=⟨(g.s s hs).nd,by unfold wn;rw[qf];exact(g.s s hs).l1,by unfold wn;rw[qf];exact(g.s s hs).l4⟩
theorem zm (g:Good bs ss js us ls ks h) (cs:ac aq):Bn ss (bz cs ss):=⟨fun s hs x hx=>tO g hs x ((Gu cs _ s).subset hx)⟩
noncomputable abbrev bzD (cs:ac aq) (ss:ac StepT) (s:StepT):D:=.lst ((bz cs ss s).map D.str)
noncomputable abbrev puE (fs:Fo) (L:D) (cs:ac aq) (K:ac (Key×D)) (a b c d e:au Slot):bG:=[aa (.fo ak "Facts" fs),oS L,oS (.lst (cs.map D.int)),aa (.odk K),a,b,c,d,e]
theorem FU (g:Good bs ss js us ls ks h) (hc:0<cs.length) (hl:O.length<=40):Wp (sF (fF (gD bs ss js us ls ks h kvs) O A B P) [cv bs ss js us ls ks h,.lst (cs.map D.int)]) fun r=>∃O',r=(.dk (kvS (bzD cs ss) ss),fF (gD bs ss js us ls ks h kvs) O' A B P)/\Op ss (bz cs ss) O':=by
 unfold sF;refine Bw (dy (ρ1:=puE (fF (gD bs ss js us ls ks h kvs) O A B P) (cv bs ss js us ls ks h) cs (kvS (bzD cs ss) (ss.take 0)) af af af af af) rfl (dG (eK (fun i ρ=>∃O' a b c d e,ρ=puE (fF (gD bs ss js us ls ks h kvs) O' A B P) (cv bs ss js us ls ks h) cs (kvS (bzD cs ss) (ss.take i)) a b c d e/\O'.length<=40+i/\∀(j:ao) s,j<i->ss[j]?=aa s->bw O' (.inr s.nm)=aa (bzD cs ss s)) (dL (aP (aH rfl rfl (ixT _ 1)) (aP rfl ⟨⟨O,af,af,af,af,af,rfl,by omega,fun j s hj=>by omega⟩,?_,?_⟩))))))
 .rintro i x ρ hx ⟨O',a,b,c,d,e,rfl,ol,ho⟩;obtain⟨_,hy,rfl⟩:=xw hx;rw[qk] at hy;obtain⟨s,hs,rfl⟩:=oMd hy;have hm:=qQ hs;have hi:i<ss.length:=(eB.mp hs).1;have s40:=g.sl.2;obtain⟨wnd,w1,w4⟩:=GP g hm;have eb:bz cs ss s=nz cs i s:=by unfold bz;rw[tj g.sn hs]
  refine aP rfl (b8 (aP (zH hc i rfl rfl) (b8 (aP (zD (s:=s) (g.s s hm).l4 (aH rfl rfl lg)) ?_))));refine sT (fun ρ=>∃e,ρ=puE (fF (gD bs ss js us ls ks h kvs) O' A B P) (cv bs ss js us ls ks h) cs (kvS (bzD cs ss) (ss.take i)) (oS (.int i)) (oS (aX s)) (oS (.int (cs.getD (i%cs.length) 0))) (oS (bzD cs ss s)) e) ?_ (gb (gx (w_2 (cS (k:=40) (m:=3) rfl rfl rfl .(e) .(e) .(e) fun _ _=>w_c (zn ⟨_,rfl,fun hp=>?_,fun hp=>?_⟩)))))
  rotate_left
  .have hp:=fL hp;obtain⟨e0,q0,q1⟩:=im (cs.getD (i%cs.length) 0) (k:=41) (m:=(wn s).length) .(e) .(e) .(c);refine b8 (aP (bC (aK rfl (aK rfl (aK (d:=.int (wn s).length) (bC (aK rfl aW) (by show aa (D.int ((wn s).map D.str).length)=_;rw[qf])) aW))) e0) (mw (aP (o7 rfl rfl rfl (AY q0 q1)) (.inl ⟨rfl,oS (.int (drw (cs.getD (i%cs.length) 0) 41 (wn s).length)),?_⟩))));have:bz cs ss s=((wn s).drop (drw (cs.getD (i%cs.length) 0) 41 (wn s).length).toNat).take 1:=by rw[eb];exact qX hp
   rw[bzD,this];rfl
  .have hp:=QD hp;refine fZ (.inl ⟨rfl,e,?_⟩);have:bz cs ss s=wn s:=by rw[eb];exact qY hp
   rw[bzD,this];rfl
  rintro _ ⟨e,rfl⟩;refine dy (sJ (ds:=[.str s.nm,bzD cs ss s]) rfl (show("set_open":aj)∉ji by decide +kernel) (aK (aH rfl rfl cN) (aK rfl aW)) (Bp g hm ((zm g cs).nb s hm) .(c))) ?_;rw[show(wn s).filter (fun x=>decide (x∈bz cs ss s))=bz cs ss s by rw[eb];exact Iv cs i wnd w1];refine aP (A7 (acc:=kvS (bzD cs ss) (ss.take i)) (k:=s.nm) (d:=bzD cs ss s) rfl (mz _ g.sl.2 _) (aH rfl rfl cN) rfl) ⟨rfl,?_⟩;rw[mP g.sn hs (bzD cs ss)];refine⟨_,_,_,_,_,_,rfl,qN (kf _ _ _) .(c),fun j t hj ht=>?_⟩;rw[mi];by_cases e:j=i
  .subst e;rw[hs] at ht;cases ht;exact qX rfl
  .rw[qY (fun z=>e ?_),ho j t .(c) ht];have z:t.nm=s.nm:=jI z;have z:=uniq g.sn (qQ ht) hm z;subst z;rw[←tj g.sn ht,tj g.sn hs]
 .rintro ρ ⟨O',a,b,c,d,e,rfl,ol,ho⟩;rw[rH,qf] at ho;rw[rH,qf,gO];refine⟨rfl,fE (ρ:=[aa (.fo ak "Facts" (fF (gD bs ss js us ls ks h kvs) O' A B P)),oS (cv bs ss js us ls ks h),oS (.lst (cs.map D.int)),oS (.dk (kvS (bzD cs ss) ss)),a,b,c,d,e]) (bf rfl ⟨_,_,rfl,rfl,O',rfl,⟨fun s hs=>?_⟩⟩)⟩;obtain⟨i,hi⟩:=uP hs;exact ho i s (eB.mp hi).1 hi
noncomputable def pO (os:ac (ac aj)):ac (ac Key×D):=os.map fun t=>(t.map ci,.bl ak)
theorem Ad (os:ac (ac aj)) (t:ac aj):((pO os).any fun kv=>decide (kv.1=t.map ci))=decide (t∈os):=by
 rw[mW,lO,yQ];constructor
 .rintro⟨kv,hk,e⟩;obtain⟨y,hy,rfl⟩:=bU.mp hk;rw[←nR.mp (fL e)];exact hy
 .exact fun ht=>⟨_,qW ht,qT rfl⟩
theorem FO (os:ac (ac aj)) (t:ac aj):cJ (pO os) (t.map ci) (.bl ak)=pO (if t∈os then os else os++[t]):=by
 unfold cJ;rw[Ad];by_cases e:t∈os
 .rw[qX (qT e),qX e];unfold pO;rw[qp];refine iG fun y _=>?_;show(if y.map ci=t.map ci then _ else _)=_;split<;>rfl
 .rw[qY (fun z=>e (fL z)),qY e];unfold pO;rw[eO];rfl
theorem GA (os:ac (ac aj)) (a b:aj):(bw (pO os) (kk a b)).isSome=decide ([a,b]∈os):=by rw[←Ad];unfold bw;rw[m9,mW,RC,lO];exact Iff.rfl
noncomputable abbrev orE (fs:Fo) (L:D) (c:aq) (os:ac (ac aj)) (x y z:au Slot):bG:=[aa (.fo ak "Facts" fs),oS L,oS (.int c),aa (.own (os.map fun t=>.tup (t.map D.str))),x,y,z]
theorem Gq (g:Good bs ss js us ls ks h) (c:aq) {G:D} :Wp (sB (fF G O A B []) [cv bs ss js us ls ks h,.int c]) fun r=>∃os:ac (ac aj),r=(.lst (os.map fun t=>.tup (t.map D.str)),fF G O A B (pO os))/\∀y∈os,∀x∈y,bh x=ak:=by
 have s1:=g.sl;have hx1:∀ρ:bG,ρ[1]?=aa (oS (cv bs ss js us ls ks h))->b2 ixD (vSh 1) .(i) ρ=aa (.lst (ss.map aX)):=fun ρ hr=>aH (x:=cv bs ss js us ls ks h) (by unfold vSh;rw[hr]) rfl (ixT _ 1);have sl:cg [.lst (ss.map aX)]=aa (.int ss.length):=by show aa (D.int (ss.map aX).length)=_;rw[qf]
 unfold sB;refine Bw (l7 (dG (eK (fun i ρ=>∃os x y z,ρ=orE (fF G O A B (pO os)) (cv bs ss js us ls ks h) c os x y z/\os.length<=i/\∀y∈os,∀x∈y,bh x=ak) (iH (bd (cS (k:=120) (m:=6) rfl rfl rfl .(e) .(e) .(e) fun q0 q1=>cC ⟨_,rfl,q0,by omega,⟨[],af,af,af,rfl,qx _,fun _ z=>nomatch z⟩,?_,?_⟩))))))
 .rintro i x ρ hx ⟨os,x',y,z,rfl,hl,hn⟩;obtain⟨hi,rfl⟩:=i6 hx;refine aP rfl (b8 (pF (hx1 _ rfl) (cS (k:=121+2*(i:aq)) (m:=ss.length) rfl (aH rfl (aH rfl rfl gI) rfl) (bC (aK (hx1 _ rfl) aW) sl) .(c) .(c) .(c) fun a0 a1=>⟨_,rfl,a0,a1,?_⟩)));refine b8 (pF (hx1 _ rfl) (cS (k:=122+2*(i:aq)) (m:=ss.length) rfl (aH rfl (aH rfl rfl gI) rfl) (bC (aK (hx1 _ rfl) aW) sl) .(c) .(c) .(c) fun b0 b1=>⟨_,rfl,b0,b1,?_⟩));have m1:=g.snn _ (tu (ss:=ss) (i:=(drw c (121+2*(i:aq)) ss.length).toNat) .(c));have m2:=g.snn _ (tu (ss:=ss) (i:=(drw c (122+2*(i:aq)) ss.length).toNat) .(c));generalize snm ss (drw c (121+2*(i:aq)) ss.length).toNat=o1 at m1 ⊢;generalize snm ss (drw c (122+2*(i:aq)) ss.length).toNat=o2 at m2 ⊢;have m3:∀x∈[o1,o2],bh x=ak:=fun x hx=>by
   simp at hx;rcases hx with rfl|rfl
   .exact m1
   .exact m2
  refine gb (gx (w_2 (bf rfl (bf rfl (aP (wS _ _) ⟨_,rfl,fun _=>?_,fun _=>fZ ⟨rfl,os,_,_,_,rfl,by omega,hn⟩⟩)))));have ep:uh (fF G O A B (pO os)) [.str o1,.str o2]=aa (.non,fF G O A B (pO (if [o1,o2]∈os then os else os++[[o1,o2]]))):=by rw[←FO];unfold uh;exact xg (ρ':=[oS (.str o1),oS (.str o2)]) (Ik (t:=[o1,o2]) 4 rfl (lY _ _ _ _ _) rfl (eQ rfl rfl) rfl (by unfold pO;rw[qf];omega))
  refine dy (sJ rfl (show("put_order":aj)∉ji by decide +kernel) (aK rfl (aK rfl aW)) ep) ?_;have nt:=Ch (t:=[o1,o2]) m3 hn;refine gb (aP (Nz rfl (cD (aH (eQ rfl rfl) rfl nt))) ⟨fun hc=>?_,fun hc=>?_⟩)
  .have hc:¬[o1,o2]∈os:=by simpa using hc
   refine vg (m:=fun t:ac aj=>.tup (t.map D.str)) (xs:=os) [o1,o2] rfl .(c) (aP (eQ rfl rfl) ⟨rfl,rfl,?_⟩);rw[qY hc];refine⟨os++[[o1,o2]],_,_,_,rfl,by rw[qj];simp;omega,fun y hy=>?_⟩;rcases eF.mp hy with hy|hy
   .exact hn y hy
   .rw[bN.mp hy];exact m3
  .have hc:[o1,o2]∈os:=by simpa using hc
   rw[qX hc];exact fZ ⟨rfl,os,_,_,_,rfl,by omega,hn⟩
 .rintro ρ ⟨os,x,y,z,rfl,hl,hn⟩;exact⟨rfl,l9 (ds:=os.map fun t=>.tup (t.map D.str)) rfl (fE (bf rfl ⟨_,_,rfl,rfl,os,rfl,hn⟩))⟩
end
noncomputable def Sm:ao->PyData->Prop
 |_,.int _=>True
 |_,.bool _=>True
 |_,.str x=>bh x=ak
 |n+1,.list l=>∀x∈l,Sm n x
 |n+1,.tuple l=>∀x∈l,Sm n x
 |_,_=>False
theorem wp:∀{l:ac PyData},(∀x∈l,hW x=ak)->jc l=ak
 |[],_=>by simp[jc]
 |x::l,h=>by simp only[jc,h x qg,wp fun y hy=>h y (qh _ hy),RE]
theorem xP {n:ao}:∀{l:ac PyData},(∀x∈l,iF x<=n)->lK l<=n
 |[],_=>by simp[lK]
 |x::l,h=>by have h1:=h x qg;have h2:=xP fun y hy=>h y (qh _ hy);simp only[lK];omega
theorem xQ:∀{l:ac PyData},(∀x∈l,fK x x=ak)->kz l l=ak
 |[],_=>by simp[kz]
 |x::l,h=>by simp only[kz,h x qg,xQ fun y hy=>h y (qh _ hy),RE]
theorem jU:∀(n:ao) (p:PyData),Sm n p->hW p=ak/\iF p<=n/\fK p p=ak
 |n,.int i,_=>by simp[hW,iF,fK]
 |n,.bool i,_=>by simp[hW,iF,fK]
 |n,.str x,h=>by
  have h:bh x=ak:=by cases n<;>exact h
  simp[hW,iF,fK,xW h]
 |n+1,.list l,h=>by
  have h:∀x∈l,Sm n x:=h;refine⟨?_,?_,?_⟩
  .simp only[hW];exact wp fun x hx=>(jU n x (h x hx)).1
  .simp only[iF];have:=xP fun x hx=>(jU n x (h x hx)).2.1;omega
  .simp only[fK];exact xQ fun x hx=>(jU n x (h x hx)).2.2
 |n+1,.tuple l,h=>by
  have h:∀x∈l,Sm n x:=h;refine⟨?_,?_,?_⟩
  .simp only[hW];exact wp fun x hx=>(jU n x (h x hx)).1
  .simp only[iF];have:=xP fun x hx=>(jU n x (h x hx)).2.1;omega
  .simp only[fK];exact xQ fun x hx=>(jU n x (h x hx)).2.2
 |0,.list l,h=>by exact h.elim
 |0,.tuple l,h=>by exact h.elim
 |0,.none,h=>by exact h.elim
 |n+1,.none,h=>by exact h.elim
 |0,.dict _,h=>by exact h.elim
 |n+1,.dict _,h=>by exact h.elim
theorem Ec {α:Type} {f:α->D} {g:α->PyData} (h:∀x,pdD (f x)=aa (g x)):∀xs:ac α,eL (xs.map f)=aa (xs.map g)
 |[]=>rfl
 |x::xs=>by rw[qo,qo,eL,h x,qb,Ec h xs];rfl
theorem wg {l:ac D} {ps:ac PyData} (h:eL l=aa ps):pdD (.lst l)=aa (.list ps):=by rw[pdD,h];rfl
theorem Mg {l:ac D} {ps:ac PyData} (h:eL l=aa ps):pdD (.tup l)=aa (.tuple ps):=by rw[pdD,h];rfl
theorem wK {l:ac D} {p:PyData} {ps:ac PyData} (h1:pdD d=aa p) (h:eL l=aa ps):eL (d::l)=aa (p::ps):=by rw[eL,h1,qb,h];rfl
theorem GK:eL []=aa []:=rfl
theorem zI (i:aj):pdD (.str i)=aa (.str i):=rfl
noncomputable def pW (w:aj×aq):PyData:=.tuple [.str w.1,.int w.2]
noncomputable def pV (b:StepT):PyData:=.tuple [.str b.nm,.str b.kd,.list (b.ws.map pW)]
theorem GQ (x:aj×aq):pdD (dW x)=aa (pW x):=rfl
theorem z9 (b:StepT):pdD (aX b)=aa (pV b):=Mg (wK (zI _) (wK (zI _) (wK (wg (Ec GQ _)) GK)))
theorem D8 {g:α->PyData} {xs:ac α} (h:∀x∈xs,Sm n (g x)):Sm (n+1) (.list (xs.map g)):=fun y hy=>by obtain⟨x,hx,rfl⟩:=bU.mp hy;exact h x hx
theorem Lp {a b:PyData} (h1:Sm n a) (h2:Sm n b):Sm (n+1) (.tuple [a,b]):=fun y hy=>by simp only[qM,qK,or_false] at hy;rcases hy with rfl|rfl<;>assumption
theorem K' {a b c:PyData} (h1:Sm n a) (h2:Sm n b) (h3:Sm n c):Sm (n+1) (.tuple [a,b,c]):=fun y hy=>by simp only[qM,qK,or_false] at hy;rcases hy with rfl|rfl|rfl<;>assumption
theorem MR (n:ao) (i:aq):Sm (n+1) (.int i):=trivial
theorem sd (h:bh x=ak):Sm (n+1) (.str x):=h
theorem GJ {x y:D} {p:PyData} (h0:eqD x y=af) (hx:pdD x=aa p) (hy:pdD y=aa p) (hs:Sm 8 p):eqA x y=aa (.bl ak):=by
 obtain⟨h1,h2,h3⟩:=jU 8 p hs;have sh:fS p=ak:=by show(p.canLay0 && decide (p.depth<=64))=ak;rw[h1,qT .(c)];rfl
 have e0:eqA x y=mm x y:=by unfold eqA orG;rw[h0]
 rw[e0];unfold mm eqX;rw[hx,hy,qb,qb,qX ⟨sh,sh⟩,h3];rfl
theorem CA {F:ac D->au Fo} {dd:ac D} {fs:Fo} (h1:fr ρ=aa ds) (h2:F (ds++dd)=aa fs):og c j F dd fr ρ=aa (.nx,ρ.set j (aa (.fo av c fs))):=by unfold og;rw[h1,qb,h2];rfl
theorem CJ {F:Fo->ac D->au (D×Fo)} {b:aT} {fs:Fo} (h1:ρ[i]?=aa (aa (.fo b c fs))) (h2:fr ρ=aa ds) (h3:F fs ds=aa (d,fs')):nY c j i F fr ρ=aa (.nx,(ρ.set i (aa (.fo b c fs'))).set j (oS d)):=by unfold nY;rw[h1];show(if c=c then _ else af)=_;rw[qX rfl,h2,qb,h3];rfl
theorem DL {K:ac (Key×D)} {b:aT} (h1:ρ[i]?=aa (aa (.odk K))) (h2:ft (ρ.set i (oS (.dk K)))=aa b):nX i ft ρ=aa b:=by unfold nX;rw[h1];exact h2
theorem wt {s:aT} {fs:Fo} {b:aT} (h1:ρ[i]?=aa (aa (.fo s c fs))) (h2:ft (ρ.set i (oS (foD c fs)))=aa b):mN i ft ρ=aa b:=by unfold mN;rw[h1];exact h2
theorem vW {g e:FE} {x y:D} (h1:f ρ=aa x) (h2:g ρ=aa y) (h3:e ρ=aa z):aQ (szF (ag f (ag g (ag e ar)))) ρ=aa (.lst [x,y,z]):=by unfold aQ szF;rw[aK h1 (aK h2 (aK h3 aW))];rfl
section
variable {bs:ac BenchT} {A:ac (Key×D)} {s t:StepT}
theorem Good.noL (g:Good bs ss js us ls ks h):Good bs ss js us [] ks h:=⟨g.hh,g.bl,g.b,g.bn,g.sl,g.s,g.sn,g.jl,g.j,g.jn,g.jm,g.ul,g.u,g.un,by simp,(fun _ z=>nomatch z),kx,g.kl,g.k,g.kn⟩
theorem Ce (g:Good bs ss js us ls ks h) (hs:s∈ss):Sm 8 (pV s):=K' (n:=7) (sd (g.s s hs).nm) (sd (g.s s hs).kd) (D8 (n:=6) fun w hw=>Lp (n:=5) (sd (g.bnn _ ((g.s s hs).ws w hw).1)) (MR _ _))
theorem Hx (g:Good bs ss js us ls ks h) (hs:s∈ss) (ht:t∈ss):∃b,neA (aX s) (aX t)=aa (.bl b)/\(b=ak->s.nm≠t.nm):=by
 have shp:∀{x:StepT},x∈ss->fS (pV x)=ak:=fun hx=>by obtain⟨h1,h2,_⟩:=jU 8 _ (Ce g hx);show(hW _ && decide (iF _<=64))=ak;rw[h1,qT .(c)];rfl
 refine⟨!fK (pV s) (pV t),?_,fun hb e=>?_⟩
 .show l5 (aX s) (aX t)=_;unfold l5 eqX;rw[z9,z9,qb,qb,qX ⟨shp hs,shp ht⟩];rfl
 .have:=uniq g.sn hs ht e;subst this;rw[(jU 8 _ (Ce g hs)).2.2] at hb;cases hb
noncomputable def dPP (p:StepT×StepT):D:=.tup [aX p.1,aX p.2]
noncomputable def Pr (ss:ac StepT) (ps:ac (StepT×StepT)):Prop:=∀p∈ps,p.1∈ss/\p.2∈ss/\p.1.nm≠p.2.nm
theorem zS (g:Good bs ss js us ls ks h) (hs:s∈ss):∀(xs:ac StepT) (a:au Slot),(∀x∈xs,x∈ss)->∃ps:ac (StepT×StepT),cT (aC 0) (toB (b2 neA (vSh 0) (vSh 1))) (aZ (szF (ag (vSh 1) (ag (vSh 0) ar)))) (xs.map aX) [a,oS (aX s)]=aa (ps.map dPP)/\ps.length<=xs.length/\Pr ss ps
 |[],a,_=>⟨[],rfl,qx _,fun _ z=>nomatch z⟩
 |x::r,a,hx=>by
  obtain⟨ps,e,hl,hp⟩:=zS g hs r (oS (aX x)) fun y hy=>hx y (qh _ hy);obtain⟨b,hb,hne⟩:=Hx g (hx x qg) hs;have t:toB (b2 neA (vSh 0) (vSh 1)) [oS (aX x),oS (aX s)]=aa b:=cD (aH rfl rfl hb);have v:aZ (szF (ag (vSh 1) (ag (vSh 0) ar))) [oS (aX x),oS (aX s)]=aa (dPP (s,x)):=eQ rfl rfl;rw[qo,sL t,e,v];cases b with
  |false=>exact⟨ps,rfl,by rw[qi];omega,hp⟩
  |true=>exact⟨(s,x)::ps,rfl,by rw[qi,qi];omega,fun p hq=>(cH.mp hq).elim (fun e=>by rw[e];exact⟨hs,hx x qg,fun z=>hne rfl z.symm⟩) (hp p)⟩
noncomputable abbrev lwE (ns:ac aq) (L M:D) (f3 f4:Fo) (K:ac (Key×D)) (a b c ps x y z w:au Slot):bG:=[oS (.scr ns),oS L,oS M,aa (.fo av "Facts" f3),aa (.fo av "Facts" f4),aa (.odk K),a,b,c,ps,x,y,z,w]
theorem Gi {G:D} (os:ac (ac aj)):vE [foD "Facts" (fF G O A B (pO os))]=aa (.lst (os.map fun t=>.tup (t.map D.str))):=by
 refine ck [oS (foD "Facts" (fF G O A B (pO os)))] rfl (cm (bC (aK (se 4 (lY _ _ _ _ _) rfl rfl) aW) ?_));show aa (D.lst ((pO os).map fun kv=>D.tup (kv.1.map eW)))=_;unfold pO;rw[qp]
 congr 2
 refine iG fun t _=>?_;show D.tup ((t.map ci).map eW)=_;rw[qp];rfl
theorem F8 (hn:∀y∈os,∀x∈y,bh x=ak):eqA (.lst (os.map fun t=>.tup (t.map D.str))) (.lst (os.map fun t=>.tup (t.map D.str)))=aa (.bl ak):=
 GJ rfl (wg (tL os)) (wg (tL os)) (show Sm 8 _ from D8 (n:=7) fun t ht=>show ∀x∈t.map fj,Sm 6 x from fun x hx=>by obtain⟨y,hy,rfl⟩:=bU.mp hx;exact sd (n:=5) (hn t ht y hy))
end
theorem O9 (ns:ac aq) (hns:ns.length<=63):sg [.scr ns]=aa (.bl ak):=by
 obtain⟨_,e,rfl⟩:Wp (sg [.scr ns]) fun d=>d=.bl ak:=by
  unfold sg;obtain⟨_,eh,h,rfl,hh⟩:=NM ns;obtain⟨_,el,bs,ss,js,us,ls,ks,rfl,g,s12,j3⟩:=Ms ns hns hh;refine gr (b8 (aP (bC (aK rfl (aK rfl (aK (bC (aK rfl aW) eh) aW))) el) ?_));refine b8 (aP (a:=cv bs ss js us [] ks h) rfl ?_);have ml:(js.flatMap (·.ms)).length<=300:=by
   have:=xm (f:=fun j:JobT=>j.ms) (m:=40) (l:=js) fun j hj=>by have:=(g.j j hj).ln;rw[qf] at this;omega
   omega
  obtain⟨_,e3,kv3,A3,B3,rfl,k3⟩:=B6 g.noL s12;obtain⟨_,e4,kv4,A4,B4,rfl,k4⟩:=B6 g s12;refine dy (CA (aK (bC (aK rfl aW) (BP g.noL ml)) (aK (aH rfl rfl (ixT _ 6)) aW)) e3) ?_;refine dy (CA (aK (bC (aK rfl aW) (BP g ml)) (aK (aH rfl rfl (ixT _ 6)) aW)) e4) ?_;refine dy (ρ1:=lwE ns (cv bs ss js us ls ks h) (cv bs ss js us [] ks h) (fF (gD bs ss js us [] ks h kv3) (kvS opD ss) A3 B3 []) (fF (gD bs ss js us ls ks h kv4) (kvS opD ss) A4 B4 []) (kvS opD (ss.take 0)) af af af af af af af af) rfl ?_;refine dG (eK (fun i ρ=>∃a b c,ρ=lwE ns (cv bs ss js us ls ks h) (cv bs ss js us [] ks h) (fF (gD bs ss js us [] ks h kv3) (kvS opD ss) A3 B3 []) (fF (gD bs ss js us ls ks h kv4) (kvS opD ss) A4 B4 []) (kvS opD (ss.take i)) a b c af af af af af) (dL (aP (aH rfl rfl (ixT _ 1)) (aP rfl ⟨⟨af,af,af,rfl⟩,?_,?_⟩))))
  .rintro i x ρ hx ⟨a,b,c,rfl⟩;rw[qk] at hx;obtain⟨s,hs,rfl⟩:=oMd hx;refine aP rfl (aP (A7 (acc:=kvS opD (ss.take i)) (k:=s.nm) (d:=opD s) rfl (mz _ g.sl.2 _) rfl (zD (g.s s (qQ hs)).l4 rfl)) ⟨rfl,?_⟩);rw[mP g.sn hs opD];exact⟨_,_,_,rfl⟩
  rintro ρ ⟨a,b,c,rfl⟩;rw[qf,gO];refine⟨rfl,b8 (aP (a:=.lst (([]:ac (StepT×StepT)).map dPP)) rfl (dG (eK (fun i ρ=>∃(ps:ac (StepT×StepT)) (x:au Slot),ρ=lwE ns (cv bs ss js us ls ks h) (cv bs ss js us [] ks h) (fF (gD bs ss js us [] ks h kv3) (kvS opD ss) A3 B3 []) (fF (gD bs ss js us ls ks h kv4) (kvS opD ss) A4 B4 []) (kvS opD ss) a b c (oS (.lst (ps.map dPP))) x af af af/\ps.length<=12*i/\Pr ss ps) (dL (aP (aH rfl rfl (ixT _ 1)) (aP rfl ⟨⟨[],af,rfl,qx _,fun _ z=>nomatch z⟩,?_,?_⟩)))))) ⟩
  .rintro i x ρ hx ⟨ps,x',rfl,pl,hp⟩;rw[qk] at hx;obtain⟨s,hs,rfl⟩:=oMd hx;have hi:i<ss.length:=(eB.mp hs).1;obtain⟨qs,e,ql,hq⟩:=zS g (qQ hs) ss af fun x hx=>hx;refine aP rfl (mw (aP (aH (y:=.lst (qs.map dPP)) rfl (kY ?_) (tp .(c))) ⟨rfl,ps++qs,_,rfl,by rw[qj];omega,fun p hm=>(eF.mp hm).elim (hp p) (hq p)⟩));unfold bp itF;rw[aH rfl rfl (ixT _ 1)];show(if (ss.map aX).length<=aN then _ else _)=_;rw[qX (by rw[qf];unfold aN;omega)];exact e
  rintro ρ ⟨ps,x,rfl,pl,hp⟩;obtain⟨kn,ekn,hkn⟩:=Dn g s12 j3;obtain⟨kb,ekb,hkb⟩:=Dn g.noL s12 j3;have op0:Op ss wn (kvS opD ss):=⟨fun s hs=>jh (nm:=fun s:StepT=>s.nm) (f:=opD) g.sn hs⟩;have bn0:Bn ss wn:=⟨fun s hs=>tO g hs⟩;refine⟨rfl,dG (eK (fun _ ρ=>∃x y,ρ=lwE ns (cv bs ss js us ls ks h) (cv bs ss js us [] ks h) (fF (gD bs ss js us [] ks h kv3) (kvS opD ss) A3 B3 []) (fF (gD bs ss js us ls ks h kv4) (kvS opD ss) A4 B4 []) (kvS opD ss) a b c (oS (.lst (ps.map dPP))) x y af af) (aP rfl ⟨⟨_,_,rfl⟩,?_,?_⟩)) ⟩
  .rintro i z ρ hx ⟨x,y,rfl⟩;rw[qk] at hx;obtain⟨p,hq,rfl⟩:=oMd hx;obtain⟨p1,p2,p3⟩:=hp p (qQ hq);refine aP rfl (gb (aP (a:=av) (DL rfl (wt rfl (oV (cD (bC (aK rfl (aK rfl (aK (vW rfl rfl (bC (aK rfl aW) ekn)) (aK rfl (aK rfl aW))))) (vS (os:=[]) g k4 bn0 op0 op0 hkn (fun _ z=>nomatch z) p1 p2 p3 rfl)))))) ⟨(fun z=>nomatch z),fun _=>fZ ⟨rfl,_,_,rfl⟩⟩))
  rintro ρ ⟨x,y,rfl⟩;obtain⟨_,ec3,c3,rfl⟩:=xX ns 3;obtain⟨_,ec0,c0,rfl⟩:=xX ns 0;obtain⟨cs,hcs⟩:∃cs,cs=dw ns (aa 4) (aa 16)++[c3]:=⟨_,rfl⟩;have csl:0<cs.length:=by rw[hcs,qj];simp
  obtain⟨_,ep,O',rfl,op1⟩:=FU (kvs:=kv4) (O:=kvS opD ss) (A:=A4) (B:=B4) (P:=[]) g csl (by rw[qf];exact g.sl.2);obtain⟨_,eo,os,rfl,hn⟩:=Gq (O:=O') (A:=A4) (B:=B4) g c0 (G:=gD bs ss js us ls ks h kv4);refine⟨rfl,dy (CJ rfl (aK rfl (aK (aH (y:=.lst ([c3].map D.int)) (o7 (z:=.lst ((dw ns (aa 4) (aa 16)).map D.int)) rfl rfl rfl rfl) (kY ?_) ((tp (by rw[vj];simp;omega)).trans (by rw[←hcs]))) aW)) ep) (dy (CJ rfl (aK rfl (aK (bC rfl ec0) aW)) eo) ?_) ⟩
  .unfold szF;rw[aK (bC rfl ec3) aW];rfl
  refine dG (eK (fun _ ρ=>∃x y,ρ=lwE ns (cv bs ss js us ls ks h) (cv bs ss js us [] ks h) (fF (gD bs ss js us [] ks h kv3) (kvS opD ss) A3 B3 []) (fF (gD bs ss js us ls ks h kv4) O' A4 B4 (pO os)) (kvS opD ss) a b c (oS (.lst (ps.map dPP))) x y (oS (.dk (kvS (bzD cs ss) ss))) (aa (.sh (.lst (os.map fun t=>.tup (t.map D.str)))))) (aP rfl ⟨⟨_,_,rfl⟩,?_,?_⟩))
  .rintro i z ρ hx ⟨x,y,rfl⟩;rw[qk] at hx;obtain⟨p,hq,rfl⟩:=oMd hx;obtain⟨p1,p2,p3⟩:=hp p (qQ hq);have opz:Op ss (bz cs ss) (kvS (bzD cs ss) ss):=⟨fun s hs=>jh (nm:=fun s:StepT=>s.nm) (f:=bzD cs ss) g.sn hs⟩;refine aP rfl (dG (gb (aP (a:=av) (wt rfl (oV (cD (bC (aK rfl (aK rfl (aK (vW rfl rfl (bC (aK rfl aW) ekn)) (aK rfl (aK rfl aW))))) (vS g k4 (zm g cs) op1 opz hkn hn p1 p2 p3 (GA os _ _)))))) ⟨(fun z=>nomatch z),fun _=>fZ ⟨rfl,?_⟩⟩)));exact gb (aP (a:=av) (DL rfl (wt rfl (oV (cD (bC (aK rfl (aK rfl (aK (vW rfl rfl (bC (aK rfl aW) ekb)) (aK rfl (aK rfl aW))))) (vS (os:=[]) g.noL k3 bn0 op0 op0 hkb (fun _ z=>nomatch z) p1 p2 p3 rfl)))))) ⟨(fun z=>nomatch z),fun _=>fZ ⟨rfl,_,_,rfl⟩⟩)
  rintro ρ ⟨x,y,rfl⟩;refine⟨rfl,fE (aP (wo rfl (nF (a:=ak) (b:=ak) (aH (n9 (c:="Facts") (fs:=fF (gD bs ss js us ls ks h kv4) O' A4 B4 (pO os)) (show("orders":aj)∉ji by decide +kernel) rfl aW (Gi os)) rfl (F8 hn)) fun _=>aH (x:=.lst []) (n9 (c:="Facts") (fs:=fF (gD bs ss js us ls ks h kv4) O' A4 B4 (pO os)) (show("noted":aj)∉ji by decide +kernel) rfl aW (ck [oS (foD "Facts" (fF (gD bs ss js us ls ks h kv4) O' A4 B4 (pO os)))] rfl (cm (bC (aK (se 5 (lY _ _ _ _ _) rfl rfl) aW) rfl)))) (y:=.lst []) rfl rfl) rfl) ⟨_,rfl,rfl⟩) ⟩
 exact e
noncomputable def vY (K:aV):Sp:=fun vs H Q _=>∃(a:aw) (ns:ac aq),vs=[.ref a]/\SqL K H a (ns.map V.int)/\ns.length<=63/\∀H',Q (.bl ak) H'
theorem all_mk {l:EN} {h:Heap} {fa:aw} (X:K.In h) (G:h.Ns fH mg) (hfa:mg "law"=aa (.ref fa))
  (aC_Facts:rK K fH "Facts"=aa (aa (.ref C_Facts)))
  (aC_Grounds:rK K fH "Grounds"=aa (aa (.ref C_Grounds)))
  (aC_Shop:rK K fH "Shop"=aa (aa (.ref C_Shop)))
  (pg_Facts:oB K C_Facts ut=ak) (hd_Facts:p8 K C_Facts=ak) (po_Facts:ur K C_Facts=ak) (sa_Facts:cA K (.ref C_Facts) "__setattr__"=aa (aa (.builtin "object.__setattr__"))) (mk_Facts:p9 K C_Facts=ak) (kc_Facts:gf K (.ref C_Facts)=ak)
  (n0_Facts:cA K (.ref C_Facts) "grounds"=aa af)
  (n1_Facts:cA K (.ref C_Facts) "open_benches"=aa af)
  (n2_Facts:cA K (.ref C_Facts) "firsts"=aa af)
  (n3_Facts:cA K (.ref C_Facts) "lasts"=aa af)
  (n4_Facts:cA K (.ref C_Facts) "put_pairs"=aa af)
  (n5_Facts:cA K (.ref C_Facts) "notes"=aa af)
  (pg_Grounds:oB K C_Grounds ut=ak) (hd_Grounds:p8 K C_Grounds=ak) (po_Grounds:ur K C_Grounds=ak) (sa_Grounds:cA K (.ref C_Grounds) "__setattr__"=aa (aa (.builtin "object.__setattr__"))) (mk_Grounds:p9 K C_Grounds=ak) (kc_Grounds:gf K (.ref C_Grounds)=ak)
  (n0_Grounds:cA K (.ref C_Grounds) "told_shop"=aa af)
  (n1_Grounds:cA K (.ref C_Grounds) "kept_plan"=aa af)
  (n2_Grounds:cA K (.ref C_Grounds) "kept_most"=aa af)
  (n3_Grounds:cA K (.ref C_Grounds) "lengths"=aa af)
  (n4_Grounds:cA K (.ref C_Grounds) "job_names"=aa af)
  (n5_Grounds:cA K (.ref C_Grounds) "early_moments"=aa af)
  (n6_Grounds:cA K (.ref C_Grounds) "end_marks"=aa af)
  (n7_Grounds:cA K (.ref C_Grounds) "breaks"=aa af)
  (n8_Grounds:cA K (.ref C_Grounds) "known_gaps"=aa af)
  (pg_Shop:oB K C_Shop ut=ak) (hd_Shop:p8 K C_Shop=ak) (po_Shop:ur K C_Shop=ak) (sa_Shop:cA K (.ref C_Shop) "__setattr__"=aa (aa (.builtin "object.__setattr__"))) (mk_Shop:p9 K C_Shop=ak) (kc_Shop:gf K (.ref C_Shop)=ak)
  (n0_Shop:cA K (.ref C_Shop) "benches"=aa af)
  (n1_Shop:cA K (.ref C_Shop) "steps"=aa af)
  (n2_Shop:cA K (.ref C_Shop) "jobs"=aa af)
  (n3_Shop:cA K (.ref C_Shop) "setups"=aa af)
  (n4_Shop:cA K (.ref C_Shop) "links"=aa af)
  (n5_Shop:cA K (.ref C_Shop) "stocks"=aa af)
  (n6_Shop:cA K (.ref C_Shop) "horizon"=aa af)
  (n7_Shop:cA K (.ref C_Shop) "bench_by_name"=aa af)
  (n8_Shop:cA K (.ref C_Shop) "step_by_name"=aa af)
  (n9_Shop:cA K (.ref C_Shop) "setup_by_names"=aa af)
  (n10_Shop:cA K (.ref C_Shop) "job_by_step"=aa af)
  (a74:rK K fH "law"=aa (aa (.ref f74))) (l74:K.lookup f74=aa ⟨oc74,od74,.func (eS "law" "law" (eZ (top 76)) (c8 (top 76)) (aL (top 76)) .none kV74 dc74 pm74 an74 cd74 ct74),sl74⟩) (c74:m4 K cd74 "law"=ak) (k74:gf K (.ref f74)=ak)
  (V:Vd K mg C_Facts C_Grounds C_Shop)
 : ∃fd:lB,(∀(s:aI) (v:ax),qZ s fd ⟨[v],[]⟩ [("_law_script",v)])/\∀base:Heap,K.In base->base.Ns fH mg->FnOk l.prog w K mg base CX0 16 fa fd ["_law_script"] (vY K):=by
 have e:=hfa.symm.trans (rL X G a74);have e2:=Value.ref.inj (qI e);subst e2;have O_Facts:ClsOk .(a) K mg "Facts" C_Facts:=⟨by unfold Gam;rfl,⟨pg_Facts,hd_Facts,po_Facts,sa_Facts⟩,rL X G aC_Facts,mk_Facts,kc_Facts⟩;have cf_Facts:CF .(a) K "Facts" ji:=O_Facts.cf (dQ.mpr ⟨n0_Facts,(dQ.mpr ⟨n1_Facts,(dQ.mpr ⟨n2_Facts,(dQ.mpr ⟨n3_Facts,(dQ.mpr ⟨n4_Facts,(dQ.mpr ⟨n5_Facts,(Fu _)⟩)⟩)⟩)⟩)⟩)⟩);have O_Grounds:ClsOk .(a) K mg "Grounds" C_Grounds:=⟨by unfold Gam;rfl,⟨pg_Grounds,hd_Grounds,po_Grounds,sa_Grounds⟩,rL X G aC_Grounds,mk_Grounds,kc_Grounds⟩;have cf_Grounds:CF .(a) K "Grounds" wH:=O_Grounds.cf (dQ.mpr ⟨n0_Grounds,(dQ.mpr ⟨n1_Grounds,(dQ.mpr ⟨n2_Grounds,(dQ.mpr ⟨n3_Grounds,(dQ.mpr ⟨n4_Grounds,(dQ.mpr ⟨n5_Grounds,(dQ.mpr ⟨n6_Grounds,(dQ.mpr ⟨n7_Grounds,(dQ.mpr ⟨n8_Grounds,(Fu _)⟩)⟩)⟩)⟩)⟩)⟩)⟩)⟩)⟩);have O_Shop:ClsOk .(a) K mg "Shop" C_Shop:=⟨by unfold Gam;rfl,⟨pg_Shop,hd_Shop,po_Shop,sa_Shop⟩,rL X G aC_Shop,mk_Shop,kc_Shop⟩;have cf_Shop:CF .(a) K "Shop" zq:=O_Shop.cf (dQ.mpr ⟨n0_Shop,(dQ.mpr ⟨n1_Shop,(dQ.mpr ⟨n2_Shop,(dQ.mpr ⟨n3_Shop,(dQ.mpr ⟨n4_Shop,(dQ.mpr ⟨n5_Shop,(dQ.mpr ⟨n6_Shop,(dQ.mpr ⟨n7_Shop,(dQ.mpr ⟨n8_Shop,(dQ.mpr ⟨n9_Shop,(dQ.mpr ⟨n10_Shop,(Fu _)⟩)⟩)⟩)⟩)⟩)⟩)⟩)⟩)⟩)⟩)⟩);have V:Vw K mg C_Facts C_Grounds C_Shop:={V with O_Facts,cf_Facts,O_Grounds,cf_Grounds,O_Shop,cf_Shop};refine⟨eS "law" "law" (eZ (top 76)) (c8 (top 76)) (aL (top 76)) .none kV74 dc74 pm74 an74 cd74 ct74,fun s v=>.of_eq rfl,fun base _ _=>?_⟩;have FL:=vB (st:=top 76) l74 c74 k74;have ok:FnOk l.prog w K mg base CX0 16 fa _ ["_law_script"] (spF .(a) K 1 sg):=FL.okD (k:=15) fD (GI V fa);refine ok.imp fun vs H Q E hq=>?_;obtain⟨a,ns,rfl,hS,hlen,k⟩:=hq;exact⟨H,[.scr ns],.bl ak,ba.refl H,.cons (.scr hS) .nil,rfl,O9 ns hlen,fun v G' H' _ r=>by rw[r.bl_inv];exact k H'⟩
theorem walk {l:EN} {d:yz} {K:yy->aV} (hn:l.most=aa 63) (hdf:d.params.defaults=[])
  (hY:∀(w:df) (h:Heap),YP w h->(K w.params).In h)
  (F:∀(w:df) (mg:aj->au ax) (fa:aw) (h:Heap),(K w.params).In h->h.Ns fH mg->mg d.name=aa (.ref fa)->
   ∃fd:lB,(∀(s:aI) (u:ax),qZ s fd ⟨[u],[]⟩ [("_law_script",u)])/\∀base:Heap,(K w.params).In base->base.Ns fH mg->FnOk l.prog w (K w.params) mg base CX0 16 fa fd ["_law_script"] (vY (K w.params))) :
  Qo q loose XP YP l.row.toRowW d [] (fun f vs=>yA f vs):=
 L2.walk_of (n:=63) (k:=16) (x:="_law_script") (CX:=fun _=>CX0) (sp:=fun w=>vY (K w.params)) hn .(e) hdf ⟨rfl,by decide,by decide⟩ hY F (fun _ _ a ns hl _ hS=>⟨a,ns,rfl,hS,hl,fun _=>rfl⟩) fun _ _ _ _ _ z=>z
end Law
end L2
namespace PySem.W.Fast
def tw17258269213143174231:=()
def tw18111507406295782643:=()
def tw14681374851626367060:=()
def tw654524453624178819:=()
def tw7627573066828529098:=()
def tw6284397275508446585:=()
def tw16123202041226916110:=()
def tw17308045707638380263:=()
def tw9948809328218916065:=()
def tw12268949362021947711:=()
def tw8426632169325813242:=()
def tw4625157351078814071:=()
def tw16084565351451008870:=()
def tw13041455739450062253:=()
def tw4012514340399099742:=()
def tw13327194699134770214:=()
def tw16876715788421746498:=()
def tw8358301499010535719:=()
def tw13236791662285657376:=()
def tw6673944781137850933:=()
def tw7481104179976054496:=()
def tw114646582049216010:=()
def tw982056233329563410:=()
def tw8210106814701830215:=()
def tw1048554068099514875:=()
def tw9573179144251940377:=()
def tw759583793378535754:=()
def tw14871714975439553866:=()
def tw12162401356660700690:=()
def tw10848653790432121391:=()
def tw10474028448699005548:=()
def tw17001904851474424829:=()
def tw8725205123608389087:=()
def tw10712107637374164593:=()
def tw9953995943510238171:=()
def tw8888365905823956655:=()
def tw16283623889884512334:=()
def tw8282587003695132271:=()
def tw593005519588913134:=()
def tw16802259157952708183:=()
def tw16313365487385920959:=()
def tw10243828568820867166:=()
def tw6010755694692092440:=()
def tw2408733375287130430:=()
def tw215540555310740237:=()
def tw8095492005020800868:=()
def tw7012243684750579991:=()
def tw3463199396991623281:=()
def tw1302890345483800470:=()
def tw15185059502867601061:=()
def tw4425942189986002585:=()
def tw1658291419364152644:=()
def tw18304136277191805256:=()
def tw4811376678286529384:=()
def tw1852760330117657646:=()
def tw9412505432429232994:=()
def tw15112676735164521011:=()
def tw16683847989990620297:=()
def tw7476795479779273070:=()
def tw9673325962061932864:=()
def tw18191665690304958706:=()
def tw11691934774136985937:=()
def tw8837266586968049983:=()
def tw16942023821462214514:=()
def tw16379148228315983065:=()
def tw12220242928900660383:=()
def tw7851516010326078188:=()
def tw10221712076505339704:=()
def tw5302023148556236055:=()
def tw615853042322340877:=()
def tw3173289865005399824:=()
def tw4756006303776137572:=()
def tw10302390080395451413:=()
def tw16150090889131403192:=()
def tw6396425313379913996:=()
def tw16952416541317088363:=()
def tw10042096105930953637:=()
def tw13737639096581821081:=()
def tw14912571288295240351:=()
def tw371594139923615406:=()
def tw1884634493424924483:=()
def tw15353127773707800066:=()
def tw6350387890332344150:=()
def tw9736590782595252564:=()
def tw8538464348077643382:=()
def tw1772510958224632514:=()
def tw13437551691666151810:=()
def tw11848139006690549384:=()
def tw16464973752429830540:=()
def tw16316136073950054150:=()
def tw5075765560113407107:=()
def tw1785020342441184638:=()
def tw8005577775988456828:=()
def tw1390288908667519796:=()
def tw2631434189826642300:=()
def tw17590526377739665740:=()
def tw9052770612078496289:=()
def tw5001350933202837578:=()
def tw9067779154012525869:=()
def tw12343052254983946935:=()
def tw16718581152005611222:=()
def tw3415751858578812712:=()
def tw2678282464552312754:=()
def tw10386859098045281937:=()
def tw17651630876362253812:=()
def tw17798250507425662527:=()
def tw11835264215310448737:=()
def tw13483586855150064518:=()
def tw2771573585809679786:=()
def tw17164749186651366911:=()
def tw16952237618295881219:=()
def tw10447463400628636576:=()
def tw13787252192298803754:=()
def tw14405962368041540760:=()
def tw5377802504618048787:=()
def tw9352481785108917103:=()
def tw3575503278497886132:=()
def tw1416302235077912302:=()
def tw10510549449037353147:=()
def tw5933257319921268918:=()
def tw12964618227729060632:=()
def tw13722364091257371877:=()
def tw5434108414477282636:=()
def tw6054867891348942558:=()
def tw7037895034247623197:=()
def tw1531318383356639558:=()
def tw11992310359236435977:=()
def tw14458230109464177259:=()
def tw3807959270588317779:=()
def tw1263935837798569222:=()
def tw17657668816567804450:=()
def tw3857887413005302215:=()
def tw17875751127570216444:=()
def tw12706421824439567920:=()
def tw10612045434677444314:=()
def tw8617579607871645606:=()
def tw7280071879291414566:=()
def tw5962070731208852853:=()
def tw9346489770608568937:=()
def tw2049251189983690073:=()
def tw3075006814577882900:=()
def tw712773192202199359:=()
def tw14434336928446294616:=()
def tw9163973237273325993:=()
def tw4256027175632446783:=()
def tw8090856531624827500:=()
def tw6828423453174850664:=()
def tw5961683352241663171:=()
def tw2686840599377606588:=()
def tw11207484591190106316:=()
def tw12115679078924473530:=()
def tw7155568274291371101:=()
def tw17822060520075058304:=()
def tw5335423662303096783:=()
def tw15945105356286187441:=()
def tw9604966846838555859:=()
def tw11184168884110586996:=()
def tw10442847471538489360:=()
def tw10710050228980601844:=()
def tw1988359223327019816:=()
def tw12925949235129086424:=()
def tw8045051541227275198:=()
def tw9193161034959178536:=()
def tw7057348551059077572:=()
def tw14083215894875010949:=()
def tw3549854168418245629:=()
def tw6751443499768152556:=()
def tw9187731203983525285:=()
def tw7123383016839407379:=()
def tw11307228183014420285:=()
def tw9199474212758587305:=()
def tw3119104369737864263:=()
def tw294893653321324668:=()
def tw13062078724223193621:=()
def tw8060264484062543202:=()
def tw15702927745270911882:=()
def tw4109177403395886029:=()
def tw13896296917080437478:=()
def tw152236071479956955:=()
def tw3382197572428680687:=()
def tw17068857018072769834:=()
def tw14034088086241074396:=()
def tw7012096721091952110:=()
def tw5705521914253584931:=()
def tw139789378895867582:=()
def tw13880163015793604415:=()
def tw737926467868762193:=()
def tw11700486462765947934:=()
def tw11427643572768770538:=()
def tw4410482593102299356:=()
def tw12206779042077934844:=()
def tw7121657750707661782:=()
def tw16677071778589215838:=()
def tw6888953468579566809:=()
def tw14978436526144714611:=()
def tw3681979966285553396:=()
def tw9083648826574718521:=()
def tw2216524295413863849:=()
def tw2595701298150439395:=()
def tw3015799478485330142:=()
def tw1074211886098831438:=()
def tw7191705316976459840:=()
def tw1834792484980125376:=()
def tw17027469094748275914:=()
def tw13517502377894708591:=()
def tw2784568338147938451:=()
def tw4535089809641085804:=()
def tw16529390555452723360:=()
def tw9326457425456695644:=()
def tw16883818075810980126:=()
def tw838150409096764923:=()
def tw11489823290094871364:=()
def tw790534418317217495:=()
def tw12722959115545514629:=()
def tw18428326230103301675:=()
def tw11490015755230019725:=()
def tw18279334924550228284:=()
def tw13805610816543273674:=()
def tw10472150781463539855:=()
def tw11701927828005773024:=()
def tw14611453239194041165:=()
def tw351748369346326524:=()
def tw14534042521381181059:=()
def tw2836010395343271031:=()
def tw5576126337567055526:=()
def tw14949058236013938196:=()
def tw11239930638869771035:=()
def tw12372275323176087724:=()
def tw9626835541255715404:=()
def tw17489557382690080816:=()
def tw7339197158015886582:=()
def tw14965654335435576734:=()
def tw2682400287891365675:=()
def tw3324555548395578325:=()
def tw5062912556629166494:=()
def tw15087011684223820449:=()
def tw13532522447064388938:=()
def tw13387761608951181670:=()
def tw17029952138023825230:=()
def tw15835043911061563777:=()
def tw7526048183715153656:=()
def tw11759165275932915263:=()
def tw9717325531581186499:=()
def tw9920645897132776502:=()
def tw6745420177160432676:=()
def tw831894239105349043:=()
def tw16503889120964295993:=()
def tw1250487656043041154:=()
def tw15533013436898545907:=()
def tw3233534148541921973:=()
def tw3435400656367194498:=()
def tw9531468584147605437:=()
def tw10211329780571053343:=()
def tw9812532621795356391:=()
def tw9861803423585258766:=()
def tw6348330164648926259:=()
def tw15131470608531194495:=()
def tw17554539407004360141:=()
def tw2757521382495661413:=()
def tw6184895122106487214:=()
def tw6201853061796158561:=()
def tw17967010008202229075:=()
def tw12356806298331521273:=()
def tw1415962030619922010:=()
def tw14861232630126964337:=()
def tw8328573128118894892:=()
def tw11618804789845840856:=()
def tw5624098452496095859:=()
def tw13154734487422931867:=()
def tw5631671591221038413:=()
def tw10690830291804241818:=()
def tw3979353910175121187:=()
def tw1565812547087493206:=()
def tw2543885488563384052:=()
def tw9996532038401940169:=()
def tw5627981179325213873:=()
def tw14096069092229869999:=()
def tw6663393222842441666:=()
def tw6955268111084583008:=()
def tw11389522945092545118:=()
def tw14734861158716468148:=()
def tw10753365934075249920:=()
def tw1630970998028859274:=()
def tw10708628488923987269:=()
def tw456383676509799021:=()
def tw300328074911460985:=()
def tw14025946615196754006:=()
def tw10864775236687740594:=()
def tw3622402192468117068:=()
def tw15383853525236847577:=()
def tw17029052345216101441:=()
def tw17175960712335858822:=()
def tw1278264798546994430:=()
def tw1633572113118651358:=()
def tw12681999241760745714:=()
def tw2363321540160757827:=()
def tw18103683297606120232:=()
def tw1728804994666423891:=()
def tw11890421806527175733:=()
def tw10312458850917603509:=()
def tw2714751724897129722:=()
def tw18158951030783455995:=()
def tw851978180232108492:=()
def tw7718395374505558007:=()
def tw6000739044007417768:=()
def tw4451308947812389453:=()
def tw5235501108930928549:=()
def tw4466286816371198846:=()
def tw15358621605408208673:=()
def tw5482676592251568403:=()
def tw10921818503564987774:=()
def tw12438354537551304318:=()
def tw6755044707364365753:=()
def tw15732742234823522851:=()
def tw16495381944418960247:=()
def tw12786369942416243778:=()
def tw11385387179218154031:=()
def tw7399722143951389107:=()
def tw8367839597358707735:=()
def tw10962873863255787079:=()
def tw5761398604338441954:=()
def tw6912984480344972677:=()
def tw1491139523595493816:=()
def tw10985025261713571632:=()
def tw15825021806441387663:=()
def tw12984540615937721013:=()
def tw15633066962011087505:=()
def tw15664618960085649003:=()
def tw16043090971966423163:=()
def tw3907541572690314783:=()
def tw19450876751955551:=()
def tw12052810186218469472:=()
def tw14849938278255828774:=()
def tw12735020852264950903:=()
def tw10051741407604348436:=()
def tw2737310208283190518:=()
def tw10799989686925576471:=()
def tw7300232900182107063:=()
def tw9658469149922021014:=()
def tw10329579465476152670:=()
def tw13648099684153937300:=()
def tw15101405834665170174:=()
def tw6375393703312773450:=()
def tw14434252921017344574:=()
def tw2563471536475819772:=()
def tw1603025757843963850:=()
def tw15137403349092770595:=()
def tw4975297752337772930:=()
def tw18093740103965264816:=()
def tw3467946819562079010:=()
def tw2491102198414025182:=()
def tw16020020389914491801:=()
def tw15443846677811913259:=()
def tw16306754092290516682:=()
def tw1184210288416093118:=()
def tw8385503463490226103:=()
def tw10066893452717785998:=()
def tw4650776453614311289:=()
def tw15678942938312661527:=()
def tw8518611991830667037:=()
def tw2244852943120867360:=()
def tw18063759663316687396:=()
def tw12672561929136252117:=()
def tw10952998080814559048:=()
def tw946550231579073222:=()
def tw2676681790491424627:=()
def tw13714845453948576584:=()
def tw14360128426380203259:=()
def tw11091569932363894373:=()
def tw15291060971970991180:=()
def tw16923939821408256513:=()
def tw7581449463902728032:=()
def tw18102476347848240870:=()
def tw11283420700749835663:=()
def tw11043882534539588458:=()
def tw14999710588698711390:=()
def tw16867783183937184785:=()
def tw10962531610176863620:=()
def tw17113923421455967192:=()
def tw3974751536874375998:=()
def tw11165021391784774446:=()
def tw12649517409057455686:=()
def tw17677988541264387081:=()
def tw3430543289721411869:=()
def tw1919954117628443134:=()
def tw2011705954748338837:=()
def tw15037063104375187989:=()
def tw11710220106505754068:=()
def tw17298099062718422428:=()
def tw1341185846088956409:=()
def tw5808670121000843137:=()
def tw7318965153553563106:=()
def tw17087807233036295954:=()
def tw15180958730273703511:=()
def tw4863462807130022533:=()
def tw2211755086995367292:=()
def tw8472008802991026831:=()
def tw7726558214080842658:=()
def tw4778117745014511556:=()
def tw1908531920851167897:=()
def tw11457671458147917672:=()
def tw6948784165109106140:=()
def tw4666768749112089900:=()
def tw10052488992431402838:=()
def tw5983884765049597255:=()
def tw863648269184803135:=()
def tw15359168765689627134:=()
def tw15143782408961845829:=()
def tw2941378277279589560:=()
def tw13334572331451878853:=()
def tw7081167840061285500:=()
def tw16773151174904833738:=()
def tw936502442536238319:=()
def tw10372484935958498869:=()
def tw9867494070787524381:=()
def tw11913204732712999259:=()
def tw13307299458832757345:=()
def tw11693797234918655214:=()
def tw15132925711710511164:=()
def tw17129051249748930816:=()
def tw8849455833434179828:=()
def tw7069274398112005137:=()
def tw12702957431068237271:=()
def tw5004722924324051218:=()
def tw14107798407868451588:=()
def tw6894836030981453588:=()
def tw8085204156228418099:=()
def tw7653867730253369937:=()
def tw498755123028105096:=()
def tw5356678783867896173:=()
def tw14713445111067671174:=()
def tw3243446244096886321:=()
def tw1884670288878072542:=()
def tw5018450467386171037:=()
def tw8335228834501581232:=()
def tw16124196564665999641:=()
def tw13291000302504311049:=()
def tw16487067898739534061:=()
def tw6354209019535331615:=()
def tw113237335789748436:=()
def tw9240581777544065939:=()
def tw15412586013586110250:=()
def tw10840863623325717715:=()
def tw5642761116226899214:=()
def tw10716154155497649923:=()
def tw5502749419686770361:=()
def tw4855722770121727015:=()
def tw9081915667495734878:=()
def tw16090379651875530667:=()
def tw8511508994916882467:=()
def tw3950912642018468383:=()
def tw2788977729161812073:=()
def tw7690860959862847436:=()
def tw10794955701552409666:=()
def tw13461529237072631927:=()
def tw10620787547297278832:=()
def tw7386678106176295731:=()
def tw14067331661727903834:=()
def tw11284132797616612682:=()
def tw13630095627489616353:=()
def tw5542203150876049537:=()
def tw11101986022828252352:=()
def tw7010846210295852962:=()
def tw12502977609670796897:=()
def tw17213350272575118642:=()
def tw4944168046114402019:=()
def tw1925989089984630399:=()
def tw13064294741211379064:=()
def tw2280794286875655680:=()
def tw5154974977418146144:=()
def tw9343149988373719716:=()
def tw3142521855004635028:=()
def tw17156467254882830957:=()
def tw8880762614447790931:=()
def tw7656147935923224009:=()
def tw13962121200102789644:=()
def tw14610351060005022089:=()
def tw1073100146216947569:=()
def tw6068550142935009025:=()
def tw5695046796307081393:=()
def tw1126196946160713297:=()
def tw3895470855549607559:=()
def tw14194390907428960031:=()
def tw13002467515327119539:=()
def tw11372350870453819913:=()
def tw12748417352047102855:=()
def tw14153448812582870294:=()
def tw17291932258501337151:=()
def tw10460582414341469234:=()
def tw786366818708292494:=()
def tw10537488730477756066:=()
def tw16432793071715152889:=()
def tw13531661890762055300:=()
def tw15417518181363928867:=()
def tw3887185667682644581:=()
def tw8814133554786939747:=()
def tw2794940389934029392:=()
def tw16424089954273027697:=()
def tw7986540371456403544:=()
def tw13279881314339611743:=()
def tw4384870912043321565:=()
def tw16703421496106203562:=()
def tw8923728361927259379:=()
def tw596417189219883105:=()
def tw7605201159984978996:=()
def tw2299699723674308366:=()
def tw18225158493879809772:=()
def tw8865392506745738764:=()
def tw6655008226250529061:=()
def tw15562773374014705607:=()
def tw3476551536180804215:=()
def tw2936197589857181114:=()
def tw18007347984403851732:=()
def tw6446725636618629546:=()
def tw1392915381765445701:=()
def tw11377288774763085949:=()
def tw3055032719563243277:=()
def tw13875356707859474959:=()
def tw12417105014962300109:=()
def tw13196913345144087855:=()
def tw12725014139768366899:=()
def tw14761406396370072494:=()
def tw1956995583746381935:=()
def tw3259341033223136279:=()
def tw10514223507724602063:=()
def tw729144427815853807:=()
def tw7534762471813311904:=()
def tw16436364176750072190:=()
def tw15129853785416276865:=()
def tw11693159433566745542:=()
def tw10373939998146681976:=()
def tw2038314453708715186:=()
def tw15107462936858637763:=()
def tw15685682952924969317:=()
def tw13041256032562602305:=()
def tw15199473324277002187:=()
def tw14113317006875930725:=()
def tw6834233766705977498:=()
def tw4472995880596322058:=()
def tw16509000198016781037:=()
end PySem.W.Fast
open PySem PySem.W PyProof.Rows L2
set_option maxRecDepth 100000 in
set_option maxHeartbeats 0 in
theorem PySem.Challenge.cw_shopbound_k33_ahead_and_gaps_holds : PySem.Challenge.rw_shopbound_k33_ahead_and_gaps.Holds := by
 w_on;o_law;k_head;(case hw=>w_witness2)
 k_fill
 refine Law.walk (l:=Sy) rfl rfl (fun w h Y=>PySem.W.kIn_of Y) ?F
 case F=>
  intro w mg fa h KX G hmg
  refine' Law.all_mk KX G hmg ?aC_Facts ?aC_Grounds ?aC_Shop ?pg_Facts ?hd_Facts ?po_Facts ?sa_Facts ?mk_Facts ?kc_Facts ?n0_Facts ?n1_Facts ?n2_Facts ?n3_Facts ?n4_Facts ?n5_Facts ?pg_Grounds ?hd_Grounds ?po_Grounds ?sa_Grounds ?mk_Grounds ?kc_Grounds ?n0_Grounds ?n1_Grounds ?n2_Grounds ?n3_Grounds ?n4_Grounds ?n5_Grounds ?n6_Grounds ?n7_Grounds ?n8_Grounds ?pg_Shop ?hd_Shop ?po_Shop ?sa_Shop ?mk_Shop ?kc_Shop ?n0_Shop ?n1_Shop ?n2_Shop ?n3_Shop ?n4_Shop ?n5_Shop ?n6_Shop ?n7_Shop ?n8_Shop ?n9_Shop ?n10_Shop ?a74 ?l74 ?c74 ?k74 ?V
  (case aC_Facts=>k_is)
  (case aC_Grounds=>k_is)
  (case aC_Shop=>k_is)
  (case pg_Facts=>k_is)
  (case hd_Facts=>k_is)
  (case po_Facts=>k_is)
  (case sa_Facts=>k_is)
  (case mk_Facts=>k_is)
  (case kc_Facts=>k_is)
  (case n0_Facts=>k_is)
  (case n1_Facts=>k_is)
  (case n2_Facts=>k_is)
  (case n3_Facts=>k_is)
  (case n4_Facts=>k_is)
  (case n5_Facts=>k_is)
  (case pg_Grounds=>k_is)
  (case hd_Grounds=>k_is)
  (case po_Grounds=>k_is)
  (case sa_Grounds=>k_is)
  (case mk_Grounds=>k_is)
  (case kc_Grounds=>k_is)
  (case n0_Grounds=>k_is)
  (case n1_Grounds=>k_is)
  (case n2_Grounds=>k_is)
  (case n3_Grounds=>k_is)
  (case n4_Grounds=>k_is)
  (case n5_Grounds=>k_is)
  (case n6_Grounds=>k_is)
  (case n7_Grounds=>k_is)
  (case n8_Grounds=>k_is)
  (case pg_Shop=>k_is)
  (case hd_Shop=>k_is)
  (case po_Shop=>k_is)
  (case sa_Shop=>k_is)
  (case mk_Shop=>k_is)
  (case kc_Shop=>k_is)
  (case n0_Shop=>k_is)
  (case n1_Shop=>k_is)
  (case n2_Shop=>k_is)
  (case n3_Shop=>k_is)
  (case n4_Shop=>k_is)
  (case n5_Shop=>k_is)
  (case n6_Shop=>k_is)
  (case n7_Shop=>k_is)
  (case n8_Shop=>k_is)
  (case n9_Shop=>k_is)
  (case n10_Shop=>k_is)
  (case a74=>k_is)
  (case l74=>k_is)
  (case c74=>k_is)
  (case k74=>k_is)
  (case V=>constructor;(case d29=>refine' DfnMD.mk' ?xa ?xi ?xl ?xc ?xk ?xt ?xd ?xv;(case xa=>k_is);(case xi=>k_is);(case xl=>k_is);(case xc=>k_is);(case xk=>k_is);(case xt=>k_is);(case xd=>rfl);(case xv=>exact .cons rfl (.cons rfl (.cons ⟨_,rfl⟩ (.cons ⟨_,rfl⟩ .nil)))));all_goals first|(refine' Dfn.mk' KX G ?a ?l ?c ?k;(case a=>k_is);(case l=>k_is);(case c=>k_is);(case k=>k_is))|(refine' DfnM.mk' ?a ?i ?l ?c ?k;(case a=>k_is);(case i=>k_is);(case l=>k_is);(case c=>k_is);(case k=>k_is))|(refine' PySem.W.mg_none_of KX G ?a;(case a=>k_is))|(refine' Law.tkI_of KX G ?a;(case a=>k_is)))
end
end
