import PyProof.Rows.All
import Wide.All
import OpenK.AllK
import Wide.FinOn
import Lean
import PyProof.EqAt
import PyProof.EqKinds
import PyProof.TupleCall
import PySem.SetOps
import KE.KDictOf
import PyProof.AttrMiss
import PyProof.IsiH_list
import PyProof.WalkInts
import KE.KMinBuiltin
import PyProof.Rows.CallKwBuiltin
import KE.KEqDict
import KE.KItemsList
import KE.KDictSum
import KE.KRevSl
import PyProof.Rows.SortStr
import PyProof.Rows.SortWalk
import PyProof.DictWalks
import KE.KTryMore
import PyProof.NsDelKeeps
import PyProof.ExcAttrAll.ValueError
import PyProof.StrReplace2
import PyProof.ReprStr
import PyProof.Rows.RuleU_int
import PyProof.InstStoreFacts
import PyProof.ExcInit
import PyProof.MinMaxWalk
import PyProof.StrCalls
import PyProof.Rows.SumAny
import PyProof.ZipIter
import PyProof.StrLawsTight
import KE.KIntText
import PySem.Challenge.RW_shopbound_k55_trees_read
set_option Elab.async false
set_option linter.all false
set_option maxRecDepth 100000
open Option renaming some->aa,none->ac,map->yR,isSome_iff_exists->E3,getD_none->PF,join_some->Qg,getD_some->Qh
open _root_ renaming List->ab,Nat->ag,Int->aj,Option->aq,Bool->aU,absurd->bx,Array->b9,congrArg->c7,if_true->dn,if_false->dF,DecidableEq->fj,beq_iff_eq->lG,Unit->mI,not_or->mT,beq_eq_false_iff_ne->n8,decide_eq_true_eq->vn,and_self->zq,of_decide_eq_true->Fv,ne_true_of_eq_false->FY,instBEqOfDecidableEq->Qu,decide_eq_false_iff_not->QV
open PySem renaming Str->ah,Addr->au,Value->av,Shared->aB,wpAny->aE,starEach->aH,sizeLine->aK,model->aO,Obj->bf,tupleKeyHash->bG,backTo->ca,Env->cM,World->cS,Around->dj,Program->dD,cLine->dO,compareOp->eD,swapsWith->eE,mainGlobals->eW,Pos->fm,holding->fD,bindArgs->fZ,binaryOp->gB,backToKw->gC,keywordEach->gD,sizeLine_eq->g8,NameKind->g9,Sem->il,wpAny_mono->im,wpAny_holding->ip,standAt->iQ,codeAny->iS,attributeBase->iU,Keyword->iV,IsPair->iY,behindInMarks->jI,assign->jJ,assignEach->jK,wpAny_field->jM,bootBuiltins->ky,foldedSetIterable->kA,getMethod->kC,sysModules->lD,wpAny_truthy_bool->lE,pyNext->lF,callWith->lI,bindL->lJ,bindC->lK,SetTable->lO,wpAny_seqItems->lP,IsZip->lQ,tupleKind->mG,FuncData->mJ,mem_of_lookup->mK,IsPart->mL,typeIs_str->mM,atKey->mN,callerA->mP,wpAny_passesOwn->oa,rawInt->oe,wpAny_pyIter_list->og,Result->oh,wpAny_newObj_type->oj,sliceBounds->om,call_meets->oq,GenState->rF,BindsTo->rK,codeAny_mono->rL,field->so,Model->uW,PassesOwn->uX,letOwnedTupleGo->uZ,pyIter->u0,getItem->vc,wpAny_typeOf->vd,PyData->vm,setAdd->vt,codeAny_builtin->vw,wpAny_setState_of->vx,wpAny_execs_nil->yr,lastMarks->yv,wpAny_call->yA,wpAny_Call_Name_kw->yB,cellsFrom->yC,pick_run->yE,wpAny_callSpecial?_slot->yF,wpAny_call_entry->yG,Params->yL,DefRec->yM,call->yN,relabel->yP,setSearchFrom->zd,wpAny_of_eq->zh,wpAny_setField_rec->zn,Within->EG,builtinsNs->EI,wpAny_Name->EK,wpAny_standAt->EM,swapsWithSole->EN,swappedStores->EO,Operator->EQ,IntMulOk->ER,typeLookup->E7,seqIndex_of->Fb,slot_list_getitem->Fc,typeIs_int->Fe,PlainAttrs->Ff,compEnvC->Fj,wpAny_pyIter_tuple->Fu,plainId_quiet->FJ,wpAny_forIn_list->FM,ofAClassStatement->FN,scanBound->FU,wpAny_attempt->FV,wpAny_isInstance->FW,wpAny_rule->FX,ZipApart->F3,wpAny_isTrue_Compare1->Pg,wpAny_execs_cons->Pi,wpAny_assign_Name->Pj,sliceRange_one->PH,wpAny_getItem_list_slice->PJ,wpAny_comprehension_free->P0,Slot->P3,codeAny_call_builtin->Qn,carriedByValue->Qp,searchCouldBeSeen->Qq,wpAny_eqIsQuiet_tuple->Qr,wpAny_storeSet_of->Qt,typeLookup_type->Qv,builtinLookup_eq_fast->Qw,getAttrByItsOwn->Qx,boundAndCalled->Qy,getattributeRaised->Qz,slot_listiter_next->QG,wpAny_setField->QI,firstArgMember->QM,wpAny_updateSeq_pair->QO,wpAny_pyIter_zip->QT
open Bool renaming true->ai,false->ao,and_eq_true->hG,not_true->iy,not_false->oz,eq_iff_iff->rG,or_eq_true->Fm,eq_false_iff->FH,true_and->FO,and_false->PK,not_eq_true'->QU
open PySem.W renaming Frag->aR,findIn->dE,fnOf->eO,keepIn->fY,kia_one->jL,emptyDict->lH,instObj->mH,plainGet->rJ,codeIn->rO,nsIn->sd,mg_of->se,hasDictIn->u3,isFn->u4,makesIn->u5,lookIn->yw,plainOver->yx,methodObj->EH,plainGet_of->ET,takerIn->EU,methodCall_KW->EV,callWith_K->EZ,fd_plain->Fh,OpenLaw->Fi,handedIn->Pm,kitOne->Pn,kitx_list->Po,kitx_dict->Pp,cellsFrom_some->Pt,WalkO->PY
open Or renaming inr->bT,inl->cz
open List renaming replicate->bY,mem_singleton->ce,mem_map->cY,range->di,lookup->dN,mem_cons->eC,append_nil->eX,mem_range->fX,map_append->f9,mem_append->gz,getElem?_eq_some_iff->gA,length->gE,forall_mem_cons->hU,getElem?_set_self->ik,length_drop->iq,map_map->iz,lookup_cons->kE,replicate_succ->lL,foldl_cons->lM,drop_zero->lN,take_length->mU,set_cons_zero->mW,take_sublist->oi,flatten_cons->oo,drop_eq_getElem_cons->ou,take_add_one->oA,nodup_cons->rN,find?_cons->rR,any_cons->rS,all_eq_true->rY,drop_length->rZ,getElem?_drop->si,mem_map_of_mem->sq,getElem?_replicate->u7,getElem?_take_of_lt->u8,take_of_length_le->vh,mem_iff_getElem?->vj,pairwise_map->vq,getElem?_eq_getElem->vy,set_set->vD,drop_drop->vE,mem_filterMap->yu,reverse_cons->yI,getElem?_eq_none->yQ,mem_of_mem_take->y6,take->y7,foldl_append->zc,take_succ->zf,set_cons_succ->zt,filterMap_cons->EJ,of_mem_zip->E2,foldl->Fg,mem_iff_getElem->Fp,getD->Fq,nodup_range->FC,mem_of_mem_drop->FF,map_congr_left->F6,getElem?_inj->F7,drop_left->F9,mem_filter->Pa,mem_append_left->Pb,any_eq_false->Pk,length_set->PD,forIn_cons->PZ,append_inj'->P2,getElem_mem->P4,getElem?_zip_eq_some->P5,pairwise_iff_getElem->P8,take_append_drop->Qb,drop_sublist->Qc,nodup_iff_pairwise_ne->Qe,filterMap_cons_some->Qj,length_tail->QD,getElem?_toArray->QL,nodup_append->QX,map_inj_right->QY,map_id'->QZ,getElem_range->Q0,drop_of_length_le->Q2,map_drop->Q3,sublist_append_left->Q4,take_left->Q6,forall_mem_nil->Rc
open PySem.Value renaming ref->cG,bool->lA,type->lC,none->mE,int->uT,str->uU,float->EF,isInt->O7,isStrOf->O8,bytes->O9
open PySem.SetTable renaming below->cN,runEnd->dG,insertAt->dH,bits->fE,leap->iW,turns->mR,sizeAbove->oy,tooFull->vz,fresh->vA,Probe->y0,grown->y9,has->Fz,fits->FB,slot->P',fill->Qa,layClean->Qi
open PyProof.Rows renaming envOfC->dP,AllBare->kz,IntsAre->rT,callWith_type1->yt,UnaryOp_->EL,slot_tuple_getitem->E5,Subscript_->E8,subscriptTail->E9,tail_any->Fa,isnot_none_gen->Pf,slicePart_none->Pu,subscriptTail_builtinR->Py,tDigits_len_ge->Ra,digits10_le->Rb,callWith_builtin1->RV,neg_int->R8,boot_zip->Sb,digit_range->Sh
open Ne renaming symm->em
open Sum renaming inr->eI,inl->n6
open Nat renaming zero_le->fu,lt_or_ge->iu,le_add_right->iX,lt_trans->mO,toDigits->mX,le_of_lt->n9,lt_irrefl->rE,ne_of_gt->uY,lt_succ_self->u6,min_le_right->u9,min_eq_left->vo,zero_add->vF,le_of_eq->yz,succ_mul->yK,succ_pos->yW,mod_lt->yX,le_succ->E1,not_lt->Fk,add_assoc->Fw,lt_succ_iff->Fx,not_lt_zero->Fy,lt_succ_of_lt->FK,mul_le_mul_right->F2,mul_comm->PN,strongRecOn->P7,lt_trichotomy->P9,min_def->Q1,add_sub_cancel'->Q7,eq_zero_or_pos->Q9
open PySem.PyData renaming eqv->f8,canLay0->jN,canLayAll0->kF,depth->lR,depthAll->ox,eqvAll->vH,strOk->F4,str->F5,int->P6
open PySem.Str renaming length->gF,join->lS,ofString->rQ,empty->yy,length_append->Q5
open PySem.SeqAt renaming shaped->gG
open PySem.PassesOwn renaming never->gH
open False renaming elim->io
open List.cons renaming inj->ir
open Array renaming getElem?_eq_some_iff->iw,length_toList->iR,getD_eq_getD_getElem?->yZ,mem_toList_iff->ES,toList->Ph,replicate->Qd,filterMap->Qk,forIn_toList->Qo
open PySem.Heap renaming SameBut->iP,size_push->iT,dictOf_iff->zi,get?_update_self->Fd,get?_update_other->Pz,IsList->QR,IsTuple->QS
open PySem.Builtin.Str renaming occurrences->kB,strKind->vB,strSliceIndices->yS,strSub->zu,partsBetween->QC,tooLong->R1,glued->Sf
open True renaming intro->kD
open PySem.Txt renaming split->kG,startswith->mV,join->rW,slice->Fn
open PySem.NameKind renaming free->mQ,cell->yO
open PySem.F renaming called_set->mS,slot_list_append->vf,plainAttrs_list->vi,type_list_append->yT,slot_list_getattribute->zg,slot_str_split->zj,plainAttrs_str->zp,entry_str_split->FZ,args_str_split_2->F0,slot_list_extend->PL,slot_int_rmul->PM,slot_str_index->QB,slot_str_startswith->QE,slot_tuple_iterator_next->QH,slot_zip_next->QQ
open ToString renaming toString->rH
open ForInStep renaming yield->rV
open PySem.SetTable.layClean renaming free->sj
open PySem.Builtin.SmallTypes renaming nextOf->sk,ownedTupleIsFree->QN,ownedTupleHandOut->QP
open Sum.inr renaming inj->uV
open PySem.Obj renaming mapSeq->ve,putSet->FP,data_mapFields->QJ
open ForIn renaming forIn->vg
open PySem.StrLaws renaming At->vG
open PySem.Builtin.Slice renaming slicePlaces->yD,sliceAdjust->E4,sliceApplied->Pv,slicePartIndex->RX,sliceFields->RY
open PySem.Builtin.Tuple renaming tupleExact->yH,tupleItemsOf->RZ
open PySem.Builtin.List renaming listTooLong->yJ,listFitsIndex->R0
open Int renaming emod_nonneg->yU,emod_lt_of_pos->yV,le_refl->F8,toNat_of_nonneg->F',toNat_natCast->QK
open PySem.SetTable.below renaming go->yY
open PySem.Around renaming under_plainId->za,under->EX
open PySem.Shared renaming TypeIs->zb,heap->zo
open PySem.Heap.SameBut renaming update->ze,refl->P1
open Classical renaming choose_spec->zk,choose->zl,propDecidable->F1
open PySem.Builtin.Int renaming intBits->zm,intTooBig->R9
open List.Pairwise renaming map->zr,nil->PX,imp_of_mem->Qf,filterMap->R3
open PySem.Code renaming isFrame->EY,frames->Ps
open LawfulBEq renaming eq_of_beq->E6
open PySem.Walks renaming list->Ft
open PySem.SetTable.probe renaming go->FD
open PyProof.Rows.F renaming plain_set_update_loop->FI,entry_set_update_loop->Ql
open PySem.Calls renaming Name_function_global->Pc
open PySem.CmpOp renaming In->Pd,NotIn->Pe
open PySem.Heap.IsSliceOf renaming new->Pw
open PyProof.Rows.IsTup renaming new->Px
open PySem.Heap.DictOf renaming new->PP
open PySem.W.WData renaming int->PQ
open PySem.W.WShape renaming has->PR
open PySem.W.Dflts renaming none->PU,noKw->PV
open PySem.Moved renaming trans->Qm
open Prod.mk renaming inj->Qs
open PySem.Builtin.Dict renaming updateFrom->QA,addKeywords->R5,pairItems->R6,selfAndRest->R7
open PySem.Expr renaming Name->QF
open List.Lex renaming rel->QW
open Char renaming toNat->Q8
open Option.some renaming inj->Rn,injEq->Sd
open PySem.Builtin.Range renaming rangeSize->Ro
open PySem.EqNone renaming eq_none_none->Rp,eq_none_bool->Rq,eq_none_int->Rr,eq_none_str->Rs,eq_bool_none->Rt,eq_int_none->Rv,eq_str_none->Rx,ne_none_none->RC,ne_none_bool->RD,ne_none_int->RF,ne_none_str->RG,ne_bool_none->RH,ne_int_none->RK,ne_str_none->RM
open PySem.EqMixed renaming eq_bool_str->Ru,eq_int_str->Rw,eq_str_bool->Ry,eq_str_int->Rz,ne_bool_str->RJ,ne_int_str->RL,ne_str_bool->RN,ne_str_int->RP
open PySem.W.Looks renaming here->RQ
open PySem.Within renaming cons->RU
open PySem.Builtin.Frozenset renaming updateFrom->R4
open PySem.Heap.IsList renaming push->R'
open PySem.Heap.IsTuple renaming push->Sa
open PySem.Challenge renaming pw_shopbound_k55_trees_read->Sc,rw_shopbound_k55_trees_read->Sj
open List.Sublist renaming nodup->Se
open PySem.W.KIN renaming signs_num->Sg,val_back->Si
theorem oBd {α:Type u} {β:Type v} {o:aq α} {f:α->aq β} {b:β} (h:o.bind f=aa b):∃a,o=aa a/\f a=aa b:=Option.bind_eq_some_iff.mp h
theorem oMd {α:Type u} {β:Type v} {o:aq α} {f:α->β} {b:β} (h:o.map f=aa b):∃a,o=aa a/\f a=b:=Option.map_eq_some_iff.mp h
noncomputable section
section
open PySem PySem.Spec PyProof.Rows
noncomputable def qa:=@Option.bind_some
noncomputable def qb:=@List.getElem?_cons_zero
noncomputable def qc:=@List.getElem?_cons_succ
noncomputable def qd:=@Option.map_some
noncomputable def qe:=@List.length_map
noncomputable def qf:=@List.mem_cons_self
noncomputable def qg:=@List.mem_cons_of_mem
noncomputable def qh:=@List.length_cons
noncomputable def qk:=@List.length_append
noncomputable def ql:=@List.getElem?_map
noncomputable def qm:=@List.length_nil
noncomputable def qp:=@List.map_cons
noncomputable def qr:=@List.cons_append
noncomputable def qu:=@Bool.false_eq_true
noncomputable def qv:=@Bool.false_ne_true
noncomputable def qw:=@Heap.get?_push_of_some
noncomputable def qx:=@Heap.lt_size
noncomputable def qy:=@Nat.le_refl
noncomputable def qA:=@List.append_assoc
noncomputable def qB:=@wpAny_bind
noncomputable def qC:=@List.getElem?_set_ne
noncomputable def qD:=@List.getElem?_append_left
noncomputable def qE:=@wpAny_pure
noncomputable def qF:=@List.size_toArray
noncomputable def qG:=@Nat.ne_of_lt
noncomputable def qH:=@List.length_take
noncomputable def qI:=@Nat.lt_of_lt_of_le
noncomputable def qJ:=@Heap.get?_push_size
noncomputable def qK:=@Rn
noncomputable def qL:=@Array.getElem?_toList
noncomputable def qM:=@List.not_mem_nil
noncomputable def qN:=@List.getElem?_append_right
noncomputable def qO:=@eC
noncomputable def qP:=@Nat.le_trans
noncomputable def qQ:=@decide_eq_false
noncomputable def qR:=@List.map_nil
noncomputable def qS:=@List.mem_of_getElem?
noncomputable def qT:=@List.mem_append_right
noncomputable def qU:=@List.nil_append
noncomputable def qV:=@decide_eq_true
noncomputable def qW:=@List.length_range
noncomputable def qX:=@List.length_singleton
noncomputable def qY:=@if_pos
noncomputable def qZ:=@if_neg
end
section
namespace L2
open PySem PySem.Spec PyProof.Rows
abbrev Key:=Sum aj ah
noncomputable def m6:Key->av->aU
 |.inl k,v=>O7 k v
 |.inr x,v=>O8 x v
noncomputable def HW (w:cS):Key->aj
 |.inl k=>hashInt k
 |.inr x=>hashStr w x
theorem ji:∀{k:Key} {v:av},m6 k v=ai->(∃i t,k=n6 i/\v=uT i t)\/(∃x t,k=eI x/\v=uU x t)
 |.inl i,v,h=>by
  obtain⟨t,e⟩:=Value.isInt_shape (k:=i) (v:=v) h;exact .inl ⟨i,t,rfl,e⟩
 |.inr x,v,h=>by obtain⟨t,e⟩:=Value.isStrOf_shape (x:=x) (v:=v) h;exact .inr ⟨x,t,rfl,e⟩
theorem Mw (i:aj) (t:Tok):m6 (.inl i) (.int i t)=ai:=by simp[m6,O7]
theorem Mn (x:ah) (t:Tok):m6 (.inr x) (.str x t)=ai:=by simp[m6,O8]
theorem Hd (a b:aj):decide ((n6 a:Key)=n6 b)=(a==b):=by
 by_cases e:a=b
 .subst e;simp
 .have h:¬(n6 a:Key)=n6 b:=fun q=>e (Sum.inl.inj q);rw[qQ h];exact(n8.mpr e).symm
theorem Kh (a b:ah):decide ((eI a:Key)=eI b)=decide (a=b):=by
 by_cases e:a=b
 .subst e;simp
 .have h:¬(eI a:Key)=eI b:=fun q=>e (uV q);rw[qQ h,qQ e]
theorem LA (a:aj) (b:ah):decide ((n6 a:Key)=eI b)=ao:=qQ (fun q=>nomatch q)
theorem O1 (a:ah) (b:aj):decide ((eI a:Key)=n6 b)=ao:=qQ (fun q=>nomatch q)
noncomputable def dQ (prog:dD) (w:cS):PySem.KeyKind prog w Key where
 is:=m6
 hash:=HW w
 inj:=fun v a b ha hb=>by
  rcases ji ha with⟨i,t,rfl,rfl⟩|⟨x,t,rfl,rfl⟩
  .rcases ji hb with⟨j,u,rfl,e⟩|⟨y,u,rfl,e⟩
   .injection e with e1 _;rw[e1]
   .exact nomatch e
  .rcases ji hb with⟨j,u,rfl,e⟩|⟨y,u,rfl,e⟩
   .exact nomatch e
   .injection e with e1 _;rw[e1]
 byValue:=fun k v h=>by rcases ji h with⟨i,t,rfl,rfl⟩|⟨x,t,rfl,rfl⟩<;>rfl
 pyHash:=fun hv h=>by
  rcases ji hv with⟨i,t,rfl,rfl⟩|⟨x,t,rfl,rfl⟩
  .exact wpAny_pyHash_int h
  .exact wpAny_pyHash_str h
 eqBool:=fun hu hv h=>by
  rcases ji hu with⟨i,t,rfl,rfl⟩|⟨x,t,rfl,rfl⟩
  .rcases ji hv with⟨j,u,rfl,rfl⟩|⟨y,u,rfl,rfl⟩
   .rw[Hd] at h;exact wpAny_eqBool_int h
   .rw[LA] at h;exact SeqAt.EqAt.int_str i t y u _ _ _ _ h
  .rcases ji hv with⟨j,u,rfl,rfl⟩|⟨y,u,rfl,rfl⟩
   .rw[O1] at h;exact SeqAt.EqAt.str_int x t j u _ _ _ _ h
   .rw[Kh] at h;exact wpAny_eqBool_str h
 «strs»:=fun k x t v h=>by
  rcases ji h with⟨i,u,rfl,e⟩|⟨y,u,rfl,e⟩
  .exact nomatch e
  .injection e with e1 _;subst e1;cases v<;>rfl
theorem JF (prog:dD) (w:cS) (i:aj) (t:Tok):(dQ prog w).is (.inl i) (.int i t)=ai:=Mw i t
theorem Gn (prog:dD) (w:cS) (x:ah) (t:Tok):(dQ prog w).is (.inr x) (.str x t)=ai:=Mn x t
inductive V where
 |non|bl (b:aU)|int (i:aj)|str (x:ah)|byt (b:b9 UInt8)|flt (b:UInt64)|ref (a:au)|ty (n:String)
 deriving fj
noncomputable def bK:V->av->Prop
 |.non,u=>u=mE
 |.bl b,u=>u=lA b
 |.int i,u=>∃t,u=uT i t
 |.str x,u=>∃t,u=uU x t
 |.byt b,u=>∃t,u=O9 b t
 |.flt b,u=>∃t,u=EF b t
 |.ref a,u=>u=cG a
 |.ty n,u=>u=lC n
abbrev bj:ab V->ab av->Prop:=Paired bK
theorem bj.length {xs:ab V} {us:ab av} (r:bj xs us):xs.length=us.length:=Paired.length r
theorem bj.get:∀{xs:ab V} {us:ab av} {i:ag} {x:V},bj xs us->xs[i]?=aa x->∃u,us[i]?=aa u/\bK x u
 |_,_,_,_,.nil,e=>by simp at e
 |_,_,0,_,.cons r _,e=>by simp at e;subst e;exact⟨_,rfl,r⟩
 |_,_,i+1,x,.cons _ t,e=>by obtain⟨u,h1,h2⟩:=bj.get (i:=i) (x:=x) t (by simpa using e);exact⟨u,by simpa using h1,h2⟩
theorem bj.set {x:V} {u:av} (r:bK x u):∀{xs:ab V} {us:ab av} (i:ag),bj xs us->bj (xs.set i x) (us.set i u)
 |_,_,_,.nil=>.nil
 |_,_,0,.cons _ t=>.cons r t
 |_,_,i+1,.cons q t=>.cons q (bj.set r i t)
theorem bj.append:∀{xs ys:ab V} {us ws:ab av},bj xs us->bj ys ws->bj (xs++ys) (us++ws)
 |_,_,_,_,.nil,s=>s
 |_,_,_,_,.cons r t,s=>.cons r (bj.append t s)
theorem bj.take:∀{xs:ab V} {us:ab av} (n:ag),bj xs us->bj (xs.take n) (us.take n)
 |_,_,0,_=>.nil
 |_,_,_+1,.nil=>.nil
 |_,_,n+1,.cons r t=>.cons r (bj.take n t)
theorem bj.drop:∀{xs:ab V} {us:ab av} (n:ag),bj xs us->bj (xs.drop n) (us.drop n)
 |_,_,0,r=>r
 |_,_,_+1,.nil=>.nil
 |_,_,n+1,.cons _ t=>bj.drop n t
noncomputable def gL:aq V->aq av->Prop
 |some v,aa u=>bK v u
 |none,ac=>True
 |_,_=>False
variable {κ:Type}
noncomputable def KV :ab (κ×V)->ab (κ×av)->Prop:=Paired fun(p:κ×V) (q:κ×av)=>p.1=q.1/\bK p.2 q.2
noncomputable def kV:Key->V
 |.inl i=>.int i
 |.inr x=>.str x
inductive HO where
 |lst (xs:ab V)
 |tup (xs:ab V)
 |dK (kvs:ab (Key×V))|dT (kvs:ab (ab Key×V))
 |set (S:aj->aU) (n:ag)
 |ins (C dx:au) (fs:ab (ah×V))
 |own (x:au)
 |xd (fs:ab (ah×V))
 |met (f x:au)
 |rng (lo hi:aj)
 |frz (o:bf) (u:HO)
 |tbl (ps:b9 av)
 |ext (φ:Heap->Prop)
abbrev Hp:=au->aq HO
noncomputable def upd (H:Hp) (a:au) (o:HO):Hp:=fun b=>if b=a then aa o else H b
variable {H:Hp}
theorem b7 {a:au} {o:HO} :upd H a o a=aa o:=by unfold upd;rw[qY rfl]
theorem aX {a b:au} {o:HO} (h:b≠a):upd H a o b=H b:=by unfold upd;rw[qZ h]
theorem wC {a b:au} {o u:HO} (h:H a=aa o) (h':H b=aa u) (d:o≠u):a≠b:=by intro e;subst e;rw[h] at h';exact d (qK h')
theorem ck {a b:au} {o:HO} (h:H a=aa o) (h':H b=ac):a≠b:=by intro e;subst e;rw[h] at h';cases h'
section
variable (P:dD) (w:cS)
noncomputable def dA (H:Hp) (h:Heap) (a:au):HO->Prop
 |.lst xs=>xs.length<=aK/\∃(its:ab av) (n:ag),bj xs its/\h.get? a=aa {cls:=.type "list",data:=.seq its.toArray n}
 |.tup xs=>xs.length<=aK/\∃its:ab av,bj xs its/\IsTup h a its.toArray
 |.dK kvs=>kvs.length<=aK/\(a==lD)=ao/\∃vs,KV kvs vs/\h.DictOf (dQ P w) a vs
 |.dT kvs=>kvs.length<=aK/\(a==lD)=ao/\∃xs:ab (ab Key×au×av),
   Paired (fun(p:ab Key×V) (q:ab Key×au×av)=>p.1=q.1/\H q.2.1=aa (.tup (p.1.map kV))/\bK p.2 q.2.2) kvs xs /\
   ∃o es ep,h.get? a=aa o/\o.ExactDict/\o.data=.dict es ep/\es.toList=xs.map (entryOfKey (mG (dQ P w)))/\(xs.map (·.1)).Nodup
 |.set S n=>h.SetOf (intKind P w) a S n
 |.ins C dx fs=>H dx=aa (.own a)/\fs.length<=1000/\dx≠a/\h.get? a=aa (mH C dx) /\
   ∃mA,h.Ns1 dx mA/\(∀f,gL (fs.lookup f) (mA f))/\EG mA (fs.map (·.1))
 |.own _=>∃o,h.get? a=aa o
 |.xd fs=>∃mA,h.Ns1 a mA/\∀f,gL (fs.lookup f) (mA f)
 |.rng lo hi=>∃t u v,h.get? a=aa {cls:=.type "range",data:=.fields #[.int lo t,.int hi u,.int 1 v]}
 |.frz o u=>h.get? a=aa o/\dA H h a u
 |.tbl ps=>h.get? a=aa {cls:=.none,data:=.fields ps}
 |.met f x=>h.get? a=aa (EH (.ref f) (.ref x))
 |.ext φ=>φ h/\(∃o,h.get? a=aa o)/\∀h1 h2:Heap,φ h1->(∀o,h1.get? a=aa o->h2.get? a=aa o)->φ h2
noncomputable def HOk (H:Hp) (h:Heap):Prop:=∀a o,H a=aa o->dA P w H h a o
end
variable {P:dD} {w:cS} {H':Hp} {h h':Heap}
section
variable {a:au} {o:HO}
theorem dA.lt (x:dA P w H h a o):a<h.objs.size:=by
 cases o with
 |lst xs=>obtain⟨_,_,_,_,e⟩:=x;exact qx e
 |tup xs=>obtain⟨_,_,_,p⟩:=x;exact p.lt
 |dK kvs=>obtain⟨_,_,_,_,o,_,_,e,_⟩:=x;exact qx e
 |dT kvs=>obtain⟨_,_,_,_,o,_,_,e,_⟩:=x;exact qx e
 |set S n=>obtain⟨o,_,_,_,e,_⟩:=x;exact qx e
 |ins C dx fs=>obtain⟨_,_,_,e,_⟩:=x;exact qx e
 |own y=>obtain⟨_,e⟩:=x;exact qx e
 |xd fs=>obtain⟨_,⟨_,_,_,e,_⟩,_⟩:=x;exact qx e
 |rng lo hi=>obtain⟨_,_,_,e⟩:=x;exact qx e
 |frz ob u=>obtain⟨e,_⟩:=x;exact qx e
 |tbl ps=>exact qx (show h.get? a=aa _ from x)
 |met f y=>exact qx (show h.get? a=aa _ from x)
 |ext φ=>obtain⟨_,⟨_,e⟩,_⟩:=x;exact qx e
theorem Paired.mapP {α β:Type} {F G:α->β->Prop}:∀{l₁:ab α} {l₂:ab β},Paired F l₁ l₂->(∀a b,F a b->G a b)->Paired G l₁ l₂
 |_,_,.nil,_=>.nil
 |_,_,.cons r t,f=>.cons (f _ _ r) (Paired.mapP t f)
theorem dA.stay (x:dA P w H h a o) (k:∀b u,(b=a\/H b=aa (.own a))->h.get? b=aa u->h'.get? b=aa u)
  (ho:∀b,H b=aa (.own a)->H' b=aa (.own a)) (ht:∀b xs,H b=aa (.tup xs)->H' b=aa (.tup xs)):dA P w H' h' a o:=by
 induction o with
 |lst xs=>obtain⟨z,its,n,r,e⟩:=x;exact⟨z,its,n,r,k _ _ (.inl rfl) e⟩
 |tup xs=>obtain⟨z,its,r,ob,e,c⟩:=x;exact⟨z,its,r,ob,k _ _ (.inl rfl) e,c⟩
 |dK kvs=>obtain⟨z,y,vs,r,ob,es,ep,e,c⟩:=x;exact⟨z,y,vs,r,ob,es,ep,k _ _ (.inl rfl) e,c⟩
 |dT kvs=>
  obtain⟨z,y,xs,r,ob,es,ep,e,c⟩:=x;exact⟨z,y,xs,Paired.mapP r fun p q z=>⟨z.1,ht _ _ z.2.1,z.2.2⟩,ob,es,ep,k _ _ (.inl rfl) e,c⟩
 |set S n=>obtain⟨ob,es,ep,t,e,c⟩:=x;exact⟨ob,es,ep,t,k _ _ (.inl rfl) e,c⟩
 |ins C dx fs=>
  obtain⟨d,z,ne,e,mA,⟨od,es,ep,e2,c⟩,r⟩:=x;exact⟨ho _ d,z,ne,k _ _ (.inl rfl) e,mA,⟨od,es,ep,k _ _ (.inr d) e2,c⟩,r⟩
 |own y=>obtain⟨ob,e⟩:=x;exact⟨ob,k _ _ (.inl rfl) e⟩
 |xd fs=>obtain⟨mA,⟨od,es,ep,e,c⟩,r⟩:=x;exact⟨mA,⟨od,es,ep,k _ _ (.inl rfl) e,c⟩,r⟩
 |rng lo hi=>obtain⟨t,u,v,e⟩:=x;exact⟨t,u,v,k _ _ (.inl rfl) e⟩
 |frz ob u ih=>obtain⟨e,q⟩:=x;exact⟨k _ _ (.inl rfl) e,ih q⟩
 |tbl ps=>
  have e:h.get? a=aa {cls:=.none,data:=.fields ps}:=x;show h'.get? a=aa {cls:=.none,data:=.fields ps};exact k a _ (.inl rfl) e
 |met f y=>
  have e:h.get? a=aa (EH (.ref f) (.ref y)):=x;show h'.get? a=aa (EH (.ref f) (.ref y));exact k a _ (.inl rfl) e
 |ext φ=>obtain⟨p,⟨o,e⟩,st⟩:=x;exact⟨st _ _ p fun o q=>k _ _ (.inl rfl) q,⟨o,k _ _ (.inl rfl) e⟩,st⟩
theorem HOk.lt (x:HOk P w H h) (e:H a=aa o):a<h.objs.size:=(x a o e).lt
theorem HOk.fresh (x:HOk P w H h) (e:h.objs.size<=a):H a=ac:=by
 cases q:H a with
 |none=>rfl
 |some u=>exact bx (qI (x.lt q) e) (rE _)
theorem HOk.kept (x:HOk P w H h) (k:∀b u,h.get? b=aa u->h'.get? b=aa u):HOk P w H h':=fun a o e=>
 (x a o e).stay (fun b u _ q=>k b u q) (fun _ q=>q) fun _ _ q=>q
theorem HOk.laid (x:HOk P w H h) (k:∀b u,h.get? b=aa u->h'.get? b=aa u) (hp:h.objs.size<=a) (new:dA P w (upd H a o) h' a o):HOk P w (upd H a o) h':=fun b u e=>by
 have hn:=x.fresh hp;by_cases hb:b=a
 .subst hb;rw[b7] at e;cases e;exact new
 .rw[aX hb] at e;exact(x b u e).stay (fun c v _ q=>k c v q) (fun c q=>by rw[aX (ck q hn)];exact q) fun c xs q=>by rw[aX (ck q hn)];exact q
end
noncomputable def Rd (H:Hp) (a:au) (u:HO):Prop:=H a=aa u\/∃o,H a=aa (.frz o u)
theorem Rd.ok {a:au} {u:HO} (r:Rd H a u) (x:HOk P w H h):dA P w H h a u:=by
 rcases r with r|⟨o,r⟩
 .exact x a u r
 .obtain⟨_,q⟩:=x a _ r;exact q
noncomputable def Mut:aq HO->Prop
 |some (.lst _)=>True
 |some (.dK _)=>True
 |some (.dT _)=>True
 |some (.set _ _)=>True
 |some (.ins _ _ _)=>True
 |some (.ext _)=>True
 |_=>False
section
variable {x e:au} {o':HO}
theorem HOk.write (ok:HOk P w H h) (mu:Mut (H x)) (he:e=x\/H e=aa (.own x)) (k:∀b u,b≠e->h.get? b=aa u->h'.get? b=aa u) (heo:∃u,h'.get? e=aa u)
  (new:dA P w (upd H x o') h' x o'):HOk P w (upd H x o') h':=fun b u q=>by
 have nown:∀c y,H c=aa (.own y)->c≠x:=fun c y r z=>by subst z;rw[r] at mu;exact mu
 have ntup:∀c xs,H c=aa (.tup xs)->c≠x:=fun c xs r z=>by subst z;rw[r] at mu;exact mu
 by_cases hb:b=x
 .subst hb;rw[b7] at q;cases q;exact new
 .rw[aX hb] at q;by_cases hbe:b=e
  .have q':H b=aa (.own x):=by
    rcases he with z|z
    .exact bx (hbe.trans z) hb
    .rw[hbe];exact z
   rw[q] at q';cases q';obtain⟨v,hv⟩:=heo;exact⟨v,by rw[hbe];exact hv⟩
  .refine(ok b u q).stay (fun c v hc r=>k c v ?_ r) (fun c r=>by rw[aX (nown c b r)];exact r) fun c xs r=>by rw[aX (ntup c xs r)];exact r
   rcases hc with rfl|hc
   .exact hbe
   .rintro rfl;rcases he with z|z
    .exact nown c b hc z
    .rw[hc] at z;cases z;exact hb rfl
end
structure Un (fs ex:ab au) (H H':Hp) (h h':Heap):Prop where
 keep:∀b o,h.get? b=aa o->H b=ac->b∉fs->b∉ex->h'.get? b=aa o
 slot:∀b o,h.get? b=aa o->H b=ac->b∈fs->b∉ex->∃sl,h'.get? b=aa {o with slots:=sl}
 free:∀b o,h.get? b=aa o->H b=ac->b∉ex->H' b=ac
 there:∀b o,h.get? b=aa o->b∉ex->∃o',h'.get? b=aa o'
 tups:∀b xs,H b=aa (.tup xs)->H' b=aa (.tup xs)
 frzs:∀b o u,H b=aa (.frz o u)->H' b=aa (.frz o u)
 tbls:∀b ps,H b=aa (.tbl ps)->∃more,H' b=aa (.tbl (ps++more))
variable {H1 H2:Hp}
section
variable {fs fs' ex ex':ab au} {h1 h2:Heap} {a x e:au} {o:HO}
theorem Un.any (u:Un fs ex H H1 h h1) {b:au} {ob:bf} (q:h.get? b=aa ob) (n:H b=ac) (hx:b∉ex):∃sl,h1.get? b=aa {ob with slots:=sl}:=by
 by_cases hb:b∈fs
 .exact u.slot b ob q n hb hx
 .exact⟨ob.slots,u.keep b ob q n hb hx⟩
theorem Un.kept (k:∀b u,h.get? b=aa u->h'.get? b=aa u):Un fs ex H H h h':=
 ⟨fun b ob q _ _ _=>k b ob q,fun b ob q _ _ _=>⟨ob.slots,k b ob q⟩,fun _ _ _ n _=>n,fun b ob q _=>⟨ob,k b ob q⟩,fun _ _ q=>q,fun _ _ _ q=>q,fun _ ps q=>⟨#[],by rw[q];simp⟩⟩
theorem Un.refl:Un fs ex H H h h:=Un.kept fun _ _ q=>q
theorem Un.laid (k:∀b u,h.get? b=aa u->h'.get? b=aa u) (hp:h.objs.size<=a) (hn:H a=ac):Un fs ex H (upd H a o) h h' where
 keep:=fun b u q _ _ _=>k b u q
 slot:=fun b u q _ _ _=>⟨u.slots,k b u q⟩
 free:=fun b u q n _=>by rw[aX (qG (qI (qx q) hp))];exact n
 there:=fun b u q _=>⟨u,k b u q⟩
 tups:=fun b xs q=>by rw[aX (ck q hn)];exact q
 frzs:=fun b u xs q=>by rw[aX (ck q hn)];exact q
 tbls:=fun b ps q=>⟨#[],by rw[aX (ck q hn),q];simp⟩
theorem Un.write (mu:Mut (H x)) (he:e=x\/H e=aa (.own x)) (k:∀b u,b≠e->h.get? b=aa u->h'.get? b=aa u) (heo:∃u,h'.get? e=aa u):Un fs ex H (upd H x o) h h':=by
 have hx:∀b,H b=ac->b≠x:=fun b n z=>by subst z;rw[n] at mu;exact mu
 have hb:∀b,H b=ac->b≠e:=fun b n z=>by
  subst z;rcases he with r|r
  .exact hx b n r
  .rw[n] at r;cases r
 have hm:∀b u,H b=aa u->¬Mut (aa u)->b≠x:=fun b u q nm z=>by subst z;rw[q] at mu;exact nm mu
 refine⟨fun b u q n _ _=>k b u (hb b n) q,fun b u q n _ _=>⟨u.slots,k b u (hb b n) q⟩,fun b u q n _=>by rw[aX (hx b n)];exact n,fun b u q _=>?_,
  fun b xs q=>by rw[aX (hm b _ q fun z=>z)];exact q,fun b u xs q=>by rw[aX (hm b _ q fun z=>z)];exact q,fun b ps q=>⟨#[],by rw[aX (hm b _ q fun z=>z),q];simp⟩⟩
 by_cases hbe:b=e
 .subst hbe;exact heo
 .exact⟨u,k b u hbe q⟩
end
noncomputable def trk (h:Heap) (H:Hp):ab au:=(di h.objs.size).filter fun a=>(H a).isSome
noncomputable def j0 (h:Heap) (H:Hp):Heap:=PySem.W.hideAll h (trk h H)
theorem GF (h:Heap) (H:Hp):(j0 h H).objs.size=h.objs.size:=PySem.W.hideAll_size _ _
theorem MZ {b:au} {o:bf} (e:h.get? b=aa o) (n:H b=ac):(j0 h H).get? b=aa o:=
 PySem.W.hideAll_get _ e fun hm=>by have q:(H b).isSome=ai:=(Pa.mp hm).2;rw[n] at q;simp at q
theorem Lr {b:au} {o:bf} (e:(j0 h H).get? b=aa o):h.get? b=aa o/\H b=ac:=by
 have e':h.get? b=aa o:=PySem.W.of_hideAll (trk h H) e;refine⟨e',?_⟩;cases q:H b with
 |none=>rfl
 |some x=>
  have hm:b∈trk h H:=Pa.mpr ⟨fX.mpr (qx e'),by simp[q]⟩;have z:(j0 h H).get? b=ac:=PySem.W.hideAll_none (trk h H) hm;rw[z] at e;cases e
noncomputable def Jn (g h:Heap) (L:au):ab (au×bf):=(di h.objs.size).filterMap fun a=>if a=L\/(g.get? a).isSome=ai then ac else (h.get? a).map fun o=>(a,o)
noncomputable def bD (g h:Heap) (L d:au):ab (au×bf):=(Jn g h L).filter fun p=>decide (p.1≠d)
structure Mod (K:aR) (mg:ah->aq av) (base:Heap):Prop where
 kin:K.In base
 glob:base.Ns eW mg
 blt:∃mb,base.Ns EI mb/\∀x:ah,x≠"__name__"->mb x=ky x
 nolimit:base.NoLimit
structure Cx where
 prog:dD
 w:cS
 K:aR
 mg:ah->aq av
 base:Heap
 A:dj
 N:ab ah
 s₀:aB
 H₀:Hp
 env:cM
 outer:ab cM
 stack:ab cM
 ex:ab au
 fn:ah->aU
 calm:aU
 pn:ab (au×bf)
 xe:av->aB->Prop
noncomputable def frs (l:ab cM):ab au:=l.filterMap (·.frame)
abbrev Cx.fs (X:Cx):ab au:=frs X.outer
noncomputable def Vis (sc:Scope) (x:ah):Prop:=sc.names.lookup x=aa .local\/sc.names.lookup x=aa .cell\/sc.names.lookup x=aa .free
noncomputable def Loc (sc:Scope) (x:ah):Prop:=sc.names.lookup x=aa .local\/sc.names.lookup x=aa .cell
noncomputable def Mm (env:cM) (h:Heap) (m:ah->aq av) (x:ah) (u:av):Prop:=
 (env.kindOf x=aa .local/\m x=aa u)\/((env.kindOf x=aa .cell\/env.kindOf x=aa .free)/\∃c,env.cells.lookup x=aa c/\h.IsCell c (aa u))
structure Cx.Ok (X:Cx):Prop where
 mod:Mod X.K X.mg X.base
 kind:X.env.scope.kind=.function
 glob:X.env.globals=eW
 blt:X.env.builtins=EI
 above:X.s₀.heap.objs.size<=X.env.locals
 inj:∀x y c,X.env.cells.lookup x=aa c->X.env.cells.lookup y=aa c->x=y
 has:∀x,(X.env.kindOf x=aa .cell\/X.env.kindOf x=aa .free)->∃c,X.env.cells.lookup x=aa c
 cab:∀x c,X.fn x=ai->X.env.cells.lookup x=aa c->X.s₀.heap.objs.size<=c
 hd:X.calm=ai->X.A.handled=ac
 frames:X.A.frames=aa X.stack
 stk:X.stack=X.outer\/(X.stack=X.env::X.outer/\X.env.frame=aa X.env.locals)
 exf:∀b∈X.ex,b≠X.env.locals/\∀x c,X.env.cells.lookup x=aa c->c≠b
 bs:∀b o,X.base.get? b=aa o->X.s₀.heap.get? b=aa o/\X.H₀ b=ac
 bsz:X.base.objs.size<=X.s₀.heap.objs.size
 noex:∀b o,X.base.get? b=aa o->b∉X.ex
 exfs:∀b∈X.ex,b∉X.fs
 funs:X.s₀.heap.FunFrames X.base X.outer
 frf:∀b∈X.fs,X.H₀ b=ac
structure Inv (X:Cx) (pins:ab (au×bf)) (σ:ab (aq V)) (H:Hp) (s:aB):Prop where
 ok:X.Ok
 os:s.os=X.s₀.os
 bare:kz s.gens
 base:Un X.fs X.ex X.H₀ H X.s₀.heap s.heap
 loc:∃m,s.heap.Ns X.env.locals m/\∀(i:ag) (x:ah) (v:V),X.N[i]?=aa x->σ[i]?=aa (aa v)->Vis X.env.scope x->∃u,bK v u/\Mm X.env s.heap m x u
 cell:∀x c,X.env.cells.lookup x=aa c->∃v,s.heap.IsCell c v
 free:H X.env.locals=ac
 freeC:∀x c,X.env.cells.lookup x=aa c->H c=ac
 pin:∀p∈X.pn++pins,s.heap.get? p.1=aa p.2/\H p.1=ac/\p.1≠X.env.locals/\p.1∉X.fs/\∀v,p.2.data≠.cell v
 hok:HOk X.prog X.w H s.heap
 len:σ.length=X.N.length
variable {X:Cx} {pins:ab (au×bf)} {t' i j:ag} {d':Drawn} {N:ab ah} {x:ah} {A:dj} {E:av->aB->Prop} {v:V} {u:av} {s':aB}
section
variable {σ:ab (aq V)} {s:aB}
theorem Cx.Ok.nofr (ok:X.Ok) {b:au} {o:bf} (e:X.base.get? b=aa o):b∉X.fs:=fun hb=>by have:=(ok.funs.mem hb).1;rw[e] at this;cases this
theorem Inv.bs (I:Inv X pins σ H s):∀b o,X.base.get? b=aa o->s.heap.get? b=aa o/\H b=ac:=fun b o e=>
 ⟨I.base.keep b o (I.ok.bs b o e).1 (I.ok.bs b o e).2 (I.ok.nofr e) (I.ok.noex b o e),I.base.free b o (I.ok.bs b o e).1 (I.ok.bs b o e).2 (I.ok.noex b o e)⟩
theorem Inv.bk (I:Inv X pins σ H s):∀b o,X.base.get? b=aa o->s.heap.get? b=aa o:=fun b o e=>(I.bs b o e).1
theorem Inv.mod (I:Inv X pins σ H s):Mod X.K X.mg X.base:=I.ok.mod
theorem Inv.kIn (I:Inv X pins σ H s):X.K.In s.heap:=I.ok.mod.kin.keeps I.bk
theorem Inv.lt (I:Inv X pins σ H s):X.env.locals<s.heap.objs.size:=let ⟨_,hn,_⟩:=I.loc;hn.lt
theorem Inv.sz (I:Inv X pins σ H s):X.s₀.heap.objs.size<=s.heap.objs.size:=qP I.ok.above (n9 I.lt)
theorem Inv.nofs (I:Inv X pins σ H s) {a:au} (h:s.heap.objs.size<=a):a∉X.fs:=fun hb=>by obtain⟨_,o,ho,_⟩:=I.ok.funs.mem hb;exact bx (qI (qx ho) (qP I.sz h)) (rE _)
theorem Inv.cne (I:Inv X pins σ H s):∀x c,X.env.cells.lookup x=aa c->c≠X.env.locals:=fun x c e z=>by obtain⟨v,o,ho,hd⟩:=I.cell x c e;obtain⟨m,⟨o',es,ep,ho',hd',_⟩,_⟩:=I.loc;rw[z,ho'] at ho;cases ho;rw[hd'] at hd;cases hd
theorem Inv.funs (I:Inv X pins σ H s):s.heap.FunFrames X.base X.outer:=by
 have all:∀(l:ab cM),(∀b∈frs l,b∈X.fs)->X.s₀.heap.FunFrames X.base l->s.heap.FunFrames X.base l:=by
  intro l
  induction l with
  |nil=>intro _ _;trivial
  |cons env r ih=>
   intro hs hl;obtain⟨hk,⟨L,o,hf,hn,ho,hd⟩,hr⟩:=hl;have hL:L∈X.fs:=hs L (by unfold frs;rw[EJ,hf];exact qf);obtain⟨sl,e⟩:=I.base.slot L o ho (I.ok.frf L hL) hL fun z=>I.ok.exfs L z hL;exact⟨hk,⟨L,_,hf,hn,e,hd⟩,ih (fun b hb=>hs b (by unfold frs;rw[EJ,hf];exact qg _ hb)) hr⟩
 exact all X.outer (fun _ hb=>hb) I.ok.funs
theorem Inv.stack (I:Inv X pins σ H s):s.heap.FunFrames X.base X.stack:=by
 rcases I.ok.stk with e|⟨e,hf⟩
 .rw[e];exact I.funs
 .rw[e];obtain⟨m,hn,_⟩:=I.loc;refine .cons (by rw[I.ok.kind];decide) hf hn ?_ I.funs;exact Heap.get?_none_of_le (qP I.ok.bsz I.ok.above)
theorem Inv.stkSub (I:Inv X pins σ H s):∀b∈frs X.stack,b∈X.env.locals::X.fs:=fun b hb=>by
 rcases I.ok.stk with e|⟨e,hf⟩
 .rw[e] at hb;exact qg _ hb
 .rw[e] at hb;unfold frs at hb;rw[EJ,hf] at hb;exact hb
theorem Inv.stkFree (I:Inv X pins σ H s):∀b∈frs X.stack,H b=ac:=fun b hb=>by
 rcases eC.mp (I.stkSub b hb) with e|hb
 .rw[e];exact I.free
 .obtain⟨_,o,ho,_⟩:=I.ok.funs.mem hb;exact I.base.free b o ho (I.ok.frf b hb) fun z=>I.ok.exfs b z hb
theorem Inv.step {g':b9 rF} {ch:ab au} (I:Inv X pins σ H s)
  (hch:∀b∈ch,(b∈X.ex\/X.s₀.heap.objs.size<=b)/\b≠X.env.locals/\(∀x c,X.env.cells.lookup x=aa c->c≠b)/\∀p∈X.pn++pins,p.1≠b)
  (keep:∀b o,b≠X.env.locals->b∉X.fs->b∉ch->s.heap.get? b=aa o->H b=ac->h'.get? b=aa o)
  (slot:∀b o,b≠X.env.locals->b∈X.fs->b∉ch->s.heap.get? b=aa o->H b=ac->∃sl,h'.get? b=aa {o with slots:=sl}) (free:∀b o,b∉ch->s.heap.get? b=aa o->H b=ac->H' b=ac)
  (there:∀b o,b∉ch->s.heap.get? b=aa o->∃o',h'.get? b=aa o')
  (tups:∀b xs,H b=aa (.tup xs)->H' b=aa (.tup xs)) (frzs:∀b o u,H b=aa (.frz o u)->H' b=aa (.frz o u)) (tbls:∀b ps,H b=aa (.tbl ps)->∃more,H' b=aa (.tbl (ps++more)))
  (ns:∀m,s.heap.Ns X.env.locals m->h'.Ns X.env.locals m) (hok:HOk X.prog X.w H' h') (hg:kz g') :
  Inv X pins σ H' {s with heap:=h',gens:=g',drawn:=d',toks:=t'}:=by
 have neL:∀b o,X.s₀.heap.get? b=aa o->b≠X.env.locals:=fun b o e=>qG (qI (qx e) I.ok.above);have neC:∀b o,X.s₀.heap.get? b=aa o->b∉X.ex->b∉ch:=fun b o e hx hb=>by
  rcases(hch b hb).1 with z|z
  .exact hx z
  .exact bx (qI (qx e) z) (rE _)
 have cellK:∀x c,X.env.cells.lookup x=aa c->∀v,s.heap.IsCell c v->h'.IsCell c v:=fun x c e v ⟨o,ho,hd⟩=>by
  have nch:c∉ch:=fun z=>(hch c z).2.2.1 x c e rfl;by_cases hc:c∈X.fs
  .obtain⟨sl,q⟩:=slot c o (I.cne x c e) hc nch ho (I.freeC x c e);exact⟨_,q,hd⟩
  .exact⟨o,keep c o (I.cne x c e) hc nch ho (I.freeC x c e),hd⟩
 refine⟨I.ok,I.os,hg,⟨fun b o e n hb hx=>?_,fun b o e n hb hx=>?_,fun b o e n hx=>?_,fun b o e hx=>?_,fun b xs e=>tups b xs (I.base.tups b xs e),fun b o xs e=>frzs b o xs (I.base.frzs b o xs e),fun b ps e=>?_⟩,?_,fun x c e=>?_,?_,fun x c e=>?_,fun p hp=>?_,hok,I.len⟩
 .exact keep b o (neL b o e) hb (neC b o e hx) (I.base.keep b o e n hb hx) (I.base.free b o e n hx)
 .obtain⟨sl,e1⟩:=I.base.slot b o e n hb hx;obtain⟨sl',e2⟩:=slot b _ (neL b o e) hb (neC b o e hx) e1 (I.base.free b o e n hx);exact⟨sl',e2⟩
 .obtain⟨o',e1⟩:=I.base.there b o e hx;exact free b o' (neC b o e hx) e1 (I.base.free b o e n hx)
 .obtain⟨o',e1⟩:=I.base.there b o e hx;exact there b o' (neC b o e hx) e1
 .obtain⟨m1,e1⟩:=I.base.tbls b ps e;obtain⟨m2,e2⟩:=tbls b _ e1;exact⟨m1++m2,by rw[e2,Array.append_assoc]⟩
 .obtain⟨m,hn,hl⟩:=I.loc;refine⟨m,ns m hn,fun i x v e1 e2 e3=>?_⟩;obtain⟨u,r,l⟩:=hl i x v e1 e2 e3;refine⟨u,r,?_⟩;rcases l with l|⟨k,c,e,z⟩
  .exact .inl l
  .exact .inr ⟨k,c,e,cellK x c e _ z⟩
 .obtain⟨v,z⟩:=I.cell x c e;exact⟨v,cellK x c e v z⟩
 .obtain⟨m,⟨o,_,_,ho,_⟩,_⟩:=I.loc;exact free _ o (fun z=>(hch _ z).2.1 rfl) ho I.free
 .obtain⟨v,o,ho,hd⟩:=I.cell x c e;exact free c o (fun z=>(hch c z).2.2.1 x c e rfl) ho (I.freeC x c e)
 .obtain⟨e,n,ne,nf,d⟩:=I.pin p hp;have nch:p.1∉ch:=fun z=>(hch p.1 z).2.2.2 p hp rfl;exact⟨keep p.1 p.2 ne nf nch e n,free p.1 p.2 nch e n,ne,nf,d⟩
theorem Inv.un (I:Inv X pins σ H s) (u:Un X.fs [] H H' s.heap h') (hok:HOk X.prog X.w H' h'):Inv X pins σ H' {s with heap:=h',toks:=t'}:=by
 obtain⟨m,⟨o,es,ep,ho,r⟩,_⟩:=id I.loc;obtain⟨sl,hL⟩:=u.any ho I.free (by simp);exact I.step (g':=s.gens) (d':=s.drawn) (ch:=[]) (fun _ z=>nomatch z) (fun b o _ hb _ e n=>u.keep b o e n hb (by simp)) (fun b o _ hb _ e n=>u.slot b o e n hb (by simp)) (fun b o _ e n=>u.free b o e n (by simp)) (fun b o _ e=>u.there b o e (by simp)) u.tups u.frzs u.tbls (fun m' hm=>by obtain⟨o',es',ep',ho',r'⟩:=hm;rw[ho] at ho';cases ho';exact⟨_,es',ep',hL,r'⟩) hok I.bare
theorem Inv.call {g':b9 rF} {ch:ab au} (I:Inv X pins σ H s) (u:Un (frs X.stack) ch H H' s.heap h') (hok:HOk X.prog X.w H' h') (hg:kz g')
  (hch:∀b∈ch,(b∈X.ex\/X.s₀.heap.objs.size<=b)/\b≠X.env.locals/\(∀x c,X.env.cells.lookup x=aa c->c≠b)/\∀p∈X.pn++pins,p.1≠b) :
  Inv X pins σ H' {s with heap:=h',gens:=g',drawn:=d',toks:=t'}:=by
 obtain⟨m,⟨o,es,ep,ho,r⟩,_⟩:=id I.loc;obtain⟨sl,hL⟩:=u.any ho I.free fun z=>(hch _ z).2.1 rfl;exact I.step (ch:=ch) hch (fun b o hL hb hc e n=>u.keep b o e n (fun z=>(eC.mp (I.stkSub b z)).elim hL hb) hc) (fun b o _ _ hc e n=>u.any e n hc) (fun b o hc e n=>u.free b o e n hc) (fun b o hc e=>u.there b o e hc) u.tups u.frzs u.tbls (fun m' hm=>by obtain⟨o',es',ep',ho',r'⟩:=hm;rw[ho] at ho';cases ho';exact⟨_,es',ep',hL,r'⟩) hok hg
theorem Inv.turned {it:au} (I:Inv X pins σ H s) (k:∀b o,b≠it->s.heap.get? b=aa o->h'.get? b=aa o) (hn:H it=ac) (hL:it≠X.env.locals)
  (h1:it∈X.ex\/X.s₀.heap.objs.size<=it) (h2:∀x c,X.env.cells.lookup x=aa c->c≠it) (h3:∀p∈X.pn++pins,p.1≠it):Inv X pins σ H {s with heap:=h',toks:=t'}:=by
 have nit:∀b u,H b=aa u->b≠it:=fun b u e z=>by rw[z,hn] at e;cases e
 refine I.step (g':=s.gens) (d':=s.drawn) (ch:=[it]) (fun b hb=>?_) (fun b o _ _ hc e _=>k b o (fun z=>hc (by simp[z])) e) (fun b o _ _ hc e _=>⟨o.slots,k b o (fun z=>hc (by simp[z])) e⟩) (fun _ _ _ _ n=>n)
  (fun b o hc e=>⟨o,k b o (fun z=>hc (by simp[z])) e⟩) (fun _ _ e=>e) (fun _ _ _ e=>e) (fun b ps e=>⟨#[],by rw[e];simp⟩) (fun m hm=>?_) (fun b u e=>?_) I.bare
 .have e:b=it:=by simpa using hb
  subst e;exact⟨h1,hL,h2,h3⟩
 .obtain⟨o,es,ep,ho,r⟩:=hm;exact⟨o,es,ep,k _ o (em hL) ho,r⟩
 .refine(I.hok b u e).stay (fun c v hc q=>k c v ?_ q) (fun _ q=>q) fun _ _ q=>q;rcases hc with z|z
  .rw[z];exact nit b u e
  .exact nit c _ z
theorem Inv.tok (I:Inv X pins σ H s) (t:ag):Inv X pins σ H {s with toks:=t}:=I.un (h':=s.heap) (t':=t) Un.refl I.hok
theorem Inv.kept {t':ag} (I:Inv X pins σ H s) (k:∀b u,s.heap.get? b=aa u->h'.get? b=aa u):Inv X pins σ H {s with heap:=h',toks:=t'}:=I.un (Un.kept k) (I.hok.kept k)
theorem Inv.laid {a:au} {o:HO} {t':ag} (I:Inv X pins σ H s) (k:∀b u,s.heap.get? b=aa u->h'.get? b=aa u) (hp:s.heap.objs.size<=a) (new:dA X.prog X.w (upd H a o) h' a o) :
  Inv X pins σ (upd H a o) {s with heap:=h',toks:=t'}:=I.un (Un.laid k hp (I.hok.fresh hp)) (I.hok.laid k hp new)
theorem Inv.write {x e:au} {o:HO} {t':ag} (I:Inv X pins σ H s) (mu:Mut (H x)) (he:e=x\/H e=aa (.own x)) (k:∀b u,b≠e->s.heap.get? b=aa u->h'.get? b=aa u) (heo:∃u,h'.get? e=aa u)
  (new:dA X.prog X.w (upd H x o) h' x o):Inv X pins σ (upd H x o) {s with heap:=h',toks:=t'}:=I.un (Un.write mu he k heo) (I.hok.write mu he k heo new)
theorem Inv.pins_of {pins':ab (au×bf)} (I:Inv X pins σ H s) (h:∀p∈pins',s.heap.get? p.1=aa p.2/\H p.1=ac/\p.1≠X.env.locals/\p.1∉X.fs/\∀v,p.2.data≠.cell v):Inv X pins' σ H s:=
 ⟨I.ok,I.os,I.bare,I.base,I.loc,I.cell,I.free,I.freeC,fun p hp=>(gz.mp hp).elim (fun z=>I.pin p (Pb _ z)) (h p),I.hok,I.len⟩
theorem Df (hN:N.Nodup) (a:N[i]?=aa x) (b:N[j]?=aa x):i=j:=by obtain⟨h1,e1⟩:=gA.mp a;obtain⟨h2,e2⟩:=gA.mp b;exact(List.getElem_inj hN).mp (e1.trans e2.symm)
theorem D7 {M:uW} {Q:mI->aB->Prop} (I:Inv X pins σ H s) (hN:X.N.Nodup) (hi:X.N[i]?=aa x) (hx:Loc X.env.scope x) (r:bK v u)
  (h:∀s',Inv X pins (σ.set i (aa v)) H s'->(∃a,iP a s.heap s'.heap/\(a=X.env.locals\/X.env.cells.lookup x=aa a))->Q () s') (hf:X.fn x=ai\/X.env.scope.names.lookup x=aa .local:=by first|exact .inl rfl|exact .inr rfl|assumption):aE M A (storeName X.env x u) Q E s:=by
 obtain⟨m,hn,hl⟩:=id I.loc;have hcls:(X.env.scope.kind==.class || (X.env.scope.kind==.module && X.env.locals != X.env.globals))=ao:=by rw[I.ok.kind];rfl
 have hiσ:i < σ.length:=by rw[I.len];exact(gA.mp hi).1
 have cne:=I.cne;have tracked:∀{a:au} {h':Heap},(∃o,s.heap.get? a=aa o/\H a=ac)->iP a s.heap h'->HOk X.prog X.w H h':=fun {a h'} ha hs b ob e=>by
  obtain⟨_,_,hfree⟩:=ha;refine(I.hok b ob e).stay (fun c w' hc q=>(hs.2 c ?_).trans q) (fun _ q=>q) fun _ _ q=>q;rintro rfl;rcases hc with rfl|hc
  .rw[hfree] at e;cases e
  .rw[hfree] at hc;cases hc
 rcases hx with hk|hk
 .refine wpAny_storeName_local hk hn (fun h' hn' hs=>?_) hcls;obtain⟨oL,_,_,hoL,_⟩:=id hn;refine h _ ⟨I.ok,I.os,I.bare,⟨fun b o e n hb hx=>?_,fun b o e n hb hx=>?_,I.base.free,fun b o e hx=>?_,I.base.tups,I.base.frzs,I.base.tbls⟩,⟨_,hn',fun j y v' e1 e2 e3=>?_⟩,fun y c e=>?_,I.free,I.freeC,fun p hp=>?_,tracked ⟨oL,hoL,I.free⟩ hs,by simpa using I.len⟩ ⟨_,hs,.inl rfl⟩
  .exact(hs.2 b (qG (qI (qx e) I.ok.above))).trans (I.base.keep b o e n hb hx)
  .obtain⟨sl,e1⟩:=I.base.slot b o e n hb hx;exact⟨sl,(hs.2 b (qG (qI (qx e) I.ok.above))).trans e1⟩
  .obtain⟨o',e1⟩:=I.base.there b o e hx;exact⟨o',(hs.2 b (qG (qI (qx e) I.ok.above))).trans e1⟩
  .by_cases hj:j=i
   .subst hj;rw[hi] at e1;cases e1;rw[ik hiσ] at e2;cases e2;exact⟨u,r,.inl ⟨hk,by simp⟩⟩
   .rw[qC (em hj)] at e2;obtain⟨u',r',q⟩:=hl j y v' e1 e2 e3;refine⟨u',r',?_⟩;rcases q with⟨k,e⟩|⟨k,c,e,z⟩
    .refine .inl ⟨k,?_⟩;have:y≠x:=fun e=>hj (Df hN e1 (e▸hi));simp[this,e]
    .exact .inr ⟨k,c,e,z.sameBut hs (cne y c e)⟩
  .obtain⟨w',z⟩:=I.cell y c e;exact⟨w',z.sameBut hs (cne y c e)⟩
  .obtain⟨e,n,ne,nf,d⟩:=I.pin p hp;exact⟨(hs.2 p.1 ne).trans e,n,ne,nf,d⟩
 .have hfn:X.fn x=ai:=by
   rcases hf with z|z
   .exact z
   .rw[z] at hk;cases hk
  obtain⟨c,hc⟩:=I.ok.has x (.inl hk);obtain⟨w',z⟩:=I.cell x c hc;refine wpAny_storeName_cell I.ok.kind hk hc z (fun h' hc' hs=>?_);obtain⟨oc,hoc,hocd⟩:=id z;refine h {s with heap:=h'} ⟨I.ok,I.os,I.bare,⟨fun b o e n hb hx=>?_,fun b o e n hb hx=>?_,I.base.free,fun b o e hx=>?_,I.base.tups,I.base.frzs,I.base.tbls⟩,⟨m,hn.sameBut hs (em (cne x c hc)),fun j y v' e1 e2 e3=>?_⟩,fun y c' e=>?_,I.free,I.freeC,fun p hp=>?_,tracked ⟨oc,hoc,I.freeC x c hc⟩ hs,by simpa using I.len⟩ ⟨c,hs,.inr hc⟩
  .exact(hs.2 b (qG (qI (qx e) (I.ok.cab x c hfn hc)))).trans (I.base.keep b o e n hb hx)
  .obtain⟨sl,e1⟩:=I.base.slot b o e n hb hx;exact⟨sl,(hs.2 b (qG (qI (qx e) (I.ok.cab x c hfn hc)))).trans e1⟩
  .obtain⟨o',e1⟩:=I.base.there b o e hx;exact⟨o',(hs.2 b (qG (qI (qx e) (I.ok.cab x c hfn hc)))).trans e1⟩
  .by_cases hj:j=i
   .subst hj;rw[hi] at e1;cases e1;rw[ik hiσ] at e2;cases e2;exact⟨u,r,.inr ⟨.inl hk,c,hc,hc'⟩⟩
   .rw[qC (em hj)] at e2;obtain⟨u',r',q⟩:=hl j y v' e1 e2 e3;refine⟨u',r',?_⟩;rcases q with q|⟨k,c',e,z'⟩
    .exact .inl q
    .refine .inr ⟨k,c',e,z'.sameBut hs ?_⟩;rintro rfl;exact hj (Df hN e1 (I.ok.inj _ _ _ e hc▸hi))
  .by_cases hcc:c'=c
   .subst hcc;exact⟨_,hc'⟩
   .obtain⟨w2,z2⟩:=I.cell y c' e;exact⟨w2,z2.sameBut hs hcc⟩
  .obtain⟨e,n,ne,nf,d⟩:=I.pin p hp;refine⟨(hs.2 p.1 ?_).trans e,n,ne,nf,d⟩;intro q;rw[q,hoc] at e;have q':oc=p.2:=qK e;exact d w' (by rw[←q'];exact hocd)
theorem CQ {M:uW} {Q:mI->aB->Prop} (I:Inv X pins σ H s) (hN:X.N.Nodup) (hi:X.N[i]?=aa x) (hx:Loc X.env.scope x) (r:bK v u)
  (h:∀s',Inv X pins (σ.set i (aa v)) H s'->Q () s') (hf:X.fn x=ai\/X.env.scope.names.lookup x=aa .local:=by first|exact .inl rfl|exact .inr rfl|assumption):aE M A (storeName X.env x u) Q E s:=
 D7 I hN hi hx r (fun s' I' _=>h s' I') hf
theorem Inv.call' {ch:ab au} (I:Inv X pins σ H s) (ho:s'.os=s.os) (u:Un (frs X.stack) ch H H' s.heap s'.heap) (hok:HOk X.prog X.w H' s'.heap) (hg:kz s'.gens)
  (hch:∀b∈ch,(b∈X.ex\/X.s₀.heap.objs.size<=b)/\b≠X.env.locals/\(∀x c,X.env.cells.lookup x=aa c->c≠b)/\∀p∈X.pn++pins,p.1≠b):Inv X pins σ H' s':=by
 obtain⟨h',g',d',t',o'⟩:=s';have e:o'=s.os:=ho;subst e;exact I.call (g':=g') (t':=t') (d':=d') u hok hg hch
end
abbrev XK:=av->aq au->Hp->Prop
abbrev St:=ab (aq V)
abbrev VK:=V->Hp->Prop
abbrev TE:=St->Hp->VK->Prop
abbrev TT:=St->Hp->(aU->Hp->Prop)->Prop
abbrev TA:=St->Hp->(ab V->Hp->Prop)->Prop
structure Ends where
 nx:St->Hp->Prop
 rt:VK
 bk:St->Hp->Prop:=fun _ _=>False
 ct:St->Hp->Prop:=fun _ _=>False
abbrev TS:=Ends->St->Hp->Prop
noncomputable def EP (X:Cx) (pins:ab (au×bf)) (σ:St) (Q:VK) (u:av) (s':aB):Prop:=∃v H',Inv X pins σ H' s'/\bK v u/\Q v H'
noncomputable def TP (X:Cx) (pins:ab (au×bf)) (σ:St) (Q:aU->Hp->Prop) (b:aU) (s':aB):Prop:=∃H',Inv X pins σ H' s'/\Q b H'
noncomputable def AP (X:Cx) (pins:ab (au×bf)) (σ:St) (Q:ab V->Hp->Prop) (us:ab av) (s':aB):Prop:=∃vs H',Inv X pins σ H' s'/\bj vs us/\Q vs H'
noncomputable def SP (X:Cx) (pins:ab (au×bf)) (D:Ends) (f:Flow) (s':aB):Prop:=
 match f with
 |.next=>∃σ' H',Inv X pins σ' H' s'/\D.nx σ' H'
 |.brk=>∃σ' H',Inv X pins σ' H' s'/\D.bk σ' H'
 |.cont=>∃σ' H',Inv X pins σ' H' s'/\D.ct σ' H'
 |.ret u=>∃v σ' H',Inv X pins σ' H' s'/\bK v u/\D.rt v H'
noncomputable def PE (X:Cx) (e:Expr) (t:TE):Prop:=
 ∀(pins:ab (au×bf)) (s:aB) (σ:St) (H:Hp) (Q:VK),Inv X pins σ H s->t σ H Q->aE (aO X.prog X.w) X.A (eval e X.env) (EP X pins σ Q) X.xe s
noncomputable def PT (X:Cx) (e:Expr) (t:TT):Prop:=
 ∀(pins:ab (au×bf)) (s:aB) (σ:St) (H:Hp) (Q:aU->Hp->Prop),Inv X pins σ H s->t σ H Q->aE (aO X.prog X.w) X.A (isTrue e X.env (eval e X.env)) (TP X pins σ Q) X.xe s
noncomputable def PW (X:Cx) (e:Expr) (t:TT):Prop:=
 ∀(whole:il av) (pins:ab (au×bf)) (s:aB) (σ:St) (H:Hp) (Q:aU->Hp->Prop),Inv X pins σ H s->t σ H Q->aE (aO X.prog X.w) X.A (isTrue e X.env whole) (TP X pins σ Q) X.xe s
variable {e:Expr}
theorem PW.pt {t:TT} (h:PW X e t):PT X e t:=h _
noncomputable def PA (X:Cx) (es:ab Expr) (t:TA):Prop:=
 ∀(pos:fm) (pins:ab (au×bf)) (s:aB) (σ:St) (H:Hp) (Q:ab V->Hp->Prop),Inv X pins σ H s->t σ H Q->aE (aO X.prog X.w) X.A (spliced (ca pos (aH es X.env))) (AP X pins σ Q) X.xe s
noncomputable def PS (X:Cx) (st:Stmt) (t:TS):Prop:=
 ∀(pins:ab (au×bf)) (s:aB) (σ:St) (H:Hp) (D:Ends),Inv X pins σ H s->t D σ H->aE (aO X.prog X.w) X.A (exec st X.env) (SP X pins D) X.xe s
noncomputable def PSs (X:Cx) (st:ab Stmt) (t:TS):Prop:=
 ∀(pins:ab (au×bf)) (s:aB) (σ:St) (H:Hp) (D:Ends),Inv X pins σ H s->t D σ H->aE (aO X.prog X.w) X.A (execs st X.env) (SP X pins D) X.xe s
variable {α:Type}
theorem thn {t:il α} {Q Q':α->aB->Prop} {M:uW} {s:aB} (h:aE M A t Q E s) (hQ:∀a s,Q a s->Q' a s):aE M A t Q' E s:=im h hQ fun _ _ x=>x
variable {a b c:Expr} {ta tb:TE} {σ:St} {pos:fm} {Q:av->aB->Prop} {op:CmpOp}
section
theorem bin (ha:PE X a ta) (hb:PE X b tb) {s:aB} {R:V->V->Hp->Prop} (I:Inv X pins σ H s) (h:ta σ H fun x H1=>tb σ H1 fun y H2=>R x y H2)
  {Q:α->aB->Prop} {f:av->av->il α} 
  (hf:∀v u s2 x y H2,Inv X pins σ H2 s2->bK x v->bK y u->R x y H2->aE (aO X.prog X.w) X.A (f v u) Q X.xe s2) :
  aE (aO X.prog X.w) X.A (eval a X.env) (fun v s₁=>aE (aO X.prog X.w) X.A (eval b X.env) (fun u s₂=>aE (aO X.prog X.w) X.A (f v u) Q X.xe s₂) X.xe s₁) X.xe s:=by
 refine thn (ha pins s σ H _ I h) fun v s1 ⟨x,H1,I1,r1,q1⟩=>?_;refine thn (hb pins s1 σ H1 _ I1 q1) fun u s2 ⟨y,H2,I2,r2,q2⟩=>?_;exact hf v u s2 x y H2 I2 r1 r2 q2
noncomputable def gO (i:ag):TE:=fun σ H Q=>∃v,σ[i]?=aa (aa v)/\Q v H
noncomputable def tC (v:V):TE:=fun _ H Q=>Q v H
theorem dv (hN:X.N[i]?=aa x) (hv:Vis X.env.scope x) (hd:(x==("__debug__":ah))=ao:=by decide) (hcd:(x==("__classdict__":ah))=ao:=by decide):PE X (.Name x pos) (gO i):=by
 intro pins s σ H Q I h;obtain⟨v,e,h⟩:=h;obtain⟨m,hn,hl⟩:=I.loc;obtain⟨u,r,l⟩:=hl i x v hN e hv;have fin:EP X pins σ Q u s:=⟨v,H,I,r,h⟩;rcases l with⟨hk,hm⟩|⟨hk,c,hc,hcell⟩
 .exact EK (wpAny_loadName_local I.ok.kind hk hn hm fin) hd
 .rcases hk with hk|hk
  .exact EK (wpAny_loadName_cell I.ok.kind hk hc hcell fin) hd
  .exact EK (wpAny_loadName_free I.ok.kind hk hc hcell fin hcd) hd
theorem gf {i j pos}:PE X (.Constant (.int i) j pos) (tC (.int i)):=fun _ _ _ H _ I h=>wpAny_Constant_int ⟨.int i,H,I.tok _,⟨_,rfl⟩,h⟩
theorem Ly {b j pos}:PE X (.Constant (.bool b) j pos) (tC (.bl b)):=fun _ _ _ H _ I h=>Constant_bool ⟨.bl b,H,I,rfl,h⟩
theorem Ea {j pos}:PE X (.Constant .none j pos) (tC .non):=fun _ _ _ H _ I h=>Constant_none ⟨.non,H,I,rfl,h⟩
theorem mZ {x j pos}:PE X (.Constant (.str x) j pos) (tC (.str x)):=fun _ _ _ H _ I h=>Calls.Constant_str ⟨.str x,H,I.tok _,⟨_,rfl⟩,h⟩
noncomputable def Gl (X:Cx) (x:ah):Prop:=X.env.kindOf x=aa .globalImplicit
theorem w8 {s:aB} (I:Inv X pins σ H s) (hg:Gl X x) (hm:X.mg x=aa u) (h:Q u s)
  (hd:(x==("__debug__":ah))=ao:=by decide):aE (aO X.prog X.w) X.A (eval (.Name x pos) X.env) Q E s:=
 Pc I.ok.kind hg (Calls.loadGlobal_global (by rw[I.ok.glob];exact I.mod.glob.keeps I.bk) hm h) hd
theorem na {s:aB} (I:Inv X pins σ H s) (hg:Gl X x) (hm:X.mg x=ac) (hv:ky x=aa u) (h:Q u s)
  (hn:x≠"__name__":=by decide) (hd:(x==("__debug__":ah))=ao:=by decide):aE (aO X.prog X.w) X.A (eval (.Name x pos) X.env) Q E s:=by
 obtain⟨mb,h1,h2⟩:=I.mod.blt;exact Pc I.ok.kind hg (Calls.loadGlobal_builtin (by rw[I.ok.glob];exact I.mod.glob.keeps I.bk) hm (by rw[I.ok.blt];exact h1.keeps I.bk) ((h2 x hn).trans hv) h) hd
theorem CD (hg:Gl X x) (hm:X.mg x=aa u) (r:bK v u) (hd:(x==("__debug__":ah))=ao:=by decide):PE X (.Name x pos) (tC v):=
 fun _ _ _ H _ I h=>w8 I hg hm ⟨v,H,I,r,h⟩ hd
theorem GU (hg:Gl X x) (hm:X.mg x=ac) (hv:ky x=aa u) (r:bK v u) (hn:x≠"__name__":=by decide) (hd:(x==("__debug__":ah))=ao:=by decide):PE X (.Name x pos) (tC v):=
 fun _ _ _ H _ I h=>na I hg hm hv ⟨v,H,I,r,h⟩ hn hd
noncomputable def PC (X:Cx) (op:CmpOp) (a b:Expr) (t:TE):Prop:=
 ∀(pins:ab (au×bf)) (s:aB) (σ:St) (H:Hp) (Q:VK),Inv X pins σ H s->t σ H Q->
  aE (aO X.prog X.w) X.A (eval a X.env) (fun v s₁=>aE (aO X.prog X.w) X.A (eval b X.env) (fun u s₂=>aE (aO X.prog X.w) X.A (eD op v u) (EP X pins σ Q) X.xe s₂) X.xe s₁) X.xe s
theorem Oo (b:Expr) (h:op≠.In) (h2:op≠.NotIn):jI op b=ao:=by
 have e1:(op==Pd)=ao:=by cases op<;>first|rfl|exact bx rfl h
 have e2:(op==Pe)=ao:=by cases op<;>first|rfl|exact bx rfl h2
 cases b<;>simp[jI,e1,e2]
noncomputable def Ei (ta:TE):TE:=fun σ H Q=>ta σ H fun x H1=>Q (.bl (!decide (x=.non))) H1
theorem bK.none_iff {x:V} {v:av} (r:bK x v):(v==mE)=decide (x=.non):=by
 cases x with
 |non=>cases r;rfl
 |bl _=>cases r;rfl
 |int _=>obtain⟨t,rfl⟩:=r;rfl
 |str _=>obtain⟨t,rfl⟩:=r;rfl
 |byt _=>obtain⟨t,rfl⟩:=r;rfl
 |flt _=>obtain⟨t,rfl⟩:=r;rfl
 |ref _=>cases r;rfl
 |ty _=>cases r;rfl
theorem Gv {j pos'} (ha:PE X a ta):PC X .IsNot a (.Constant .none j pos') (Ei ta):=by intro pins s σ H Q I h;refine thn (ha pins s σ H _ I h) fun v s1 ⟨x,H1,I1,r1,q1⟩=>?_;exact Constant_none (Pf ⟨.bl _,H1,I1,by rw[r1.none_iff];rfl,q1⟩)
noncomputable def tB (t:TE):TT:=fun σ H Q=>t σ H fun x H1=>∃c,x=.bl c/\Q c H1
theorem G9 {t:TE} (h:PC X op a b t) (h1:jI op b=ao:=by first|exact Oo _ (by decide) (by decide)|rfl):PT X (.Compare a [op] [b] pos) (tB t):=by intro pins s σ H Q I hw;refine Pg (thn (h pins s σ H _ I hw) fun v s1 h1=>thn h1 fun u s2 h2=>thn h2 fun c s3 ⟨x,H1,I1,r1,q1⟩=>?_) h1;obtain⟨d,rfl,q⟩:=q1;cases r1;exact lE ⟨H1,I1,q⟩
theorem Dv {t:TE} (h:PE X e t) (he:∀whole,isTrue e X.env whole=(do let v ←whole;iQ e.pos;fD [v] (truthy v)):=by intro _;rfl):PT X e (tB t):=by intro pins s σ H Q I hw;refine isTrue_plain (thn (h pins s σ H _ I hw) fun v s1 ⟨x,H1,I1,r1,q1⟩=>?_) (he _);obtain⟨d,rfl,q⟩:=q1;cases r1;exact lE ⟨H1,I1,q⟩
variable {tA tB':TT} {bD:ab Expr}
noncomputable def DL (t u:TT):TT:=fun σ H Q=>t σ H fun c H1=>if c=ai then u σ H1 Q else Q ao H1
noncomputable def tOr (t u:TT):TT:=fun σ H Q=>t σ H fun c H1=>if c=ai then Q ai H1 else u σ H1 Q
noncomputable def Kd (t:TT):TT:=fun σ H Q=>t σ H fun c H1=>Q (!c) H1
theorem yn (ha:PT X a tA):PW X (.BoolOp .And [a] pos) tA:=by
 intro wh pins s σ H Q I h;refine isTrue_and (thn (ha pins s σ H Q I h) fun c s1 e=>?_);cases c with
 |true=>exact isTrue_and_nil e
 |false=>exact e
theorem Dj (ha:PT X a tA):PW X (.BoolOp .Or [a] pos) tA:=by
 intro wh pins s σ H Q I h;refine isTrue_or (thn (ha pins s σ H Q I h) fun c s1 e=>?_);cases c with
 |false=>exact isTrue_or_nil e
 |true=>exact e
theorem xn (ha:PT X a tA) (hb:PW X (.BoolOp .And (b::bD) pos) tB'):PW X (.BoolOp .And (a::b::bD) pos) (DL tA tB'):=by
 intro wh pins s σ H Q I h;refine isTrue_and (thn (ha pins s σ H _ I h) fun c s1 ⟨H1,I1,q1⟩=>?_);cases c with
 |true=>exact hb wh pins s1 σ H1 Q I1 q1
 |false=>exact⟨H1,I1,q1⟩
theorem BM (ha:PT X a tA) (hb:PW X (.BoolOp .Or (b::bD) pos) tB'):PW X (.BoolOp .Or (a::b::bD) pos) (tOr tA tB'):=by
 intro wh pins s σ H Q I h;refine isTrue_or (thn (ha pins s σ H _ I h) fun c s1 ⟨H1,I1,q1⟩=>?_);cases c with
 |true=>exact⟨H1,I1,q1⟩
 |false=>exact hb wh pins s1 σ H1 Q I1 q1
theorem BI (ha:PT X a tA):PT X (.UnaryOp .Not a pos) (Kd tA):=by intro pins s σ H Q I h;exact isTrue_not (ha pins s σ H (fun c H1=>Q (!c) H1) I h)
noncomputable def IN (ta tb:TE):TE:=fun σ H Q=>ta σ H fun x H1=>∃c,x=.bl c/\if c=ai then tb σ H1 Q else Q (.bl ao) H1
noncomputable def Lw (ta:TE):TE:=fun σ H Q=>ta σ H fun x H1=>∃c,x=.bl c/\Q (.bl (!c)) H1
theorem Ng {op} {t:TE} (h:PE X a t):PE X (.BoolOp op [a] pos) t:=fun pins s σ H Q I hw=>BoolOp_one (h pins s σ H Q I hw)
theorem OM (ha:PE X a ta) (hb:PE X (.BoolOp .And (b::bD) pos) tb):PE X (.BoolOp .And (a::b::bD) pos) (IN ta tb):=by
 intro pins s σ H Q I h;refine BoolOp_and (thn (ha pins s σ H _ I h) fun v s1 ⟨x,H1,I1,r1,q1⟩=>?_);obtain⟨c,rfl,q1⟩:=q1;cases r1;refine lE ?_;cases c with
 |true=>exact hb pins s1 σ H1 Q I1 q1
 |false=>exact⟨.bl ao,H1,I1,rfl,q1⟩
theorem Ic (ha:PE X a ta):PE X (.UnaryOp .Not a pos) (Lw ta):=by intro pins s σ H Q I h;refine EL (thn (ha pins s σ H _ I h) fun v s1 ⟨x,H1,I1,r1,q1⟩=>?_);obtain⟨c,rfl,q1⟩:=q1;cases r1;exact not_of (lE ⟨.bl (!c),H1,I1,rfl,q1⟩)
noncomputable def tIf (t:TT) (ta tb:TE):TE:=fun σ H Q=>t σ H fun c H1=>if c=ai then ta σ H1 Q else tb σ H1 Q
theorem J' (hc:PT X c tA) (ha:PE X a ta) (hb:PE X b tb):PE X (.IfExp c a b pos) (tIf tA ta tb):=by
 intro pins s σ H Q I h;refine wpAny_IfExp (thn (hc pins s σ H _ I h) fun d s1 ⟨H1,I1,q1⟩=>?_);cases d with
 |true=>exact ha pins s1 σ H1 Q I1 q1
 |false=>exact hb pins s1 σ H1 Q I1 q1
end
noncomputable def SqL (K:aR) (H:Hp) (a:au) (xs:ab V):Prop:=
 Rd H a (.lst xs) \/
  ∃(o:bf) (its:b9 av) (n:ag),K.lookup a=aa o/\o.cls=.type "list"/\o.dict=ac/\o.data=.seq its n/\its.size<=aK/\bj xs its.toList
noncomputable def SqT (K:aR) (H:Hp) (a:au) (xs:ab V):Prop:=
 Rd H a (.tup xs) \/
  ∃(o:bf) (its:b9 av) (n:ag),K.lookup a=aa o/\o.cls=.type "tuple"/\o.data=.seq its n/\its.size<=aK/\bj xs its.toList
noncomputable def Mf:av->aq V
 |.none=>aa .non
 |.bool b=>aa (.bl b)
 |.int i _=>aa (.int i)
 |.str x _=>aa (.str x)
 |.bytes b _=>aa (.byt b)
 |.float b _=>aa (.flt b)
 |.ref a=>aa (.ref a)
 |.type n=>aa (.ty n)
 |_=>ac
theorem bK.abs {x:V} (r:bK x u):Mf u=aa x:=by
 cases x with
 |non=>cases r;rfl
 |bl _=>cases r;rfl
 |int _=>obtain⟨t,rfl⟩:=r;rfl
 |str _=>obtain⟨t,rfl⟩:=r;rfl
 |byt _=>obtain⟨t,rfl⟩:=r;rfl
 |flt _=>obtain⟨t,rfl⟩:=r;rfl
 |ref _=>cases r;rfl
 |ty _=>cases r;rfl
theorem bK.inj {x y:V} (r:bK x u) (q:bK y u):x=y:=qK (r.abs.symm.trans q.abs)
theorem bj.inj:∀{xs ys:ab V} {us:ab av},bj xs us->bj ys us->xs=ys
 |_,_,_,.nil,.nil=>rfl
 |_,_,_,.cons r t,.cons r' t'=>by rw[r.inj r',bj.inj t t']
variable {xs ys:ab V}
section
variable {s:aB} {a:au}
theorem Inv.list (I:Inv X pins σ H s) (h:SqL X.K H a xs):∃its:ab av,bj xs its/\PlainL s.heap a its.toArray/\xs.length<=aK:=by
 rcases h with h|⟨o,its,n,hk,hc,hd,hs,hz,r⟩
 .obtain⟨z,its,n,r,e⟩:=h.ok I.hok;exact⟨its,r,⟨_,n,e,rfl,rfl,rfl⟩,z⟩
 .refine⟨its.toList,r,⟨o,n,I.kIn a o hk,hc,hd,by simpa using hs⟩,?_⟩;have e:=r.length;simp only[iR] at e;omega
theorem Inv.tuple (I:Inv X pins σ H s) (h:SqT X.K H a xs):∃its:ab av,bj xs its/\IsTup s.heap a its.toArray/\xs.length<=aK:=by
 rcases h with h|⟨o,its,n,hk,hc,hs,hz,r⟩
 .obtain⟨z,its,r,p⟩:=h.ok I.hok;exact⟨its,r,p,z⟩
 .refine⟨its.toList,r,⟨o,I.kIn a o hk,hc,n,by simpa using hs⟩,?_⟩;have e:=r.length;simp only[iR] at e;omega
theorem Inv.list_inj (I:Inv X pins σ H s) (h:SqL X.K H a xs) (h':SqL X.K H a ys):xs=ys:=by
 obtain⟨its,r,⟨o,n,e,_,_,d⟩,_⟩:=I.list h;obtain⟨its',r',⟨o',n',e',_,_,d'⟩,_⟩:=I.list h';rw[e] at e';cases e';rw[d] at d';injection d' with d1 _;have:its=its':=by simpa using c7 Ph d1
 subst this;exact r.inj r'
theorem Inv.tuple_inj (I:Inv X pins σ H s) (h:SqT X.K H a xs) (h':SqT X.K H a ys):xs=ys:=by
 obtain⟨its,r,⟨o,e,_,n,d⟩,_⟩:=I.tuple h;obtain⟨its',r',⟨o',e',_,n',d'⟩,_⟩:=I.tuple h';rw[e] at e';cases e';rw[d] at d';injection d' with d1 _;have:its=its':=by simpa using c7 Ph d1
 subst this;exact r.inj r'
end
abbrev Cx.wish (X:Cx) (E:av->aB->Prop):Cx:={X with xe:=E}
abbrev Cx.nox (X:Cx):Cx:=X.wish fun _ _=>False
theorem Cx.Ok.wish (ok:X.Ok) (E:av->aB->Prop):(X.wish E).Ok:=
 ⟨ok.mod,ok.kind,ok.glob,ok.blt,ok.above,ok.inj,ok.has,ok.cab,ok.hd,ok.frames,ok.stk,ok.exf,ok.bs,ok.bsz,ok.noex,ok.exfs,ok.funs,ok.frf⟩
theorem Cx.Ok.unwish (ok:(X.wish E).Ok):X.Ok:=
 ⟨ok.mod,ok.kind,ok.glob,ok.blt,ok.above,ok.inj,ok.has,ok.cab,ok.hd,ok.frames,ok.stk,ok.exf,ok.bs,ok.bsz,ok.noex,ok.exfs,ok.funs,ok.frf⟩
section
variable {s:aB}
theorem Inv.wish (I:Inv X pins σ H s) (E:av->aB->Prop):Inv (X.wish E) pins σ H s:=⟨I.ok.wish E,I.os,I.bare,I.base,I.loc,I.cell,I.free,I.freeC,I.pin,I.hok,I.len⟩
theorem Inv.unwish (I:Inv (X.wish E) pins σ H s):Inv X pins σ H s:=⟨I.ok.unwish,I.os,I.bare,I.base,I.loc,I.cell,I.free,I.freeC,I.pin,I.hok,I.len⟩
theorem SP.unwish {D:Ends} {f:Flow} {s':aB} (h:SP (X.wish E) pins D f s'):SP X pins D f s':=by
 cases f with
 |next=>obtain⟨σ',H',I,q⟩:=h;exact⟨σ',H',I.unwish,q⟩
 |brk=>obtain⟨σ',H',I,q⟩:=h;exact⟨σ',H',I.unwish,q⟩
 |cont=>obtain⟨σ',H',I,q⟩:=h;exact⟨σ',H',I.unwish,q⟩
 |ret u=>obtain⟨v,σ',H',I,r,q⟩:=h;exact⟨v,σ',H',I.unwish,r,q⟩
theorem PSs.nox {st:ab Stmt} {t:TS} (h:PSs X.nox st t):PSs X st t:=fun pins s σ H D I hw=>
 im (h pins s σ H D (I.wish _) hw) (fun _ _ q=>q.unwish) fun _ _ z=>io z
end
variable {te:TE} {tc:TT} {sts:ab Stmt}
section
variable {st:Stmt} {bD:ab Stmt} {t u:TS}
noncomputable def t0:TS:=fun D σ H=>D.nx σ H
noncomputable def kx (t u:TS):TS:=fun D σ H=>t {D with nx:=u D} σ H
theorem nM:PSs X [] t0:=fun _ _ σ H _ I h=>yr ⟨σ,H,I,h⟩
theorem iJ (h1:PS X st t) (h2:PSs X bD u):PSs X (st::bD) (kx t u):=by
 intro pins s σ H D I h;refine Pi (thn (h1 pins s σ H {D with nx:=u D} I h) fun f s1 q=>?_);cases f with
 |next=>
  obtain⟨σ',H',I',q⟩:=q;exact h2 pins s1 σ' H' D I' q
 |ret v=>exact q
 |brk=>exact q
 |cont=>exact q
theorem l' (h1:PS X st t):PSs X [st] t:=by
 intro pins s σ H D I h;refine Pi (thn (h1 pins s σ H D I h) fun f s1 q=>?_);cases f with
 |next=>exact yr q
 |ret v=>exact q
 |brk=>exact q
 |cont=>exact q
theorem Inv.quiet {s:aB} (I:Inv X pins σ H s):interactive X.env=ao:=by simp[interactive,I.ok.kind]
noncomputable def me (te:TE):TS:=fun D σ H=>te σ H fun _ H1=>D.nx σ H1
theorem jF (he:PE X e te) (hs:eE e ac pos.line X.env=pure ao:=by rfl):PS X (.Expr e pos) (me te):=by intro pins s σ H D I h;exact wpAny_Expr_any (thn (he pins s σ H _ I h) fun v s1 ⟨x,H1,I1,r1,q1⟩=>⟨σ,H1,I1,q1⟩) I.quiet hs
noncomputable def ON (te:TE):TS:=fun D σ H=>te σ H D.rt
theorem wY (he:PE X e te):PS X (.Return (aa e) pos) (ON te):=by intro pins s σ H D I h;exact wpAny_Return_some (thn (he pins s σ H _ I h) fun v s1 ⟨x,H1,I1,r1,q1⟩=>⟨x,σ,H1,I1,r1,q1⟩)
noncomputable def oJ (c:TT) (t u:TS):TS:=fun D σ H=>c σ H fun b H1=>if b=ai then t D σ H1 else u D σ H1
theorem nQ {a b:ab Stmt} (hc:PT X c tc) (ha:PSs X a t) (hb:PSs X b u):PS X (.If c a b pos) (oJ tc t u):=by
 intro pins s σ H D I h;refine wpAny_If (thn (hc pins s σ H _ I h) fun d s1 ⟨H1,I1,q1⟩=>?_);cases d with
 |true=>exact ha pins s1 σ H1 D I1 q1
 |false=>exact hb pins s1 σ H1 D I1 q1
noncomputable def Mv:TS:=fun _ _ _=>False
theorem Iw :PSs X sts Mv:=fun _ _ _ _ _ _ h=>h.elim
end
abbrev TG:=V->St->Hp->(St->Hp->Prop)->Prop
abbrev TGs:=ab V->St->Hp->(St->Hp->Prop)->Prop
noncomputable def PG (X:Cx) (target:Expr) (t:TG):Prop:=
 ∀(pins:ab (au×bf)) (s:aB) (σ:St) (H:Hp) (v:V) (u:av) (Q:St->Hp->Prop),Inv X pins σ H s->bK v u->t v σ H Q->
  aE (aO X.prog X.w) X.A (jJ target X.env u) (fun _ s'=>∃σ' H',Inv X pins σ' H' s'/\Q σ' H') X.xe s
noncomputable def PGs (X:Cx) (ts:ab Expr) (t:TGs):Prop:=
 ∀(pins:ab (au×bf)) (s:aB) (σ:St) (H:Hp) (vs:ab V) (us:ab av) (Q:St->Hp->Prop),Inv X pins σ H s->bj vs us->t vs σ H Q->
  aE (aO X.prog X.w) X.A (assignInOrder ((jK ts X.env).map (·.2)) us) (fun _ s'=>∃σ' H',Inv X pins σ' H' s'/\Q σ' H') X.xe s
abbrev xr:=V->V->V->Hp->(Hp->Prop)->Prop
noncomputable def zv (X:Cx) (t:xr):Prop:=
 ∀(pins:ab (au×bf)) (s:aB) (σ:St) (H:Hp) (o i v:V) (ov iv u:av) (Q:Hp->Prop),Inv X pins σ H s->bK o ov->bK i iv->bK v u->t o i v H Q->
  aE (aO X.prog X.w) X.A (setItem ov iv u) (fun _ s'=>∃H',Inv X pins σ H' s'/\Q H') X.xe s
variable {es:ab Expr} {n:ag} {o tg:Expr} {to:TE} {pos':fm}
noncomputable def jh (i:ag):TG:=fun v σ H Q=>Q (σ.set i (aa v)) H
theorem zB (hN:X.N.Nodup) (hi:X.N[i]?=aa x) (hx:Loc X.env.scope x) (hf:X.fn x=ai\/X.env.scope.names.lookup x=aa .local:=by first|exact .inl rfl|exact .inr rfl|assumption):PG X (.Name x pos) (jh i):=by intro pins s σ H v u Q I r h;exact Pj (CQ I hN hi hx r (fun s' I'=>⟨_,H,I',h⟩) hf)
noncomputable def HC:TGs:=fun vs σ H Q=>vs=[]/\Q σ H
noncomputable def Gu (t:TG) (u:TGs):TGs:=fun vs σ H Q=>∃v r,vs=v::r/\t v σ H fun σ' H'=>u r σ' H' Q
theorem KL:PGs X [] HC:=by intro pins s σ H vs us Q I r h;obtain⟨e,h⟩:=h;subst e;cases r;exact assignInOrder_nil ⟨σ,H,I,h⟩
theorem Kr {t:TG} {u:TGs} (h1:PG X e t) (h2:PGs X es u)
  (hs:(jK (e::es) X.env).map (·.2)=jJ e X.env::(jK es X.env).map (·.2):=by rfl):PGs X (e::es) (Gu t u):=by
 intro pins s σ H vs us Q I r h;obtain⟨v,vr,e1,h⟩:=h;subst e1;cases r with
 |cons r rr=>
  rw[hs];refine assignInOrder_cons (thn (h1 pins s σ H _ _ _ I r h) fun _ s1 ⟨σ1,H1,I1,q1⟩=>?_);exact h2 pins s1 σ1 H1 _ _ Q I1 rr q1
noncomputable def Lz (K:aR) (n:ag) (t:TGs):TG:=fun v σ H Q=>∃a xs,v=.ref a/\SqT K H a xs/\xs.length=n/\t xs σ H Q
theorem Md {k:ag} {t:TGs} (hc:X.calm=ai) (h:PGs X es t)
  (hn:(jK es X.env).length=n:=by rfl) (hst:(jK es X.env).findIdx? (·.1)=ac:=by rfl):PG X (.Tuple es k pos) (Lz X.K n t):=by
 intro pins s σ H v u Q I r hw;obtain⟨a,xs,e1,hq,hl,hw⟩:=hw;subst e1;cases r;obtain⟨its,rv,ht,hz⟩:=I.tuple hq;refine assign_Tuple_tuple (I.ok.hd hc) ht (by simp[hn,←hl,rv.length]) hst fun h' hx=>?_;have I1:Inv X pins σ H {s with heap:=h'}:=I.kept (t':=s.toks) fun b o e=>hx b o (qG (qx e)) e;exact h pins _ σ H xs _ Q I1 (by simpa using rv) hw
noncomputable def MV (to ti:TE) (t:xr):TG:=fun v σ H Q=>to σ H fun o H1=>ti σ H1 fun i H2=>t o i v H2 fun H3=>Q σ H3
theorem JA {i:Expr} {ti:TE} {t:xr} (ho:PE X o to) (hi:PE X i ti) (hs:zv X t)
  (ha:∀v,jJ (.Subscript o i pos) X.env v=(do
   let ov ←fD [v] (eval o X.env)
   let iv ←fD [v,ov] (eval i X.env)
   iQ pos
   fD [v,ov,iv] (setItem ov iv v)
   release [v,ov,iv] []):=by intro _;rfl):PG X (.Subscript o i pos) (MV to ti t):=by
 intro pins s σ H v u Q I r h;rw[ha];refine qB (ip (thn (ho pins s σ H _ I h) fun ov s1 ⟨x,H1,I1,r1,q1⟩=>?_));refine qB (ip (thn (hi pins s1 σ H1 _ I1 q1) fun iv s2 ⟨y,H2,I2,r2,q2⟩=>?_));refine qB (EM (qB (ip (thn (hs pins s2 σ H2 x y v ov iv u _ I2 r1 r2 r q2) fun _ s3 ⟨H3,I3,q3⟩=>?_))));exact wpAny_release ⟨σ,H3,I3,q3⟩
noncomputable def jV (te:TE) (g:TG):TS:=fun D σ H=>te σ H fun x H1=>g x σ H1 D.nx
theorem DZ {g:TG} (he:PE X e te) (hg:PG X tg g) (hs:EN [tg] e pos.line X.env=pure ao:=by rfl) (hw:EO [tg] e X.env=pure ac:=by rfl)
  (h1:(jK [tg] X.env).map (·.2)=[jJ tg X.env]:=by rfl):PS X (.Assign [tg] e pos) (jV te g):=by
 intro pins s σ H D I h;refine wpAny_Assign_stores (thn (he pins s σ H _ I h) fun v s1 ⟨x,H1,I1,r1,q1⟩=>?_) hs hw;rw[h1];exact thn (hg pins s1 σ H1 x v _ I1 r1 q1) fun _ s2 q=>q
theorem mm (hN:X.N.Nodup) (hi:X.N[i]?=aa x) (hx:Loc X.env.scope x) (he:PE X e te) (hs:eE e (aa (.Name x pos')) pos.line X.env=pure ao:=by rfl) (hf:X.fn x=ai\/X.env.scope.names.lookup x=aa .local:=by first|exact .inl rfl|exact .inr rfl|assumption) :
  PS X (.Assign [.Name x pos'] e pos) (jV te (jh i)):=by
 intro pins s σ H D I h;refine wpAny_Assign_Name (thn (he pins s σ H _ I h) fun v s1 ⟨y,H1,I1,r1,q1⟩=>?_) hs;exact CQ I1 hN hi hx r1 (fun s2 I2=>⟨_,H1,I2,q1⟩) hf
variable {body:ab Stmt}
noncomputable def M2 (c:TT) (tb:TS):TS:=fun D σ H=>∃W:ag->St->Hp->Prop,(∃m,W m σ H)/\∀m σ H,W m σ H->
 c σ H fun b H1=>if b=ai then ∃N:St->Hp->Prop,(∀σ' H',N σ' H'->∃m',m'<m/\W m' σ' H')/\tb {D with nx:=N,ct:=N,bk:=D.nx} σ H1 else D.nx σ H1
theorem Mp {tb:TS} (hp:uX (aO X.prog X.w) X.A X.env X.xe) (hc:PT X c tc) (hb:PSs X body tb):PS X (.While c body [] pos) (M2 tc tb):=by
 intro pins s σ H D I h;obtain⟨W,⟨m0,w0⟩,turn⟩:=h;refine wpAny_While (codeAny_whileLoop (fun n s'=>∃σ' H',Inv X pins σ' H' s'/\W n σ' H') ?_ m0 ⟨σ,H,I,w0⟩);rintro n s1 ⟨σ1,H1,I1,w1⟩;refine oa hp (thn (hc pins s1 σ1 H1 _ I1 (turn n σ1 H1 w1)) fun b s2 ⟨H2,I2,q2⟩=>?_);cases b with
 |true=>
  obtain⟨N,hN,q2⟩:=q2;rw[qY rfl];refine oa hp (thn (hb pins s2 σ1 H2 _ I2 q2) fun f s3 q3=>?_);cases f with
  |next=>
   obtain⟨σ3,H3,I3,n3⟩:=q3;obtain⟨m',hm,w3⟩:=hN σ3 H3 n3;exact⟨m',hm,σ3,H3,I3,w3⟩
  |cont=>
   obtain⟨σ3,H3,I3,n3⟩:=q3;obtain⟨m',hm,w3⟩:=hN σ3 H3 n3;exact⟨m',hm,σ3,H3,I3,w3⟩
  |brk=>exact q3
  |ret v=>exact q3
 |false=>
  rw[qZ qv];exact yr ⟨σ1,H2,I2,q2⟩
structure It where
 go:ag->Hp->Prop
 yld:ag->Hp->V->Hp->Prop
 stop:ag->Hp->Prop
noncomputable def gX (X:Cx) (pins:ab (au×bf)) (H:Hp) (b:au):Prop:=
 H b=ac/\b≠X.env.locals/\b∉X.fs/\(b∈X.ex\/X.s₀.heap.objs.size<=b)/\(∀x c,X.env.cells.lookup x=aa c->c≠b)/\∀p∈X.pn++pins,p.1≠b
theorem Inv.fpOk {s:aB} {b:au} (I:Inv X pins σ H s) (hb:s.heap.objs.size<=b) (hn:H' b=ac):gX X pins H' b:=by
 refine⟨hn,uY (qI I.lt hb),I.nofs hb,.inr (qP I.sz hb),fun x c e z=>?_,fun p hp z=>?_⟩
 .obtain⟨v,q⟩:=I.cell x c e;exact bx (qI q.lt (by rw[z];exact hb)) (rE _)
 .exact bx (qI (qx (I.pin p hp).1) (by rw[z];exact hb)) (rE _)
structure Turn (P:dD) (w:cS) (K:aR) (tg:Expr) (J:It) (fp:ab au) (it:au) (tn:ag->Heap->Prop):Prop where
 mem:it∈fp
 obj:∀i h,tn i h->∀b∈fp,∃o,h.get? b=aa o/\∀v,o.data≠.cell v
 keep:∀i h h',tn i h->(∀b∈fp,∀o,h.get? b=aa o->h'.get? b=aa o)->tn i h'
 item:∀(X:Cx),X.prog=P->X.w=w->X.K=K->X.calm=ai->∀(i:ag) (pins:ab (au×bf)) (s:aB) (σ:St) (H:Hp) (E:av->aB->Prop),Inv X pins σ H s->(∀b∈fp,gX X pins H b)->tn i s.heap->J.go i H->
  aE (aO P w) X.A (lF (.ref it)) (fun r s1=>∃u,r=aa u /\
   aE (aO P w) X.A (uZ tg (.ref it) u) (fun _ s2=>∃x H',Inv X pins σ H' s2/\bK x u/\J.yld i H x H'/\tn (i+1) s2.heap/\∀b∈fp,H' b=ac) E s1) E s
 done:∀(X:Cx),X.prog=P->X.w=w->X.K=K->X.calm=ai->∀(i:ag) (pins:ab (au×bf)) (s:aB) (σ:St) (H:Hp) (E:av->aB->Prop),Inv X pins σ H s->(∀b∈fp,gX X pins H b)->tn i s.heap->J.stop i H->
  aE (aO P w) X.A (lF (.ref it)) (fun r s1=>r=ac/\Inv X pins σ H s1) E s
 self:∀(A:dj) (i:ag) (s:aB) (Q:av->aB->Prop) (E:av->aB->Prop),tn i s.heap->Q (.ref it) s->aE (aO P w) A (u0 (.ref it)) Q E s
abbrev TI:=St->Hp->(It->Hp->Prop)->Prop
noncomputable def PIE (X:Cx) (pins:ab (au×bf)) (σ:St) (tg:Expr) (R:It->Hp->Prop) (itv:av) (s2:aB):Prop:=
 ∃(it:au) (fp:ab au) (tn:ag->Heap->Prop) (J:It) (H':Hp),itv=.ref it/\Inv X pins σ H' s2/\Turn X.prog X.w X.K tg J fp it tn/\tn 0 s2.heap/\(∀b∈fp,gX X pins H' b)/\R J H'
noncomputable def PI (X:Cx) (tg iter:Expr) (wi:TI):Prop:=
 ∀(pins:ab (au×bf)) (s:aB) (σ:St) (H:Hp) (R:It->Hp->Prop),Inv X pins σ H s->wi σ H R->
  aE (aO X.prog X.w) X.A (eval iter X.env) (fun v s1=>aE (aO X.prog X.w) X.A (u0 v) (PIE X pins σ tg R) X.xe s1) X.xe s
theorem vM {M:uW} {s:aB} {it:au} {o:bf} {n:String} {vs:b9 av} {Q:mI->aB->Prop} (ho:s.heap.get? it=aa o) (hc:o.cls=.type n) (hd:o.data=.fields vs)
  (hn:["enumerate","zip","dict_itemiterator","dict_reverseitemiterator","odict_iterator","itertools.zip_longest","itertools.pairwise"].contains n=ao) (hQ:Q () s):aE M A (uZ tg (.ref it) u) Q E s:=by
 unfold uZ;cases tg<;>first
  |exact qE hQ
  |(cases u<;>first
    |exact qE hQ
    |(refine qB (wpAny_load ho ?_);rw[hc,hd];show aE M A (if (["enumerate","zip","dict_itemiterator","dict_reverseitemiterator","odict_iterator","itertools.zip_longest","itertools.pairwise"].contains n && vs[0]?==aa (oe _))=ai then _ else _) Q E s;rw[qZ (by intro h;rw[hn,Bool.false_and] at h;cases h)];exact qE hQ))
noncomputable def Itl (K:aR) (a:au):It:=
 ⟨fun i H=>∃xs x,SqL K H a xs/\xs[i]?=aa x,fun i H x H'=>H'=H/\∀xs,SqL K H a xs->xs[i]?=aa x,fun i H=>∃xs,SqL K H a xs/\xs.length<=i⟩
noncomputable def Itt (K:aR) (a:au):It:=
 ⟨fun i H=>∃xs x,SqT K H a xs/\xs[i]?=aa x,fun i H x H'=>H'=H/\∀xs,SqT K H a xs->xs[i]?=aa x,fun i H=>∃xs,SqT K H a xs/\xs.length<=i⟩
noncomputable def Itr (lo:aj) (n:ag):It:=⟨fun i _=>i<n,fun i H x H'=>H'=H/\x=.int (lo+i),fun i _=>n<=i⟩
variable {K:aR}
theorem zy (a it:au):Turn P w K tg (Itl K a) [it] it (fun i h=>h.IsListIter it a i) where
 mem:=by simp
 obj:=fun i h st b hb=>by
  have e:b=it:=by simpa using hb
  subst e;obtain⟨o,e,c,d⟩:=st;exact⟨o,e,fun v z=>by rw[d] at z;cases z⟩
 keep:=fun i h h' st k=>st.at fun o e=>k it (by simp) o e
 item:=by intro X hP hw hK hc i pins s σ H E I hf st hg;subst hP hw hK;obtain⟨xs,x,hq,hx⟩:=hg;obtain⟨its,rv,p,hz⟩:=I.list hq;obtain⟨u,hu,ru⟩:=rv.get hx;obtain⟨f0,f1,f2,f3,f4,f5⟩:=hf it (by simp);refine wpAny_pyNext_list_item st p.isList (x:=u) (by simpa using hu) fun h' st' sb=>?_;have I1:Inv X pins σ H {s with heap:=h'}:=I.turned (t':=s.toks) (fun b o hb e=>(sb.2 b hb).trans e) f0 f1 f3 f4 f5;obtain⟨o,e,c,d⟩:=id st';exact⟨u,rfl,vM (s:={s with heap:=h'}) e c d (by decide) ⟨x,H,I1,ru,⟨rfl,fun ys hy=>by rw[I.list_inj hy hq];exact hx⟩,st',fun b hb=>(hf b hb).1⟩⟩
 done:=by intro X hP hw hK hc i pins s σ H E I hf st hg;subst hP hw hK;obtain⟨xs,hq,hx⟩:=hg;obtain⟨its,rv,p,hz⟩:=I.list hq;obtain⟨f0,f1,f2,f3,f4,f5⟩:=hf it (by simp);have hl:=rv.length;exact wpAny_pyNext_list_end (I.ok.hd hc) st p.isList (by simp;omega) fun h' eb=>⟨rfl,I.turned (t':=s.toks) (fun b o hb e=>eb b o hb e) f0 f1 f3 f4 f5⟩
 self:=fun _ _ _ _ _ st h=>wpAny_pyIter_listiter st h
theorem JY (a it:au):Turn P w K tg (Itt K a) [it] it (fun i h=>h.IsTupleIter it a i) where
 mem:=by simp
 obj:=fun i h st b hb=>by
  have e:b=it:=by simpa using hb
  subst e;obtain⟨o,e,c,d⟩:=st;exact⟨o,e,fun v z=>by rw[d] at z;cases z⟩
 keep:=fun i h h' st k=>st.at fun o e=>k it (by simp) o e
 item:=by intro X hP hw hK hc i pins s σ H E I hf st hg;subst hP hw hK;obtain⟨xs,x,hq,hx⟩:=hg;obtain⟨its,rv,p,hz⟩:=I.tuple hq;obtain⟨u,hu,ru⟩:=rv.get hx;obtain⟨f0,f1,f2,f3,f4,f5⟩:=hf it (by simp);refine wpAny_pyNext_tuple_item st (show s.heap.IsTuple a its.toArray from p) (x:=u) (by simpa using hu) fun h' st' sb=>?_;have I1:Inv X pins σ H {s with heap:=h'}:=I.turned (t':=s.toks) (fun b o hb e=>(sb.2 b hb).trans e) f0 f1 f3 f4 f5;obtain⟨o,e,c,d⟩:=id st';exact⟨u,rfl,vM (s:={s with heap:=h'}) e c d (by decide) ⟨x,H,I1,ru,⟨rfl,fun ys hy=>by rw[I.tuple_inj hy hq];exact hx⟩,st',fun b hb=>(hf b hb).1⟩⟩
 done:=by intro X hP hw hK hc i pins s σ H E I hf st hg;subst hP hw hK;obtain⟨xs,hq,hx⟩:=hg;obtain⟨its,rv,p,hz⟩:=I.tuple hq;obtain⟨f0,f1,f2,f3,f4,f5⟩:=hf it (by simp);have hl:=rv.length;exact wpAny_pyNext_tuple_end (I.ok.hd hc) st (show s.heap.IsTuple a its.toArray from p) (by simp;omega) fun h' eb=>⟨rfl,I.turned (t':=s.toks) (fun b o hb e=>eb b o hb e) f0 f1 f3 f4 f5⟩
 self:=fun _ _ _ _ _ st h=>wpAny_pyIter_tupleiter st h
theorem L4 (it:au) (lo:aj) (n:ag):Turn P w K tg (Itr lo n) [it] it (fun i h=>IsRangeIter h it (lo+(i:ag)*1) ((n:aj)-(i:ag)) 1) where
 mem:=by simp
 obj:=fun i h st b hb=>by
  have e:b=it:=by simpa using hb
  subst e;exact⟨_,st,fun v z=>by have z':Data.fields _=Data.cell v:=z;cases z'⟩
 keep:=fun i h h' st k=>k it (by simp) _ st
 item:=by intro X hP hw hK hc i pins s σ H E I hf st hg;subst hP hw hK;obtain⟨f0,f1,f2,f3,f4,f5⟩:=hf it (by simp);have W:=Walks.range (prog:=X.prog) (w:=X.w) (I.ok.hd hc) it lo 1 n;refine W.item i s _ _ hg st fun v h' tk hv st' kk=>?_;obtain⟨t,rfl⟩:=hv;have I1:Inv X pins σ H {s with heap:=h',toks:=tk}:=I.turned (fun b o hb e=>kk b o (by simpa using hb) e) f0 f1 f3 f4 f5;refine⟨_,rfl,vM (s:={s with heap:=h',toks:=tk}) (n:="range_iterator") st' rfl rfl (by decide) ⟨.int (lo+i),H,I1,⟨t,?_⟩,⟨rfl,rfl⟩,st',fun b hb=>(hf b hb).1⟩⟩;rw[Int.mul_one]
 done:=by intro X hP hw hK hc i pins s σ H E I hf st hg;subst hP hw hK;obtain⟨f0,f1,f2,f3,f4,f5⟩:=hf it (by simp);exact wpAny_pyNext_range_end (I.ok.hd hc) st (by have:n<=i:=hg;omega) fun h' eb=>⟨rfl,I.turned (t':=s.toks) (fun b o hb e=>eb b o hb e) f0 f1 f3 f4 f5⟩
 self:=fun _ _ _ _ _ st h=>wpAny_pyIter_rangeiter st h
variable {tl:TE} {lo:aj} {p:fm} {fp:ab au} {iter:Expr} {wi:TI}
noncomputable def Bj (K:aR) (tl:TE):TI:=fun σ H R=>tl σ H fun x H1=>∃a,x=.ref a/\(∃xs,SqL K H1 a xs)/\R (Itl K a) H1
theorem IM {l:Expr} (hl:PE X l tl):PI X tg l (Bj X.K tl):=by
 intro pins s σ H R I h;refine thn (hl pins s σ H _ I h) fun v s1 ⟨x,H1,I1,r1,q1⟩=>?_;obtain⟨a,e,⟨xs,hq⟩,q⟩:=q1;subst e;cases r1;obtain⟨its,rv,p,hz⟩:=I1.list hq;refine og p.isList ?_;refine⟨s1.heap.objs.size,[s1.heap.objs.size],_,_,H1,rfl,I1.kept (t':=s1.toks) fun b o e=>qw _ e,zy a _,⟨_,qJ _ rfl,rfl,rfl⟩,fun b hb=>?_,q⟩;have e:b=s1.heap.objs.size:=by simpa using hb
 subst e;exact I1.fpOk (qy _) (I1.hok.fresh (qy _))
theorem Ew {s:aB} {R:It->Hp->Prop} {hi:aj} {t u v:Tok} {tk:ag} (I:Inv X pins σ H s) (h1 : -(2 ^ 62)<=lo) (h2:lo<2 ^ 62) (h3 : -(2 ^ 62)<=hi) (h4:hi<2 ^ 62)
  (q:R (Itr lo (hi-lo).toNat) H):aE (aO X.prog X.w) X.A (u0 (.ref s.heap.objs.size)) (PIE X pins σ tg R) E {s with heap:=s.heap.push {cls:=.type "range",data:=.fields #[.int lo t,.int hi u,.int 1 v]},toks:=tk}:=by
 refine wpAny_pyIter_range (IsRange.new ..) (small_one h1 h2 h3 h4) ?_;have I1:Inv X pins σ H {s with heap:=s.heap.push {cls:=.type "range",data:=.fields #[.int lo t,.int hi u,.int 1 v]},toks:=tk}:=I.kept fun b o e=>qw _ e;refine⟨(s.heap.push {cls:=.type "range",data:=.fields #[.int lo t,.int hi u,.int 1 v]}).objs.size,[(s.heap.push {cls:=.type "range",data:=.fields #[.int lo t,.int hi u,.int 1 v]}).objs.size],_,_,H,rfl,
  I1.kept (t':=tk) fun b o e=>qw _ e,L4 _ lo (hi-lo).toNat,?_,fun b hb=>?_,q⟩
 .have e1:lo+((0:ag):aj)*1=lo:=by simp
  have e2:(((hi-lo).toNat:ag):aj)-((0:ag):aj)=Ro lo hi 1:=by rw[rangeSize_one];split<;>omega
  show IsRangeIter _ _ (lo+((0:ag):aj)*1) ((((hi-lo).toNat:ag):aj)-((0:ag):aj)) 1;rw[e1,e2];exact qJ _ rfl
 .have e:b=(s.heap.push {cls:=.type "range",data:=.fields #[.int lo t,.int hi u,.int 1 v]}).objs.size:=by simpa using hb
  subst e;exact I1.fpOk (qy _) (I1.hok.fresh (qy _))
noncomputable def N0 (ta:TA):TI:=fun σ H R=>ta σ H fun vs H1=>∃j:aj,vs=[.int j] /\ -(2 ^ 62)<=j/\j<2 ^ 62/\R (Itr 0 j.toNat) H1
noncomputable def JR (ta:TA):TI:=fun σ H R=>ta σ H fun vs H1=>∃i j:aj,vs=[.int i,.int j]/\(-(2 ^ 62)<=i/\i<2 ^ 62 /\ -(2 ^ 62)<=j/\j<2 ^ 62)/\R (Itr i (j-i).toNat) H1
theorem C3 {ta:TA} (hg:Gl X "range") (hm:X.mg "range"=ac) (ha:PA X [a] ta) (hs:aH [a] X.env=[(ao,eval a X.env)]:=by rfl):PI X tg (.Call (.Name "range" p) [a] [] pos) (N0 ta):=by
 intro pins s σ H R I h;refine Call_ (na I hg hm boot_range (yt (thn (ha pos pins s σ H _ I h) fun us s1 ⟨vs,H1,I1,r1,q1⟩=>?_) hs rfl));obtain⟨j,e,q1,q2,q⟩:=q1;subst e;cases r1 with
 |cons r rr=>
  cases rr;obtain⟨t,rfl⟩:=r;exact call_range_1 (Ew I1 (by omega) (by omega) q1 q2 (by simpa using q))
theorem L' {ta:TA} (hg:Gl X "range") (hm:X.mg "range"=ac) (ha:PA X [a,b] ta) (hs:aH [a,b] X.env=[(ao,eval a X.env),(ao,eval b X.env)]:=by rfl) (hs2:aH [b] X.env=[(ao,eval b X.env)]:=by rfl) :
  PI X tg (.Call (.Name "range" p) [a,b] [] pos) (JR ta):=by
 intro pins s σ H R I h;refine Call_ (na I hg hm boot_range (yt (thn (ha pos pins s σ H _ I h) fun us s1 ⟨vs,H1,I1,r1,q1⟩=>?_) (by rw[hs,hs2]) (by rw[hs2];rfl)));obtain⟨i,j,e,⟨q1,q2,q3,q4⟩,q⟩:=q1;subst e;cases r1 with
 |cons r rr=>
  cases rr with
  |cons r' rr=>
   cases rr;obtain⟨t,rfl⟩:=r;obtain⟨t',rfl⟩:=r';exact call_range_2 (Ew I1 q1 q2 q3 q4 q)
noncomputable def Ak (wi:TI) (g:TG) (tb:TS):TS:=fun D σ H=>wi σ H fun J H1=>∃W:ag->ag->St->Hp->Prop,(∃m,W 0 m σ H1)/\∀i m σ H,W i m σ H->
 (J.stop i H/\D.nx σ H)\/(J.go i H/\∃N:St->Hp->Prop,(∀σ' H',N σ' H'->∃m',m'<m/\W (i+1) m' σ' H')/\∀x H',J.yld i H x H'->g x σ H' fun σ2 H2=>tb {D with nx:=N,ct:=N,bk:=D.nx} σ2 H2)
noncomputable def pR (fp:ab au) (h:Heap):ab (au×bf):=fp.filterMap fun b=>(h.get? b).map fun o=>(b,o)
theorem sx {b:au} {o:bf} (hb:b∈fp) (e:h.get? b=aa o):(b,o)∈pR fp h:=yu.mpr ⟨b,hb,by rw[e];rfl⟩
theorem LM {p:au×bf} (hp:p∈pR fp h):p.1∈fp/\h.get? p.1=aa p.2:=by
 obtain⟨b,hb,e⟩:=yu.mp hp;cases q:h.get? b with
 |none=>rw[q] at e;cases e
 |some o=>
  rw[q] at e;have e':(b,o)=p:=qK e;subst e';exact⟨hb,q⟩
theorem Inv.pinned {s:aB} (I:Inv X pins σ H s) (hf:∀b∈fp,gX X pins H b) (ho:∀b∈fp,∃o,s.heap.get? b=aa o/\∀v,o.data≠.cell v):Inv X (pins++pR fp s.heap) σ H s:=
 I.pins_of fun p hp=>(gz.mp hp).elim (fun z=>I.pin p (qT _ z)) fun z=>by obtain⟨hb,e⟩:=LM z;obtain⟨f0,f1,f2,_⟩:=hf p.1 hb;obtain⟨o,e',d⟩:=ho p.1 hb;rw[e] at e';cases e';exact⟨e,f0,f1,f2,d⟩
theorem Inv.unpinned {pl:ab (au×bf)} {s:aB} (I:Inv X (pins++pl) σ H s):Inv X pins σ H s:=I.pins_of fun p hp=>I.pin p (qT _ (Pb _ hp))
theorem wV {g:TG} {tb:TS} (hp:uX (aO X.prog X.w) X.A X.env X.xe) (hc:X.calm=ai) (hi:PI X tg iter wi) (hg:PG X tg g) (hb:PSs X body tb)
  (hs:∀x,kA iter X.env x=pure x:=by intro _;rfl):PS X (.For tg iter body [] pos) (Ak wi g tb):=by
 intro pins s σ H D I h;refine wpAny_For (thn (hi pins s σ H _ I h) fun v s1 h1=>thn h1 fun itv s2 h2=>?_) hs;obtain⟨it,fp,tn,J,H2,e,I2,T,st2,f2,W,⟨m0,w0⟩,turn⟩:=h2;subst e;have stat:∀{H':Hp},(∀b∈fp,H' b=ac)->∀b∈fp,gX X pins H' b:=fun hn b hb=>⟨hn b hb,(f2 b hb).2⟩;refine codeAny_forLoop_any (fun n s'=>∃i σ' H',Inv X pins σ' H' s'/\tn i s'.heap/\(∀b∈fp,H' b=ac)/\W i n σ' H') ?_ m0 ⟨0,σ,H2,I2,st2,fun b hb=>(f2 b hb).1,w0⟩;rintro n s3 ⟨i,σ3,H3,I3,st3,fr3,w3⟩;rcases turn i n σ3 H3 w3 with⟨stop,qn⟩|⟨go,N,hN,step⟩
 .refine oa hp (thn (T.done X rfl rfl rfl hc i pins s3 σ3 H3 X.xe I3 (stat fr3) st3 stop) fun r s4 ⟨hr,I4⟩=>?_);subst hr;exact yr ⟨σ3,H3,I4,qn⟩
 .refine oa hp (thn (T.item X rfl rfl rfl hc i pins s3 σ3 H3 X.xe I3 (stat fr3) st3 go) fun r s4 ⟨u,hr,h4⟩=>?_);subst hr;refine oa hp (thn h4 fun _ s5 ⟨x,H5,I5,r5,y5,st5,fr5⟩=>?_);have I5':=I5.pinned (stat fr5) (T.obj _ _ st5);refine oa hp (thn (hg _ s5 σ3 H5 x u _ I5' r5 (step x H5 y5)) fun _ s6 ⟨σ6,H6,I6,q6⟩=>?_);refine oa hp (thn (hb _ s6 σ6 H6 _ I6 q6) fun f s7 q7=>?_);have again:∀{σ7:St} {H7:Hp},Inv X (pins++pR fp s5.heap) σ7 H7 s7->N σ7 H7->∃m,m<n/\∃i σ' H',Inv X pins σ' H' s7/\tn i s7.heap/\(∀b∈fp,H' b=ac)/\W i m σ' H':=fun {σ7 H7} I7 n7=>by obtain⟨m',hm,w7⟩:=hN σ7 H7 n7;refine⟨m',hm,i+1,σ7,H7,I7.unpinned,T.keep _ _ _ st5 fun b hb o e=>(I7.pin (b,o) (qT _ (qT _ (sx hb e)))).1,fun b hb=>?_,w7⟩;obtain⟨o,e,d⟩:=T.obj _ _ st5 b hb;exact(I7.pin (b,o) (qT _ (qT _ (sx hb e)))).2.1
  cases f with
  |next=>obtain⟨σ7,H7,I7,n7⟩:=q7;exact again I7 n7
  |cont=>obtain⟨σ7,H7,I7,n7⟩:=q7;exact again I7 n7
  |brk=>obtain⟨σ7,H7,I7,q7⟩:=q7;exact⟨σ7,H7,I7.unpinned,q7⟩
  |ret v=>obtain⟨x7,σ7,H7,I7,r7,q7⟩:=q7;exact⟨x7,σ7,H7,I7.unpinned,r7,q7⟩
abbrev R2:=V->V->Hp->VK->Prop
noncomputable def OpR (X:Cx) (f:av->av->il av) (r:R2):Prop:=
 ∀(pins:ab (au×bf)) (s:aB) (σ:St) (H:Hp) (x y:V) (v u:av) (Q:VK),Inv X pins σ H s->bK x v->bK y u->r x y H Q->
  aE (aO X.prog X.w) X.A (f v u) (EP X pins σ Q) X.xe s
noncomputable def UnR (X:Cx) (f:av->il av) (r:V->Hp->VK->Prop):Prop:=
 ∀(pins:ab (au×bf)) (s:aB) (σ:St) (H:Hp) (x:V) (v:av) (Q:VK),Inv X pins σ H s->bK x v->r x H Q->
  aE (aO X.prog X.w) X.A (f v) (EP X pins σ Q) X.xe s
noncomputable def gn (X:Cx) (f:av) (r:ab V->Hp->VK->Prop):Prop:=
 ∀(pins:ab (au×bf)) (s:aB) (σ:St) (H:Hp) (xs:ab V) (us:ab av) (Q:VK),Inv X pins σ H s->bj xs us->r xs H Q->
  aE (aO X.prog X.w) X.A (call f us) (EP X pins σ Q) X.xe s
noncomputable def tOp (r:R2) (ta tb:TE):TE:=fun σ H Q=>ta σ H fun x H1=>tb σ H1 fun y H2=>r x y H2 Q
noncomputable def tUn (r:V->Hp->VK->Prop) (ta:TE):TE:=fun σ H Q=>ta σ H fun x H1=>r x H1 Q
noncomputable def rI (C:aj->aj->Prop) (g:aj->aj->V):R2:=fun x y H Q=>∃i j,x=.int i/\y=.int j/\C i j/\Q (g i j) H
noncomputable def rI0 (g:aj->aj->V):R2:=fun x y H Q=>∃i j,x=.int i/\y=.int j/\Q (g i j) H
noncomputable def rU (g:aj->V):V->Hp->VK->Prop:=fun x H Q=>∃i,x=.int i/\Q (g i) H
variable {r:R2}
section
variable {tc:TE}
theorem wA (ha:PE X a ta) (hb:PE X b tb) {s:aB} {R:V->V->Hp->Prop} (I:Inv X pins σ H s)
  (h:ta σ H fun x H1=>tb σ H1 fun y H2=>R x y H2) {f:av->av->il av} 
  (hf:∀v u s2 x y H2,Inv X pins σ H2 s2->bK x v->bK y u->R x y H2->aE (aO X.prog X.w) X.A (f v u) Q X.xe s2) :
  aE (aO X.prog X.w) X.A (eval a X.env) (fun v s₁=>aE (aO X.prog X.w) X.A (eval b X.env) (fun u s₂=>aE (aO X.prog X.w) X.A (f v u) Q X.xe s₂) X.xe s₁) X.xe s:=by
 refine thn (ha pins s σ H _ I h) fun v s1 ⟨x,H1,I1,r1,q1⟩=>?_;refine thn (hb pins s1 σ H1 _ I1 q1) fun u s2 ⟨y,H2,I2,r2,q2⟩=>?_;exact hf v u s2 x y H2 I2 r1 r2 q2
theorem D3 {op:EQ} (ho:OpR X (gB op) r) (ha:PE X a ta) (hb:PE X b tb):PE X (.BinOp a op b pos) (tOp r ta tb):=by intro pins s σ H Q I h;exact wpAny_BinOp (wA ha hb I h fun v u s2 x y H2 I2 rx ry q=>ho pins s2 σ H2 x y v u Q I2 rx ry q)
theorem HS {op:UnaryOp} {r:V->Hp->VK->Prop} (ho:UnR X (unaryOp op) r) (ha:PE X a ta):PE X (.UnaryOp op a pos) (tUn r ta):=by intro pins s σ H Q I h;exact EL (thn (ha pins s σ H _ I h) fun v s1 ⟨x,H1,I1,r1,q1⟩=>ho pins s1 σ H1 x v Q I1 r1 q1)
theorem opI {f:av->av->il av} {C:aj->aj->Prop} {g:aj->aj->aj} 
  (rule:∀(i j:aj) (t u:Tok) (s:aB) (Q:av->aB->Prop) (E:av->aB->Prop),C i j->Q (.int (g i j) s.toks) {s with toks:=s.toks+1}->aE (aO X.prog X.w) X.A (f (.int i t) (.int j u)) Q E s) :
  OpR X f (rI C fun i j=>.int (g i j)):=by
 intro pins s σ H x y v u Q I rx ry h;obtain⟨i,j,rfl,rfl,hc,q⟩:=h;obtain⟨t,rfl⟩:=rx;obtain⟨t',rfl⟩:=ry;exact rule i j t t' s _ _ hc ⟨.int (g i j),H,I.tok _,⟨_,rfl⟩,q⟩
theorem Di {f:av->av->il av} {g:aj->aj->aj} 
  (rule:∀(i j:aj) (t u:Tok) (s:aB) (Q:av->aB->Prop) (E:av->aB->Prop),Q (.int (g i j) s.toks) {s with toks:=s.toks+1}->aE (aO X.prog X.w) X.A (f (.int i t) (.int j u)) Q E s) :
  OpR X f (rI0 fun i j=>.int (g i j)):=by
 intro pins s σ H x y v u Q I rx ry h;obtain⟨i,j,rfl,rfl,q⟩:=h;obtain⟨t,rfl⟩:=rx;obtain⟨t',rfl⟩:=ry;exact rule i j t t' s _ _ ⟨.int (g i j),H,I.tok _,⟨_,rfl⟩,q⟩
theorem sQ {f:av->av->il av} {g:aj->aj->aU} 
  (rule:∀(i j:aj) (t u:Tok) (s:aB) (Q:av->aB->Prop) (E:av->aB->Prop),Q (.bool (g i j)) s->aE (aO X.prog X.w) X.A (f (.int i t) (.int j u)) Q E s) :
  OpR X f (rI0 fun i j=>.bl (g i j)):=by
 intro pins s σ H x y v u Q I rx ry h;obtain⟨i,j,rfl,rfl,q⟩:=h;obtain⟨t,rfl⟩:=rx;obtain⟨t',rfl⟩:=ry;exact rule i j t t' s _ _ ⟨.bl (g i j),H,I,rfl,q⟩
noncomputable def NL (i j:aj):Prop:=0<j/\j<1073741824
noncomputable def Nr (i j:aj):Prop:=0<=j/\j<=1000000/\i.natAbs<2 ^ 64
noncomputable def tU (i j:aj):Prop:=(-(2 ^ 64)<i/\i<2 ^ 64)\/(-(2 ^ 64)<j/\j<2 ^ 64)
theorem tU.ok {i j:aj} (h:tU i j):ER i j:=by
 rcases h with⟨h1,h2⟩|⟨h1,h2⟩
 .exact .of_left (intBits_le_64 h1 h2)
 .exact .of_right (intBits_le_64 h1 h2)
theorem Ky:OpR X (gB .Add) (rI0 fun i j=>.int (i+j)):=Di fun _ _ _ _ _ _ _ q=>add_int q
theorem En:OpR X (gB .Sub) (rI0 fun i j=>.int (i-j)):=Di fun _ _ _ _ _ _ _ q=>sub_int q
theorem OZ:OpR X (gB .Mult) (rI tU fun i j=>.int (i*j)):=opI fun _ _ _ _ _ _ _ hc q=>mul_int q hc.ok
theorem BE:OpR X (gB .FloorDiv) (rI NL fun i j=>.int (i / j)):=opI fun i j _ _ _ _ _ hc q=>by have h1:(0:aj)<j:=hc.1;have h2:j<1073741824:=hc.2;exact floordiv_int (by omega) (by rw[Int.fdiv_eq_ediv_of_nonneg i (by omega)];exact q) (.inl (PyProof.noPylong_small (by omega)))
theorem Bh:OpR X (gB .Mod) (rI (fun _ j=>0<j) fun i j=>.int (i%j)):=opI fun i j _ _ _ _ _ hc q=>by have h1:(0:aj)<j:=hc;exact mod_int' (by omega) (by rw[Int.fmod_eq_emod_of_nonneg i (by omega)];exact q)
theorem Ke:OpR X (gB .Pow) (rI Nr fun i j=>.int (i ^ j.toNat)):=opI fun _ _ _ _ _ _ _ hc q=>pow_int_small hc.1 hc.2.1 hc.2.2 q
theorem unI {f:av->il av} {g:aj->aj} 
  (rule:∀(i:aj) (t:Tok) (s:aB) (Q:av->aB->Prop) (E:av->aB->Prop),Q (.int (g i) s.toks) {s with toks:=s.toks+1}->aE (aO X.prog X.w) X.A (f (.int i t)) Q E s) :
  UnR X f (rU fun i=>.int (g i)):=by
 intro pins s σ H x v Q I rx h;obtain⟨i,rfl,q⟩:=h;obtain⟨t,rfl⟩:=rx;exact rule i t s _ _ ⟨.int (g i),H,I.tok _,⟨_,rfl⟩,q⟩
theorem Og:UnR X (unaryOp .USub) (rU fun i=>.int (-i)):=unI fun _ _ _ _ _ q=>neg_int q
end
noncomputable def xg:V->V->aU
 |.non,.non=>ai|.non,.int _=>ai|.int _,.non=>ai|.non,.bl _=>ai|.bl _,.non=>ai|.non,.str _=>ai|.str _,.non=>ai
 |.int _,.int _=>ai|.bl _,.bl _=>ai|.str _,.str _=>ai|.byt _,.byt _=>ai
 |.int _,.str _=>ai|.str _,.int _=>ai|.bl _,.str _=>ai|.str _,.bl _=>ai
 |_,_=>ao
noncomputable def rEq:R2:=fun x y H Q=>xg x y=ai/\Q (.bl (decide (x=y))) H
noncomputable def rNe:R2:=fun x y H Q=>xg x y=ai/\Q (.bl (!decide (x=y))) H
theorem Cr {i j:aj} :decide (V.int i=V.int j)=(i==j):=by rw[rG];simp
theorem D' {i j:aU} :decide (V.bl i=V.bl j)=(i==j):=by rw[rG];simp
theorem DH {i j:ah} :decide (V.str i=V.str j)=(i==j):=by rw[rG];simp
theorem Bq {i j:b9 UInt8} :decide (V.byt i=V.byt j)=(i.toList==j.toList):=by rw[rG];cases i;cases j;simp
variable {r':R2} {op':CmpOp} {us:ab av}
section
variable {tc:TE}
theorem cR {s:aB} {Q:VK} {k k':aU} (I:Inv X pins σ H s) (q:Q (.bl k) H) (e:k=k'):EP X pins σ Q (.bool k') s:=by subst e;exact⟨.bl k,H,I,rfl,q⟩
theorem wx:OpR X (eD .Eq) rEq:=by
 intro pins s σ H x y v u Q I rx ry h;obtain⟨hs,q⟩:=h;cases x with
 |non=>
  cases rx;cases y with
  |non=>cases ry;exact Rp (cR I q (by simp))
  |bl j=>cases ry;exact Rq (cR I q (by simp))
  |int j=>obtain⟨t',rfl⟩:=ry;exact Rr (cR I q (by simp))
  |str j=>obtain⟨t',rfl⟩:=ry;exact Rs (cR I q (by simp))
  |_=>exact bx (show ao=ai from hs) qv
 |bl i=>
  cases rx;cases y with
  |non=>cases ry;exact Rt (cR I q (by simp))
  |bl j=>cases ry;exact eq_bool (cR I q D')
  |str j=>obtain⟨t',rfl⟩:=ry;exact Ru (cR I q (by simp))
  |_=>exact bx (show ao=ai from hs) qv
 |int i=>
  obtain⟨t,rfl⟩:=rx;cases y with
  |non=>cases ry;exact Rv (cR I q (by simp))
  |int j=>obtain⟨t',rfl⟩:=ry;exact eq_int (cR I q Cr)
  |str j=>obtain⟨t',rfl⟩:=ry;exact Rw (cR I q (by simp))
  |_=>exact bx (show ao=ai from hs) qv
 |str i=>
  obtain⟨t,rfl⟩:=rx;cases y with
  |non=>cases ry;exact Rx (cR I q (by simp))
  |bl j=>cases ry;exact Ry (cR I q (by simp))
  |int j=>obtain⟨t',rfl⟩:=ry;exact Rz (cR I q (by simp))
  |str j=>obtain⟨t',rfl⟩:=ry;exact eq_str (cR I q DH)
  |_=>exact bx (show ao=ai from hs) qv
 |byt i=>
  obtain⟨t,rfl⟩:=rx;cases y with
  |byt j=>obtain⟨t',rfl⟩:=ry;exact PySem.W.eq_bytes (cR I q Bq)
  |_=>exact bx (show ao=ai from hs) qv
 |_=>cases y<;>exact bx (show ao=ai from hs) qv
theorem Jk:OpR X (eD .NotEq) rNe:=by
 intro pins s σ H x y v u Q I rx ry h;obtain⟨hs,q⟩:=h;cases x with
 |non=>
  cases rx;cases y with
  |non=>cases ry;exact RC (cR I q (by simp))
  |bl j=>cases ry;exact RD (cR I q (by simp))
  |int j=>obtain⟨t',rfl⟩:=ry;exact RF (cR I q (by simp))
  |str j=>obtain⟨t',rfl⟩:=ry;exact RG (cR I q (by simp))
  |_=>exact bx (show ao=ai from hs) qv
 |bl i=>
  cases rx;cases y with
  |non=>cases ry;exact RH (cR I q (by simp))
  |bl j=>cases ry;exact ne_bool (cR I q (c7 not D'))
  |str j=>obtain⟨t',rfl⟩:=ry;exact RJ (cR I q (by simp))
  |_=>exact bx (show ao=ai from hs) qv
 |int i=>
  obtain⟨t,rfl⟩:=rx;cases y with
  |non=>cases ry;exact RK (cR I q (by simp))
  |int j=>obtain⟨t',rfl⟩:=ry;exact ne_int (cR I q (c7 not Cr))
  |str j=>obtain⟨t',rfl⟩:=ry;exact RL (cR I q (by simp))
  |_=>exact bx (show ao=ai from hs) qv
 |str i=>
  obtain⟨t,rfl⟩:=rx;cases y with
  |non=>cases ry;exact RM (cR I q (by simp))
  |bl j=>cases ry;exact RN (cR I q (by simp))
  |int j=>obtain⟨t',rfl⟩:=ry;exact RP (cR I q (by simp))
  |str j=>obtain⟨t',rfl⟩:=ry;exact ne_str (cR I q (c7 not DH))
  |_=>exact bx (show ao=ai from hs) qv
 |byt i=>
  obtain⟨t,rfl⟩:=rx;cases y with
  |byt j=>obtain⟨t',rfl⟩:=ry;exact PySem.W.ne_bytes (cR I q (c7 not Bq))
  |_=>exact bx (show ao=ai from hs) qv
 |_=>cases y<;>exact bx (show ao=ai from hs) qv
theorem Kq:OpR X (eD .Lt) (rI0 fun i j=>.bl (decide (i<j))):=sQ fun _ _ _ _ _ _ _ q=>lt_int q
theorem NN:OpR X (eD .LtE) (rI0 fun i j=>.bl (decide (i<=j))):=sQ fun _ _ _ _ _ _ _ q=>le_int q
theorem Op:OpR X (eD .Gt) (rI0 fun i j=>.bl (decide (j<i))):=sQ fun _ _ _ _ _ _ _ q=>gt_int q
theorem IW:OpR X (eD .GtE) (rI0 fun i j=>.bl (decide (j<=i))):=sQ fun _ _ _ _ _ _ _ q=>ge_int q
theorem K8:OpR X (eD .Lt) (fun x y H Q=>∃i j,x=.str i/\y=.str j/\Q (.bl (decide (i.cps.toList<j.cps.toList))) H):=by intro pins s σ H x y v u Q I rx ry h;obtain⟨i,j,rfl,rfl,q⟩:=h;obtain⟨t,rfl⟩:=rx;obtain⟨t',rfl⟩:=ry;exact lt_str (cR I q rfl)
theorem Jl:OpR X (eD .In) (fun x y H Q=>∃i j,x=.str i/\y=.str j/\Q (.bl (!(kB j i 0 j.length 1).isEmpty)) H):=by intro pins s σ H x y v u Q I rx ry h;obtain⟨i,j,rfl,rfl,q⟩:=h;obtain⟨t,rfl⟩:=rx;obtain⟨t',rfl⟩:=ry;exact in_str (cR I q rfl)
theorem IB:OpR X (eD .IsNot) (fun x y H Q=>y=.non/\Q (.bl (!decide (x=.non))) H):=by
 intro pins s σ H x y v u Q I rx ry h;obtain⟨rfl,q⟩:=h;cases ry;refine Pf (cR I q ?_);cases x<;>first
  |(cases rx;rfl)
  |(obtain⟨t,rfl⟩:=rx;rfl)
theorem OpR.or {f:av->av->il av} (h:OpR X f r) (h':OpR X f r'):OpR X f (fun x y H Q=>r x y H Q\/r' x y H Q):=by
 intro pins s σ H x y v u Q I rx ry q;rcases q with q|q
 .exact h pins s σ H x y v u Q I rx ry q
 .exact h' pins s σ H x y v u Q I rx ry q
theorem bq (b:Expr) (h:op≠.In:=by decide) (h2:op≠.NotIn:=by decide):jI op b=ao:=by
 have e1:(op==Pd)=ao:=by cases op<;>first|rfl|exact bx rfl h
 have e2:(op==Pe)=ao:=by cases op<;>first|rfl|exact bx rfl h2
 cases b<;>simp[jI,e1,e2]
theorem AU (ho:OpR X (eD op) r) (ha:PE X a ta) (hb:PE X b tb) (hm:jI op b=ao):PE X (.Compare a [op] [b] pos) (tOp r ta tb):=by intro pins s σ H Q I h;exact wpAny_Compare1 (wA ha hb I h fun v u s2 x y H2 I2 rx ry q=>ho pins s2 σ H2 x y v u Q I2 rx ry q) hm
noncomputable def oU (t:TE):TT:=fun σ H Q=>t σ H fun x H'=>∃k,x=.bl k/\Q k H'
theorem oW (ho:OpR X (eD op) r) (ha:PE X a ta) (hb:PE X b tb) (hm:jI op b=ao):PT X (.Compare a [op] [b] pos) (oU (tOp r ta tb)):=by
 intro pins s σ H Q I h;refine Pg (thn (ha pins s σ H _ I h) fun v s1 ⟨x,H1,I1,r1,q1⟩=>thn (hb pins s1 σ H1 _ I1 q1) fun u s2 ⟨y,H2,I2,r2,q2⟩=>
  thn (ho pins s2 σ H2 x y v u _ I2 r1 r2 q2) fun c s3 ⟨z,H3,I3,r3,k,e,q3⟩=>?_) hm
 subst e;cases r3;exact lE ⟨H3,I3,q3⟩
noncomputable def xh (r r':R2) (ta tb tc:TE):TE:=fun σ H Q=>ta σ H fun x H1=>tb σ H1 fun y H2=>r x y H2 fun z H3=>∃k,z=.bl k /\
 (if k=ai then tc σ H3 fun w' H4=>r' y w' H4 Q else Q (.bl ao) H3)
theorem Ja (ho:OpR X (eD op) r) (ho':OpR X (eD op') r') (ha:PE X a ta) (hb:PE X b tb) (hc:PE X c tc)
  (hm:yv [op,op'] [b,c]=ao:=by with_unfolding_all rfl):PE X (.Compare a [op,op'] [b,c] pos) (xh r r' ta tb tc):=by
 intro pins s σ H Q I h;refine Compare_chain (thn (ha pins s σ H _ I h) fun v s1 ⟨x,H1,I1,r1,q1⟩=>chain_link (thn (hb pins s1 σ H1 _ I1 q1) fun u s2 ⟨y,H2,I2,r2,q2⟩=>
  thn (ho pins s2 σ H2 x y v u _ I2 r1 r2 q2) fun d s3 ⟨z,H3,I3,r3,k,e,q3⟩=>?_)) hm
 subst e;cases r3;refine lE ?_;cases k with
 |false=>exact ite_ff ⟨.bl ao,H3,I3,rfl,q3⟩
 |true=>exact ite_tt (chain_last (thn (hc pins s3 σ H3 _ I3 q3) fun w' s4 ⟨z',H4,I4,r4,q4⟩=>ho' pins s4 σ H4 y z' u w' Q I4 r2 r4 q4))
theorem MO (ho:OpR X (eD op) r) (ho':OpR X (eD op') r') (ha:PE X a ta) (hb:PE X b tb) (hc:PE X c tc)
  (hm:yv [op,op'] [b,c]=ao:=by with_unfolding_all rfl):PT X (.Compare a [op,op'] [b,c] pos) (oU (xh r r' ta tb tc)):=by
 intro pins s σ H Q I h;refine isTrue_chain (thn (ha pins s σ H _ I h) fun v s1 ⟨x,H1,I1,r1,q1⟩=>test_link (thn (hb pins s1 σ H1 _ I1 q1) fun u s2 ⟨y,H2,I2,r2,q2⟩=>
  thn (ho pins s2 σ H2 x y v u _ I2 r1 r2 q2) fun d s3 ⟨z,H3,I3,r3,k,e,q3⟩=>?_)) hm
 subst e;cases r3;refine lE ?_;cases k with
 |false=>
  obtain⟨k',e',q'⟩:=q3;cases e';exact ite_ff ⟨H3,I3,q'⟩
 |true=>
  refine ite_tt (test_last (thn (hc pins s3 σ H3 _ I3 q3) fun w' s4 ⟨z',H4,I4,r4,q4⟩=>thn (ho' pins s4 σ H4 y z' u w' _ I4 r2 r4 q4) fun d' s5 ⟨z2,H5,I5,r5,k2,e2,q5⟩=>?_));subst e2;cases r5;exact lE ⟨H5,I5,q5⟩
theorem oF:(aK:ag)<2 ^ 63:=by rw[g8];decide
theorem JJ:OpR X (gB .Add) (fun x y H Q=>∃i j,x=.str i/\y=.str j/\i.length+j.length<=aK/\Q (.str (i++j)) H):=by intro pins s σ H x y v u Q I rx ry h;obtain⟨i,j,rfl,rfl,hz,q⟩:=h;obtain⟨t,rfl⟩:=rx;obtain⟨t',rfl⟩:=ry;exact add_str (fun t' tk=>⟨.str (i++j),H,I.tok _,⟨_,rfl⟩,q⟩) hz
theorem fU {x:V} (r:bj [x] us):∃u,us=[u]/\bK x u:=by
 cases r with
 |cons r1 r2=>cases r2;exact⟨_,rfl,r1⟩
theorem B5 {x y:V} (r:bj [x,y] us):∃u w',us=[u,w']/\bK x u/\bK y w':=by
 cases r with
 |cons r1 r2=>
  cases r2 with
  |cons r3 r4=>cases r4;exact⟨_,_,rfl,r1,r3⟩
theorem ID (hc:X.calm=ai):gn X (.builtin "min") (fun xs H Q=>∃i j,xs=[.int i,.int j]/\Q (.int (if j<i then j else i)) H):=by
 intro pins s σ H xs us Q I r h;obtain⟨i,j,rfl,q⟩:=h;obtain⟨u,w',rfl,⟨t,rfl⟩,⟨t',rfl⟩⟩:=B5 r;refine min_two_ints (I.ok.hd hc) fun h' tk k=>⟨_,H,I.kept k,?_,q⟩;by_cases hj:j<i
 .rw[qY hj,qY hj];exact⟨_,rfl⟩
 .rw[qZ hj,qZ hj];exact⟨_,rfl⟩
theorem JL:gn X (.type "str") (fun xs H Q=>∃i,xs=[.int i]/\i.natAbs.log2<1920/\Q (.str (rH i)) H):=by intro pins s σ H xs us Q I r h;obtain⟨i,rfl,hz,q⟩:=h;obtain⟨u,rfl,t,rfl⟩:=fU r;exact PySem.P.str_of_int hz ⟨.str _,H,I.tok _,⟨_,rfl⟩,q⟩
noncomputable def KP (K:aR) (x:V) (H:Hp) (n:ag):Prop:=
 match x with
 |.str y=>y.length<=aK/\n=y.length
 |.byt y=>y.size<=aK/\n=y.size
 |.ref p=>(∃xs,SqL K H p xs/\n=xs.length)\/∃xs,SqT K H p xs/\n=xs.length
 |_=>False
theorem K':gn X (.builtin "len") (fun xs H Q=>∃x n,xs=[x]/\KP X.K x H n/\Q (.int n) H):=by
 intro pins s σ H xs us Q I r h;obtain⟨x,n,rfl,e,q⟩:=h;obtain⟨u,rfl,rx⟩:=fU r;have hl:=oF;have hs:aK=16777216:=g8;cases x with
 |str y=>
  obtain⟨t,rfl⟩:=rx;obtain⟨hy,e'⟩:y.length<=aK/\n=y.length:=e;subst e';exact len_str (by omega) ⟨.int _,H,I.tok _,⟨_,rfl⟩,q⟩
 |byt y=>
  obtain⟨t,rfl⟩:=rx;obtain⟨hy,e'⟩:y.size<=aK/\n=y.size:=e;subst e';exact PySem.W.len_bytes (by omega) ⟨.int _,H,I.tok _,⟨_,rfl⟩,q⟩
 |ref p=>
  cases rx;have e':(∃xs,SqL X.K H p xs/\n=xs.length)\/∃xs,SqT X.K H p xs/\n=xs.length:=e;rcases e' with⟨xs,hx,e'⟩|⟨xs,hx,e'⟩
  .subst e';obtain⟨its,r',pl,hz⟩:=I.list hx;have hlen:=r'.length;exact Calls.call_len_list pl.isList (by simp only[qF];omega) ⟨.int xs.length,H,I.tok _,⟨_,by simp only[qF];rw[hlen]⟩,q⟩
  .subst e';obtain⟨its,r',pl,hz⟩:=I.tuple hx;have hlen:=r'.length;exact len_tuple pl (by simp only[qF];omega) ⟨.int xs.length,H,I.tok _,⟨_,by simp only[qF];rw[hlen]⟩,q⟩
 |_=>exact(show False from e).elim
end
structure ObjM (h:Heap) (x dx C:au) (mA:ah->aq av):Prop where
 obj:h.get? x=aa (mH C dx)
 ns:h.Ns1 dx mA
 ne:dx≠x
variable {dx:au} {mA:ah->aq av}
theorem Go (n:h.Ns1 dx mA):∃od,h.get? dx=aa od/\∀name,yw name od=aa (mA name):=by
 obtain⟨o,es,ep,ho,hd,hk,_,hm⟩:=n;refine⟨o,ho,fun name=>?_⟩;have e:=hm name;unfold nsFind findBy at e;rw[←Array.find?_toList] at e;unfold yw;rw[hd];dsimp only;split
 .rename_i y q;rw[q] at e;exact c7 aa e
 .rename_i q;rw[q] at e;have a:es.toList.any (·.refKey)=ao:=by rw[Pk];intro y hy;obtain⟨z,t,hkey⟩:=hk y (ES.mp hy);simp[DictEntry.refKey,hkey]
  have a':¬es.toList.any (·.refKey)=ai:=by rw[a];exact qv
  rw[qZ a'];exact c7 aa e
variable {C:au}
theorem ObjM.look {x:au} (I:ObjM h x dx C mA):∃od,PySem.W.InstAt h x (mH C dx) C (aa od)/\∀name,yw name od=aa (mA name):=
 let ⟨od,ho,hl⟩:=Go I.ns
 ⟨od,⟨I.obj,rfl,rfl,ho⟩,hl⟩
variable {prog:dD} {name:ah} {pl:il aU} {ns:ab ah} {kw:ab (ah×av)}
section
variable {s:aB} {x f:au} {v:av}
theorem HR {expr:aU} (X:K.In s.heap) (I:ObjM s.heap x dx C mA) (hg:rJ K C name=ai) (hh:u3 K C=ai)
  (ha:dE K (.ref C) name=aa ac) (hv:mA name=aa v) (hv':Pm v=ai) (h:Q v {s with toks:=s.toks+1}) :
  aE (aO prog w) A (getAttr (.ref x) name expr) Q E s:=by
 obtain⟨od,J,hl⟩:=I.look;exact PySem.W.get_value X J (ET hg).1 (PySem.W.findObj_own hh ha rfl (by rw[hl,hv])) hv' h
theorem La {Q:av×ab av->aB->Prop} (X:K.In s.heap) (I:ObjM s.heap x dx C mA) (hg:rJ K C name=ai)
  (hf:dE K (.ref C) name=aa (aa (.ref f))) (ht:u4 K (.ref f)=ai) (hv:mA name=ac) (h:Q (.ref f,[.ref x]) s) :
  aE (aO prog w) A (kC (.ref x) name pl) Q E s:=by
 obtain⟨od,J,hl⟩:=I.look;exact PySem.W.method_fn X J (ET hg).1 (ET hg).2 hf (lG.mp ht) (by show(yw name od).map (·.isSome)=aa ao;rw[hl,hv];rfl) h
theorem JX {Q:mI->aB->Prop} (X:K.In s.heap) (I:ObjM s.heap x dx C mA)
  (hs:dE K (.ref C) "__setattr__"=aa (aa (.builtin "object.__setattr__"))) (hp:yx K C=ai) (ht:EU K C name=aa ac) (hh:u3 K C=ai)
  (hw:EG mA ns) (hsz:ns.length<=aK)
  (h:∀h',ObjM h' x dx C (fun y=>if y=name then aa v else mA y)->iP dx s.heap h'->Q () {s with heap:=h',toks:=s.toks+2}) :
  aE (aO prog w) A (setAttr (.ref x) name v) Q E s:=by
 obtain⟨od,J,hl⟩:=I.look;refine PySem.W.set_plain X J hs (PySem.W.osa_open (s:={s with toks:=s.toks+1}) (r:=ac) X J hp ht fun b=>?_);obtain⟨cd,hc,hd'⟩:=PySem.W.any_some hh;have hx:s.heap.get? x=aa ⟨.ref C,aa dx,.plain,#[]⟩:=I.obj;refine qB (qE (qB (qB (wpAny_loadPart hx (qB (RQ (s:={s with toks:=s.toks+1}) (PySem.W.looks_clsIn X hc) ?_))))));rw[hd'];refine qE (a:=aa dx) (qB (qE (qB ?_)));refine wpAny_nsSet1 (s:={s with toks:=s.toks+1}) I.ns fun h' hn2 hs2=>?_;obtain⟨oD,esD,epD,hoD,hdD,hcD⟩:=hn2.count (RU name v hw);refine qB (wpAny_lookBehind hoD (by rw[hdD];exact pastItsLine_dict (qP hcD (by rw[qh];omega))) ?_);exact qE (h _ ⟨(hs2.2 _ (em I.ne)).trans I.obj,hn2,I.ne⟩ hs2)
theorem KC {R:oh->aB->Prop} {vs:ab av} (X:K.In s.heap) (hm:u5 K C=ai)
  (hi:dE K (.ref C) "__init__"=aa (aa (.ref f))) (hf:PySem.W.typeIn K (.ref f)=aa (.type "function"))
  (h:iS (aO prog w) (A.under (.builtin "type.__call__" ⟨.ref C::vs,kw⟩)) (.call (.ref f) ⟨.ref (s.heap.objs.size+1)::vs,kw⟩) (PySem.W.InitBack (s.heap.objs.size+1) R)
   {s with heap:=(s.heap.push lH).push (mH C s.heap.objs.size)}) :
  iS (aO prog w) A (.call (.ref C) ⟨vs,kw⟩) R s:=by
 obtain⟨hh,g,d,t,os⟩:=s;exact PySem.W.make_core (PySem.W.makes_of X hm) (PySem.W.looks_findIn X hi) (fun self=>PySem.W.bind_fn X self hf) (.inl rfl) h
end
noncomputable def eF (f:ah) (v:V):ab (ah×V)->ab (ah×V)
 |[]=>[(f,v)]
 |(g,x)::r=>if g=f then (g,v)::r else (g,x)::eF f v r
theorem AA (f g:ah) (v:V):∀fs:ab (ah×V),(eF f v fs).lookup g=if g=f then aa v else fs.lookup g
 |[]=>by
  show dN g [(f,v)]=_;by_cases h:g=f
  .have hb:(g==f)=ai:=lG.mpr h;simp only[dN,hb,qY h]
  .have hb:(g==f)=ao:=n8.mpr h;simp only[dN,hb,qZ h]
 |(k,x)::r=>by
  have ih:=AA f g v r;rw[show eF f v ((k,x)::r)=(if k=f then (k,v)::r else (k,x)::eF f v r) from rfl];by_cases hk:k=f
  .rw[qY hk];by_cases h:g=k
   .have hb:(g==k)=ai:=lG.mpr h;simp only[dN,hb,qY (h.trans hk)]
   .have hb:(g==k)=ao:=n8.mpr h;simp only[dN,hb,qZ (fun e:g=f=>h (e.trans hk.symm))]
  .rw[qZ hk];by_cases h:g=k
   .have hb:(g==k)=ai:=lG.mpr h;simp only[dN,hb,qZ (fun e:g=f=>hk (h.symm.trans e))]
   .have hb:(g==k)=ao:=n8.mpr h;simp only[dN,hb];exact ih
theorem xz (f:ah) (v:V):∀fs:ab (ah×V),f∈(eF f v fs).map (·.1)/\∀g,g∈fs.map (·.1)->g∈(eF f v fs).map (·.1)
 |[]=>⟨by simp[eF],fun g h=>by simp at h⟩
 |(k,x)::r=>by
  obtain⟨i1,i2⟩:=xz f v r;rw[show eF f v ((k,x)::r)=(if k=f then (k,v)::r else (k,x)::eF f v r) from rfl];by_cases hk:k=f
  .rw[qY hk];subst hk;exact⟨by simp,fun g h=>by simpa using h⟩
  .rw[qZ hk];refine⟨?_,fun g h=>?_⟩
   .rw[qp];exact qg _ i1
   .rw[qp] at h ⊢;rcases eC.mp h with e|e
    .exact eC.mpr (.inl e)
    .exact qg _ (i2 g e)
theorem CY (f:ah) (v:V):∀fs:ab (ah×V),(eF f v fs).length<=fs.length+1
 |[]=>by simp[eF]
 |(k,x)::r=>by
  have ih:=CY f v r;rw[show eF f v ((k,x)::r)=(if k=f then (k,v)::r else (k,x)::eF f v r) from rfl];by_cases hk:k=f
  .rw[qY hk,qh,qh];omega
  .rw[qZ hk,qh,qh];omega
theorem gL.some_of {o:aq av} (r:gL (aa v) o):∃u,o=aa u/\bK v u:=by
 cases o with
 |none=>exact(show False from r).elim
 |some u=>exact⟨u,rfl,r⟩
theorem gL.none_of {o:aq av} (r:gL ac o):o=ac:=by
 cases o with
 |none=>rfl
 |some u=>exact(show False from r).elim
theorem ND (r:bK v u):Pm u=ai:=by
 cases v with
 |non=>cases(show u=mE from r);rfl
 |bl b=>cases(show u=lA b from r);rfl
 |int i=>obtain⟨t,e⟩:=(show ∃t,u=uT i t from r);cases e;rfl
 |str x=>obtain⟨t,e⟩:=(show ∃t,u=uU x t from r);cases e;rfl
 |byt b=>obtain⟨t,e⟩:=(show ∃t,u=O9 b t from r);cases e;rfl
 |flt b=>obtain⟨t,e⟩:=(show ∃t,u=EF b t from r);cases e;rfl
 |ref a=>cases(show u=cG a from r);rfl
 |ty n=>cases(show u=lC n from r);rfl
section
variable {a:au} {fs fs':ab (ah×V)}
theorem sP (hok:HOk P w H h) (e:H a=aa (.ins C dx fs)):∃mA,ObjM h a dx C mA/\(∀f,gL (fs.lookup f) (mA f))/\EG mA (fs.map (·.1))/\fs.length<=1000/\H dx=aa (.own a):=by obtain⟨d,z,ne,ob,mA,n,r,q⟩:=(show dA P w H h a (.ins C dx fs) from hok a _ e);exact⟨mA,⟨ob,n,ne⟩,r,q,z,d⟩
end
structure Cls (K:aR) (C:au):Prop where
 pg:rJ K C yy=ai
 hd:u3 K C=ai
 po:yx K C=ai
 sa:dE K (.ref C) "__setattr__"=aa (aa (.builtin "object.__setattr__"))
theorem Cls.get (c:Cls K C) (f:ah):rJ K C f=ai:=c.pg
noncomputable def kH (K:aR) (C:au) (f:ah):Prop:=dE K (.ref C) f=aa ac
theorem kH.taker {K:aR} {C:au} {f:ah} (n:kH K C f):EU K C f=aa ac:=by unfold EU;rw[show dE K (.ref C) f=aa ac from n];rfl
structure Meth (K:aR) (C:au) (m:ah) (f:au):Prop where
 at_:dE K (.ref C) m=aa (aa (.ref f))
 fn:u4 K (.ref f)=ai
 kp:fY K (.ref f)=ai
variable {env:cM}
section
variable {s:aB} {a:au} {fs:ab (ah×V)} {f:ah}
theorem Hb {b:aU} (I:Inv X pins σ H s) (e:H a=aa (.ins C dx fs)) (c:Cls X.K C) (n:kH X.K C f) (l:fs.lookup f=aa v)
  (h:∀u s',Inv X pins σ H s'->bK v u->Q u s'):aE (aO X.prog X.w) A (getAttr (.ref a) f b) Q E s:=by
 obtain⟨mA,O,r,_,_,_⟩:=sP I.hok e;obtain⟨u,hu,ru⟩:=gL.some_of (v:=v) (o:=mA f) (by rw[←l];exact r f);exact HR I.kIn O (c.get f) c.hd n hu (ND ru) (h u _ (I.tok _) ru)
theorem ym {m:ah} {g:au} {Q:av×ab av->aB->Prop} (I:Inv X pins σ H s) (e:H a=aa (.ins C dx fs)) (c:Cls X.K C) (k:Meth X.K C m g) (l:fs.lookup m=ac)
  (h:Q (.ref g,[.ref a]) s):aE (aO X.prog X.w) A (kC (.ref a) m pl) Q E s:=by
 obtain⟨mA,O,r,_,_,_⟩:=sP I.hok e;have hn:mA m=ac:=gL.none_of (by rw[←l];exact r m);exact La I.kIn O (c.get m) k.at_ k.fn hn h
theorem GQ {y:V} {Q:mI->aB->Prop} (I:Inv X pins σ H s) (e:H a=aa (.ins C dx fs)) (c:Cls X.K C) (n:kH X.K C f) (hl:fs.length<1000) (ry:bK y u)
  (h:∀s',Inv X pins σ (upd H a (.ins C dx (eF f y fs))) s'->Q () s'):aE (aO X.prog X.w) A (setAttr (.ref a) f u) Q E s:=by
 obtain⟨mA,O,r,wi,_,ho⟩:=sP I.hok e;have hz:(fs.map (·.1)).length<=aK:=by rw[qe,g8];omega
 refine JX I.kIn O c.sa c.po n.taker c.hd wi hz fun h' O' sb=>h _ ?_;have hd:∃o,h'.get? dx=aa o:=let ⟨o,_,_,e',_⟩:=O'.ns;⟨o,e'⟩
 refine I.write (x:=a) (e:=dx) (by rw[e];exact kD) (.inr ho) (fun b q hb z=>(sb.2 b hb).trans z) hd ?_;refine⟨by rw[aX O.ne];exact ho,?_,O.ne,O'.obj,_,O'.ns,fun g=>?_,fun g hg=>?_⟩
 .have:=CY f y fs;omega
 .show gL ((eF f y fs).lookup g) (if g=f then aa u else mA g);rw[AA];by_cases q:g=f
  .rw[qY q,qY q];exact ry
  .rw[qZ q,qZ q];exact r g
 .by_cases q:g=f
  .rw[q];exact(xz f y fs).1
  .refine(xz f y fs).2 g (wi g fun z=>hg ?_);show(if g=f then aa u else mA g)=ac;rw[qZ q];exact z
theorem Inv.made (I:Inv X pins σ H s):Inv X pins σ (upd (upd H s.heap.objs.size (.own (s.heap.objs.size+1))) (s.heap.objs.size+1) (.ins C s.heap.objs.size []))
  {s with heap:=(s.heap.push lH).push (mH C s.heap.objs.size)}:=by
 have e1:(s.heap.push lH).get? s.heap.objs.size=aa lH:=qJ s.heap rfl;have e2:((s.heap.push lH).push (mH C s.heap.objs.size)).get? (s.heap.objs.size+1)=aa (mH C s.heap.objs.size):=by
  have:=qJ (s.heap.push lH) (o:=mH C s.heap.objs.size) rfl
  rwa [iT] at this
 have e3:(s.heap.push lH).Ns s.heap.objs.size (fun _=>ac):=⟨lH,#[],_,e1,rfl,(fun e he=>bx he (by simp)),fun _=>rfl⟩;have I1:=I.laid (a:=s.heap.objs.size) (o:=.own (s.heap.objs.size+1)) (h':=s.heap.push lH) (t':=s.toks) (fun b u q=>qw _ q) (qy _) ⟨_,e1⟩;refine I1.laid (a:=s.heap.objs.size+1) (o:=.ins C s.heap.objs.size []) (t':=s.toks) (fun b u q=>qw _ q) (yz (iT _ _)) ?_;have ne:s.heap.objs.size≠s.heap.objs.size+1:=qG (u6 _);refine⟨by rw[aX ne,b7],fu _,ne,e2,fun _=>ac,(Heap.Ns1.of_empty e3).at fun o q=>qw _ q,fun _=>kD,fun y hy=>bx rfl hy⟩
theorem KH (hb:iU e f env (eval e env)=eval e env)
  (h:aE (aO prog w) A (eval e env) (fun o s₁=>aE (aO prog w) A (getAttr o f ai) Q E s₁) E s):aE (aO prog w) A (eval (.Attribute e f pos) env) Q E s:=
 Attribute_any_ h (by rw[arm_eval_Attribute,hb])
end
noncomputable def Gf (K:aR) (ta:TE) (f:ah):TE:=fun σ H Q=>ta σ H fun x H1=>∃a C dx fs v,x=.ref a/\H1 a=aa (.ins C dx fs)/\Cls K C/\kH K C f/\fs.lookup f=aa v/\Q v H1
noncomputable def NG (K:aR) (ta tv:TE) (f:ah):TS:=fun D σ H=>tv σ H fun y H1=>ta σ H1 fun x H2=>∃a C dx fs,x=.ref a/\H2 a=aa (.ins C dx fs)/\Cls K C/\kH K C f/\fs.length<1000 /\
 D.nx σ (upd H2 a (.ins C dx (eF f y fs)))
variable {value:Expr} {tpos apos:fm} {tv:TE}
section
variable {f:ah}
theorem sO (he:PE X e ta) (hb:iU e f X.env (eval e X.env)=eval e X.env):PE X (.Attribute e f pos) (Gf X.K ta f):=by intro pins s σ H Q I h;refine KH hb (thn (he pins s σ H _ I h) fun u s1 ⟨x,H1,I1,rx,a,C,dx,fs,v,ex,ea,c,n,l,q⟩=>?_);subst ex;obtain rfl:u=cG a:=rx;exact Hb I1 ea c n l fun u' s2 I2 ru=>⟨v,H1,I2,ru,q⟩
theorem yb (ha:PE X o ta) (hv:PE X value tv) (hs:eE value (aa (.Attribute o f pos')) pos.line X.env=pure ao):PS X (.Assign [.Attribute o f pos'] value pos) (NG X.K ta tv f):=by intro pins s σ H D I h;refine plainObj_wpAny_Assign_Attribute (thn (hv pins s σ H _ I h) fun u s1 ⟨y,H1,I1,ry,q⟩=>thn (ha pins s1 σ H1 _ I1 q) fun ov s2 ⟨x,H2,I2,rx,a,C,dx,fs,ex,ea,c,n,l,q2⟩=>?_) hs;subst ex;obtain rfl:ov=cG a:=rx;exact GQ I2 ea c n l ry fun s3 I3=>⟨σ,_,I3,q2⟩
theorem Rl {m:ah} {args:ab Expr} {s:aB} (he:PE X e te) (I:Inv X pins σ H s)
  (h:te σ H fun x H1=>∃a C dx fs g,x=.ref a/\H1 a=aa (.ins C dx fs)/\Cls X.K C/\Meth X.K C m g/\fs.lookup m=ac /\
   ∀s1,Inv X pins σ H1 s1->aE (aO X.prog X.w) X.A (lI pos (.ref g) [.ref a] (ca pos (aH args X.env)) (gC pos (gD [] X.env))) Q X.xe s1)
  (ht:eval (.Call (.Attribute e m apos) args [] pos) X.env=(do
   let ov ←eval e X.env
   iQ apos.atName
   let (f,first) ←fD [ov] (kC ov m pl)
   lI pos f first (ca pos (aH args X.env)) (gC pos (gD [] X.env)))) :
  aE (aO X.prog X.w) X.A (eval (.Call (.Attribute e m apos) args [] pos) X.env) Q X.xe s:=by
 refine EV (pl:=pl) (thn (he pins s σ H _ I h) fun u s1 ⟨x,H1,I1,rx,a,C,dx,fs,g,ex,ea,c,k,l,q⟩=>?_) ht;subst ex;obtain rfl:u=cG a:=rx;exact ym I1 ea c k l (q s1 I1)
end
section
variable {s:aB} {c:av} {b:aU}
inductive TyOf (K:aR) (H:Hp):V->av->Prop where
 |non:TyOf K H .non (.type "NoneType")
 |bl (x:aU):TyOf K H (.bl x) (.type "bool")
 |int (i:aj):TyOf K H (.int i) (.type "int")
 |str (x:ah):TyOf K H (.str x) (.type "str")
 |flt (x:UInt64):TyOf K H (.flt x) (.type "float")
 |lst {a:au} {xs:ab V} (e:H a=aa (.lst xs)):TyOf K H (.ref a) (.type "list")
 |frz {a:au} {o:bf} {xs:ab V} (e:H a=aa (.frz o (.lst xs))):TyOf K H (.ref a) (.type "list")
 |tup {a:au} {xs:ab V} (e:H a=aa (.tup xs)):TyOf K H (.ref a) (.type "tuple")
 |dK {a:au} {kvs:ab (Key×V)} (e:H a=aa (.dK kvs)):TyOf K H (.ref a) (.type "dict")
 |dT {a:au} {kvs:ab (ab Key×V)} (e:H a=aa (.dT kvs)):TyOf K H (.ref a) (.type "dict")
 |ins {a C dx:au} {fs:ab (ah×V)} (e:H a=aa (.ins C dx fs)) (cl:Cls K C) (ha:dE K (.ref C) "__class__"=aa (aa (.builtin "object.__class__")))
   (hn:PySem.W.specialIn K (.builtin "object.__class__") "__get__"=aa (aa (.builtin "getset_descriptor.__get__"))) (htk:PySem.W.takesIn K (.builtin "object.__class__")=aa ai)
   (hm:PySem.W.mroIn K C (.type "object")=aa ai):TyOf K H (.ref a) (.ref C)
theorem Gg {x:V} {t:av} (I:Inv X pins σ H s) (rx:bK x u) (ty:TyOf X.K H x t) (e:Pn X.K t c=aa b) (h:∀tk,Q (.bool b) {s with toks:=tk}) :
  aE (aO X.prog X.w) A (call (.builtin "isinstance") [u,c]) Q E s:=by
 cases ty with
 |non=>cases(show u=mE from rx);exact jL PySem.W.kitx_none I.kIn kD e (fun z=>nomatch z) h
 |bl y=>cases(show u=lA y from rx);exact jL PySem.W.kitx_bool I.kIn kD e (fun z=>nomatch z) h
 |int i=>obtain⟨t,q⟩:=(show ∃t,u=uT i t from rx);cases q;exact jL PySem.W.kitx_int I.kIn kD e (fun z=>nomatch z) h
 |str y=>obtain⟨t,q⟩:=(show ∃t,u=uU y t from rx);cases q;exact jL PySem.W.kitx_str I.kIn kD e (fun z=>nomatch z) h
 |flt y=>obtain⟨t,q⟩:=(show ∃t,u=EF y t from rx);cases q;exact jL PySem.W.kitx_float I.kIn kD e (fun z=>nomatch z) h
 | @lst a xs ea=>
  cases(show u=cG a from rx);obtain⟨_,_,n,_,h1⟩:=(show dA X.prog X.w H s.heap a (.lst xs) from I.hok a _ ea);exact jL Po I.kIn ⟨_,h1,rfl⟩ e (fun z=>nomatch z) h
 | @frz a ob xs ea=>
  cases(show u=cG a from rx);obtain⟨_,_,_,n,_,h1⟩:=(show dA X.prog X.w H s.heap a (.frz ob (.lst xs)) from I.hok a _ ea);exact jL Po I.kIn ⟨_,h1,rfl⟩ e (fun z=>nomatch z) h
 | @tup a xs ea=>
  cases(show u=cG a from rx);obtain⟨_,_,_,p⟩:=(show dA X.prog X.w H s.heap a (.tup xs) from I.hok a _ ea);obtain⟨o,h1,h2,_⟩:=p;exact jL PySem.W.kitx_tuple I.kIn ⟨o,h1,h2⟩ e (fun z=>nomatch z) h
 | @dK a kvs ea=>
  cases(show u=cG a from rx);obtain⟨_,_,vs,_,p⟩:=(show dA X.prog X.w H s.heap a (.dK kvs) from I.hok a _ ea);obtain⟨o,es,ep,h1,h2,_⟩:=p;exact jL Pp I.kIn ⟨o,h1,h2.1⟩ e (fun z=>nomatch z) h
 | @dT a kvs ea=>
  cases(show u=cG a from rx);obtain⟨_,_,xs,_,o,es,ep,h1,h2,_⟩:=(show dA X.prog X.w H s.heap a (.dT kvs) from I.hok a _ ea);exact jL Pp I.kIn ⟨o,h1,h2.1⟩ e (fun z=>nomatch z) h
 | @ins a C dx fs ea cl ha hn htk hm=>
  cases(show u=cG a from rx);obtain⟨mA,O,_⟩:=sP I.hok ea;obtain⟨od,J,_⟩:=O.look;exact jL (PySem.W.kitx_own (cl.get _) cl.hd ha hn htk hm) I.kIn J e (fun z=>nomatch z) h
end
structure Room (k:ag) (A:dj):Prop where
 hd:A.handled=ac
 dp:A.depth+3*k+5<recursionLimit
 un:A.units+16*k+200<dO
theorem Room.mono {k:ag} (r:Room k A) (h:j<=k):Room j A:=⟨r.hd,by have:=r.dp;omega,by have:=r.un;omega⟩
theorem Room.deeper {k:ag} (r:Room (k+1) A) (env:cM):Room k (A.deeper env):=
 ⟨r.hd,by have:=r.dp;show A.depth+1+3*k+5 < _;omega,by have:=r.un;show A.units+3+16*k+200 < _;omega⟩
theorem Nw :(A.under (.builtin "type.__call__" ⟨.ref C::us,kw⟩)).depth=A.depth+1:=by
 first|rfl|simp[EX,Code.weight,Code.isCreation,Code.isGuard,Code.isCaller,Ps,EY,guardIds]
theorem OP :(A.under (.builtin "type.__call__" ⟨.ref C::us,kw⟩)).units=A.units+1:=by
 first|rfl|simp[EX,Code.cUnits,Ps,EY]
theorem Room.make {k:ag} (r:Room (k+1) A) (C:au) (us:ab av) (kw:ab (ah×av)):Room k (A.under (.builtin "type.__call__" ⟨.ref C::us,kw⟩)):=
 ⟨r.hd,by have:=r.dp;rw[Nw];omega,by have:=r.un;rw[OP];omega⟩
theorem Room.depth {k:ag} (r:Room k A):A.depth<recursionLimit:=by have:=r.dp;omega
noncomputable def gu:TA:=fun _ H Q=>Q [] H
noncomputable def gm (ta:TE) (tr:TA):TA:=fun σ H Q=>ta σ H fun x H1=>tr σ H1 fun xs H2=>Q (x::xs) H2
variable {t:TA}
theorem gc:PA X [] gu:=fun _ _ _ _ H Q I h=>Calls.spliced_nil ⟨[],H,I,.nil,h⟩
theorem eY (ha:PE X e te) (hr:PA X es t) (hs:aH (e::es) X.env=(ao,eval e X.env)::aH es X.env:=by rfl):PA X (e::es) (gm te t):=by intro pos pins s σ H Q I h;rw[hs];show aE _ _ (spliced ((ao,eval e X.env)::ca pos (aH es X.env))) _ _ s;refine Calls.spliced_cons (thn (ha pins s σ H _ I h) fun u s1 ⟨x,H1,I1,r1,q1⟩=>?_);exact thn (hr pos pins s1 σ H1 _ I1 q1) fun us s2 ⟨xs,H2,I2,r2,q2⟩=>⟨x::xs,H2,I2,.cons r1 r2,q2⟩
noncomputable def CI (t:TA):TE:=fun σ H Q=>t σ H fun xs H1=>xs.length<=aK/\∀p,H1 p=ac->Q (.ref p) (upd H1 p (.tup xs))
noncomputable def Ha (t:TA):TE:=fun σ H Q=>t σ H fun xs H1=>xs.length<=aK/\∀p,H1 p=ac->Q (.ref p) (upd H1 p (.lst xs))
theorem xL {x1} (h:PA X es t):PE X (.Tuple es x1 pos) (CI t):=by intro pins s σ H Q I hq;refine wpAny_Tuple_spliced (thn (h pos pins s σ H _ I hq) fun us s1 ⟨xs,H1,I1,r,z,q⟩=>⟨by rw[←r.length];exact z,?_⟩);have hf:H1 s1.heap.objs.size=ac:=I1.hok.fresh (qy _);refine⟨.ref s1.heap.objs.size,upd H1 s1.heap.objs.size (.tup xs),I1.laid (t':=s1.toks) (fun b u e=>qw _ e) (qy _) ?_,rfl,q _ hf⟩;exact⟨z,us,r,⟨_,qJ _ rfl,rfl,_,rfl⟩⟩
theorem Av (h:PA X es t):PE X (.List es pos) (Ha t):=by intro pins s σ H Q I hq;refine wpAny_List_spliced (thn (h pos pins s σ H _ I hq) fun us s1 ⟨xs,H1,I1,r,z,q⟩=>⟨by rw[←r.length];exact z,?_⟩);have hf:H1 s1.heap.objs.size=ac:=I1.hok.fresh (qy _);refine⟨.ref s1.heap.objs.size,upd H1 s1.heap.objs.size (.lst xs),I1.laid (t':=s1.toks) (fun b u e=>qw _ e) (qy _) ?_,rfl,q _ hf⟩;exact⟨z,us,0,r,qJ _ rfl⟩
abbrev Sp:=ab V->Hp->VK->XK->Prop
abbrev CXT:=ab cM->Hp->aB->XK->av->aB->Prop
structure Env0 (P:dD) (w:cS) (K:aR) (mg:ah->aq av) (base:Heap) (A:dj) (outer:ab cM) (s:aB) (H:Hp):Prop where
 frames:A.frames=aa outer
 mod:Mod K mg base
 bs:∀b o,base.get? b=aa o->s.heap.get? b=aa o/\H b=ac
 bsz:base.objs.size<=s.heap.objs.size
 funs:s.heap.FunFrames base outer
 frf:∀b∈frs outer,H b=ac
 hok:HOk P w H s.heap
 bare:kz s.gens
noncomputable def CE (outer:ab cM) (P:dD) (w:cS) (H:Hp) (s:aB) (Q:VK) (u:av) (s':aB):Prop:=
 ∃v H',s'.os=s.os/\kz s'.gens/\Un (frs outer) [] H H' s.heap s'.heap/\HOk P w H' s'.heap/\bK v u/\Q v H'
noncomputable def CR (CX:CXT) (outer:ab cM) (P:dD) (w:cS) (H:Hp) (s:aB) (Q:VK) (E:XK) (r:oh) (s':aB):Prop:=
 match r with
 |.ok (.ret u)=>CE outer P w H s Q u s'
 |.ok _=>False
 |.error e=>CX outer H s E e s'
structure FnOk (P:dD) (w:cS) (K:aR) (mg:ah->aq av) (base:Heap) (CX:CXT) (k:ag) (f:au) (fd:mJ) (ps:ab ah) (sp:Sp):Prop where
 len:∀vs H Q E,sp vs H Q E->vs.length=ps.length
 run:∀(A:dj) (outer:ab cM) (s:aB) (H:Hp) (args:Args) (us:ab av) (vs:ab V) (Q:VK) (E:XK),Room k A->Env0 P w K mg base A outer s H->rK s fd args (ps.zip us)->bj vs us->sp vs H Q E->
  iS (aO P w) A (.call (.ref f) args) (CR CX outer P w H s Q E) s
variable {mg:ah->aq av} {base:Heap} {CX:CXT} {fd:mJ} {ps:ab ah} {sp:Sp}
theorem FnOk.imp {k:ag} {f:au} {sp':Sp} (F:FnOk P w K mg base CX k f fd ps sp)
  (h:∀vs H Q E,sp' vs H Q E->sp vs H Q E):FnOk P w K mg base CX k f fd ps sp':=
 ⟨fun vs H Q E q=>F.len vs H Q E (h _ _ _ _ q),fun A outer s H args us vs Q E hr he hb hv hs=>F.run A outer s H args us vs Q E hr he hb hv (h _ _ _ _ hs)⟩
variable {outer:ab cM}
theorem Env0.make {s:aB} (e:Env0 P w K mg base A outer s H) (C:au) (us:ab av) (kw:ab (ah×av)) :
  Env0 P w K mg base (A.under (.builtin "type.__call__" ⟨.ref C::us,kw⟩)) outer s H:=⟨by first|exact e.frames|(simpa[EX,Code.envs,EY,pushEnvs] using e.frames),e.mod,e.bs,e.bsz,e.funs,e.frf,e.hok,e.bare⟩
section
variable {s:aB}
theorem Inv.env0 (I:Inv X pins σ H s):Env0 X.prog X.w X.K X.mg X.base X.A X.stack s H:=
 ⟨I.ok.frames,I.ok.mod,I.bs,qP I.ok.bsz I.sz,I.stack,I.stkFree,I.hok,I.bare⟩
theorem Inv.after {Q:VK} (I:Inv X pins σ H s) (h:CE X.stack X.prog X.w H s Q u s'):EP X pins σ Q u s':=by obtain⟨v,H',os,bare,un,hok,r,q⟩:=h;obtain⟨hh,g,d,t,os'⟩:=s';obtain rfl:os'=s.os:=os;exact⟨v,H',I.call (h':=hh) (g':=g) (d':=d) (t':=t) (ch:=[]) un hok bare (fun b z=>bx z (by simp)),r,q⟩
end
noncomputable def nN (sp:Sp) (dvs:ab V) (E:XK) (t:TA):TE:=fun σ H Q=>t σ H fun vs H1=>sp (vs++dvs) H1 Q E
noncomputable def D9 (C:au) (m:ah) (sp:Sp) (dvs:ab V) (E:XK) (ta:TE) (t:TA):TE:=fun σ H Q=>ta σ H fun x H1=>∃a dx fs,x=.ref a/\H1 a=aa (.ins C dx fs)/\fs.lookup m=ac /\
 t σ H1 fun vs H2=>sp (x::(vs++dvs)) H2 Q E
noncomputable def Nu (C:au) (sp:Sp) (dvs:ab V) (E:XK) (t:TA):TE:=fun σ H Q=>t σ H fun vs H1=>∀x dx,H1 x=ac->H1 dx=ac->dx≠x->
 sp (.ref x::(vs++dvs)) (upd (upd H1 dx (.own x)) x (.ins C dx [])) (fun v H2=>v=.non/\Q (.ref x) H2) E
noncomputable def e8 (K:aR) (fd:mJ) (ps:ab ah) (ds:ab av):Prop:=
 ∀(s:aB) (us:ab av),K.In s.heap->(us++ds).length=ps.length->rK s fd ⟨us,[]⟩ (ps.zip (us++ds))
theorem e8.all (h:∀us:ab av,us.length=ps.length->fZ fd ⟨us,[]⟩=pure (ps.zip us)):e8 K fd ps []:=fun s us _ hl=>by rw[eX] at hl ⊢;exact .of_eq (h us hl)
noncomputable def mh (CX:CXT) (X:Cx) (E:XK):Prop:=∀(pins:ab (au×bf)) (σ:St) (H:Hp) (s:aB) (e:av) (s':aB),Inv X pins σ H s->CX X.stack H s E e s'->X.xe e s'
variable {vs:ab V}
section
variable {k:ag} {f:au} {dvs:ab V} {ds:ab av} {E:XK} {m:ah}
theorem vQ {s:aB} {Q:VK} (F:FnOk X.prog X.w X.K X.mg X.base CX k f fd ps sp) (hr:Room k X.A) (hb:e8 X.K fd ps ds) (hd:bj dvs ds) (hx:mh CX X E)
  (I:Inv X pins σ H s) (r:bj vs us) (h:sp (vs++dvs) H Q E):aE (aO X.prog X.w) X.A (call (.ref f) us) (EP X pins σ Q) X.xe s:=by
 have r2:bj (vs++dvs) (us++ds):=r.append hd;have hl:(us++ds).length=ps.length:=by rw[←r2.length];exact F.len _ _ _ _ h
 refine yA (rL (F.run X.A X.stack s H ⟨us,[]⟩ (us++ds) (vs++dvs) Q E hr I.env0 (hb s us I.kIn hl) r2 h) fun r s' hq=>?_);cases r with
 |error e=>exact hx pins σ H s e s' I hq
 |ok fl=>
  cases fl with
  |ret u=>exact I.after hq
  |next=>exact io hq
  |brk=>exact io hq
  |cont=>exact io hq
theorem mD (F:FnOk X.prog X.w X.K X.mg X.base CX k f fd ps sp) (hr:Room k X.A) (hg:Gl X x) (hm:X.mg x=aa (.ref f)) (hk:fY X.K (.ref f)=ai) (hb:e8 X.K fd ps ds) (hd:bj dvs ds) (hx:mh CX X E)
  (ha:PA X (e::es) t) (hdb:(x==("__debug__":ah))=ao:=by decide) (he:aH (e::es) X.env=(ao,eval e X.env)::aH es X.env:=by rfl) (hpl:(ca pos (aH es X.env)).any (·.1)=ao:=by rfl) :
  PE X (.Call (.Name x p) (e::es) [] pos) (nN sp dvs E t):=by
 intro pins s σ H Q I h;refine yB (w8 I hg hm ?_ hdb);refine EZ (h₀:=X.base) I.ok.mod.kin hk (thn (ha pos pins s σ H _ I h) fun us s1 ⟨vs,H1,I1,r,q⟩=>⟨I1.kIn,?_⟩) he hpl;exact vQ F hr hb hd hx I1 r q
theorem zA (he:PE X o ta) (c:Cls X.K C) (hm:Meth X.K C m f) (F:FnOk X.prog X.w X.K X.mg X.base CX k f fd ps sp) (hr:Room k X.A) (hb:e8 X.K fd ps ds) (hd:bj dvs ds) (hx:mh CX X E) (ha:PA X (e::es) t)
  (hst:aH (e::es) X.env=(ao,eval e X.env)::aH es X.env:=by rfl) (hpl:(ca pos (aH es X.env)).any (·.1)=ao:=by rfl)
  (ht:eval (.Call (.Attribute o m apos) (e::es) [] pos) X.env=(do
   let ov ←eval o X.env
   iQ apos.atName
   let (f,first) ←fD [ov] (kC ov m pl)
   lI pos f first (ca pos (aH (e::es) X.env)) (gC pos (gD [] X.env))):=by rfl) :
  PE X (.Call (.Attribute o m apos) (e::es) [] pos) (D9 C m sp dvs E ta t):=by
 intro pins s σ H Q I h;refine EV (pl:=pl) (thn (he pins s σ H _ I h) fun u s1 ⟨x,H1,I1,rx,a,dx,fs,ex,ea,l,q⟩=>?_) ht;subst ex;obtain rfl:u=cG a:=rx;refine ym I1 ea c hm l ?_;refine EZ (first:=[.ref a]) (h₀:=X.base) I.ok.mod.kin hm.kp (thn (ha pos pins s1 σ H1 _ I1 q) fun us s2 ⟨vs,H2,I2,r,q2⟩=>⟨I2.kIn,?_⟩) hst hpl;exact vQ (us:=.ref a::us) (vs:=.ref a::vs) F hr hb hd hx I2 (.cons rfl r) q2
theorem Ce (he:PE X o ta) (c:Cls X.K C) (hm:Meth X.K C m f) (F:FnOk X.prog X.w X.K X.mg X.base CX k f fd ps sp) (hr:Room k X.A) (hb:e8 X.K fd ps ds) (hd:bj dvs ds) (hx:mh CX X E)
  (ht:eval (.Call (.Attribute o m apos) [] [] pos) X.env=(do
   let ov ←eval o X.env
   iQ apos.atName
   let (f,first) ←fD [ov] (kC ov m pl)
   lI pos f first (ca pos (aH [] X.env)) (gC pos (gD [] X.env))):=by rfl) :
  PE X (.Call (.Attribute o m apos) [] [] pos) (D9 C m sp dvs E ta gu):=by
 intro pins s σ H Q I h;refine EV (pl:=pl) (thn (he pins s σ H _ I h) fun u s1 ⟨x,H1,I1,rx,a,dx,fs,ex,ea,l,q⟩=>?_) ht;subst ex;obtain rfl:u=cG a:=rx;refine ym I1 ea c hm l ?_;exact PySem.W.callWith_K0 (first:=[.ref a]) I1.kIn hm.kp (vQ (us:=[.ref a]) (vs:=[.ref a]) F hr hb hd hx I1 (.cons rfl .nil) q)
structure Mk (K:aR) (C f:au):Prop where
 makes:u5 K C=ai
 init:dE K (.ref C) "__init__"=aa (aa (.ref f))
 fn:u4 K (.ref f)=ai
 kp:fY K (.ref C)=ai
theorem Mi {s:aB} {Q:VK} (M:Mk X.K C f) (F:FnOk X.prog X.w X.K X.mg X.base CX k f fd ps sp) (hr:Room (k+1) X.A) (hb:e8 X.K fd ps ds) (hd:bj dvs ds)
  (hx:mh CX X E) (I:Inv X pins σ H s) (r:bj vs us)
  (h:∀x dx,H x=ac->H dx=ac->dx≠x->sp (.ref x::(vs++dvs)) (upd (upd H dx (.own x)) x (.ins C dx [])) (fun v H2=>v=.non/\Q (.ref x) H2) E) :
  aE (aO X.prog X.w) X.A (call (.ref C) us) (EP X pins σ Q) X.xe s:=by
 have hq:=h (s.heap.objs.size+1) s.heap.objs.size (I.hok.fresh (E1 _)) (I.hok.fresh (qy _)) (qG (u6 _));have I2:=Inv.made (C:=C) I;have r2:bj (V.ref (s.heap.objs.size+1)::(vs++dvs)) (cG (s.heap.objs.size+1)::(us++ds)):=.cons rfl (r.append hd);have hl:(cG (s.heap.objs.size+1)::us++ds).length=ps.length:=by have e:=r2.length;rw[F.len _ _ _ _ hq] at e;exact e.symm
 refine yA (KC (f:=f) I.kIn M.makes M.init (lG.mp M.fn) (rL (F.run _ X.stack _ _ ⟨cG (s.heap.objs.size+1)::us,[]⟩ (cG (s.heap.objs.size+1)::(us++ds)) _ _ E (hr.make C us [])
  (I2.env0.make C us []) (hb _ (cG (s.heap.objs.size+1)::us) I2.kIn hl) r2 hq) fun r s' hq'=>?_))
 cases r with
 |error e=>exact hx pins σ _ _ e s' I2 hq'
 |ok fl=>
  cases fl with
  |ret u=>
   obtain⟨v,H',I3,rv,ev,q3⟩:=I2.after hq';subst ev;exact⟨rv,⟨V.ref (s.heap.objs.size+1),H',I3,rfl,q3⟩⟩
  |next=>exact io hq'
  |brk=>exact io hq'
  |cont=>exact io hq'
theorem zK (M:Mk X.K C f) (F:FnOk X.prog X.w X.K X.mg X.base CX k f fd ps sp) (hr:Room (k+1) X.A) (hg:Gl X x) (hm:X.mg x=aa (.ref C)) (hb:e8 X.K fd ps ds) (hd:bj dvs ds) (hx:mh CX X E)
  (ha:PA X (e::es) t) (hdb:(x==("__debug__":ah))=ao:=by decide) (he:aH (e::es) X.env=(ao,eval e X.env)::aH es X.env:=by rfl) (hpl:(ca pos (aH es X.env)).any (·.1)=ao:=by rfl) :
  PE X (.Call (.Name x p) (e::es) [] pos) (Nu C sp dvs E t):=by
 intro pins s σ H Q I h;refine yB (w8 I hg hm ?_ hdb);refine EZ (h₀:=X.base) I.ok.mod.kin M.kp (thn (ha pos pins s σ H _ I h) fun us s1 ⟨vs,H1,I1,r,q⟩=>⟨I1.kIn,?_⟩) he hpl;exact Mi M F hr hb hd hx I1 r q
end
structure FnScope (N P:ab ah) (sc:Scope):Prop where
 kind:sc.kind=.function
 co:sc.isCoroutine=ao
 gen:sc.isGenerator=ao
 nd:N.Nodup
 pre:N.take P.length=P
 par:∀x∈P,sc.names.lookup x=aa .local\/sc.names.lookup x=aa .cell
 nofree:∀y∈sc.names,y.2≠.free
theorem Bo {kindOf:ah->aq g9} {x:ah}:∀{binds:ab (ah×av)} {m:ah->aq av},(∀v,(x,v)∉binds)->lJ kindOf binds m x=m x
 |[],_,_=>rfl
 |(n,v)::r,m,h=>by
  unfold lJ;rw[Bo fun w hw=>h w (qg _ hw)];split
  .have:x≠n:=by rintro rfl;exact h v qf
   simp[this]
  .rfl
theorem Ck {kindOf:ah->aq g9} {x:ah}:∀{binds:ab (ah×av)} {m:ah->aq av},(∀v,(x,v)∉binds)->lK kindOf binds m x=m x
 |[],_,_=>rfl
 |(n,v)::r,m,h=>by
  unfold lK;rw[Ck fun w hw=>h w (qg _ hw)];split
  .rfl
  .have:x≠n:=by rintro rfl;exact h v qf
   simp[this]
theorem Cc {kindOf:ah->aq g9} {x:ah} {v:av}:∀{P:ab ah} {vs:ab av} {i:ag} {m:ah->aq av},P.Nodup->P[i]?=aa x->vs[i]?=aa v->kindOf x=aa .local->
  lJ kindOf (P.zip vs) m x=aa v
 |[],_,_,_,_,h,_,_=>by simp at h
 |_::_,[],_,_,_,_,h,_=>by simp at h
 |p::P,w::vs,0,m,nd,h1,h2,hk=>by
  simp at h1 h2;subst h1;subst h2;show lJ kindOf ((p,w)::P.zip vs) m p=_;unfold lJ;rw[Bo fun v hv=>(rN.mp nd).1 (E2 hv).1,qY hk];simp
 |p::P,w::vs,i+1,m,nd,h1,h2,hk=>by show lJ kindOf ((p,w)::P.zip vs) m x=_;unfold lJ;exact Cc (i:=i) (rN.mp nd).2 (by simpa using h1) (by simpa using h2) hk
theorem Ch {kindOf:ah->aq g9} {x:ah} {v:av}:∀{P:ab ah} {vs:ab av} {i:ag} {m:ah->aq av},P.Nodup->P[i]?=aa x->vs[i]?=aa v->kindOf x≠aa .local->
  lK kindOf (P.zip vs) m x=aa v
 |[],_,_,_,_,h,_,_=>by simp at h
 |_::_,[],_,_,_,_,h,_=>by simp at h
 |p::P,w::vs,0,m,nd,h1,h2,hk=>by
  simp at h1 h2;subst h1;subst h2;show lK kindOf ((p,w)::P.zip vs) m p=_;unfold lK;rw[Ck fun v hv=>(rN.mp nd).1 (E2 hv).1,qZ hk];simp
 |p::P,w::vs,i+1,m,nd,h1,h2,hk=>by show lK kindOf ((p,w)::P.zip vs) m x=_;unfold lK;exact Ch (i:=i) (rN.mp nd).2 (by simpa using h1) (by simpa using h2) hk
noncomputable def ee (N:ab ah) (vs:ab V):St:=vs.map aa++bY (N.length-vs.length) ac
noncomputable def eN (CX:CXT) (P:dD) (w:cS) (K:aR) (mg:ah->aq av) (base:Heap) (N:ab ah) (qual:ah) (scope:Scope) (f:au) (cd:av) (A:dj) (outer:ab cM) (s:aB) (H:Hp) (E:XK):Cx where
 prog:=P
 w:=w
 K:=K
 mg:=mg
 base:=base
 A:=A.deeper (dP qual scope s.heap.objs.size f cd)
 N:=N
 s₀:=s
 H₀:=H
 env:=dP qual scope s.heap.objs.size f cd
 outer:=outer
 stack:=dP qual scope s.heap.objs.size f cd::outer
 ex:=[]
 calm:=ai
 fn:=fun _=>ai
 pn:=[]
 xe:=fun e s'=>aE (aO P w) (A.deeper (dP qual scope s.heap.objs.size f cd)) (leaving (dP qual scope s.heap.objs.size f cd) e) (fun _ s''=>CX outer H s E e s'') (fun e' s''=>CX outer H s E e' s'') s'
variable {sc:Scope}
theorem Ax (h:sc.names.lookup x=aa .cell):∃c,(yC n sc.names []).lookup x=aa c:=by have q:=Pt sc.names n [] (.inl h);exact E3.mp q
variable {qual:ah} {scope:Scope} {cd:av}
theorem K0 {f:au} {s s1:aB} {E:XK} 
  (S:FnScope N ps scope) (hd:A.handled=ac) (e0:Env0 P w K mg base A outer s H) (hl:vs.length=ps.length) (r:bj vs us)
  (x:InCallC s s.heap.objs.size (lJ (dP qual scope s.heap.objs.size f cd).kindOf (ps.zip us) fun _=>ac) (yC (s.heap.objs.size+1) scope.names []) (lK (dP qual scope s.heap.objs.size f cd).kindOf (ps.zip us) fun _=>ac) s1) :
  Inv (eN CX P w K mg base N qual scope f cd A outer s H E) [] (ee N vs) H s1:=by
 have hpl:ps.length<=N.length:=by have:=c7 gE S.pre;rw[qH] at this;omega
 obtain⟨h1,tk,rfl,hk⟩:=x.done;have noA:∀b:au,b∉(eN CX P w K mg base N qual scope f cd A outer s H E).ex:=fun b z=>bx (show b∈([]:ab au) from z) (by simp);refine⟨⟨e0.mod,S.kind,rfl,rfl,qy _,fun y z c h1 h2=>?_,fun y hy=>?_,fun y c _ h=>?_,fun _=>hd,Around.frames_deeper e0.frames,.inr ⟨rfl,rfl⟩,fun b z=>bx z (noA b),e0.bs,e0.bsz,fun b _ _=>noA b,fun b z=>bx z (noA b),e0.funs,e0.frf⟩,
  rfl,e0.bare,Un.kept hk,⟨_,x.toInCall.ns,fun i y v h1 h2 h3=>?_⟩,fun y c h=>⟨_,x.cell y c h⟩,e0.hok.fresh (qy _),fun y c h=>?_,fun p hp=>bx (show p∈([]:ab (au×bf)) from hp) (by simp),e0.hok.kept hk,?_⟩
 .exact name_of_addr x.apart (mK h1) (mK h2)
 .have hy:scope.names.lookup y=aa .cell\/scope.names.lookup y=aa .free:=hy;rcases hy with hy|hy
  .exact Ax hy
  .exact bx rfl (S.nofree _ (mK hy))
 .exact n9 (x.above y c (mK h))
 .have hi:i<vs.length:=by
   unfold ee at h2;by_cases hi:i<vs.length
   .exact hi
   .rw[qN (by simpa using hi)] at h2;rw[u7] at h2;split at h2<;>cases h2
  have ha:vs[i]?=aa v:=by
   unfold ee at h2;rw[qD (by simpa using hi),ql] at h2;cases e:vs[i]? with
   |none=>rw[e] at h2;cases h2
   |some a=>rw[e] at h2;cases h2;rfl
  obtain⟨u,hu,rv⟩:=r.get ha;have hp:ps[i]?=aa y:=by rw[←S.pre,u8 (by omega)];exact h1
  have ndP:ps.Nodup:=by rw[←S.pre];exact S.nd.sublist (oi _ _)
  refine⟨u,rv,?_⟩;rcases S.par y (qS hp) with k|k
  .exact .inl ⟨k,Cc ndP hp hu k⟩
  .obtain⟨c,e⟩:=Ax (n:=s.heap.objs.size+1) k;refine .inr ⟨.inl k,c,e,?_⟩;have q:=x.cell y c e;rw[Ch ndP hp hu (by show scope.names.lookup y≠_;rw[k];decide)] at q;exact q
 .exact e0.hok.fresh (n9 (x.above y c (mK h)))
 .unfold ee;show _=N.length;rw[qk,qe,List.length_replicate];omega
variable {doc pm cdv ct oc:av} {an od:aq au} {osl:b9 (aq av)}
theorem Li {k:ag} {f:au} {params:Arguments} {dV kV:av} 
  (lk:K.lookup f=aa ⟨oc,od,.func (eO name qual params body scope dV kV doc pm an cdv ct),osl⟩) (hcd:rO K cdv qual=ai) (S:FnScope N ps scope)
  (len:∀vs H Q E,sp vs H Q E->vs.length=ps.length)
  (hbody:∀(A:dj) (outer:ab cM) (s:aB) (H:Hp) (vs:ab V) (Q:VK) (E:XK),Room k (A.deeper (dP qual scope s.heap.objs.size f cdv))->sp vs H Q E->
   ∃t,PSs (eN CX P w K mg base N qual scope f cdv A outer s H E) body t/\t {nx:=fun _ H'=>Q .non H',rt:=Q} (ee N vs) H) :
  FnOk P w K mg base CX (k+1) f (eO name qual params body scope dV kV doc pm an cdv ct) ps sp:=by
 refine⟨len,fun A outer s H args us vs Q E hr e0 hb r hsp=>?_⟩;have hl:=len _ _ _ _ hsp;have KX:K.In s.heap:=e0.mod.kin.keeps fun b o e=>(e0.bs b o e).1;have lim:s.heap.NoLimit:=e0.mod.nolimit.keeps fun b o e=>(e0.bs b o e).1;have hkind:∀y∈ps.zip us,scope.names.lookup y.1=aa .local\/(scope.names.lookup y.1=aa .cell/\((yC (s.heap.objs.size+1) scope.names []).lookup y.1).isSome=ai):=fun⟨n,v⟩ hy=>by
  rcases S.par n (E2 hy).1 with q|q
  .exact .inl q
  .exact .inr ⟨q,Pt _ _ _ (.inl q)⟩
 refine codeAny_call_function hr.depth (KX _ _ lk) rfl S.co S.gen rfl (PySem.W.codeRec_of KX hcd) (hb _ _ _ _ ?_);refine wpAny_newFunctionEnv_cells S.kind hkind fun env he s1 x=>?_;subst he;refine⟨lim.keeps x.toInCall.keep,codeAny_func ?_⟩;obtain⟨t,ht,hq⟩:=hbody A outer s H vs Q E (hr.deeper _) hsp;have I:Inv (eN CX P w K mg base N qual scope f cdv A outer s H E) [] (ee N vs) H s1:=K0 S hr.hd e0 hl r x;refine im (ht [] s1 (ee N vs) H _ I hq) (fun fl s' hs=>?_) fun e s' hs=>hs;have fin:∀{σ':St} {H':Hp} {v:V} {u:av},Inv (eN CX P w K mg base N qual scope f cdv A outer s H E) [] σ' H' s'->bK v u->Q v H'->CE outer P w H s Q u s':=
  fun {σ' H' v u} J rv q=>⟨v,H',J.os,J.bare,J.base,J.hok,rv,q⟩
 cases fl with
 |ret u=>
  obtain⟨v,σ',H',J,rv,q⟩:=hs;exact fin J rv q
 |next=>
  obtain⟨σ',H',J,q⟩:=hs;exact fin (v:=V.non) (u:=mE) J rfl q
 |brk=>
  obtain⟨_,_,_,q⟩:=hs;exact io q
 |cont=>
  obtain⟨_,_,_,q⟩:=hs;exact io q
section
variable {id T:String} {r:ab V->Hp->VK->Prop}
noncomputable def tCB (r:ab V->Hp->VK->Prop) (t:TA):TE:=fun σ H Q=>t σ H fun vs H1=>r vs H1 Q
theorem wk (hc:gn X (.builtin id) r) (hg:Gl X x) (hm:X.mg x=ac) (hv:ky x=aa (.builtin id)) (ha:PA X (e::es) t) (hn:x≠"__name__":=by decide) (hdb:(x==("__debug__":ah))=ao:=by decide)
  (he:aH (e::es) X.env=(ao,eval e X.env)::aH es X.env:=by rfl) (hpl:(ca pos (aH es X.env)).any (·.1)=ao:=by rfl):PE X (.Call (.Name x p) (e::es) [] pos) (tCB r t):=by
 intro pins s σ H Q I h;refine yB (na I hg hm hv ?_ hn hdb);exact RV (thn (ha pos pins s σ H _ I h) fun us s1 ⟨vs,H1,I1,r1,q1⟩=>hc pins s1 σ H1 vs us Q I1 r1 q1) he hpl
theorem Bf (hc:gn X (.type T) r) (hg:Gl X x) (hm:X.mg x=ac) (hv:ky x=aa (.type T)) (ha:PA X (e::es) t) (hn:x≠"__name__":=by decide) (hdb:(x==("__debug__":ah))=ao:=by decide)
  (he:aH (e::es) X.env=(ao,eval e X.env)::aH es X.env:=by rfl) (hpl:(ca pos (aH es X.env)).any (·.1)=ao:=by rfl):PE X (.Call (.Name x p) (e::es) [] pos) (tCB r t):=by
 intro pins s σ H Q I h;refine yB (na I hg hm hv ?_ hn hdb);exact yt (thn (ha pos pins s σ H _ I h) fun us s1 ⟨vs,H1,I1,r1,q1⟩=>hc pins s1 σ H1 vs us Q I1 r1 q1) he hpl
end
variable {sl:au} {vl vu:av} {hi:aq aj} {items:b9 av}
namespace HT
section
variable {s:aB}
noncomputable def sIx (n d:ag):aq aj->ag
 |none=>d
 |some v=>if v<0 then (v+(n:aj)).toNat else min v.toNat n
theorem Il (n d:ag) (hd:d<=n) (o:aq aj):sIx n d o<=n:=by
 cases o with
 |none=>exact hd
 |some v=>
  show(if v<0 then (v+(n:aj)).toNat else min v.toNat n)<=n;by_cases hv:v<0
  .rw[qY hv];omega
  .rw[qZ hv];exact u9 _ _
theorem Eb (v:aj) (n d:ag):(if v<0 then max (v+(n:aj)) 0 else min v (n:aj))=((sIx n d (aa v):ag):aj):=by
 show(if v<0 then max (v+(n:aj)) 0 else min v (n:aj))=(((if v<0 then (v+(n:aj)).toNat else min v.toNat n):ag):aj);by_cases hv:v<0
 .simp only[qY hv];omega
 .simp only[qZ hv];omega
theorem HJ (lo hi:aq aj) (n:ag):E4 lo hi 1 (n:aj)=(((sIx n 0 lo:ag):aj),((sIx n n hi:ag):aj)):=by
 have h1:¬((1:aj)<0):=by omega
 unfold E4;simp only[h1,dF];refine Prod.ext ?_ ?_
 .cases lo with
  |none=>rfl
  |some v=>exact Eb v n 0
 .cases hi with
  |none=>rfl
  |some v=>exact Eb v n n
theorem Je (i j:ag):yD (i:aj) (j:aj) 1=j-i:=by
 unfold yD;have h1:(1:aj) > 0:=by omega
 simp only[h1,dn,Int.ediv_one];split<;>omega
theorem B8 {v:av} {o:aq aj} {Q:aq aj->aB->Prop} (p:mL v o) (h:Q o s):aE (aO prog w) A (RX v) Q E s:=by
 cases p with
 |none=>exact Pu h
 |int i t=>exact slicePart_int h
theorem LK {lo:aq aj} {Q:aj×aj×ag->aB->Prop} (hs:s.heap.IsSliceOf sl vl vu .none) (pl:mL vl lo) (pu:mL vu hi)
  (h:Q (((sIx n 0 lo:ag):aj),1,sIx n n hi-sIx n 0 lo) s):aE (aO prog w) A (Pv (.ref sl) (pure (n:aj))) Q E s:=by
 obtain⟨os,hos,hcs,hds⟩:=id hs;unfold Pv RY;refine qB (qB (jM hos hds (x:=vl) rfl (qB (jM hos hds (x:=vu) rfl (qB (jM hos hds (x:=.none) rfl (qE ?_)))))));refine qB (Pu ?_);show aE _ _ (if ((1:aj)==0)=ai then _ else _) _ _ s;rw[qZ (by decide)];refine qB (B8 pl (qB (B8 pu (qB (qE ?_)))));show aE _ _ (match E4 lo hi 1 (n:aj) with|(lo,hi)=>pure (lo,(1:aj),yD lo hi 1)) _ _ s;rw[HJ lo hi n];show aE _ _ (pure (((sIx n 0 lo:ag):aj),(1:aj),yD ((sIx n 0 lo:ag):aj) ((sIx n n hi:ag):aj) 1)) _ _ s;rw[Je];exact qE h
theorem Jj (xs:b9 av) (i k:ag):((di k).filterMap fun(m:ag)=>xs[((i:aj)+(m:aj)*1).toNat]?).toArray=((xs.toList.drop i).take k).toArray:=by
 have e:(fun(m:ag)=>xs[((i:aj)+(m:aj)*1).toNat]?)=fun m=>xs[i+m]?:=by
  funext m
  have:((i:aj)+(m:aj)*1).toNat=i+m:=by omega
  rw[this]
 rw[e];have:=yE xs i k;rw[List.filterMap_map] at this;have e2:((fun x=>xs[x]?) ∘ fun x=>i+x)=fun m=>xs[i+m]?:=rfl;rw[e2] at this;rw[this]
theorem getItem_tuple_cut {t:au} {lo:aq aj} (ht:IsTup s.heap t items) (hs:s.heap.IsSliceOf sl vl vu .none) (pl:mL vl lo) (pu:mL vu hi)
  (hw:¬(sIx items.size 0 lo=0/\sIx items.size items.size hi=items.size))
  (h:Q (.ref s.heap.objs.size) {s with heap:=s.heap.push {cls:=.type "tuple",data:=.seq ((items.toList.drop (sIx items.size 0 lo)).take (sIx items.size items.size hi-sIx items.size 0 lo)).toArray} })
  (hsz:items.size<=aK):aE (aO prog w) A (vc (.ref t) (.ref sl)) Q E s:=by
 have htake:sizeOk (.seq ((items.toList.drop (sIx items.size 0 lo)).take (sIx items.size items.size hi-sIx items.size 0 lo)).toArray):=by show((items.toList.drop (sIx items.size 0 lo)).take (sIx items.size items.size hi-sIx items.size 0 lo)).toArray.size<=aK;rw[qF,qH,iq,iR];omega
 have hj:sIx items.size items.size hi<=items.size:=Il _ _ (qy _) hi;obtain⟨os,hos,hcs,hds⟩:=id hs;have hTs:s.TypeIs (.ref sl) "slice":=⟨os,hos,hcs⟩;unfold vc
 try with_reducible refine ip ?_
 first|refine qB (qE ?_)|skip
 refine qB (wpAny_sequenceKey ht.typeIs (by decide) ?_);refine qB (yF (name:=rQ "__getitem__") ht.typeIs E5
  (yG E5 ht.typeIs entry_tuple_getitem ?_ (args_tuple_getitem _ _)))
 show aE _ _ (RZ (.ref t) >>= _) _ _ s;refine qB (tupleItemsOf_ ht ?_);refine qB (vd hTs ?_);rw[qY (by decide)];refine qB (LK hs pl pu ?_);have hno:¬((((sIx items.size 0 lo:ag):aj)==0 && (1:aj)==1 && (sIx items.size items.size hi-sIx items.size 0 lo)==items.size)=ai):=by intro q;rw[hG,hG] at q;have q1:((sIx items.size 0 lo:ag):aj)=0:=E6 q.1.1;have q2:sIx items.size items.size hi-sIx items.size 0 lo=items.size:=E6 q.2;exact hw ⟨by omega,by omega⟩
 show aE _ _ (if (((sIx items.size 0 lo:ag):aj)==0 && (1:aj)==1 && (sIx items.size items.size hi-sIx items.size 0 lo)==items.size)=ai then _ else _) _ _ s;rw[qZ hno,Jj]
 first
  |exact qB (m:=yH _) (oj (qE ⟨_,rfl,qE h⟩) htake)
  |exact qB (m:=yH _) (oj (qB (qE (qE ⟨_,rfl,qE h⟩))) htake)
  |exact qB (qB (m:=yH _) (oj (qE (qE ⟨_,rfl,qE h⟩)) htake))
  |exact qB (qB (m:=yH _) (oj (qE ⟨_,rfl,qE h⟩) htake))
end
end HT
abbrev TO:=St->Hp->(aq aj->Hp->Prop)->Prop
noncomputable def PO (X:Cx) (e:aq Expr) (t:TO):Prop:=
 ∀(pins:ab (au×bf)) (s:aB) (σ:St) (H:Hp) (Q:aq aj->Hp->Prop),Inv X pins σ H s->t σ H Q->
  aE (aO X.prog X.w) X.A (evalPart e X.env) (fun u s'=>∃o H',Inv X pins σ H' s'/\mL u o/\Q o H') X.xe s
noncomputable def LJ:TO:=fun _ H Q=>Q ac H
noncomputable def M3 (t:TE):TO:=fun σ H Q=>t σ H fun x H1=>∃i,x=.int i/\Q (aa i) H1
variable {p2:fm}
section
variable {lo hi:aq Expr} {tl th:TO}
theorem yh:PO X ac LJ:=by intro pins s σ H Q I h;rw[evalPart_none];exact qE ⟨ac,H,I,.none,h⟩
theorem ye (h:PE X e te):PO X (aa e) (M3 te):=by intro pins s σ H Q I hw;rw[evalPart_some];refine thn (h pins s σ H _ I hw) fun u s1 ⟨x,H1,I1,r1,q1⟩=>?_;obtain⟨i,rfl,q⟩:=q1;obtain⟨t,rfl⟩:=r1;exact⟨aa i,H1,I1,.int i t,q⟩
noncomputable def SlR (X:Cx) (r:V->aq aj->aq aj->Hp->VK->Prop):Prop:=
 ∀(pins:ab (au×bf)) (s:aB) (σ:St) (H:Hp) (x:V) (v vl vu:av) (lo hi:aq aj) (sl:au) (Q:VK),Inv X pins σ H s->bK x v->s.heap.IsSliceOf sl vl vu .none->mL vl lo->mL vu hi->r x lo hi H Q->
  ∃T id,E7 (.type T) "__getitem__"=pure (aa (.builtin id))/\s.TypeIs v T/\aE (aO X.prog X.w) X.A (vc v (.ref sl)) (EP X pins σ Q) X.xe s
theorem SlR.or {r r':V->aq aj->aq aj->Hp->VK->Prop} (h:SlR X r) (h':SlR X r'):SlR X (fun x lo hi H Q=>r x lo hi H Q\/r' x lo hi H Q):=by
 intro pins s σ H x v vl vu lo hi sl Q I rx hs pl pu q;rcases q with q|q
 .exact h pins s σ H x v vl vu lo hi sl Q I rx hs pl pu q
 .exact h' pins s σ H x v vl vu lo hi sl Q I rx hs pl pu q
noncomputable def tSl (r:V->aq aj->aq aj->Hp->VK->Prop) (te:TE) (tl th:TO):TE:=fun σ H Q=>te σ H fun x H1=>tl σ H1 fun l H2=>th σ H2 fun u H3=>r x l u H3 Q
theorem xj {r:V->aq aj->aq aj->Hp->VK->Prop} (hr:SlR X r) (he:PE X e te) (hl:PO X lo tl) (hu:PO X hi th):PE X (.Subscript e (.Slice lo hi ac p2) pos) (tSl r te tl th):=by intro pins s σ H Q I h;refine E8 (thn (he pins s σ H _ I h) fun v s1 ⟨x,H1,I1,r1,q1⟩=>?_);refine wpAny_Slice (thn (hl pins s1 σ H1 _ I1 q1) fun vl s2 ⟨l,H2,I2,pl,q2⟩=>thn (hu pins s2 σ H2 _ I2 q2) fun vu s3 ⟨u,H3,I3,pu,q3⟩=>?_);rw[evalPart_none];refine qE ?_;have I4:Inv X pins σ H3 {s3 with heap:=s3.heap.push {cls:=.type "slice",data:=.fields #[vl,vu,.none]} }:=I3.kept (t':=s3.toks) fun b ob q=>qw _ q;obtain⟨T,id,hT,ht,hg⟩:=hr pins {s3 with heap:=s3.heap.push {cls:=.type "slice",data:=.fields #[vl,vu,.none]} } σ H3 x v vl vu l u s3.heap.objs.size Q I4 r1 (Pw ..) pl pu q3;show aE (aO X.prog X.w) X.A (E9 e (.Slice lo hi ac p2) v (.ref s3.heap.objs.size)) (EP X pins σ Q) X.xe {s3 with heap:=s3.heap.push {cls:=.type "slice",data:=.fields #[vl,vu,.none]} };exact Fa (ops:=[.ref s3.heap.objs.size,v]) ht hT hg (by with_unfolding_all rfl)
noncomputable def ly (xs:ab V) (lo hi:aq aj):ab V:=(xs.drop (HT.sIx xs.length 0 lo)).take (HT.sIx xs.length xs.length hi-HT.sIx xs.length 0 lo)
theorem Cm (xs:ab V) (lo hi:aq aj):(ly xs lo hi).length<=xs.length:=by unfold ly;rw[qH,iq];omega
noncomputable def MT (K:aR):V->aq aj->aq aj->Hp->VK->Prop:=fun x lo hi H Q=>∃a xs,x=.ref a/\SqT K H a xs /\
 ¬(HT.sIx xs.length 0 lo=0/\HT.sIx xs.length xs.length hi=xs.length)/\∀p,H p=ac->Q (.ref p) (upd H p (.tup (ly xs lo hi)))
theorem Kv:SlR X (MT X.K):=by
 intro pins s σ H x v vl vu lo hi sl Q I rx hs pl pu h;obtain⟨a,xs,rfl,hx,hw,q⟩:=h;cases rx;obtain⟨its,r,ht,hz⟩:=I.tuple hx;have hlen:its.toArray.size=xs.length:=by rw[qF];exact r.length.symm
 refine⟨"tuple",_,E5.lookup,ht.typeIs,?_⟩;refine HT.getItem_tuple_cut ht hs pl pu (by rw[hlen];exact hw) ?_ (by rw[hlen];exact hz);rw[hlen];refine⟨.ref s.heap.objs.size,_,I.laid (t':=s.toks) (o:=.tup (ly xs lo hi)) (fun b ob q=>qw _ q) (qy _) ?_,rfl,q _ (I.hok.fresh (qy _))⟩;exact⟨qP (Cm xs lo hi) hz,_,(r.drop (HT.sIx xs.length 0 lo)).take (HT.sIx xs.length xs.length hi-HT.sIx xs.length 0 lo),Px _ _⟩
end
noncomputable def ixN (n:ag) (i:aj):aq ag:=if 0<=i then (if i<n then aa i.toNat else ac) else if -(n:aj)<=i then aa (i+n).toNat else ac
noncomputable def atI (xs:ab α) (i:aj):aq α:=(ixN xs.length i).bind fun j=>xs[j]?
theorem Cb {i:aj} (h:ixN n i=aa j):seqIndex? i n=aa j/\j<n /\ -(n:aj)<=i/\i<n:=by
 unfold ixN at h;by_cases h0:0<=i
 .rw[qY h0] at h;by_cases h1:i<n
  .rw[qY h1] at h;have e:i.toNat=j:=qK h;exact⟨by rw[Fb h0 h1,e],by omega,by omega,h1⟩
  .rw[qZ h1] at h;cases h
 .rw[qZ h0] at h;by_cases h1 : -(n:aj)<=i
  .rw[qY h1] at h;have e:(i+n).toNat=j:=qK h;exact⟨by rw[seqIndex_neg (by omega) h1,e],by omega,h1,by omega⟩
  .rw[qZ h1] at h;cases h
theorem vV {xs:ab α} {i:aj} {v:α} (h:atI xs i=aa v):∃j,seqIndex? i xs.length=aa j/\xs[j]?=aa v/\j<xs.length /\ -(xs.length:aj)<=i/\i<xs.length:=by
 unfold atI at h;cases e:ixN xs.length i with
 |none=>rw[e] at h;cases h
 |some j=>
  rw[e] at h;obtain⟨h1,h2,h3,h4⟩:=Cb e;exact⟨j,h1,h,h2,h3,h4⟩
theorem km {xs:ab α} {v:α} (h:xs[j]?=aa v):atI xs (j:aj)=aa v:=by
 have hj:j<xs.length:=(gA.mp h).1;have e:ixN xs.length (j:aj)=aa j:=by unfold ixN;rw[qY (by omega),qY (by omega)];simp
 unfold atI;rw[e];exact h
noncomputable def tV (b:Expr):Prop:=∀o i,subscripted b ao o i=operate [o,i] (vc o i)
noncomputable def IxR (X:Cx) (r:R2):Prop:=
 ∀(value slice:Expr) (pins:ab (au×bf)) (s:aB) (σ:St) (H:Hp) (x y:V) (v u:av) (Q:VK),Inv X pins σ H s->bK x v->bK y u->r x y H Q->
  subscripted slice ao v u=operate [v,u] (vc v u)->aE (aO X.prog X.w) X.A (E9 value slice v u) (EP X pins σ Q) X.xe s
noncomputable def MtR (X:Cx) (id:String) (r:V->ab V->Hp->VK->Prop):Prop:=
 ∀(pins:ab (au×bf)) (s:aB) (σ:St) (H:Hp) (x:V) (xs:ab V) (v:av) (us:ab av) (Q:VK),Inv X pins σ H s->bK x v->bj xs us->r x xs H Q->
  aE (aO X.prog X.w) X.A (call (.builtin id) (v::us)) (EP X pins σ Q) X.xe s
variable {its its':ab av} {cpos:fm}
section
theorem IxR.or (h:IxR X r) (h':IxR X r'):IxR X (fun x y H Q=>r x y H Q\/r' x y H Q):=by
 intro value slice pins s σ H x y v u Q I rx ry q hs;rcases q with q|q
 .exact h value slice pins s σ H x y v u Q I rx ry q hs
 .exact h' value slice pins s σ H x y v u Q I rx ry q hs
theorem gK (hr:IxR X r) (ha:PE X a ta) (hb:PE X b tb) (hs:tV b):PE X (.Subscript a b pos) (tOp r ta tb):=by intro pins s σ H Q I h;exact E8 (wA ha hb I h fun v u s2 x y H2 I2 rx ry q=>hr a b pins s2 σ H2 x y v u Q I2 rx ry q (hs _ _))
noncomputable def Ej (K:aR):R2:=fun x y H Q=>∃p xs i v,x=.ref p/\y=.int i/\SqL K H p xs/\atI xs i=aa v/\Q v H
noncomputable def B' (K:aR):R2:=fun x y H Q=>∃p xs i v,x=.ref p/\y=.int i/\SqT K H p xs/\atI xs i=aa v/\Q v H
noncomputable def Au:R2:=fun x y H Q=>∃z i c,x=.str z/\y=.int i/\z.length<=aK/\atI z.cps.toList i=aa c/\Q (.str ⟨#[c]⟩) H
theorem OU:IxR X (Ej X.K):=by
 intro value slice pins s σ H x y v u Q I rx ry h hs;obtain⟨p,xs,i,z,rfl,rfl,hq,he,q⟩:=h;cases rx;obtain⟨t,rfl⟩:=ry;obtain⟨its,r,pl,hz⟩:=I.list hq;obtain⟨j,h1,h2,h3,h4,h5⟩:=vV he;obtain⟨w,ew,rw'⟩:=r.get h2;have hl:=r.length;have hn:=oF;have fin:EP X pins σ Q w s:=⟨z,H,I,rw',q⟩;by_cases h0:0<=i
 .have hj:i.toNat=j:=by rw[Fb h0 h5] at h1;exact qK h1
  exact item_listR pl.isList h0 (by omega) (by rw[hj];simpa using ew) fin hs
 .have hj:(i+(its.toArray.size:aj)).toNat=j:=by rw[seqIndex_neg (by omega) h4] at h1;rw[qF,←hl];exact qK h1
  exact Py (x:=w) pl.isList.typeIs Fc.lookup
   (wpAny_getItem_list_neg (Q:=fun r s'=>r=w/\EP X pins σ Q r s') pl.isList (by omega) (by rw[qF]<;>omega) (by omega) (by rw[hj];simpa using ew) ⟨rfl,fin⟩) hs
theorem Mz:IxR X (B' X.K):=by
 intro value slice pins s σ H x y v u Q I rx ry h hs;obtain⟨p,xs,i,z,rfl,rfl,hq,he,q⟩:=h;cases rx;obtain⟨t,rfl⟩:=ry;obtain⟨its,r,pl,hz⟩:=I.tuple hq;obtain⟨j,h1,h2,h3,h4,h5⟩:=vV he;obtain⟨w,ew,rw'⟩:=r.get h2;have hl:=r.length;have hn:=oF;have fin:EP X pins σ Q w s:=⟨z,H,I,rw',q⟩;exact Py (x:=w) pl.typeIs slot_tuple_getitem.lookup
  (getItem_tuple (j:=j) (Q:=fun r s'=>r=w/\EP X pins σ Q r s') pl (by omega) (by omega) (by rw[qF,←hl];exact h1) (by simpa using ew) ⟨rfl,fin⟩) hs
theorem Lg:IxR X Au:=by
 intro value slice pins s σ H x y v u Q I rx ry h hs;obtain⟨z,i,c,rfl,rfl,hz,he,q⟩:=h;obtain⟨t,rfl⟩:=rx;obtain⟨t',rfl⟩:=ry;obtain⟨j,h1,h2,h3,h4,h5⟩:=vV he;have hl:z.cps.toList.length=z.length:=by simp[gF]
 rw[hl] at h1 h4 h5;have hn:=oF;exact Fa (mM s z t) slot_str_getitem.lookup (getItem_str (c:=c) (by have e1:decide (i < -(2 ^ 63:aj))=ao:=qQ (by omega);have e2:decide (i ≥ 2 ^ 63)=ao:=qQ (by omega);rw[e1,e2,Bool.or_false]) (by rw[h1];simpa using h2) ⟨.str ⟨#[c]⟩,H,I.tok _,⟨_,rfl⟩,q⟩) hs
noncomputable def rIx (K:aR):R2:=fun x y H Q=>Ej K x y H Q\/B' K x y H Q\/Au x y H Q
theorem gY:IxR X (rIx X.K):=OU.or (Mz.or Lg)
theorem KS (its:ab av) (n j:ag) (u:av):ve (·.setIfInBounds j u) {cls:=.type "list",data:=.seq its.toArray n}={cls:=.type "list",data:=.seq (its.set j u).toArray n}:=by simp[ve]
theorem Inv.lst {s:aB} {p:au} (I:Inv X pins σ H s) (h:H p=aa (.lst xs)) :
  ∃(its:ab av) (n:ag),bj xs its/\s.heap.get? p=aa {cls:=.type "list",data:=.seq its.toArray n}/\xs.length<=aK:=by
 obtain⟨z,its,n,r,e⟩:=I.hok p _ h;exact⟨its,n,r,e,z⟩
theorem Inv.lstUpd {s:aB} {p:au} {n':ag} {f:bf->bf} (I:Inv X pins σ H s) (h:H p=aa (.lst xs))
  (ho:s.heap.get? p=aa {cls:=.type "list",data:=.seq its.toArray n}) (hf:f {cls:=.type "list",data:=.seq its.toArray n}={cls:=.type "list",data:=.seq its'.toArray n'}) (r:bj ys its') (hz:ys.length<=aK) (t:ag) :
  Inv X pins σ (upd H p (.lst ys)) {s with heap:=s.heap.update p f,toks:=t}:=by
 have e:(s.heap.update p f).get? p=aa {cls:=.type "list",data:=.seq its'.toArray n'}:=by rw[Fd f ho (by rw[hf]<;>rfl),hf]
 refine I.write (x:=p) (e:=p) (by rw[h];trivial) (.inl rfl) (fun b u hb q=>(Pz _ _ (em hb)).trans q) ⟨_,e⟩ ?_;exact⟨hz,its',n',r,e⟩
noncomputable def J4:V->V->V->Hp->(Hp->Prop)->Prop:=fun o i v H Q=>∃p xs k j,o=.ref p/\i=.int k/\H p=aa (.lst xs)/\ixN xs.length k=aa j/\Q (upd H p (.lst (xs.set j v)))
theorem G6:zv X J4:=by
 intro pins s σ H o i v ov iv u Q I ro ri rv h;obtain⟨p,xs,k,j,rfl,rfl,hp,hj,q⟩:=h;cases ro;obtain⟨t,rfl⟩:=ri;obtain⟨its,n,r,ho,hz⟩:=I.lst hp;obtain⟨h1,h2,h3,h4⟩:=Cb hj;have hl:=r.length;have hn:=oF;have I':Inv X pins σ (upd H p (.lst (xs.set j v))) {s with heap:=s.heap.update p (ve (·.setIfInBounds j u))} :=
  I.lstUpd hp ho (KS its n j u) (r.set rv j) (by rw[PD];exact hz) s.toks
 by_cases h0:0<=k
 .have hk:k.toNat=j:=by rw[Fb h0 h4] at h1;exact qK h1
  exact PySem.W.ki_setAt ho h0 (by omega) (by rw[qF,←hl];exact h4) (by rw[hk];exact⟨_,I',q⟩)
 .have hk:(k+(its.toArray.size:aj)).toNat=j:=by rw[seqIndex_neg (by omega) h3] at h1;rw[qF,←hl];exact qK h1
  exact PySem.W.ki_setBack ho (by omega) (by rw[qF,←hl];exact h3) (by omega) (by rw[hk];exact⟨_,I',q⟩)
theorem GS (lo hi:aq aj) (n:ag):(om lo hi ac n).1=((HT.sIx n 0 lo:ag):aj)/\(om lo hi ac n).2.1=((HT.sIx n n hi:ag):aj)/\(om lo hi ac n).2.2=1:=by
 refine⟨?_,?_,rfl⟩
 .cases lo with
  |none=>simp[om,HT.sIx]
  |some i=>
   simp only[om,HT.sIx,PF,show(1:aj) > 0 by decide,dn];by_cases h:i<0
   .simp only[h,dn]<;>omega
   .simp only[h,dF]<;>omega
 .cases hi with
  |none=>simp[om,HT.sIx]
  |some i=>
   simp only[om,HT.sIx,PF,show(1:aj) > 0 by decide,dn];by_cases h:i<0
   .simp only[h,dn]<;>omega
   .simp only[h,dF]<;>omega
theorem OV (its:ab av) (lo hi:aq aj):slicePick its.toArray lo hi ac=((its.drop (HT.sIx its.length 0 lo)).take (HT.sIx its.length its.length hi-HT.sIx its.length 0 lo)).toArray:=by obtain⟨h1,h2,h3⟩:=GS lo hi its.toArray.size;unfold slicePick;rw[h1,h2,h3];simp only[PH,yE,qF]<;>rfl
noncomputable def KI (K:aR):V->aq aj->aq aj->Hp->VK->Prop:=fun x lo hi H Q=>∃a xs,x=.ref a/\SqL K H a xs/\∀p,H p=ac->Q (.ref p) (upd H p (.lst (ly xs lo hi)))
theorem Bd:SlR X (KI X.K):=by intro pins s σ H x v vl vu lo hi sl Q I rx hs pl pu h;obtain⟨a,xs,rfl,hx,q⟩:=h;cases rx;obtain⟨its,r,ht,hz⟩:=I.list hx;have hlen:=r.length;refine⟨"list",_,Fc.lookup,ht.isList.typeIs,?_⟩;refine PJ ht.isList hs pl pu .none (by simp) ?_ (by rw[qF]<;>omega);rw[OV,←hlen];refine⟨.ref s.heap.objs.size,_,I.laid (t':=s.toks) (o:=.lst (ly xs lo hi)) (fun b ob q=>qw _ q) (qy _) ?_,rfl,q _ (I.hok.fresh (qy _))⟩;exact⟨qP (Cm xs lo hi) hz,_,0,(r.drop (HT.sIx xs.length 0 lo)).take (HT.sIx xs.length xs.length hi-HT.sIx xs.length 0 lo),qJ _ rfl⟩
theorem IE:gn X (.type "list") (fun xs H Q=>∃p ys,xs=[.ref p]/\(SqL X.K H p ys\/SqT X.K H p ys)/\∀l,H l=ac->Q (.ref l) (upd H l (.lst ys))):=by
 intro pins s σ H xs us Q I r h;obtain⟨p,ys,rfl,hq,q⟩:=h;obtain⟨u,rfl,rx⟩:=fU r;cases rx;have fin:∀(its:ab av),bj ys its->ys.length<=aK->∀(h':Heap) (c':ag),(∀b o',s.heap.get? b=aa o'->h'.get? b=aa o')->
   h'.get? s.heap.objs.size=aa {cls:=.type "list",dict:=ac,data:=.seq its.toArray c',slots:=#[]}->EP X pins σ Q (.ref s.heap.objs.size) {s with heap:=h'}:=fun its r' hz h' c' kp e=>
  ⟨.ref s.heap.objs.size,_,I.laid (t':=s.toks) kp (qy _) (show dA X.prog X.w _ h' _ (.lst ys) from⟨hz,its,c',r',e⟩),rfl,q _ (I.hok.fresh (qy _))⟩
 rcases hq with hq|hq
 .obtain⟨its,r',pl,hz⟩:=I.list hq;have hlen:=r'.length;obtain⟨o,ho,hc,n,hd⟩:=pl.isList;exact call_list_seq p (.inl rfl) ho hc hd (fun h' c' kp e=>fin its r' hz h' c' kp e) (by simp only[qF]<;>omega)
 .obtain⟨its,r',pl,hz⟩:=I.tuple hq;have hlen:=r'.length;obtain⟨o,ho,hc,n,hd⟩:=pl;exact call_list_seq p (.inr rfl) ho hc hd (fun h' c' kp e=>fin its r' hz h' c' kp e) (by simp only[qF]<;>omega)
theorem Hv:gn X (.type "tuple") (fun xs H Q=>∃p ys,xs=[.ref p]/\((SqL X.K H p ys/\∀l,H l=ac->Q (.ref l) (upd H l (.tup ys)))\/(SqT X.K H p ys/\Q (.ref p) H))):=by
 intro pins s σ H xs us Q I r h;obtain⟨p,ys,rfl,h⟩:=h;obtain⟨u,rfl,rx⟩:=fU r;cases rx;rcases h with⟨hq,q⟩|⟨hq,q⟩
 .obtain⟨its,r',pl,hz⟩:=I.list hq;have hlen:=r'.length;refine call_tuple_list pl.isList (fun h' kp=>?_) (by simp only[qF]<;>omega);have I1:Inv X pins σ H {s with heap:=h'}:=I.kept (t':=s.toks) kp;have I2:Inv X pins σ (upd H h'.objs.size (.tup ys)) {s with heap:=h'.push {cls:=.type "tuple",data:=.seq its.toArray} } :=
   I1.laid (t':=s.toks) (fun b o e=>qw _ e) (qy _) (show dA X.prog X.w _ _ _ (.tup ys) from⟨hz,its,r',Px _ _⟩)
  exact⟨.ref h'.objs.size,_,I2,rfl,q _ (I1.hok.fresh (qy _))⟩
 .obtain⟨its,r',pl,hz⟩:=I.tuple hq;exact call_tuple_same pl ⟨.ref p,H,I,rfl,q⟩
noncomputable def tyV (K:aR) (T:String) (x:V) (H:Hp):Prop:=match x with
 |.str _=>T="str"
 |.int _=>T="int"
 |.ref p=>(T="list"/\∃xs,SqL K H p xs)\/(T="tuple"/\∃o,K.lookup p=aa o/\o.cls=.type "tuple"/\o.dict=ac) \/
   (T="dict"/\((∃kvs,H p=aa (.dK kvs))\/∃kvs,H p=aa (.dT kvs)))\/(T="set"/\∃S n,H p=aa (.set S n))
 |_=>False
theorem Ki {s:aB} {T:String} {x:V} {v:av} (I:Inv X pins σ H s) (r:bK x v) (ty:tyV X.K T x H) :
  s.TypeIs v T/\∀a,v=.ref a->∃ob,s.heap.get? a=aa ob/\ob.dict=ac:=by
 cases x with
 |str z=>
  obtain⟨t,rfl⟩:=r;cases(show T="str" from ty);exact⟨mM s z t,fun _ e=>nomatch e⟩
 |int i=>
  obtain⟨t,rfl⟩:=r;cases(show T="int" from ty);exact⟨Fe s i t,fun _ e=>nomatch e⟩
 |ref p=>
  cases r;rcases ty with⟨rfl,xs,hq⟩|⟨rfl,o,hk,hc,hd⟩|⟨rfl,hk⟩|⟨rfl,S,n,hk⟩
  .obtain⟨its,_,pl,_⟩:=I.list hq;refine⟨pl.isList.typeIs,fun a e=>?_⟩;cases e;obtain⟨o,n,e,c,hd,_⟩:=pl;exact⟨o,e,hd⟩
  .refine⟨⟨o,I.kIn p o hk,hc⟩,fun a e=>?_⟩;cases e;exact⟨o,I.kIn _ o hk,hd⟩
  .have z:∃o,s.heap.get? p=aa o/\o.ExactDict:=by
    rcases hk with⟨kvs,hk⟩|⟨kvs,hk⟩
    .obtain⟨_,_,_,_,o,_,_,e,ex,_⟩:=I.hok p _ hk;exact⟨o,e,ex⟩
    .obtain⟨_,_,_,_,o,_,_,e,ex,_⟩:=I.hok p _ hk;exact⟨o,e,ex⟩
   obtain⟨o,e,ex⟩:=z;refine⟨⟨o,e,ex.1⟩,fun a e2=>?_⟩;cases e2;exact⟨o,e,ex.2.1⟩
  .obtain⟨o,_,_,_,e,ex,_⟩:=I.hok p _ hk;refine⟨⟨o,e,ex.1⟩,fun a e2=>?_⟩;cases e2;exact⟨o,e,ex.2.1⟩
 |_=>exact io ty
noncomputable def tBM (K:aR) (T:String) (r:V->ab V->Hp->VK->Prop) (to:TE) (t:TA):TE:=fun σ H Q=>to σ H fun x H1=>tyV K T x H1/\t σ H1 fun xs H2=>r x xs H2 Q
variable {T id:String} {r:V->ab V->Hp->VK->Prop}
theorem lU (pa:Ff T) (slot:Slot T name id) (hty:typeOf (.builtin id)=pure (.type "method_descriptor")) (hm:MtR X id r) (ho:PE X o to) (ha:PA X (e::es) t)
  (hbase:iU o name X.env (eval o X.env)=eval o X.env:=by rfl)
  (hfew:((ca cpos (aH (e::es) X.env)).all (fun x=>!x.1) && (gC cpos (gD [] X.env)).all (fun x=>x.1.isSome)
   && decide ((e::es).length+([]:ab iV).length+(if ([]:ab iV).isEmpty then 0 else 1)<30))=ai:=by rfl)
  (hline:(apos.endLine==cpos.line)=ai:=by rfl) (hs:aH (e::es) X.env=(ao,eval e X.env)::aH es X.env:=by rfl) (hplain:(ca cpos (aH es X.env)).any (·.1)=ao:=by rfl) :
  PE X (.Call (.Attribute o name apos) (e::es) [] cpos) (tBM X.K T r to t):=by
 intro pins s σ H Q I h;refine wpAny_Call_method_late hbase hfew hline rfl (thn (ho pins s σ H _ I h) fun v s1 ⟨x,H1,I1,r1,ty,q1⟩=>?_);obtain⟨h1,h2⟩:=Ki I1 r1 ty;refine⟨T,id,pa,slot,hty,h1,h2,?_⟩;have hA:=ha cpos pins s1 σ H1 _ I1 q1;rw[hs] at hA ⊢;refine Calls.callWith_builtin (by show(ao || (ca cpos (aH es X.env)).any (·.1))=ao;rw[hplain]<;>rfl) (Calls.evalArgs_plain ?_);exact thn hA fun us s2 ⟨vs,H2,I2,r2,q2⟩=>hm pins s2 σ H2 x vs v us Q I2 r1 r2 q2
end
noncomputable def MtM (X:Cx) (id:String) (r:V->ab V->Hp->VK->Prop):Prop:=
 ∀(pins:ab (au×bf)) (s:aB) (σ:St) (H:Hp) (x:V) (xs:ab V) (v:av) (us:ab av) (Q:VK),Inv X pins σ H s->bK x v->bj xs us->r x xs H Q->
  aE (aO X.prog X.w) X.A (call (.builtin id) (v::us)) (EP X pins σ Q) X.xe s
theorem bj.one:∀{x:V} {us:ab av},bj [x] us->∃u,us=[u]/\bK x u
 |_,_,.cons r .nil=>⟨_,rfl,r⟩
theorem bj.reverse {xs:ab V} {us:ab av} (h:bj xs us):bj xs.reverse us.reverse:=by
 induction h with
 |nil=>exact .nil
 |cons r t ih=>rw[yI,yI];exact bj.append ih (.cons r .nil)
theorem bj.rep {xs:ab V} {us:ab av} (h:bj xs us):∀k:ag,bj (bY k xs).flatten (bY k us).flatten
 |0=>.nil
 |k+1=>by rw[lL,lL,oo,oo];exact bj.append h (bj.rep h k)
theorem CZ (its:ab av):∀(k:ag) (acc:ab av),
  Fg (fun x1 x2=>x1++x2) acc.toArray (bY k its.toArray)=(acc++(bY k its).flatten).toArray
 |0,acc=>by simp
 |k+1,acc=>by
  have e:acc.toArray++its.toArray=(acc++its).toArray:=by simp
  have e2:(acc++its)++(bY k its).flatten=acc++(bY (k+1) its).flatten:=by rw[lL,oo,qA]
  rw[←e2,←CZ its k (acc++its),←e,lL,lM]
variable {l:au}
section
variable {s:aB} {b:au} {zs:ab V}
theorem Inv.lset {f:b9 av->b9 av} (I:Inv X pins σ H s) (hH:H l=aa (.lst xs))
  (e:s.heap.get? l=aa {cls:=.type "list",data:=.seq its.toArray n}) (hf:f its.toArray=its'.toArray) (hv:bj ys its') (hz:ys.length<=aK) :
  Inv X pins σ (upd H l (.lst ys)) {s with heap:=s.heap.update l (ve f),toks:=t'}:=by
 have q:=PySem.IsL.update e f;rw[hf] at q;refine I.write (x:=l) (e:=l) (by rw[hH];exact trivial) (.inl rfl) (fun b' u hb hu=>(Pz s.heap (ve f) (em hb)).trans hu) ⟨_,q⟩ ?_;exact⟨hz,its',_,hv,q⟩
theorem Inv.lnew (I:Inv X pins σ H s) (hv:bj ys its) (hz:ys.length<=aK) :
  Inv X pins σ (upd H s.heap.objs.size (.lst ys)) {s with heap:=s.heap.push {cls:=.type "list",data:=.seq its.toArray},toks:=t'} :=
 I.laid (fun _ _ q=>qw _ q) (qy _) ⟨hz,its,0,hv,qJ _ rfl⟩
theorem Inv.fresh (I:Inv X pins σ H s):H s.heap.objs.size=ac:=I.hok.fresh (qy _)
theorem Inv.lstM (I:Inv X pins σ H s) (hH:H l=aa (.lst xs)):xs.length<=aK/\∃(its:ab av) (n:ag),bj xs its/\xs.length=its.length/\s.heap.get? l=aa {cls:=.type "list",data:=.seq its.toArray n}:=by obtain⟨z,its,n,r,e⟩:=I.hok l _ hH;exact⟨z,its,n,r,r.length,e⟩
theorem Ay (h:n<=aK):yJ n=ao:=by unfold yJ;exact qQ (by omega)
end
noncomputable def uf:V->ab V->Hp->VK->Prop:=fun x vs H Q=>∃l xs y,x=.ref l/\vs=[y]/\H l=aa (.lst xs)/\xs.length<aK/\Q .non (upd H l (.lst (xs++[y])))
theorem pA:MtM X "list.append" uf:=by intro pins s σ H x vs v us Q I rx rv h;obtain⟨l,xs,y,rfl,rfl,hH,hz,q⟩:=h;cases rx;obtain⟨u,rfl,ru⟩:=rv.one;obtain⟨z,its,n,r,hl,e⟩:=I.lstM hH;refine oq vf ⟨_,e,rfl⟩ F.entry_list_append (F.args_list_append_2 _ _) (PySem.list_append l its.toArray n u (by rw[qF];omega)) ⟨e,?_⟩;refine⟨.non,_,I.lset (its':=its++[u]) hH e (by simp) (r.append (.cons ru .nil)) ?_,rfl,q⟩;rw[qk,qX];omega
noncomputable def OI:V->ab V->Hp->VK->Prop:=fun x vs H Q=>∃l b xs zs,x=.ref l/\vs=[.ref b]/\H l=aa (.lst xs)/\H b=aa (.lst zs)/\xs.length+zs.length<=aK/\Q .non (upd H l (.lst (xs++zs)))
theorem GY:MtM X "list.extend" OI:=by
 intro pins s σ H x vs v us Q I rx rv h;obtain⟨l,b,xs,zs,rfl,rfl,hH,hB,hz,q⟩:=h;cases rx;obtain⟨u,rfl,ru⟩:=rv.one;cases ru;obtain⟨z,its,n,r,hl,e⟩:=I.lstM hH;obtain⟨z2,its2,n2,r2,hl2,e2⟩:=I.lstM hB;have hsz:its.toArray.size+its2.toArray.size<=aK:=by rw[qF,qF];omega
 have hlong:¬(!its.toArray.isEmpty && yJ (its.toArray.size+its2.toArray.size))=ai:=by rw[Ay hsz,PK];exact qv
 refine oq PL ⟨_,e,rfl⟩ F.entry_list_extend (F.args_list_extend_2 _ _)
  (AutoSeq1.list_extend_list_list_0 l its.toArray n b its2.toArray n2 hlong (by rw[qF];omega) (by omega)) ⟨e,e2,?_⟩
 refine⟨.non,_,I.lset (its':=its++its2) hH e (by simp) (r.append r2) ?_,rfl,q⟩;rw[qk];omega
noncomputable def wB:R2:=fun x y H Q=>∃l b xs zs,x=.ref l/\y=.ref b/\H l=aa (.lst xs)/\H b=aa (.lst zs)/\xs.length+zs.length<=aK/\∀p,H p=ac->Q (.ref p) (upd H p (.lst (xs++zs)))
theorem Ge:OpR X (gB .Add) wB:=by
 intro pins s σ H x y v u Q I rx ry h;obtain⟨l,b,xs,zs,rfl,rfl,hH,hB,hz,q⟩:=h;cases rx;cases ry;obtain⟨z,its,n,r,hl,e⟩:=I.lstM hH;obtain⟨z2,its2,n2,r2,hl2,e2⟩:=I.lstM hB;refine PySem.P.add_list e e2 ?_ (by rw[qF,qF];omega);have ea:its.toArray++its2.toArray=(its++its2).toArray:=by simp
 rw[ea];exact⟨.ref _,_,I.lnew (t':=s.toks) (r.append r2) (by rw[qk];omega),rfl,q _ I.fresh⟩
noncomputable def zO:R2:=fun x y H Q=>∃l k xs,x=.ref l/\y=.int k/\H l=aa (.lst xs) /\ -(2 ^ 63)<=k/\k<2 ^ 63/\xs.length*k.toNat<=aK /\
 ∀p,H p=ac->Q (.ref p) (upd H p (.lst (bY k.toNat xs).flatten))
theorem BP (xs:ab α) (k:ag):(bY k xs).flatten.length=k*xs.length:=by
 induction k with
 |zero=>simp
 |succ k ih=>rw[lL,oo,qk,ih,yK,Nat.add_comm]
theorem Io:OpR X (gB .Mult) zO:=by
 intro pins s σ H x y v u Q I rx ry h;obtain⟨l,k,xs,rfl,rfl,hH,h1,h2,hz,q⟩:=h;cases rx;obtain⟨t,rfl⟩:=ry;obtain⟨z,its,n,r,hl,e⟩:=I.lstM hH;have hlen:its.toArray.size*k.toNat<=aK:=by rw[qF,←hl];exact hz
 have hcap:¬its.toArray.size*k.toNat > (2 ^ 63-1) / 8:=by
  have:(aK:ag)<=(2 ^ 63-1) / 8:=by decide
  omega
 have hfit:¬(!R0 k)=ai:=by rw[fitsIndex_both h1 h2];exact qv
 have hlong:¬yJ (its.toArray.size*k.toNat)=ai:=by rw[Ay hlen];exact qv
 have hnew:Fg (fun x1 x2=>x1++x2) #[] (bY (if its.toArray.isEmpty=ai then 0 else k.toNat) its.toArray)=(bY k.toNat its).flatten.toArray:=by
  have f0:∀m:ag,Fg (fun x1 x2=>x1++x2) #[] (bY m its.toArray)=(bY m its).flatten.toArray:=fun m=>by have:=CZ its m [];rw[qU] at this;exact this
  rw[f0];cases its with
  |nil=>simp
  |cons a r'=>rw[qZ (by simp)]
 refine wpAny_binaryOp_repeat_ref (T:="list") (U:="int") (by decide) ⟨_,e,rfl⟩ (fun s'=>Fe s' k t) noFill_list_mul F.fills_int_mul PM repeat_list F.slot_int_index.lookup
  (oq PM (Fe s k t) F.entry_int_rmul (F.args_int_rmul_2 _ _) (int___rmul___int_list k t l its.toArray n)
   ⟨e,rfl,⟨_,e,rfl⟩,oq F.slot_list_mul ⟨_,e,rfl⟩ F.entry_list_mul (F.args_list_mul_2 _ _) (AutoListH.list___mul___list_int_3 l its.toArray n k t hfit hcap hlong) ⟨e,?_⟩⟩)
 rw[hnew];exact⟨.ref _,_,I.lnew (t':=s.toks) (r.rep k.toNat) (by rw[BP,PN];exact hz),rfl,q _ I.fresh⟩
section
variable [fj κ]
noncomputable def jX (kvs:ab (κ×V)) (k:κ):aq V:=(kvs.find? fun kv=>decide (kv.1=k)).map (·.2)
noncomputable def eJ (kvs:ab (κ×V)) (k:κ) (v:V):ab (κ×V):=
 if (kvs.any fun kv=>decide (kv.1=k))=ai then kvs.map (fun kv=>if kv.1=k then (kv.1,v) else kv) else kvs++[(k,v)]
theorem xV {p:κ×V} {r:ab (κ×V)} {k:κ} (e:p.1=k):jX (p::r) k=aa p.2:=by simp[jX,rR,e]
theorem wu {p:κ×V} {r:ab (κ×V)} {k:κ} (e:¬p.1=k):jX (p::r) k=jX r k:=by simp[jX,rR,e]
theorem BL (k:κ):∀kvs:ab (κ×V),(kvs.any fun kv=>decide (kv.1=k))=(jX kvs k).isSome
 |[]=>rfl
 |p::r=>by
  rw[rS];by_cases e:p.1=k
  .simp only[xV e,qV e,Bool.true_or,Option.isSome_some]
  .rw[wu e,qQ e,Bool.false_or];exact BL k r
theorem D5 (kvs:ab (κ×V)) (k:κ) (v:V):(eJ kvs k v).length<=kvs.length+1:=by
 unfold eJ;split
 .rw[qe];omega
 .rw[qk,qh,qm];omega
theorem gL.isSome_eq {o:aq V} {u:aq av} (r:gL o u):o.isSome=u.isSome:=by
 cases o with
 |none=>cases u with
  |none=>rfl
  |some _=>exact(show False from r).elim
 |some _=>cases u with
  |none=>exact(show False from r).elim
  |some _=>rfl
theorem KV.any {kvs:ab (κ×V)} {vs:ab (κ×av)} (r:KV kvs vs) (k:κ):(kvs.any fun kv=>decide (kv.1=k))=vs.any fun kv=>decide (kv.1=k):=by
 unfold KV at r
 induction r with
 |nil=>rfl
 |cons h t ih=>rw[rS,rS,ih,h.1]
theorem KV.repl {kvs:ab (κ×V)} {vs:ab (κ×av)} (r:KV kvs vs) (k:κ) {y:V} (ry:bK y u) :
  KV (kvs.map fun kv=>if kv.1=k then (kv.1,y) else kv) (vs.map fun kv=>if kv.1=k then (kv.1,u) else kv):=by
 unfold KV at r ⊢
 induction r with
 |nil=>exact .nil
 | @cons p q ps qs h t ih=>
  rw[qp,qp];refine .cons ?_ ih;obtain⟨h1,h2⟩:=h;by_cases e:p.1=k
  .rw[qY e,qY (h1.symm.trans e)];exact⟨h1,ry⟩
  .rw[qZ e,qZ (fun z=>e (h1.trans z))];exact⟨h1,h2⟩
theorem KV.put {kvs:ab (κ×V)} {vs:ab (κ×av)} (r:KV kvs vs) (k:κ) {y:V} (ry:bK y u):KV (eJ kvs k y) (stored vs k u):=by
 unfold eJ stored;rw[r.any k];by_cases e:(vs.any fun kv=>decide (kv.1=k))=ai
 .rw[qY e,qY e];exact r.repl k ry
 .rw[qZ e,qZ e];exact Paired.snoc r ⟨rfl,ry⟩
theorem KV.length {kvs:ab (κ×V)} {vs:ab (κ×av)} (r:KV kvs vs):kvs.length=vs.length:=Paired.length r
end
theorem uC {k:Key} (r:bK (kV k) u):(dQ P w).is k u=ai:=by
 cases k with
 |inl i=>obtain⟨t,e⟩:=(show ∃t,u=uT i t from r);subst e;exact JF P w i t
 |inr x=>obtain⟨t,e⟩:=(show ∃t,u=uU x t from r);subst e;exact Gn P w x t
theorem AO {P:dD} {w:cS}:∀{ks:ab Key} {us:ab av},bj (ks.map kV) us->ItemsAre (dQ P w) ks us
 |[],_,r=>by rw[qR] at r;cases r;exact .nil
 |k::ks,_,r=>by
  rw[qp] at r;cases r with
  |cons h t=>exact .cons (uC h) (AO t)
abbrev KT (H:Hp):ab (ab Key×V)->ab (ab Key×au×av)->Prop:=Paired fun p q=>p.1=q.1/\H q.2.1=aa (.tup (p.1.map kV))/\bK p.2 q.2.2
variable {kvs:ab (ab Key×V)}
theorem KT.val {xs:ab (ab Key×au×av)} (r:KT H kvs xs) (k:ab Key):gL (jX kvs k) ((mN xs k).map (·.2)):=by
 induction r with
 |nil=>exact kD
 | @cons p q ps qs h t ih=>
  obtain⟨h1,_,h2⟩:=h;by_cases e:p.1=k
  .have e':q.1=k:=h1.symm.trans e;have b:mN (q::qs) k=aa q.2:=by simp[mN,rR,e']
   rw[xV e,b];exact h2
  .have e':¬q.1=k:=fun z=>e (h1.trans z);have b:mN (q::qs) k=mN qs k:=by simp[mN,rR,e']
   rw[wu e,b];exact ih
theorem KT.repl {xs:ab (ab Key×au×av)} (r:KT H kvs xs) (k:ab Key) {y:V} (ry:bK y u) :
  KT H (kvs.map fun kv=>if kv.1=k then (kv.1,y) else kv) (xs.map (putAt k u)):=by
 induction r with
 |nil=>exact .nil
 | @cons p q ps qs h t ih=>
  rw[qp,qp];refine .cons ?_ ih;obtain⟨h1,h2,h3⟩:=h;unfold putAt;by_cases e:p.1=k
  .rw[qY e,qY (h1.symm.trans e)];exact⟨h1,h2,ry⟩
  .rw[qZ e,qZ (fun z=>e (h1.trans z))];exact⟨h1,h2,h3⟩
theorem KT.put {xs:ab (ab Key×au×av)} (r:KT H kvs xs) (k:ab Key) {b:au} {y:V} (hb:H b=aa (.tup (k.map kV))) (ry:bK y u) :
  KT H (eJ kvs k y) (storedH xs k b u):=by
 have e:(kvs.any fun kv=>decide (kv.1=k))=(mN xs k).isSome:=by rw[BL,(r.val k).isSome_eq,Option.isSome_map]
 unfold eJ storedH;rw[e];by_cases q:(mN xs k).isSome=ai
 .rw[qY q,qY q];exact r.repl k ry
 .rw[qZ q,qZ q];exact Paired.snoc r ⟨rfl,hb,ry⟩
theorem KT.keeps {xs:ab (ab Key×au×av)} (r:KT H kvs xs) (ht:∀b ys,H b=aa (.tup ys)->H' b=aa (.tup ys)):KT H' kvs xs:=
 Paired.mapP r fun _ _ z=>⟨z.1,ht _ _ z.2.1,z.2.2⟩
section
variable {a:au}
theorem CL {u:HO} (ok:HOk P w H h) (e:Rd H a u):dA P w H h a u:=e.ok ok
theorem NZ {kvs:ab (Key×V)} (ok:HOk P w H h) (e:Rd H a (.dK kvs)):kvs.length<=aK/\(a==lD)=ao/\∃vs,KV kvs vs/\h.DictOf (dQ P w) a vs:=
 show dA P w H h a (.dK kvs) from CL ok e
theorem JC {kvs:ab (Key×V)} (ok:HOk P w H h) (e:H a=aa (.dK kvs)):kvs.length<=aK/\(a==lD)=ao/\∃vs,KV kvs vs/\h.DictOf (dQ P w) a vs:=NZ ok (.inl e)
theorem sv {ks:ab Key} (ok:HOk P w H h) (e:H a=aa (.tup (ks.map kV))):(mG (dQ P w)).is h ks a:=by obtain⟨_,its,r,o,h1,h2,n,h3⟩:=(show dA P w H h a (.tup (ks.map kV)) from ok a _ e);exact⟨o,its.toArray,n,h1,h2,h3,by simpa using AO r⟩
theorem NE (ok:HOk P w H h) (e:Rd H a (.dT kvs)):kvs.length<=aK/\(a==lD)=ao /\
  ∃xs,KT H kvs xs/\h.DictOfH (mG (dQ P w)) a xs:=by
 obtain⟨z,y,xs,r,o,es,ep,h1,h2,h3,h4,h5⟩:=(show dA P w H h a (.dT kvs) from CL ok e);refine⟨z,y,xs,r,o,es,ep,h1,h2,h3,h4,fun x hx=>?_,h5⟩;have all:∀{l:ab (ab Key×V)} {m:ab (ab Key×au×av)},KT H l m->∀x∈m,(mG (dQ P w)).is h x.1 x.2.1:=by
  intro l m q
  induction q with
  |nil=>intro x hx;exact nomatch hx
  | @cons p q ps qs hq t ih=>
   intro x hx;rcases eC.mp hx with e|hx
   .subst e;exact sv ok (by rw[←hq.1];exact hq.2.1)
   .exact ih x hx
 exact all r x hx
theorem Jp (ok:HOk P w H h) (e:H a=aa (.dT kvs)):kvs.length<=aK/\(a==lD)=ao /\
  ∃xs,KT H kvs xs/\h.DictOfH (mG (dQ P w)) a xs:=NE ok (.inl e)
end
noncomputable def pL (H:Hp) (a:au) (y v:V) (H':Hp):Prop:=
 (∃kvs k,H a=aa (.dK kvs)/\y=kV k/\kvs.length<aK/\H'=upd H a (.dK (eJ kvs k v))) \/
 ∃kvs k b,H a=aa (.dT kvs)/\y=.ref b/\H b=aa (.tup (k.map kV))/\kvs.length<aK/\H'=upd H a (.dT (eJ kvs k v))
theorem pL.k {a:au} {kvs:ab (Key×V)} {k:Key} (e:H a=aa (.dK kvs)) (hl:kvs.length<aK):pL H a (kV k) v (upd H a (.dK (eJ kvs k v))):=.inl ⟨kvs,k,e,rfl,hl,rfl⟩
section
variable {s:aB} {a:au} {y:V} {r:av} {o:aq V}
theorem Inv.big (I:Inv X pins σ H s):lD<s.heap.objs.size:=by have h:eW<s.heap.objs.size:=(I.mod.glob.keeps I.bk).lt;exact mO (by decide) h
theorem Dx {ob:HO} (I:Inv X pins σ H s) (mu:Mut (H a)) (hs:iP a s.heap h') (he:∃q,h'.get? a=aa q) (new:dA X.prog X.w (upd H a ob) h' a ob) :
  Inv X pins σ (upd H a ob) {s with heap:=h',toks:=t'} :=
 I.write (x:=a) (e:=a) mu (.inl rfl) (fun b q hb z=>(hs.2 b hb).trans z) he new
theorem N4 {kvs:ab (Key×V)} {vs:ab (Key×av)} (z:kvs.length<=aK) (hd:(a==lD)=ao) (rel:KV kvs vs) (dd:h'.DictOf (dQ P w) a vs) :
  dA P w H' h' a (.dK kvs):=⟨z,hd,vs,rel,dd⟩
theorem Ho {Q:mI->aB->Prop} (hu:A.units+1<dO) (I:Inv X pins σ H s) (g:pL H a y v H') (ry:bK y u) (rv:bK v r) (h:∀s',Inv X pins σ H' s'->Q () s') :
  aE (aO X.prog X.w) A (setItem (.ref a) u r) Q E s:=by
 rcases g with⟨kvs,k,e,ey,l,eH⟩|⟨kvs,k,b,e,ey,eb,l,eH⟩
 .subst ey eH;obtain⟨z,hd,vs,rel,dd⟩:=JC I.hok e;have hz:vs.length<=aK:=by rw[←rel.length];exact z
  have hl:(eJ kvs k v).length<=aK:=by have:=D5 kvs k v;omega
  refine wpAny_setItem_pairs (hsz:=hz) (uC ry) dd fun h' dd' hs=>h _ ?_;have he:∃q,h'.get? a=aa q:=let ⟨q,_,_,hq,_⟩:=dd';⟨q,hq⟩
  exact Dx I (by rw[e];exact kD) hs he (N4 hl hd (rel.put k rv) dd')
 .subst ey eH;cases(show u=cG b from ry);obtain⟨z,hd,xs,rel,dd⟩:=Jp I.hok e;have hz:xs.length<=aK:=by rw[←Paired.length rel];exact z
  have hl:(eJ kvs k v).length<=aK:=by have:=D5 kvs k v;omega
  refine wpAny_setItem_heap (hsz:=hz) (tupleKind_room_in1 hu) (sv I.hok eb) dd fun h' dd' hs=>h _ ?_;obtain⟨q,es,ep,hq,h2,h3,h4,_,h5⟩:=dd';refine Dx I (by rw[e];exact kD) hs ⟨q,hq⟩ ⟨hl,hd,_,(rel.put k eb rv).keeps fun c ys ec=>?_,q,es,ep,hq,h2,h3,h4,h5⟩;rw[aX (wC ec e (fun z=>nomatch z))];exact ec
end
noncomputable def Mq (td ty tv:TE):TS:=fun D σ H=>tv σ H fun v H1=>td σ H1 fun x H2=>ty σ H2 fun y H3=>∃a H4,x=.ref a/\pL H3 a y v H4/\D.nx σ H4
section
variable {i:Expr} {td ty:TE}
theorem KO (hu:X.A.units+1<dO) (ho:PE X o td) (hi:PE X i ty) (hv:PE X value tv) (hs:eE value (aa (.Subscript o i pos')) pos.line X.env=pure ao) :
  PS X (.Assign [.Subscript o i pos'] value pos) (Mq td ty tv):=by
 intro pins s σ H D I h;refine wpAny_Assign_Subscript (thn (hv pins s σ H _ I h) fun r s1 ⟨v,H1,I1,rv,q1⟩=>thn (ho pins s1 σ H1 _ I1 q1) fun u s2 ⟨x,H2,I2,rx,q2⟩=>thn (hi pins s2 σ H2 _ I2 q2) fun iv s3 ⟨y,H3,I3,ry,a,H4,ex,g,q3⟩=>?_) hs;subst ex;obtain rfl:u=cG a:=rx;exact Ho hu I3 g ry rv fun s4 I4=>⟨σ,H4,I4,q3⟩
end
theorem K1 (h:Heap) (hb:lD<h.objs.size):dA P w H (h.push {cls:=.type "dict",data:=.dict #[]}) h.objs.size (.dK []):=
 ⟨fu _,n8.mpr (em (qG hb)),[],.nil,PP h⟩
noncomputable def Ig:TE:=fun _ H Q=>∀p,H p=ac->Q (.ref p) (upd H p (.dK []))
theorem Ir:PE X (.Dict [] [] pos) Ig:=fun pins s σ H Q I h=>
 wpAny_Dict_empty ⟨.ref s.heap.objs.size,_,I.laid (a:=s.heap.objs.size) (o:=.dK []) (t':=s.toks) (fun _ _ q=>qw _ q) (qy _) (K1 s.heap I.big),rfl,h _ (I.hok.fresh (qy _))⟩
variable {loose:ab ah} {XP:(ah->aq av)->Heap->Prop} {YP:cS->Heap->Prop}
namespace Att
open PySem PySem.W PySem.Calls PyProof.Rows
theorem Lk {P:yL} :∀(ns:ab aj) (vs:ab av),WellAll P h vs (ns.map PQ)->rT vs ns:=by
 intro ns
 induction ns with
 |nil=>
  intro vs w;rw[qR] at w;cases w;exact .nil
 |cons n ns ih=>
  intro vs w;rw[qp] at w;cases w with
  |cons a b=>
   cases a;exact .cons _ _ (ih _ b)
theorem AX {l:OpenLaw} (hn:l.most=aa n) {P:yL} {args:ab WData} {vals:ab av} 
  (hpre:l.row.toRowW.claim.pre args=ai) (hwl:WellAll P h vals args) :
  ∃a vs ns,vals=[cG a]/\args=[WData.list (ns.map PQ)]/\h.get? a=aa {cls:=.type "list",data:=.seq vs.toArray}/\rT vs ns/\ns.length<=n:=by
 have hsh:WShape.hasAll [] args [.list .int]=ai:=(pre_splitW hpre).1;have hc:l.pre.holds [] {args:=args}=ai:=(pre_splitW hpre).2;obtain⟨d,r,rfl,h1,h2⟩:=hasAllW_cons hsh;obtain rfl:=hasAllW_nil h2;obtain⟨xs,rfl,h3⟩:=hasW_list h1;obtain⟨ns,rfl⟩:=items_int h3;have hlen:ns.length<=n:=by
  unfold OpenLaw.pre at hc;have h4:(WTm.not (.lt (.lit (.int (n:aj))) (.len (.arg 0)))).holds [] {args:=[.list (ns.map .int)]}=ai:=by have h4:=(holds_andW hc).1;rw[hn] at h4;exact h4
  have h5:=condW_of h4 (w_not (w_lt w_lit (w_len_list (w_arg rfl))));rw[qe] at h5;refine Nat.le_of_not_lt fun q=>?_;have q':(n:aj)<((ns.length:ag):aj):=by omega
  first
   |(rw[qV q'] at h5;exact bx h5 (by decide))
   |(simp at h5;omega)
 cases hwl with
 |cons w1 w2=>
  cases w2;cases w1 with
  |list ho hall=>exact⟨_,_,ns,rfl,rfl,ho,Lk ns _ hall,hlen⟩
theorem zT (l:OpenLaw) (args:ab WData):l.row.toRowW.claim.post args (.bool ai) args=ai:=
 postW_of (r:=l.row.toRowW) (X:=(ai==ai))
  (show PR [] (.bool ai) .bool=ai by first|rfl|decide|simp[PR,WShape.arms,WShape.armsAll])
  (show(WTm.eq .res (.lit (.bool ai))).value [] {args:=args,res:=aa (.bool ai),after:=args}=aa (.bool (ai==ai)) from w_eq_bool (w_res rfl) w_lit) rfl
theorem Rk {l:OpenLaw} {q:dD} {d:yM} 
  (hn:l.most=aa n) (hdf:d.params.defaults=[])
  (hbind:∀pm cd doc v:av,fZ (docDef d.name d.params d.body d.scope pm cd doc) ⟨[v],[]⟩=pure [(x,v)])
  (hx:d.scope.names.lookup x=aa .local\/d.scope.names.lookup x=aa .cell)
  (hk:d.scope.kind=.function) (hco:d.scope.isCoroutine=ao) (hgen:d.scope.isGenerator=ao)
  (body:∀(w:cS) (s₀ s₁ s:aB) (mg mb:ah->aq av) (fa:au) (o:bf) (pm cd doc:av) (a:au) (vs:ab av) (ns:ab aj),
   Ground q loose [] XP w s₀ mg mb s₁.heap->YP w s₁.heap->
   s₁.heap.get? fa=aa o->o.data=.func (docDef d.name d.params d.body d.scope pm cd doc)->s₁.heap.CodeRec cd d.name->mg d.name=aa (.ref fa)->
   s₁.heap.get? a=aa {cls:=.type "list",data:=.seq vs.toArray}->rT vs ns->ns.length<=n->
   s.gens=#[]->s.os=s₁.os->
   Fr s₁.heap s₁.heap.objs.size s.heap (lJ (dP d.name d.scope s₁.heap.objs.size fa cd).kindOf [(x,.ref a)] fun _=>ac)->
   Cl s₁.heap.objs.size (yC (s₁.heap.objs.size+1) d.scope.names []) s.heap (lK (dP d.name d.scope s₁.heap.objs.size fa cd).kindOf [(x,.ref a)] fun _=>ac)->
   aE (aO l.prog w) (mP.deeper (dP d.name d.scope s₁.heap.objs.size fa cd)) (execs d.body (dP d.name d.scope s₁.heap.objs.size fa cd))
    (fun f s'=>f=.ret (.bool ai)/\OldK s₁.heap s'.heap/\s'.os=s₁.os/\kz s'.gens) (fun _ _=>False) s) :
  WalkO q loose XP YP l.row.toRowW d [] (fun f vs=>yN f vs):=by
 intro w s₀ s₁ mg mb G Y fa o pm cd doc dV kV ho hd hcd hD hmg hg args vals as hpre hlay hrd hwl hlo;obtain rfl:dV=.none:=PU hD hdf;obtain rfl:kV=.none:=PV hD;obtain⟨a,vs,ns,rfl,rfl,hobj,hints,hlen⟩:=AX hn hpre hwl;refine enter_call ?_;refine call_cells_ret (o:=o) (by rw[depth_caller];decide) ho (Fh hd) G.T.nolimit hcd (hbind pm cd doc (.ref a)) (fun y hy=>?_) (fun h₁ tk F X=>?_) hco hgen hk
 .obtain rfl:y=(x,cG a):=ce.mp hy;rcases hx with e|e
  .exact .inl e
  .exact .inr ⟨e,cellsFrom_some _ _ _ (.inl e)⟩
 .refine im (body w s₀ s₁ {s₁ with heap:=h₁,toks:=tk} mg mb fa o pm cd doc a vs ns G Y ho (Fh hd) hcd hmg hobj hints hlen hg rfl F X) (fun f s' hq=>?_) (fun _ _ hq=>hq);obtain⟨rfl,h2,h3,h4⟩:=hq;exact⟨.inl ⟨.bool ai,.bool ai,[],rfl,fun _=>rfl,.bool ai,zT l _,fun _=>⟨PX,fun _ hm=>(nomatch hm)⟩⟩,h2,h3,h4⟩
theorem attach_call {l:OpenLaw} {q:dD} {d:yM} 
  (hn:l.most=aa n) (hdf:d.params.defaults=[])
  (call:∀(w:cS) (s₀ s₁:aB) (mg mb:ah->aq av) (fa:au) (o:bf) (pm cd doc:av) (a:au) (vs:ab av) (ns:ab aj),
   Ground q loose [] XP w s₀ mg mb s₁.heap->YP w s₁.heap->
   s₁.heap.get? fa=aa o->o.data=.func (docDef d.name d.params d.body d.scope pm cd doc)->s₁.heap.CodeRec cd d.name->mg d.name=aa (.ref fa)->
   s₁.heap.get? a=aa {cls:=.type "list",data:=.seq vs.toArray}->rT vs ns->ns.length<=n->s₁.gens=#[]->
   iS (aO l.prog w) mP (.call (.ref fa) ⟨[.ref a],[]⟩) (fun r s'=>r=.ok (.ret (.bool ai))/\OldK s₁.heap s'.heap/\s'.os=s₁.os/\kz s'.gens) s₁) :
  WalkO q loose XP YP l.row.toRowW d [] (fun f vs=>yN f vs):=by
 intro w s₀ s₁ mg mb G Y fa o pm cd doc dV kV ho hd hcd hD hmg hg args vals as hpre hlay hrd hwl hlo;obtain rfl:dV=.none:=PU hD hdf;obtain rfl:kV=.none:=PV hD;obtain⟨a,vs,ns,rfl,rfl,hobj,hints,hlen⟩:=AX hn hpre hwl;refine enter_call (rL (call w s₀ s₁ mg mb fa o pm cd doc a vs ns G Y ho (Fh hd) hcd hmg hobj hints hlen hg) fun r s' hq=>?_);obtain⟨rfl,h2,h3,h4⟩:=hq;exact⟨.inl ⟨.bool ai,.bool ai,[],rfl,fun _=>rfl,.bool ai,zT l _,fun _=>⟨PX,fun _ hm=>(nomatch hm)⟩⟩,h2,h3,h4⟩
section
variable {s:aB} {K:aR}
noncomputable def Rh (h:Heap) (L d:au):ab (au×bf):=(di h.objs.size).filterMap fun a=>if a=L\/a=d then ac else (h.get? a).map fun o=>(a,o)
end
end Att
theorem AW:∀{vs:ab av} {ns:ab aj},rT vs ns->bj (ns.map V.int) vs
 |_,_,.nil=>.nil
 |_,_,.cons n t h=>.cons ⟨t,rfl⟩ (AW h)
noncomputable def v6 (H:Hp):Prop:=∀b,H b=ac\/∃o xs,H b=aa (.frz o (.lst xs))
theorem Hx {mb:ah->aq av} {k:ag} {fa a:au} {s₁:aB} {vs:ab av} {ns:ab aj} 
  (KX:K.In s₁.heap) (hns:s₁.heap.Ns eW mg) (hb:s₁.heap.Ns EI mb) (hbb:∀x:ah,x≠"__name__"->mb x=ky x) (hlim:s₁.heap.NoLimit) (hg:s₁.gens=#[])
  (ha:s₁.heap.get? a=aa {cls:=.type "list",data:=.seq vs.toArray}) (hi:rT vs ns) (hl:ns.length<=aK) (hr:Room k mP)
  (F:∀base:Heap,K.In base->base.Ns eW mg->FnOk P w K mg base CX k fa fd [x] sp) (hbind:∀(s:aB) (u:av),rK s fd ⟨[u],[]⟩ [(x,u)])
  (hsp:∀H:Hp,v6 H->SqL K H a (ns.map V.int)->sp [.ref a] H (fun v _=>v=.bl ai) fun _ _ _=>False)
  (hCX:∀H e s',CX [] H s₁ (fun _ _ _=>False) e s'->False) :
  iS (aO P w) mP (.call (.ref fa) ⟨[.ref a],[]⟩) (fun r s'=>r=.ok (.ret (.bool ai))/\OldK s₁.heap s'.heap/\s'.os=s₁.os/\kz s'.gens) s₁:=by
 have rv:=AW hi;have lenV:=hi.length;have core:∀H:Hp,v6 H->SqL K H a (ns.map V.int)->HOk P w H s₁.heap->(∀b,H b≠ac->b=a)->(H a≠ac->K.lookup a=ac)->
   iS (aO P w) mP (.call (.ref fa) ⟨[.ref a],[]⟩) (fun r s'=>r=.ok (.ret (.bool ai))/\OldK s₁.heap s'.heap/\s'.os=s₁.os/\kz s'.gens) s₁:=by
  intro H hO hS hok hA hK;have base_of:∀{b:au} {o:bf},s₁.heap.get? b=aa o->H b=ac->(j0 s₁.heap H).get? b=aa o:=fun e n=>MZ e n;have noA:∀{b:au} {o:bf} {es:b9 DictEntry} {ep:ag},s₁.heap.get? b=aa o->o.data=.dict es ep->H b=ac:=fun {b o es ep} e d=>by
   cases q:H b with
   |none=>rfl
   |some u=>
    have e':b=a:=hA b (by rw[q];simp);subst e';rw[ha] at e;cases e;have d':Data.seq vs.toArray _=Data.dict es ep:=d;cases d'
  have nsK:∀{b:au} {m:ah->aq av},s₁.heap.Ns b m->(j0 s₁.heap H).Ns b m:=fun {b m} ⟨o,es,ep,e,d,r⟩=>⟨o,es,ep,base_of e (noA e d),d,r⟩;have hKb:K.In (j0 s₁.heap H):=fun b o e=>base_of (KX b o e) (by
   cases q:H b with
   |none=>rfl
   |some u=>
    have e':b=a:=hA b (by rw[q];simp);subst e';rw[hK (by rw[q];simp)] at e;cases e)
  have hM:Mod K mg (j0 s₁.heap H):=⟨hKb,nsK hns,⟨mb,nsK hb,hbb⟩,let ⟨mc,h1,h2⟩:=hlim;⟨mc,nsK h1,h2⟩⟩;have e0:Env0 P w K mg (j0 s₁.heap H) mP [] s₁ H:=⟨rfl,hM,fun b o e=>Lr e,yz (GF _ _),trivial,fun b hb=>bx (show b∈([]:ab au) from hb) (by simp),hok,.of_eq hg⟩;refine rL ((F _ hKb (nsK hns)).run mP [] s₁ H ⟨[.ref a],[]⟩ [.ref a] [.ref a] _ _ hr e0 (hbind s₁ (.ref a)) (.cons rfl .nil) (hsp H hO hS)) fun r s' h=>?_;cases r with
  |error e=>exact(hCX H e s' h).elim
  |ok fl=>
   cases fl with
   |next=>exact io h
   |brk=>exact io h
   |cont=>exact io h
   |ret u=>
    obtain⟨v,H',os,bare,un,hok',r',q⟩:=h;have q':v=.bl ai:=q;subst q';obtain rfl:u=lA ai:=r';refine⟨rfl,OldK.of_keep fun b o e=>?_,os,bare⟩;cases q:H b with
    |none=>exact un.keep b o e q (by intro z;exact bx (show b∈([]:ab au) from z) (by simp)) (by simp)
    |some u=>
     rcases hO b with z|⟨ob,xs,z⟩
     .rw[q] at z;cases z
     .have z2:=un.frzs b ob _ z;obtain⟨e1,_⟩:=hok b _ z;obtain⟨e2,_⟩:=hok' b _ z2;rw[e] at e1;cases e1;exact e2
 cases hk:K.lookup a with
 |some o=>
  have e:=KX a o hk;rw[ha] at e;cases e;refine core (fun _=>ac) (fun _=>.inl rfl) (.inr ⟨_,vs.toArray,_,hk,rfl,rfl,rfl,by rw[qF,lenV];exact hl,by simpa using rv⟩) (fun b u z=>by have z':(ac:aq HO)=aa u:=z;cases z') (fun b z=>bx rfl z) fun z=>bx rfl z
 |none=>
  refine core (fun b=>if b=a then aa (.frz {cls:=.type "list",data:=.seq vs.toArray} (.lst (ns.map V.int))) else ac) (fun b=>?_) (.inl (.inr ⟨{cls:=.type "list",data:=.seq vs.toArray},qY rfl⟩)) (fun b u z=>?_) (fun b z=>?_) fun _=>hk
  .by_cases hb:b=a
   .exact .inr ⟨_,_,qY hb⟩
   .exact .inl (qZ hb)
  .by_cases hb:b=a
   .have z':=(qY hb).symm.trans z;cases z';subst hb;exact⟨ha,by rw[qe];exact hl,vs,_,rv,ha⟩
   .have z':=(qZ hb).symm.trans z;cases z'
  .by_cases hb:b=a
   .exact hb
   .exact bx (qZ hb) z
abbrev KOf (_:K.In h):aR:=K
theorem walk_of {l:Fi} {k:ag} {q:dD} {d:yM} {K:yL->aR} {CX:cS->CXT} {sp:cS->Sp} 
  (hn:l.most=aa n) (hn2:n<=aK) (hdf:d.params.defaults=[]) (hr:Room k mP)
  (hY:∀(w:cS) (h:Heap),YP w h->(K w.params).In h)
  (F:∀(w:cS) (mg:ah->aq av) (fa:au) (h:Heap),(K w.params).In h->h.Ns eW mg->mg d.name=aa (.ref fa)->
   ∃fd:mJ,(∀(s:aB) (u:av),rK s fd ⟨[u],[]⟩ [(x,u)]) /\
    ∀base:Heap,(K w.params).In base->base.Ns eW mg->FnOk l.prog w (K w.params) mg base (CX w) k fa fd [x] (sp w))
  (hsp:∀(w:cS) (H:Hp) (a:au) (ns:ab aj),ns.length<=n->v6 H->SqL (K w.params) H a (ns.map V.int)->sp w [.ref a] H (fun v _=>v=.bl ai) fun _ _ _=>False)
  (hCX:∀(w:cS) (H:Hp) (s:aB) (e:av) (s':aB),CX w [] H s (fun _ _ _=>False) e s'->False) :
  PY q loose XP YP l.row.toRowW d [] (fun f vs=>yN f vs):=by
 refine Att.attach_call hn hdf fun w s₀ s₁ mg mb fa o pm cd doc a vs ns G Y ho hd hcd hmg hobj hints hlen hg=>?_;have KX:=hY w _ Y;obtain⟨fd,hb,hF⟩:=F w mg fa _ KX G.T.g hmg;exact Hx KX G.T.g G.T.b G.T.builtins G.T.nolimit hg hobj hints (qP hlen hn2) hr hF hb (fun H hO hS=>hsp w H a ns hlen hO hS) fun H e s'=>hCX w H s₁ e s'
noncomputable def cX (s:Stmt) (j:ag):Stmt:=match s with
 |.ClassDef _ _ _ body _ _ _ _ _ _ _=>body.getD j (.Pass ⟨0,0,0,0⟩)
 |_=>.Pass ⟨0,0,0,0⟩
noncomputable def eT (s:Stmt):Arguments:=match s with
 |.FunctionDef _ a _ _ _ _ _ _ _ _=>a
 |_=>{posonlyargs:=[],args:=[],vararg:=ac,kwonlyargs:=[],kw_defaults:=[],kwarg:=ac,defaults:=[]}
noncomputable def cO (s:Stmt):ab Stmt:=match s with
 |.FunctionDef _ _ b _ _ _ _ _ _ _=>b
 |_=>[]
noncomputable def aF (s:Stmt):Scope:=match s with
 |.FunctionDef _ _ _ _ _ _ sc _ _ _=>sc
 |_=>{kind:=.function,names:=[],isGenerator:=ao,isCoroutine:=ao}
abbrev CX0:CXT:=fun _ _ _ _ _ _=>False
abbrev E0:XK:=fun _ _ _=>False
theorem gJ :mh CX0 X E0:=fun _ _ _ _ _ _ _ h=>h.elim
structure Fun (K:aR) (x qual:ah) (st:Stmt) (f:au) (fd:mJ):Prop where
 ex:∃(oc:av) (od:aq au) (kV doc pm:av) (an:aq au) (cdv ct:av) (osl:b9 (aq av)),
  fd=eO x qual (eT st) (cO st) (aF st) .none kV doc pm an cdv ct/\K.lookup f=aa ⟨oc,od,.func fd,osl⟩/\rO K cdv qual=ai
 kp:fY K (.ref f)=ai
theorem Fun.ok {st:Stmt} {f:au} {k:ag} (F:Fun K x qual st f fd) (S:FnScope N ps (aF st)) (len:∀vs H Q E,sp vs H Q E->vs.length=ps.length)
  (hbody:∀(cdv:av) (A:dj) (outer:ab cM) (s:aB) (H:Hp) (vs:ab V) (Q:VK) (E:XK),Room k (A.deeper (dP qual (aF st) s.heap.objs.size f cdv))->sp vs H Q E->
   ∃t,PSs (eN CX0 P w K mg base N qual (aF st) f cdv A outer s H E).nox (cO st) t/\t {nx:=fun _ H'=>Q .non H',rt:=Q} (ee N vs) H):FnOk P w K mg base CX0 (k+1) f fd ps sp:=by
 obtain⟨oc,od,kV,doc,pm,an,cdv,ct,osl,rfl,lk,hcd⟩:=F.ex;refine Li lk hcd S len fun A outer s H vs Q E hr hsp=>?_;obtain⟨t,h,q⟩:=hbody cdv A outer s H vs Q E hr hsp;exact⟨t,h.nox,q⟩
theorem Fun.binds {st:Stmt} {f:au} (F:Fun K x qual st f fd)
  (h:∀(kV doc pm:av) (an:aq au) (cdv ct:av) (us:ab av),us.length=ps.length->fZ (eO x qual (eT st) (cO st) (aF st) .none kV doc pm an cdv ct) ⟨us,[]⟩=pure (ps.zip us)):e8 K fd ps []:=by
 obtain⟨oc,od,kV,doc,pm,an,cdv,ct,osl,rfl,lk,hcd⟩:=F.ex;exact .all (h kV doc pm an cdv ct)
theorem x9 {st:Stmt} {f:au} {kV:av} (l:K.lookup f=aa ⟨oc,od,.func (eO x qual (eT st) (cO st) (aF st) .none kV doc pm an cdv ct),osl⟩)
  (c:rO K cdv qual=ai) (k:fY K (.ref f)=ai):Fun K x qual st f (eO x qual (eT st) (cO st) (aF st) .none kV doc pm an cdv ct):=⟨⟨oc,od,kV,doc,pm,an,cdv,ct,osl,rfl,l,c⟩,k⟩
variable {B:Prop}
theorem gr {A:Prop} (h:B):if ao=ai then A else B:=by rw[qZ qv];exact h
theorem ig {A:Prop} (h:A):if ai=ai then A else B:=by rw[qY rfl];exact h
noncomputable def bp (H H':Hp):Prop:=∀b o,H b=aa o->H' b=aa o
theorem bp.refl (H:Hp):bp H H:=fun _ _ h=>h
theorem bp.trans (a:bp H H1) (b:bp H1 H2):bp H H2:=fun c o h=>b c o (a c o h)
theorem bp.free (e:bp H H') (h:H' l=ac):H l=ac:=by
 cases q:H l with
 |none=>rfl
 |some o=>
  rw[e l o q] at h;cases h
theorem bp.seq {a:au} (e:bp H H') (h:SqL K H a xs):SqL K H' a xs:=by
 rcases h with(h|⟨o,h⟩)|h
 .exact .inl (.inl (e _ _ h))
 .exact .inl (.inr ⟨o,e _ _ h⟩)
 .exact .inr h
variable {elt:Expr} {ifs:ab Expr}
theorem Hz {R:oh->aB->Prop} {s:aB} {target:Expr} {it acc:av} (I:ag->aB->Prop)
  (turn:∀n s,I n s->aE (aO prog w) A (lF it) (fun r s₁=>match r with
   |none=>R (.ok .next) s₁
   |some v=>aE (aO prog w) A (uZ target it v) (fun _ s₁'=>aE (aO prog w) A (jJ target env v) (fun _ s₂ =>
     aE (aO prog w) A (vg ifs ai fun c r=>if r=ai then do let ok ←isTrue c env (eval c env);pure (rV ok) else pure (rV r)) (fun ok s₃ =>
      if ok=ai then aE (aO prog w) A (eval elt env) (fun x s₄ =>
       aE (aO prog w) A (call (.builtin "list.append") [acc,x]) (fun _ s₅=>∃m,m<n/\I m s₅) (fun _ _=>False) s₄) (fun _ _=>False) s₃
      else ∃m,m<n/\I m s₃) (fun _ _=>False) s₂) (fun _ _=>False) s₁') (fun _ _=>False) s₁) (fun _ _=>False) s)
  (n:ag) (h:I n s) :
  iS (aO prog w) A (.compLoop (.ListComp elt [⟨target,iter,ifs,0⟩] scope pos) 0 it acc env) R s:=by
 refine codeAny_loop rfl I (fun n s hI=>?_) n h;show aE _ A ((compTurn (.ListComp elt [⟨target,iter,ifs,0⟩] scope pos) 0 it acc env).onRaise (fun x=>do noteFrame x env;theTreesLotGoes x)) _ _ s;refine wpAny_noted ?_;rw[compTurn_list];refine qB (EM (qB (im (turn n s hI) (fun r s₁ h₁=>?_) fun _ _ h'=>h'.elim)));cases r with
 |none=>exact qE h₁
 |some v=>
  refine qB (im h₁ (fun _ s₁' h₁'=>?_) fun _ _ h'=>h'.elim);refine qB (im h₁' (fun _ s₂ h₂=>qB (im h₂ (fun ok s₃ h₃=>?_) fun _ _ h'=>h'.elim)) fun _ _ h'=>h'.elim);cases ok with
  |false=>exact qE ⟨rfl,h₃⟩
  |true=>
   exact qB (qB (im h₃ (fun x s₄ h₄=>qB (im h₄ (fun _ s₅ h₅=>qE (qE ⟨rfl,h₅⟩)) fun _ _ h'=>h'.elim)) fun _ _ h'=>h'.elim))
noncomputable def gy (X:Cx) (N':ab ah) (scope:Scope) (cl:ab (ah×au)) (C:au) (s₀:aB) (H₀:Hp) (fp:ab au):Cx:=
 {X with N:=N',s₀:=s₀,H₀:=H₀,env:=Fj scope cl C X.env,outer:=X.stack,stack:=X.stack,ex:=fp,fn:=fun _=>ao,pn:=[],xe:=fun _ _=>False}
noncomputable def e7 (env:cM):ab (ah×g9)->ab (ah×au)->ab (ah×au)
 |[],acc=>acc
 |(n,k)::r,acc=>e7 env r (if k==.free then (match env.cells.lookup n with|some c=>(n,c)::acc|none=>acc) else acc)
theorem II (h:∀y∈scope.names,y.2=.free->∃c,env.cells.lookup y.1=aa c):closureFor scope env=pure (e7 env scope.names []):=by
 have all:∀(l:ab (ah×g9)) (acc:ab (ah×au)),(∀y∈l,y.2=.free->∃c,env.cells.lookup y.1=aa c)->
   (vg l acc fun x r=>match x with
    |(name,kind)=>if kind==.free then do let c ←cellOf env name;pure (rV ((name,c)::r)) else pure (rV r):il (ab (ah×au)))=pure (e7 env l acc):=by
  intro l
  induction l with
  |nil=>intro acc _;rfl
  |cons y r ih=>
   intro acc hl;obtain⟨n,k⟩:=y;rw[PZ];have hr:∀y∈r,y.2=.free->∃c,env.cells.lookup y.1=aa c:=fun y hy=>hl y (qg _ hy);unfold e7;cases hk:(k==mQ) with
   |false=>
    simp only[hk,qu,dF,pure_bind];exact ih acc hr
   |true=>
    obtain⟨c,hc⟩:=hl (n,k) qf (by simpa using hk);have hc':env.cells.lookup n=aa c:=hc;simp only[hk,dn,cellOf,hc',pure_bind];exact ih _ hr
 have e:=all scope.names [] h;exact Eq.trans (bind_pure _) e
theorem xH {env:cM}:∀(l:ab (ah×g9)) (acc:ab (ah×au)),(∀x c,acc.lookup x=aa c->env.cells.lookup x=aa c)->∀x c,(e7 env l acc).lookup x=aa c->env.cells.lookup x=aa c
 |[],_,h=>h
 |(n,k)::r,acc,h=>by
  unfold e7;refine xH r _ ?_;split
  .split
   .rename_i c hc;intro x d hx;rw[kE] at hx;cases e:x==n with
    |true=>
     rw[e] at hx;have e':x=n:=by simpa using e
     have e2:c=d:=qK hx;rw[e',←e2];exact hc
    |false=>rw[e] at hx;exact h x d hx
   .exact h
  .exact h
theorem B6 {env:cM}:∀(l:ab (ah×g9)) (acc:ab (ah×au)) (x:ah),(acc.lookup x).isSome=ai->((e7 env l acc).lookup x).isSome=ai
 |[],_,_,h=>h
 |(n,k)::r,acc,x,h=>by
  unfold e7;refine B6 r _ x ?_;split
  .split
   .rw[kE];split
    .rfl
    .exact h
   .exact h
  .exact h
theorem xD {env:cM}:∀(l:ab (ah×g9)) (acc:ab (ah×au)) (x:ah) (c:au),(x,mQ)∈l->env.cells.lookup x=aa c->((e7 env l acc).lookup x).isSome=ai
 |[],_,_,_,h,_=>nomatch h
 |(n,k)::r,acc,x,c,h,hc=>by
  unfold e7;rcases eC.mp h with e|h
  .injection e with e1 e2;subst e1;subst e2;refine B6 r _ _ ?_;rw[qY (by rfl),hc];simp
  .exact xD r _ x c h hc
theorem sT {env:cM}:∀(names:ab (ah×g9)) (x:ah) (k':g9),
  (names.map fun(n,k)=>if (k==mQ && env.scope.kind==.function && env.kindOf n==aa .cell) then (n,yO) else (n,k)).lookup x=aa k'->
  names.lookup x=aa k'\/(k'=.cell/\names.lookup x=aa .free)
 |[],_,_,h=>by simp at h
 |(n,k)::r,x,k',h=>by
  have ih:=@sT env r x k';have h':dN x ((if (k==mQ && env.scope.kind==.function && env.kindOf n==aa .cell)=ai then (n,yO) else (n,k))::(r.map fun(n,k)=>if (k==mQ && env.scope.kind==.function && env.kindOf n==aa .cell) then (n,yO) else (n,k)))=aa k':=h;cases hx:x==n with
  |true=>
   by_cases hc:(k==mQ && env.scope.kind==.function && env.kindOf n==aa .cell)=ai
   .rw[qY hc] at h';simp only[kE,hx] at h' ⊢;have hk:k=.free:=by simp only[hG,lG] at hc;exact hc.1.1
    right
    exact⟨(qK h').symm,by rw[hk]⟩
   .rw[qZ hc] at h';simp only[kE,hx] at h' ⊢;exact .inl h'
  |false=>
   have h2:dN x (r.map fun(n,k)=>if (k==mQ && env.scope.kind==.function && env.kindOf n==aa .cell) then (n,yO) else (n,k))=aa k':=by
    by_cases hc:(k==mQ && env.scope.kind==.function && env.kindOf n==aa .cell)=ai
    .rw[qY hc] at h';simpa only[kE,hx] using h'
    .rw[qZ hc] at h';simpa only[kE,hx] using h'
   simp only[kE,hx];exact ih h2
structure CompScope (X:Cx) (scope:Scope):Prop where
 kind:scope.kind=.function
 nocell:∀y∈scope.names,y.2≠.cell
 names:∀y∈scope.names,y.2=.local->scope.names.lookup y.1=aa .local
 free:∀y∈scope.names,y.2=.free->X.env.kindOf y.1=aa .cell\/X.env.kindOf y.1=aa .free
noncomputable def gd (fv:ab (aq ag)) (σ:St):St:=fv.map fun o=>o.bind fun j=>(σ[j]?).join
variable {N':ab ah} {fv:ab (aq ag)} {σ':St}
section
variable {s:aB}
theorem BF (I:Inv X pins σ H s) (S:CompScope X scope):closureFor scope X.env=pure (e7 X.env scope.names []):=
 II fun y hy hf=>I.ok.has y.1 (S.free y hy hf)
theorem NR (I:Inv X pins σ H s) (S:CompScope X scope) (hf:∀b∈fp,gX X pins H b) (hlt:∀b∈fp,b<s.heap.objs.size) (hC:s.heap.objs.size<=C) :
  (gy X N' scope (e7 X.env scope.names []) C s H fp).Ok:=by
 have sub:=xH (env:=X.env) scope.names [] (fun x c h=>by simp at h);refine⟨I.ok.mod,S.kind,I.ok.glob,I.ok.blt,hC,fun x y c h1 h2=>I.ok.inj x y c (sub x c h1) (sub y c h2),fun x hx=>?_,fun x c h _=>by simp[gy] at h,I.ok.hd,I.ok.frames,.inl rfl,fun b hb=>⟨?_,fun x c e=>?_⟩,I.bs,qP I.ok.bsz I.sz,
  fun b o e hb=>?_,fun b hb=>?_,I.stack,I.stkFree⟩
 .have hx':((yP scope X.env).names.lookup x=aa .cell\/(yP scope X.env).names.lookup x=aa .free):=hx;have hfr:scope.names.lookup x=aa .free:=by
   rcases hx' with h|h
   .rcases sT _ _ _ h with h|⟨_,h⟩
    .exact bx rfl (S.nocell _ (mK h))
    .exact h
   .rcases sT _ _ _ h with h|⟨h,_⟩
    .exact h
    .cases h
  have hm:=mK hfr;obtain⟨c,hc⟩:=I.ok.has x (S.free _ hm rfl);exact E3.mp (xD _ _ x c hm hc)
 .exact qG (qI (hlt b hb) hC)
 .exact(hf b hb).2.2.2.2.1 x c (sub x c e)
 .rcases(hf b hb).2.2.2.1 with z|z
  .exact I.ok.noex b o e z
  .exact bx (qI (qx e) I.ok.bsz) (Fk.mpr z)
 .intro z;rcases eC.mp (I.stkSub b z) with e|e
  .exact(hf b hb).2.1 e
  .exact(hf b hb).2.2.1 e
theorem HZ (I:Inv X pins σ H s) (S:CompScope X scope) (hf:∀b∈fp,gX X pins H b) (hlt:∀b∈fp,b<s.heap.objs.size) (hC:C=s.heap.objs.size) (hlen:fv.length=N'.length)
  (hfv:∀(i j:ag) x,N'[i]?=aa x->fv[i]?=aa (aa j)->X.N[j]?=aa x/\(X.env.kindOf x=aa .cell\/X.env.kindOf x=aa .free)/\scope.names.lookup x=aa .free) {m:ah->aq av} (hn:h'.Ns C m) (hk:∀b o,s.heap.get? b=aa o->h'.get? b=aa o) :
  Inv (gy X N' scope (e7 X.env scope.names []) C s H fp) [] (gd fv σ) H {s with heap:=h',toks:=t'}:=by
 have ok:=NR (N':=N') I S hf hlt (C:=C) (yz hC.symm);have sub:=xH (env:=X.env) scope.names [] (fun x c h=>by simp at h);refine⟨ok,rfl,I.bare,Un.kept hk,⟨m,hn,fun i x v e1 e2 e3=>?_⟩,fun x c e=>?_,?_,fun x c e=>I.freeC x c (sub x c e),fun p hp=>?_,I.hok.kept hk,?_⟩
 .have e1':N'[i]?=aa x:=e1;have e2':(gd fv σ)[i]?=aa (aa v):=e2;unfold gd at e2';rw[ql] at e2';cases q:fv[i]? with
  |none=>rw[q] at e2';cases e2'
  |some o=>
   rw[q] at e2';cases o with
   |none=>cases e2'
   |some j=>
    have e2'':(σ[j]?).join=aa v:=by simpa using e2'
    obtain⟨hN,hkk,hfree⟩:=hfv i j x e1' q;have hσ:σ[j]?=aa (aa v):=by
     cases z:σ[j]? with
     |none=>rw[z] at e2'';cases e2''
     |some w=>rw[z] at e2'';cases w with
      |none=>cases e2''
      |some w'=>simp at e2'';rw[e2'']
    obtain⟨m0,hn0,hl⟩:=I.loc;obtain⟨u,r,l⟩:=hl j x v hN hσ (.inr hkk);refine⟨u,r,.inr ⟨?_,?_⟩⟩
    .rcases e3 with z|z|z
     .have z':(yP scope X.env).names.lookup x=aa .local:=z;rcases sT _ _ _ z' with y|⟨y,_⟩
      .rw[hfree] at y;cases y
      .cases y
     .exact .inl z
     .exact .inr z
    .rcases l with⟨k,_⟩|⟨_,c,hc,hcell⟩
     .rcases hkk with y|y
      .rw[k] at y;cases y
      .rw[k] at y;cases y
     .obtain⟨c',hc'⟩:=E3.mp (xD scope.names [] x c (mK hfree) hc);have e:=sub x c' hc';rw[hc] at e;cases e;obtain⟨oc,ho,hd⟩:=hcell;exact⟨c,hc',oc,hk _ _ ho,hd⟩
 .obtain⟨v,oc,ho,hd⟩:=I.cell x c (sub x c e);exact⟨v,oc,hk _ _ ho,hd⟩
 .exact I.hok.fresh (yz hC.symm)
 .exact bx (show p∈([]:ab (au×bf)) from hp) (by simp)
 .show(gd fv σ).length=N'.length;unfold gd;rw[qe,hlen]
theorem Hg (I:Inv X pins σ H s) {cl:ab (ah×au)} (hf:∀b∈fp,gX X pins H b) (hC:s.heap.objs.size<=C) {pl:ab (au×bf)} 
  (J:Inv (gy X N' scope cl C s H fp) pl σ' H' s') (hs:iP C s'.heap h'):Inv X pins σ H' {s' with heap:=h'}:=by
 have hCn:H' C=ac:=J.free;refine I.call' (ch:=fp) (s':={s' with heap:=h'}) J.os ?_ ?_ J.bare fun b hb=>⟨(hf b hb).2.2.2.1,(hf b hb).2.1,(hf b hb).2.2.2.2.1,(hf b hb).2.2.2.2.2⟩
 .have U:Un (frs X.stack) fp H H' s.heap s'.heap:=J.base;have neC:∀b o,s.heap.get? b=aa o->b≠C:=fun b o e=>qG (qI (qx e) hC);refine⟨fun b o e n h1 h2=>?_,fun b o e n h1 h2=>?_,U.free,fun b o e h2=>?_,U.tups,U.frzs,U.tbls⟩
  .exact(hs.2 b (neC b o e)).trans (U.keep b o e n h1 h2)
  .obtain⟨sl,q⟩:=U.slot b o e n h1 h2;exact⟨sl,(hs.2 b (neC b o e)).trans q⟩
  .obtain⟨o',q⟩:=U.there b o e h2;exact⟨o',(hs.2 b (neC b o e)).trans q⟩
 .intro b u e;refine(J.hok b u e).stay (fun c v hc q=>(hs.2 c ?_).trans q) (fun _ q=>q) fun _ _ q=>q;rintro rfl;rcases hc with z|z
  .rw[←z,hCn] at e;cases e
  .rw[hCn] at z;cases z
end
noncomputable def PTs (X:Cx) (es:ab Expr) (t:TT):Prop:=
 ∀(pins:ab (au×bf)) (s:aB) (σ:St) (H:Hp) (Q:aU->Hp->Prop),Inv X pins σ H s->t σ H Q->
  aE (aO X.prog X.w) X.A (vg es ai fun c r=>if r=ai then do let ok ←isTrue c X.env (eval c X.env);pure (rV ok) else pure (rV r)) (TP X pins σ Q) X.xe s
noncomputable def OJ:TT:=fun _ H Q=>Q ai H
theorem Bu :PTs X [] OJ:=fun _ _ _ H _ I h=>wpAny_tests_nil ⟨H,I,h⟩
theorem OX {t:TT} (hc:PT X c t):PTs X [c] t:=fun pins s σ H Q I h=>wpAny_tests_one (hc pins s σ H Q I h)
noncomputable def LcW (J:It) (g:TG) (tc:TT) (te:TE) (acc:au) (Q:V->Hp->Prop) (σ0:St) (H1:Hp):Prop:=
 ∃W:ag->ag->ab V->St->Hp->Prop,(∃m,W 0 m [] σ0 (upd H1 acc (.lst [])))/\∀i m ys σ' H',W i m ys σ' H'->H' acc=aa (.lst ys) /\
  ((J.stop i H'/\Q (.ref acc) H')\/(J.go i H'/\∀x H2,J.yld i H' x H2->g x σ' H2 fun σ2 H3=>tc σ2 H3 fun b H4=>
   if b=ai then te σ2 H4 fun v H5=>H5 acc=aa (.lst ys)/\ys.length<aK/\∃m',m'<m/\W (i+1) m' (ys++[v]) σ2 (upd H5 acc (.lst (ys++[v])))
   else ∃m',m'<m/\W (i+1) m' ys σ2 H4))
noncomputable def tLC (wi:TI) (g:TG) (tc:TT) (te:TE) (fv:ab (aq ag)):TE:=fun σ H Q=>wi σ H fun J H1=>∀acc,H1 acc=ac->LcW J g tc te acc Q (gd fv σ) H1
noncomputable def PB (X:Cx) (N':ab ah) (scope:Scope) (tg:Expr) (ifs:ab Expr) (elt:Expr) (g:TG) (tc:TT) (te:TE):Prop:=
 ∀(cl:ab (ah×au)) (C:au) (s₀:aB) (H₀:Hp) (fp:ab au),PG (gy X N' scope cl C s₀ H₀ fp) tg g/\PTs (gy X N' scope cl C s₀ H₀ fp) ifs tc/\PE (gy X N' scope cl C s₀ H₀ fp) elt te
structure FvOk (X:Cx) (N':ab ah) (scope:Scope) (fv:ab (aq ag)):Prop where
 len:fv.length=N'.length
 at':∀(i j:ag) x,N'[i]?=aa x->fv[i]?=aa (aa j)->X.N[j]?=aa x/\(X.env.kindOf x=aa .cell\/X.env.kindOf x=aa .free)/\scope.names.lookup x=aa .free
variable {y:ah} {py spos:fm}
section
variable {g:TG}
theorem Dh {s2:aB} {it:au} {tn:ag->Heap->Prop} {J:It} {Q:VK} {RR:av->au->oh->aB->Prop} (hc:X.calm=ai) (S:CompScope X scope) (F:FvOk X N' scope fv) (hb:PB X N' scope tg ifs elt g tc te)
  (I2:Inv X pins σ H1 s2) (T:Turn X.prog X.w X.K tg J fp it tn) (st2:tn 0 s2.heap) (f2:∀b∈fp,gX X pins H1 b) (q:∀acc,H1 acc=ac->LcW J g tc te acc Q (gd fv σ) H1)
  (hRR:∀(a C:au) (H':Hp) (s':aB) (m:ah->aq av),s'.heap.Ns C m->(∀h',iP C s'.heap h'->Inv X pins σ H' {s' with heap:=h'})->gX X pins H' C->Q (.ref a) H'->RR (.ref a) C (.ok .next) s') :
  aE (aO X.prog X.w) X.A (newList []) (fun acc s₃=>aE (aO X.prog X.w) X.A (newFunctionEnv scope X.env.globals (e7 X.env scope.names []) [] X.env.qual ac .none (aa X.env)) (fun cenv s₄ =>
   iS (aO X.prog X.w) X.A (.compStart (.ListComp elt [⟨tg,iter,ifs,0⟩] scope pos) 0 (.ref it) acc {cenv with scope:=yP scope X.env}) (RR acc cenv.locals) s₄) X.xe s₃) X.xe s2:=by
 refine oj ?_;have hacc:H1 s2.heap.objs.size=ac:=I2.fresh;have I3:Inv X pins σ (upd H1 s2.heap.objs.size (.lst [])) {s2 with heap:=s2.heap.push {cls:=.type "list",data:=.seq ([]:ab av).toArray} }:=I2.lnew (t':=s2.toks) .nil (fu _);generalize hs3:({s2 with heap:=s2.heap.push {cls:=.type "list",data:=.seq ([]:ab av).toArray} }:aB)=s3 at I3 ⊢;have up:∀b o,s2.heap.get? b=aa o->s3.heap.get? b=aa o:=fun b o e=>by rw[←hs3];exact qw _ e
 have lt2:∀b∈fp,b<s2.heap.objs.size:=fun b hb=>by obtain⟨o,e,_⟩:=T.obj 0 _ st2 b hb;exact qx e
 have sz3:s2.heap.objs.size<s3.heap.objs.size:=by rw[←hs3];show _<(s2.heap.push _).objs.size;rw[iT];exact u6 _
 have lt3:∀b∈fp,b<s3.heap.objs.size:=fun b hb=>mO (lt2 b hb) sz3;have f3:∀b∈fp,gX X pins (upd H1 s2.heap.objs.size (.lst [])) b:=fun b hb=>⟨by rw[aX (qG (lt2 b hb))];exact(f2 b hb).1,(f2 b hb).2⟩;have st3:tn 0 s3.heap:=T.keep _ _ _ st2 fun b _ o e=>up b o e;refine wpAny_newFunctionEnv S.nocell (by intro y hy;simp at hy) (fun h4 hn4 sb4=>?_) S.kind;have k4:∀b o,s3.heap.get? b=aa o->h4.get? b=aa o:=fun b o e=>(sb4.2 b (qG (qx e))).trans (qw _ e);have st4:tn 0 h4:=T.keep _ _ _ st3 fun b _ o e=>k4 b o e;have I4:=HZ I3 S f3 lt3 (C:=s3.heap.objs.size) rfl F.len F.at' hn4 k4 (t':=s3.toks+([]:ab (ah×av)).length);generalize hX:gy X N' scope (e7 X.env scope.names []) s3.heap.objs.size s3 (upd H1 s2.heap.objs.size (.lst [])) fp=X' at I4;obtain⟨bg,bt,be⟩:=hb (e7 X.env scope.names []) s3.heap.objs.size s3 (upd H1 s2.heap.objs.size (.lst [])) fp;rw[hX] at bg bt be;have hprog:X'.prog=X.prog:=by rw[←hX];rfl
 have hw:X'.w=X.w:=by rw[←hX];rfl
 have hK:X'.K=X.K:=by rw[←hX];rfl
 have hA:X'.A=X.A:=by rw[←hX];rfl
 have hcalm:X'.calm=ai:=by rw[←hX];exact hc
 have hxe:X'.xe=fun _ _=>False:=by rw[←hX];rfl
 have henv:X'.env=Fj scope (e7 X.env scope.names []) s3.heap.objs.size X.env:=by rw[←hX];rfl
 have stat:∀{H':Hp},(∀b∈fp,H' b=ac)->∀b∈fp,gX X' [] H' b:=fun {H'} hn b hb=>by have f:=f3 b hb;have ok:=I4.ok;refine⟨hn b hb,(ok.exf b (by rw[←hX];exact hb)).1,ok.exfs b (by rw[←hX];exact hb),.inl (by rw[←hX];exact hb),fun x c e=>(ok.exf b (by rw[←hX];exact hb)).2 x c e,fun p hp=>?_⟩;rw[←hX] at hp;exact bx (show p∈([]:ab (au×bf)) from hp) (by simp)
 obtain⟨W,⟨m0,w0⟩,turn⟩:=q s2.heap.objs.size hacc;have loop:∀s5:aB,s5={s3 with heap:=h4,toks:=s3.toks+([]:ab (ah×av)).length} ->
   iS (aO X.prog X.w) X.A (.compLoop (.ListComp elt [⟨tg,iter,ifs,0⟩] scope pos) 0 (.ref it) (.ref s2.heap.objs.size) (Fj scope (e7 X.env scope.names []) s3.heap.objs.size X.env))
    (RR (.ref s2.heap.objs.size) s3.heap.objs.size) s5:=by
  intro s5 hs5;refine Hz (fun n s'=>∃i ys σ' H',Inv X' [] σ' H' s'/\tn i s'.heap/\(∀b∈fp,H' b=ac)/\W i n ys σ' H') ?_ m0 ⟨0,[],gd fv σ,_,hs5▸I4,hs5▸st4,fun b hb=>(f3 b hb).1,w0⟩;rintro n s6 ⟨i,ys,σ6,H6,I6,st6,fr6,w6⟩;obtain⟨ha6,turn6⟩:=turn i n ys σ6 H6 w6;rw[←henv];rcases turn6 with⟨stop,qn⟩|⟨go,step⟩
  .have d:=T.done X' hprog hw hK hcalm i [] s6 σ6 H6 (fun _ _=>False) I6 (stat fr6) st6 stop;rw[hA] at d;refine thn d fun r s7 ⟨hr,I7⟩=>?_;subst hr;obtain⟨m7,hn7,_⟩:=I7.loc;have hl:X'.env.locals=s3.heap.objs.size:=by rw[henv];rfl
   refine hRR _ _ H6 s7 m7 (hl▸hn7) (fun h' hs'=>?_) ?_ qn
   .rw[←hX] at I7;exact Hg I3 f3 (qy _) I7 hs'
   .exact I3.fpOk (qy _) (by have:=I7.free;rw[hl] at this;exact this)
  .have d:=T.item X' hprog hw hK hcalm i [] s6 σ6 H6 (fun _ _=>False) I6 (stat fr6) st6 go;rw[hA] at d;refine thn d fun r s7 ⟨u,hr,h7⟩=>?_;subst hr;refine thn h7 fun _ s8 ⟨x,H8,I8,r8,y8,st8,fr8⟩=>?_;have I8':=I8.pinned (stat fr8) (T.obj _ _ st8);have dg:=bg _ s8 σ6 H8 x u _ I8' r8 (step x H8 y8);rw[hprog,hw,hA,hxe] at dg;refine thn dg fun _ s9 ⟨σ9,H9,I9,q9⟩=>?_;have dt:=bt _ s9 σ9 H9 _ I9 q9;rw[hprog,hw,hA,hxe] at dt;refine thn dt fun b s10 ⟨H10,I10,q10⟩=>?_;have again:∀{σ7:St} {H7:Hp} {s7:aB} {ys':ab V},Inv X' ([]++pR fp s8.heap) σ7 H7 s7->(∃m',m'<n/\W (i+1) m' ys' σ7 H7)->∃m,m<n/\∃i ys σ' H',Inv X' [] σ' H' s7/\tn i s7.heap/\(∀b∈fp,H' b=ac)/\W i m ys σ' H':=fun {σ7 H7 s7 ys'} I7 n7=>by obtain⟨m',hm,w7⟩:=n7;refine⟨m',hm,i+1,ys',σ7,H7,I7.unpinned,T.keep _ _ _ st8 fun b hb o e=>(I7.pin (b,o) (qT _ (qT _ (sx hb e)))).1,fun b hb=>?_,w7⟩;obtain⟨o,e,_⟩:=T.obj _ _ st8 b hb;exact(I7.pin (b,o) (qT _ (qT _ (sx hb e)))).2.1
   cases b with
   |false=>
    rw[qZ qv] at q10 ⊢;exact again I10 q10
   |true=>
    rw[qY rfl] at q10 ⊢;have de:=be _ s10 σ9 H10 _ I10 q10;rw[hprog,hw,hA,hxe] at de;refine thn de fun v s11 ⟨y,H11,I11,r11,ha11,hz11,n11⟩=>?_;have da:=pA _ s11 σ9 H11 (.ref s2.heap.objs.size) [y] (.ref s2.heap.objs.size) [v] (fun _ H'=>H'=upd H11 s2.heap.objs.size (.lst (ys++[y]))) I11 rfl (.cons r11 .nil) ⟨_,ys,y,rfl,rfl,ha11,hz11,rfl⟩;rw[hprog,hw,hA,hxe] at da;refine thn da fun _ s12 ⟨_,H12,I12,_,e12⟩=>?_;subst e12;exact again I12 n11
 exact codeAny_compStart_list (loop _ rfl) (T.self _ 0 _ _ _ st4 (loop _ rfl))
theorem DV (hc:X.calm=ai) (S:CompScope X scope) (F:FvOk X N' scope fv) (hi:PI X tg iter wi) (hb:PB X N' scope tg ifs elt g tc te) (hs:∀x,kA iter X.env x=pure x:=by intro _;rfl) :
  PE X (.ListComp elt [⟨tg,iter,ifs,0⟩] scope pos) (tLC wi g tc te fv):=by
 intro pins s σ H Q I h;rw[eval_ListComp];refine P0 (use:=ac) rfl hs (BF I S) S.kind S.names (thn (hi pins s σ H _ I h) fun x s1 h1=>thn h1 fun itv s2 h2=>?_);obtain⟨it,fp,tn,J,H1,e,I2,T,st2,f2,q⟩:=h2;subst e;refine Dh (RR:=fun acc C=>compPost (aO X.prog X.w) X.A X.xe ac (EP X pins σ Q) acc C) hc S F hb I2 T st2 f2 q ?_;intro a C H' s' m hn hI hCL hq;exact⟨m,hn,fun h' hs'=>⟨.ref a,H',hI h' hs',rfl,hq⟩⟩
theorem ww (hN:X.N.Nodup) (hy:X.N[i]?=aa y) (hyl:X.env.scope.names.lookup y=aa .local) (hc:X.calm=ai) (S:CompScope X scope) (F:FvOk X N' scope fv) (hi:PI X tg iter wi) (hb:PB X N' scope tg ifs elt g tc te)
  (hsw:eE (.ListComp elt [⟨tg,iter,ifs,0⟩] scope pos) (aa (.Name y py)) spos.line X.env=pure ai)
  (hs:∀x,kA iter X.env x=pure x:=by intro _;rfl) :
  PS X (.Assign [.Name y py] (.ListComp elt [⟨tg,iter,ifs,0⟩] scope pos) spos) (jV (tLC wi g tc te fv) (jh i)):=by
 intro pins s σ H D I h;rw[exec_Assign_Name_used _ _ _ _ hsw];refine qB (EM (qB ?_));show aE _ _ (do let _ ←comprehension (.ListComp elt [⟨tg,iter,ifs,0⟩] scope pos) scope X.env _ (newList []) ao (eval iter X.env) (aa (jJ (.Name y py) X.env))) _ _ s;refine qB (im (P0 (use:=aa (jJ (.Name y py) X.env)) (Q:=fun _ s'=>SP X pins D .next s') rfl hs (BF I S) S.kind S.names
  (thn (hi pins s σ H _ I h) fun x s1 h1=>thn h1 fun itv s2 h2=>?_)) (fun _ s' hq=>qE (qE hq)) fun _ _ e=>e)
 obtain⟨it,fp,tn,J,H1,e,I2,T,st2,f2,q⟩:=h2;subst e;refine Dh (RR:=fun acc C=>compPost (aO X.prog X.w) X.A X.xe (aa (jJ (.Name y py) X.env)) (fun _ s'=>SP X pins D .next s') acc C) hc S F hb I2 T st2 f2 q ?_;intro a C H' s' m hn hI hCL hq;show aE _ _ (jJ (.Name y py) X.env (.ref a)) _ _ _;have I':Inv X pins σ H' s':=hI s'.heap (P1 _ _);refine Pj ?_;refine D7 (v:=.ref a) I' hN hy (.inl hyl) rfl (fun s'' I'' hch=>?_) (.inr hyl);obtain⟨ad,hsb,had⟩:=hch;obtain⟨f0,f1,f2',f3,f4,f5⟩:=hCL;have hne:C≠ad:=by
  rcases had with z|z
  .rw[z];exact f1
  .exact fun e=>f4 y ad z e.symm
 refine⟨m,hn.sameBut hsb hne,fun h' hs'=>?_⟩;exact⟨_,H',I''.turned (t':=s''.toks) (fun b o hb e=>(hs'.2 b hb).trans e) f0 f1 f3 f4 f5,hq⟩
end
noncomputable def Its (x:ah):It:=⟨fun i _=>i<x.cps.size,fun i H v H'=>H'=H/\∃c,x.cps[i]?=aa c/\v=.str ⟨#[c]⟩,fun i _=>i=x.cps.size⟩
theorem MI {M:uW} {s:aB} {n:ah} {it:av} {Q:mI->aB->Prop} (hQ:Q () s):aE M A (uZ (.Name n p) it u) Q E s:=qE hQ
theorem B3 {n:ah} {ty:String} (it:au) (x:ah) (t:Tok)
  (W:∀A:dj,A.handled=ac->Walks P w A it [it] [it] x.cps.size (SignAt x) (fun i h=>h.IsStrIter it ty x t i))
  (sf:∀(A:dj) (i:ag) (s:aB) (Q:av->aB->Prop) (E:av->aB->Prop),s.heap.IsStrIter it ty x t i->Q (.ref it) s->aE (aO P w) A (u0 (.ref it)) Q E s):Turn P w K (.Name n p) (Its x) [it] it (fun i h=>h.IsStrIter it ty x t i) where
 mem:=by simp
 obj:=fun i h st b hb=>by
  have e:b=it:=by simpa using hb
  subst e;obtain⟨o,e,c,d⟩:=st;exact⟨o,e,fun v z=>by rw[d] at z;cases z⟩
 keep:=fun i h h' st k=>by obtain⟨o,e,r⟩:=st;exact⟨o,k it (by simp) o e,r⟩
 item:=by intro X hP hw hK hc i pins s σ H E I hf st hg;subst hP hw hK;obtain⟨f0,f1,f2,f3,f4,f5⟩:=hf it (by simp);refine(W X.A (I.ok.hd hc)).item i s _ _ hg st fun v h' tk hv st' kk=>?_;obtain⟨c,u,hcc,rfl⟩:=hv;have I1:Inv X pins σ H {s with heap:=h',toks:=tk}:=I.turned (fun b o hb e=>kk b o (by simpa using hb) e) f0 f1 f3 f4 f5;exact⟨_,rfl,MI ⟨.str ⟨#[c]⟩,H,I1,⟨_,rfl⟩,⟨rfl,c,hcc,rfl⟩,st',fun b hb=>(hf b hb).1⟩⟩
 done:=by intro X hP hw hK hc i pins s σ H E I hf st hg;subst hP hw hK;obtain⟨f0,f1,f2,f3,f4,f5⟩:=hf it (by simp);have hi:i=x.cps.size:=hg;subst hi;exact(W X.A (I.ok.hd hc)).done s _ _ st fun h' tk kk=>⟨rfl,I.turned (fun b o hb e=>kk b o (by simpa using hb) e) f0 f1 f3 f4 f5⟩
 self:=sf
noncomputable def Hh (te:TE):TI:=fun σ H R=>te σ H fun v H1=>∃x,v=.str x/\R (Its x) H1
theorem JB {n:ah} (he:PE X e te):PI X (.Name n p) e (Hh te):=by
 intro pins s σ H R I h;refine thn (he pins s σ H _ I h) fun v s1 ⟨y,H1,I1,r1,q1⟩=>?_;obtain⟨x,e,q⟩:=q1;subst e;obtain⟨t,rfl⟩:=r1;have fin:∀(ty:String) (o:bf),(s1.heap.push o).IsStrIter s1.heap.objs.size ty x t 0->Turn X.prog X.w X.K (.Name n p) (Its x) [s1.heap.objs.size] s1.heap.objs.size (fun i h=>h.IsStrIter s1.heap.objs.size ty x t i)->
   PIE X pins σ (.Name n p) R (.ref s1.heap.objs.size) {s1 with heap:=s1.heap.push o}:=fun ty o st T=>by
  refine⟨s1.heap.objs.size,[s1.heap.objs.size],_,_,H1,rfl,I1.kept (t':=s1.toks) fun b o e=>qw _ e,T,st,fun b hb=>?_,q⟩;have e:b=s1.heap.objs.size:=by simpa using hb
  subst e;exact I1.fpOk (qy _) (I1.hok.fresh (qy _))
 cases ha:x.cps.all (· < 128)
 .exact wpAny_pyIter_wide ha (fin _ _ ⟨_,qJ _ rfl,rfl,rfl⟩ (B3 _ x t (fun A' hA=>Walks.strWide hA _ x t) fun _ _ _ _ _ st h=>wpAny_pyIter_striter_wide st h))
 .exact wpAny_pyIter_ascii ha (fin _ _ ⟨_,qJ _ rfl,rfl,rfl⟩ (B3 _ x t (fun A' hA=>Walks.strAscii hA _ x t) fun _ _ _ _ _ st h=>wpAny_pyIter_striter_ascii st h))
inductive D where
 |non|bl (b:aU)|int (i:aj)|str (x:ah)|tup (l:ab D)|lst (l:ab D)|scr (ns:ab aj)
 |dk (l:ab (Key×D))|dt (l:ab (ab Key×D))|ins (c:ah) (fs:ab (ah×D))|ty (n:String)
structure Cn where
 cls:ah->aq au
 self:aq au:=ac
mutual
inductive Rep (Γ:Cn) (K:aR) (G:Hp):V->D->Prop where
 |non:Rep Γ K G .non .non
 |bl (b:aU):Rep Γ K G (.bl b) (.bl b)
 |int (i:aj):Rep Γ K G (.int i) (.int i)
 |str (x:ah):Rep Γ K G (.str x) (.str x)
 |ty (n:String):Rep Γ K G (.ty n) (.ty n)
 |tup {a:au} {vs:ab V} {ds:ab D}:G a=aa (.tup vs)->Reps Γ K G vs ds->Rep Γ K G (.ref a) (.tup ds)
 |lst {a:au} {vs:ab V} {ds:ab D}:G a=aa (.lst vs)->Reps Γ K G vs ds->Rep Γ K G (.ref a) (.lst ds)
 |scr {a:au} {ns:ab aj}:SqL K G a (ns.map V.int)->Rep Γ K G (.ref a) (.scr ns)
 |dk {a:au} {us:ab (Key×V)} {kvs:ab (Key×D)}:G a=aa (.dK us)->us.map (·.1)=kvs.map (·.1)->Reps Γ K G (us.map (·.2)) (kvs.map (·.2))->Rep Γ K G (.ref a) (.dk kvs)
 |dt {a:au} {us:ab (ab Key×V)} {kvs:ab (ab Key×D)}:G a=aa (.dT us)->us.map (·.1)=kvs.map (·.1)->Reps Γ K G (us.map (·.2)) (kvs.map (·.2))->Rep Γ K G (.ref a) (.dt kvs)
 |ins {a C dx:au} {c:ah} {us:ab (ah×V)} {fs:ab (ah×D)}:G a=aa (.ins C dx us)->Γ.cls c=aa C->us.map (·.1)=fs.map (·.1)->Reps Γ K G (us.map (·.2)) (fs.map (·.2))->Rep Γ K G (.ref a) (.ins c fs)
inductive Reps (Γ:Cn) (K:aR) (G:Hp):ab V->ab D->Prop where
 |nil:Reps Γ K G [] []
 |cons {v:V} {d:D} {vs:ab V} {ds:ab D}:Rep Γ K G v d->Reps Γ K G vs ds->Reps Γ K G (v::vs) (d::ds)
end
variable {Γ:Cn} {G G' G1 G2:Hp}
mutual
theorem Rep.mono:∀{v:V} {d:D},Rep Γ K G v d->bp G G'->Rep Γ K G' v d
 |_,_,.non,_=>.non
 |_,_,.bl b,_=>.bl b
 |_,_,.int i,_=>.int i
 |_,_,.str x,_=>.str x
 |_,_,.ty x,_=>.ty x
 |_,_,.tup h r,s=>.tup (s _ _ h) (r.mono s)
 |_,_,.lst h r,s=>.lst (s _ _ h) (r.mono s)
 |_,_,.scr h,s=>.scr (s.seq h)
 |_,_,.dk h e r,s=>.dk (s _ _ h) e (r.mono s)
 |_,_,.dt h e r,s=>.dt (s _ _ h) e (r.mono s)
 |_,_,.ins h c e r,s=>.ins (s _ _ h) c e (r.mono s)
theorem Reps.mono:∀{vs:ab V} {ds:ab D},Reps Γ K G vs ds->bp G G'->Reps Γ K G' vs ds
 |_,_,.nil,_=>.nil
 |_,_,.cons h r,s=>.cons (h.mono s) (r.mono s)
end
mutual
theorem Rep.re {Γ':Cn} (hc:Γ'.cls=Γ.cls):∀{v:V} {d:D},Rep Γ K G v d->Rep Γ' K G v d
 |_,_,.non=>.non
 |_,_,.bl b=>.bl b
 |_,_,.int i=>.int i
 |_,_,.str x=>.str x
 |_,_,.ty x=>.ty x
 |_,_,.tup h r=>.tup h (r.re hc)
 |_,_,.lst h r=>.lst h (r.re hc)
 |_,_,.scr h=>.scr h
 |_,_,.dk h e r=>.dk h e (r.re hc)
 |_,_,.dt h e r=>.dt h e (r.re hc)
 |_,_,.ins h c e r=>.ins h (by rw[hc];exact c) e (r.re hc)
theorem Reps.re {Γ':Cn} (hc:Γ'.cls=Γ.cls):∀{vs:ab V} {ds:ab D},Reps Γ K G vs ds->Reps Γ' K G vs ds
 |_,_,.nil=>.nil
 |_,_,.cons h r=>.cons (h.re hc) (r.re hc)
end
theorem Reps.length:∀{vs:ab V} {ds:ab D},Reps Γ K G vs ds->vs.length=ds.length
 |_,_,.nil=>rfl
 |_,_,.cons _ r=>by rw[qh,qh,r.length]
theorem Reps.get:∀{vs:ab V} {ds:ab D} {i:ag} {d:D},Reps Γ K G vs ds->ds[i]?=aa d->∃v,vs[i]?=aa v/\Rep Γ K G v d
 |_,_,_,_,.nil,e=>by simp at e
 |_,_,0,_,.cons r _,e=>by simp at e;subst e;exact⟨_,rfl,r⟩
 |_,_,i+1,d,.cons _ t,e=>by obtain⟨u,h1,h2⟩:=Reps.get (i:=i) (d:=d) t (by simpa using e);exact⟨u,by simpa using h1,h2⟩
theorem Reps.getV:∀{vs:ab V} {ds:ab D} {i:ag} {v:V},Reps Γ K G vs ds->vs[i]?=aa v->∃d,ds[i]?=aa d/\Rep Γ K G v d
 |_,_,_,_,.nil,e=>by simp at e
 |_,_,0,_,.cons r _,e=>by simp at e;subst e;exact⟨_,rfl,r⟩
 |_,_,i+1,d,.cons _ t,e=>by obtain⟨u,h1,h2⟩:=Reps.getV (i:=i) (v:=d) t (by simpa using e);exact⟨u,by simpa using h1,h2⟩
theorem Reps.append:∀{vs ws:ab V} {ds es:ab D},Reps Γ K G vs ds->Reps Γ K G ws es->Reps Γ K G (vs++ws) (ds++es)
 |_,_,_,_,.nil,s=>s
 |_,_,_,_,.cons r t,s=>.cons r (t.append s)
theorem Reps.take:∀{vs:ab V} {ds:ab D} (n:ag),Reps Γ K G vs ds->Reps Γ K G (vs.take n) (ds.take n)
 |_,_,0,_=>.nil
 |_,_,_+1,.nil=>.nil
 |_,_,n+1,.cons r t=>.cons r (t.take n)
theorem Reps.drop:∀{vs:ab V} {ds:ab D} (n:ag),Reps Γ K G vs ds->Reps Γ K G (vs.drop n) (ds.drop n)
 |_,_,0,r=>r
 |_,_,_+1,.nil=>.nil
 |_,_,n+1,.cons _ t=>t.drop n
theorem Reps.ints:∀(ns:ab aj),Reps Γ K G (ns.map V.int) (ns.map D.int)
 |[]=>.nil
 |n::r=>.cons (.int n) (Reps.ints r)
theorem Reps.rep {vs:ab V} {ds:ab D} (h:Reps Γ K G vs ds):∀k:ag,Reps Γ K G (bY k vs).flatten (bY k ds).flatten
 |0=>.nil
 |k+1=>by rw[lL,lL,oo,oo];exact h.append (Reps.rep h k)
structure Step (G H G' H':Hp):Prop where
 hh:bp H H'
 gg:bp G G'
 gh:bp G' H'
 out:∀a o,H a=aa o->G' a=G a
theorem Step.refl (gh:bp G H):Step G H G H:=⟨.refl _,.refl _,gh,fun _ _ _=>rfl⟩
theorem Step.trans (a:Step G H G1 H1) (b:Step G1 H1 G2 H2):Step G H G2 H2:=
 ⟨a.hh.trans b.hh,a.gg.trans b.gg,b.gh,fun c o e=>(b.out c o (a.hh c o e)).trans (a.out c o e)⟩
theorem Step.new {p:au} {o:HO} (gh:bp G H) (hp:H p=ac):Step G H (upd G p o) (upd H p o):=by
 have gp:G p=ac:=gh.free hp;refine⟨fun b u e=>?_,fun b u e=>?_,fun b u e=>?_,fun b u e=>?_⟩
 .rw[aX (ck e hp)];exact e
 .rw[aX (ck e gp)];exact e
 .by_cases hb:b=p
  .subst hb;rw[b7] at e ⊢;exact e
  .rw[aX hb] at e ⊢;exact gh b u e
 .rw[aX (ck e hp)]
theorem Step.newOwn {p:au} {o:HO} (gh:bp G H) (hp:H p=ac):Step G H G (upd H p o):=by
 refine⟨fun b u e=>?_,.refl _,fun b u e=>?_,fun _ _ _=>rfl⟩
 .rw[aX (ck e hp)];exact e
 .rw[aX (ck (gh b u e) hp)];exact gh b u e
inductive Slot where
 |sh (d:D)
 |own (ds:ab D)
 |obj (c:ah) (fs:ab (ah×D))
 |objd (c:ah) (fs:ab (ah×D)) (n:ah) (kvs:ab (Key×D))
 |odk (kvs:ab (Key×D))
 |odt (kvs:ab (ab Key×D))
 |tlo (ds es:ab D)
 |pin (a:au)
 |oll (dss:ab (ab D))
abbrev bd:=ab (aq Slot)
noncomputable def pT:D->aU
 |.non=>ai
 |.bl _=>ai
 |.int _=>ai
 |.str _=>ai
 |_=>ao
noncomputable def mz (H:Hp):ab au->ab (ab V)->Prop
 |[],[]=>True
 |p::ps,vs::vss=>H p=aa (.lst vs)/\mz H ps vss
 |_,_=>False
noncomputable def o7 (Γ:Cn) (K:aR) (G:Hp):ab (ab V)->ab (ab D)->Prop
 |[],[]=>True
 |vs::vss,ds::dss=>Reps Γ K G vs ds/\o7 Γ K G vss dss
 |_,_=>False
theorem mz.mem {H:Hp}:∀{ps:ab au} {vss:ab (ab V)},mz H ps vss->∀b∈ps,∃o,H b=aa o
 |[],_,_,b,hb=>by cases hb
 |p::ps,[],h,b,hb=>h.elim
 |p::ps,vs::vss,h,b,hb=>by
  rcases eC.mp hb with rfl|hb
  .exact⟨_,h.1⟩
  .exact h.2.mem b hb
theorem mz.stay {H H':Hp}:∀{ps:ab au} {vss:ab (ab V)},mz H ps vss->(∀b∈ps,H' b=H b)->mz H' ps vss
 |[],[],_,_=>trivial
 |[],_::_,h,_=>h.elim
 |p::ps,[],h,_=>h.elim
 |p::ps,vs::vss,h,e=>⟨(e p qf).trans h.1,h.2.stay fun b hb=>e b (qg _ hb)⟩
theorem o7.map {Γ:Cn} {K:aR} {G G':Hp} (f:∀{vs:ab V} {ds:ab D},Reps Γ K G vs ds->Reps Γ K G' vs ds):∀{vss:ab (ab V)} {dss:ab (ab D)},o7 Γ K G vss dss->o7 Γ K G' vss dss
 |[],[],_=>trivial
 |[],_::_,h=>h.elim
 |_::_,[],h=>h.elim
 |_::_,_::_,h=>⟨f h.1,h.2.map f⟩
theorem Bg:∀{ps qs:ab au},ps.map V.ref=qs.map V.ref->ps=qs
 |[],[],_=>rfl
 |[],_::_,h=>by cases h
 |_::_,[],h=>by cases h
 |p::ps,q::qs,h=>by have h1:=ir h;rw[V.ref.inj h1.1,Bg h1.2]
inductive SR (Γ:Cn) (K:aR) (H₀ G H:Hp):Slot->V->ab au->Prop where
 |sh {d:D} {v:V}:Rep Γ K G v d->SR Γ K H₀ G H (.sh d) v []
 |own {a:au} {vs:ab V} {ds:ab D}:H₀ a=ac->G a=ac->H a=aa (.lst vs)->Reps Γ K G vs ds->SR Γ K H₀ G H (.own ds) (.ref a) [a]
 |obj {c:ah} {a C dx:au} {vs:ab (ah×V)} {fs:ab (ah×D)}:Γ.cls c=aa C->H₀ a=ac->G a=ac->H a=aa (.ins C dx vs)->vs.map (·.1)=fs.map (·.1)->Reps Γ K G (vs.map (·.2)) (fs.map (·.2))->Γ.self=aa a->SR Γ K H₀ G H (.obj c fs) (.ref a) [a]
 |objd {c n:ah} {a C dx p:au} {vs:ab (ah×V)} {fs:ab (ah×D)} {us:ab (Key×V)} {kvs:ab (Key×D)}:Γ.cls c=aa C->H₀ a=ac->G a=ac->H a=aa (.ins C dx (vs++[(n,.ref p)]))->vs.map (·.1)=fs.map (·.1)->Reps Γ K G (vs.map (·.2)) (fs.map (·.2))->
   H₀ p=ac->G p=ac->H p=aa (.dK us)->us.map (·.1)=kvs.map (·.1)->Reps Γ K G (us.map (·.2)) (kvs.map (·.2))->Γ.self=aa a->SR Γ K H₀ G H (.objd c fs n kvs) (.ref a) [a,p]
 |odk {a:au} {us:ab (Key×V)} {kvs:ab (Key×D)}:H₀ a=ac->G a=ac->H a=aa (.dK us)->us.map (·.1)=kvs.map (·.1)->Reps Γ K G (us.map (·.2)) (kvs.map (·.2))->SR Γ K H₀ G H (.odk kvs) (.ref a) [a]
 |odt {a:au} {us:ab (ab Key×V)} {kvs:ab (ab Key×D)}:H₀ a=ac->G a=ac->H a=aa (.dT us)->us.map (·.1)=kvs.map (·.1)->Reps Γ K G (us.map (·.2)) (kvs.map (·.2))->SR Γ K H₀ G H (.odt kvs) (.ref a) [a]
 |tlo {t p:au} {vs ws:ab V} {ds es:ab D}:H₀ p=ac->G p=ac->H p=aa (.lst ws)->G t=aa (.tup (vs++[.ref p]))->Reps Γ K G vs ds->Reps Γ K G ws es->SR Γ K H₀ G H (.tlo ds es) (.ref t) [p]
 |pin (a:au):SR Γ K H₀ G H (.pin a) (.ref a) []
 |oll {a:au} {ps:ab au} {vss:ab (ab V)} {dss:ab (ab D)}:(∀b∈a::ps,H₀ b=ac/\G b=ac)->(a::ps).Nodup->H a=aa (.lst (ps.map V.ref))->mz H ps vss->o7 Γ K G vss dss->SR Γ K H₀ G H (.oll dss) (.ref a) (a::ps)
variable {H₀:Hp}
section
variable {s:Slot}
theorem SR.fpt (r:SR Γ K H₀ G H s v fp):∀b∈fp,H₀ b=ac/\G b=ac/\∃o,H b=aa o:=by
 cases r with
 |sh r=>intro b hb;cases hb
 |own h1 h2 h3 _=>intro b hb;rw[ce.mp hb];exact⟨h1,h2,_,h3⟩
 |obj _ h1 h2 h3 _ _ _=>intro b hb;rw[ce.mp hb];exact⟨h1,h2,_,h3⟩
 |objd _ h1 h2 h3 _ _ q1 q2 q3 _ _ _=>
  intro b hb;rcases eC.mp hb with rfl|hb
  .exact⟨h1,h2,_,h3⟩
  .rw[ce.mp hb];exact⟨q1,q2,_,q3⟩
 |odk h1 h2 h3 _ _=>intro b hb;rw[ce.mp hb];exact⟨h1,h2,_,h3⟩
 |odt h1 h2 h3 _ _=>intro b hb;rw[ce.mp hb];exact⟨h1,h2,_,h3⟩
 |tlo h1 h2 h3 _ _ _=>intro b hb;rw[ce.mp hb];exact⟨h1,h2,_,h3⟩
 |pin a=>intro b hb;cases hb
 |oll h1 h2 h3 h4 _=>
  intro b hb;refine⟨(h1 b hb).1,(h1 b hb).2,?_⟩;rcases eC.mp hb with rfl|hb
  .exact⟨_,h3⟩
  .exact h4.mem b hb
theorem SR.stay (r:SR Γ K H₀ G H s v fp) (gg:bp G G') (hg:∀b∈fp,G' b=ac) (hh:∀b∈fp,H' b=H b):SR Γ K H₀ G' H' s v fp:=by
 cases r with
 |sh r=>exact .sh (r.mono gg)
 |own h1 h2 h3 h4=>exact .own h1 (hg _ (ce.mpr rfl)) ((hh _ (ce.mpr rfl)).trans h3) (h4.mono gg)
 |obj c h1 h2 h3 h4 h5 hs=>exact .obj c h1 (hg _ (ce.mpr rfl)) ((hh _ (ce.mpr rfl)).trans h3) h4 (h5.mono gg) hs
 |objd c h1 h2 h3 h4 h5 q1 q2 q3 q4 q5 hs=>
  exact .objd c h1 (hg _ qf) ((hh _ qf).trans h3) h4 (h5.mono gg) q1 (hg _ (qg _ qf)) ((hh _ (qg _ qf)).trans q3) q4 (q5.mono gg) hs
 |odk h1 h2 h3 h4 h5=>exact .odk h1 (hg _ (ce.mpr rfl)) ((hh _ (ce.mpr rfl)).trans h3) h4 (h5.mono gg)
 |odt h1 h2 h3 h4 h5=>exact .odt h1 (hg _ (ce.mpr rfl)) ((hh _ (ce.mpr rfl)).trans h3) h4 (h5.mono gg)
 |pin a=>exact .pin a
 |oll h1 h2 h3 h4 h5=>exact .oll (fun b hb=>⟨(h1 b hb).1,hg b hb⟩) h2 ((hh _ qf).trans h3) (h4.stay fun b hb=>hh b (qg _ hb)) (h5.map fun r=>r.mono gg)
 |tlo h1 h2 h3 h4 h5 h6=>exact .tlo h1 (hg _ (ce.mpr rfl)) ((hh _ (ce.mpr rfl)).trans h3) (gg _ _ h4) (h5.mono gg) (h6.mono gg)
theorem SR.stepS (r:SR Γ K H₀ G H s v fp) (t:Step G H G' H'):SR Γ K H₀ G' H' s v fp:=r.stay t.gg (fun b hb=>by
 obtain⟨_,h2,o,h3⟩:=r.fpt b hb;exact(t.out b o h3).trans h2) (fun b hb=>by
 obtain⟨_,_,o,h3⟩:=r.fpt b hb;rw[h3];exact t.hh b o h3)
end
theorem SR.uniq {s:Slot} {fq:ab au} (r:SR Γ K H₀ G H s v fp) (q:SR Γ K H₀ G H s v fq):fp=fq:=by
 cases r with
 |sh r=>cases q;rfl
 |own h1 h2 h3 _=>cases q;rfl
 |obj _ h1 h2 h3 _ _ _=>cases q;rfl
 |objd _ h1 h2 h3 _ _ q1 q2 q3 _ _ _=>
  cases q with
  |objd _ _ _ k3 _ _ _ _ _ _ _ _=>
   rw[h3] at k3;have z:=(HO.ins.inj (qK k3)).2.2;have z2:=(P2 z rfl).2;cases z2;rfl
 |odk h1 h2 h3 _ _=>cases q;rfl
 |odt h1 h2 h3 _ _=>cases q;rfl
 |pin a=>cases q;rfl
 |oll _ _ h3 _ _=>
  cases q with
  |oll _ _ k3 _ _=>
   rw[h3] at k3;rw[Bg (HO.lst.inj (qK k3))]
 |tlo _ _ _ h4 _ _=>
  cases q with
  |tlo _ _ _ k4 _ _=>
   rw[h4] at k4;have z:=HO.tup.inj (qK k4);have z2:=(P2 z rfl).2;cases z2;rfl
structure EnvRel (Γ:Cn) (K:aR) (H₀ G H:Hp) (ρ:bd) (σ:St):Prop where
 len:ρ.length=σ.length
 sl:∃fps:ag->ab au,(∀(i:ag) s,ρ[i]?=aa (aa s)->∃v,σ[i]?=aa (aa v)/\SR Γ K H₀ G H s v (fps i)) /\
  ∀(i j:ag) s t,i≠j->ρ[i]?=aa (aa s)->ρ[j]?=aa (aa t)->∀b∈fps i,b∉fps j
structure At (Γ:Cn) (K:aR) (G₀ H₀ G H:Hp) (ρ:bd) (σ:St):Prop where
 st:Step G₀ H₀ G H
 env:EnvRel Γ K H₀ G H ρ σ
noncomputable def gW (ρ:bd):Prop:=∀(i:ag) s,ρ[i]?=aa (aa s)->∃d,s=.sh d
variable {G₀:Hp} {ρ:bd} {fp':ab au} {d:D} {ds:ab D}
theorem EnvRel.ofSh (len:ρ.length=σ.length) (no:gW ρ) (sh:∀(i:ag) d,ρ[i]?=aa (aa (.sh d))->∃v,σ[i]?=aa (aa v)/\Rep Γ K G v d):EnvRel Γ K H₀ G H ρ σ :=
 ⟨len,fun _=>[],fun i s e=>by obtain⟨d,rfl⟩:=no i s e;obtain⟨v,h1,h2⟩:=sh i d e;exact⟨v,h1,.sh h2⟩,fun _ _ _ _ _ _ _ b hb=>by cases hb⟩
theorem EnvRel.sh (E:EnvRel Γ K H₀ G H ρ σ) (i:ag) (d:D) (e:ρ[i]?=aa (aa (.sh d))):∃v,σ[i]?=aa (aa v)/\Rep Γ K G v d:=by
 obtain⟨fps,h,_⟩:=E.sl;obtain⟨v,h1,h2⟩:=h i _ e;generalize fps i=fp at h2;cases h2 with
 |sh r=>exact⟨v,h1,r⟩
theorem EnvRel.own (E:EnvRel Γ K H₀ G H ρ σ) (i:ag) (ds:ab D) (e:ρ[i]?=aa (aa (.own ds))):∃a vs,σ[i]?=aa (aa (.ref a))/\H₀ a=ac/\G a=ac/\H a=aa (.lst vs)/\Reps Γ K G vs ds:=by
 obtain⟨fps,h,_⟩:=E.sl;obtain⟨v,h1,h2⟩:=h i _ e;generalize fps i=fp at h2;cases h2 with
 |own q1 q2 q3 q4=>exact⟨_,_,h1,q1,q2,q3,q4⟩
theorem At.gh (A:At Γ K G₀ H₀ G H ρ σ):bp G H:=A.st.gh
theorem At.step (A:At Γ K G₀ H₀ G H ρ σ) (s:Step G H G' H'):At Γ K G₀ H₀ G' H' ρ σ:=by
 obtain⟨fps,h,ap⟩:=A.env.sl;exact⟨A.st.trans s,A.env.len,fps,fun i t e=>by obtain⟨v,h1,h2⟩:=h i t e;exact⟨v,h1,h2.stepS s⟩,ap⟩
theorem At.put (A:At Γ K G₀ H₀ G H ρ σ) {s':Slot} {v':V} 
  (hfp:fp=[]\/∃s v,ρ[i]?=aa (aa s)/\σ[i]?=aa (aa v)/\SR Γ K H₀ G H s v fp)
  (hH:∀b o,H b=aa o->b∉fp->H' b=aa o) (hS:SR Γ K H₀ G' H' s' v' fp') (hn:∀b∈fp',b∈fp\/H b=ac)
  (gg:bp G G') (gh:bp G' H') (out:∀b o,H b=aa o->b∉fp->G' b=G b) (out2:∀b∈fp,H₀ b=ac):At Γ K G₀ H₀ G' H' (ρ.set i (aa s')) (σ.set i (aa v')):=by
 obtain⟨fps,h,ap⟩:=A.env.sl;have hl:=A.env.len;have old:∀b∈fp,∀j t,j≠i->ρ[j]?=aa (aa t)->b∉fps j:=fun b hb j t hj e=>by
  rcases hfp with rfl|⟨s,v,h1,h2,h3⟩
  .cases hb
  .obtain⟨v2,h4,h5⟩:=h i s h1;rw[h2] at h4;cases h4;have efp:fp=fps i:=h3.uniq h5;subst efp;exact ap i j s t (em hj) h1 e b hb
 have slj:∀(j:ag) t,j≠i->ρ[j]?=aa (aa t)->∃v,σ[j]?=aa (aa v)/\SR Γ K H₀ G' H' t v (fps j):=fun j t hj e=>by
  obtain⟨v,h1,h2⟩:=h j t e;refine⟨v,h1,h2.stay gg (fun b hb=>?_) (fun b hb=>?_)⟩
  .obtain⟨_,q2,o,q3⟩:=h2.fpt b hb;exact(out b o q3 fun z=>old b z j t hj e hb).trans q2
  .obtain⟨_,_,o,q3⟩:=h2.fpt b hb;rw[q3];exact hH b o q3 fun z=>old b z j t hj e hb
 have no2:∀b o,H₀ b=aa o->b∉fp:=fun b o e z=>by rw[out2 b z] at e;cases e
 have hst:Step G₀ H₀ G' H':=⟨fun b o e=>hH b o (A.st.hh b o e) (no2 b o e),A.st.gg.trans gg,gh,fun b o e=>(out b o (A.st.hh b o e) (no2 b o e)).trans (A.st.out b o e)⟩;refine⟨hst,by simp[hl],fun j=>if j=i then fp' else fps j,fun j t e=>?_,fun j k t u hjk e1 e2 b hb=>?_⟩
 .by_cases hj:j=i
  .subst hj;have hlt:j < ρ.length:=by
    rcases iu j ρ.length with q|q
    .exact q
    .rw[yQ (by simp;omega)] at e;cases e
   rw[ik hlt] at e;cases e;show ∃v,_/\SR _ _ _ _ _ _ v (if j=j then fp' else fps j);rw[qY rfl];exact⟨v',by rw[ik (by omega)],hS⟩
  .rw[qC (em hj)] at e ⊢;show ∃v,_/\SR _ _ _ _ _ _ v (if j=i then fp' else fps j);rw[qZ hj];exact slj j t hj e
 .have cross:∀{k:ag} {u:Slot},k≠i->ρ[k]?=aa (aa u)->∀b∈fp',b∉fps k:=fun {k u} hk e b hb hb2=>by
   rcases hn b hb with z|z
   .exact old b z k u hk e hb2
   .obtain⟨v,_,q⟩:=h k u e;obtain⟨_,_,o,q3⟩:=q.fpt b hb2;rw[z] at q3;cases q3
  replace hb:b∈(if j=i then fp' else fps j):=hb
  show b∉(if k=i then fp' else fps k);by_cases hj:j=i
  .subst hj;have hk:k≠j:=em hjk;rw[qY rfl] at hb;rw[qZ hk];rw[qC hjk] at e2;exact cross hk e2 b hb
  .rw[qZ hj] at hb;rw[qC (em hj)] at e1;by_cases hk:k=i
   .subst hk;rw[qY rfl];exact fun z=>cross hj e1 b z hb
   .rw[qZ hk];rw[qC (em hk)] at e2;exact ap j k t u hjk e1 e2 b hb
theorem At.setSh (A:At Γ K G₀ H₀ G H ρ σ) (r:Rep Γ K G v d):At Γ K G₀ H₀ G H (ρ.set i (aa (.sh d))) (σ.set i (aa v)):=
 A.put (fp:=[]) (fp':=[]) (.inl rfl) (fun b o e _=>e) (.sh r) (fun b hb=>by cases hb) (.refl _) A.gh (fun _ _ _ _=>rfl) (fun b hb=>by cases hb)
theorem At.setOwn (A:At Γ K G₀ H₀ G H ρ σ) {a:au} (ha:H a=ac) (r:Reps Γ K G vs ds):At Γ K G₀ H₀ G (upd H a (.lst vs)) (ρ.set i (aa (.own ds))) (σ.set i (aa (.ref a))):=by have h0:H₀ a=ac:=A.st.hh.free ha;have hg:G a=ac:=A.gh.free ha;refine A.put (fp:=[]) (fp':=[a]) (.inl rfl) (fun b o e _=>by rw[aX (ck e ha)];exact e) (.own h0 hg b7 r) (fun b hb=>.inr (by rw[ce.mp hb];exact ha)) (.refl _) (fun b o e=>?_) (fun _ _ _ _=>rfl) (fun b hb=>by cases hb);rw[aX (ck e hg)];exact A.gh b o e
theorem OE {l:ab α} {x:α} (h:l[i]?=aa x):l.set i x=l:=by
 apply List.ext_getElem?;intro j;by_cases hj:j=i
 .subst hj;rw[ik (gA.mp h).1,h]
 .rw[qC (em hj)]
theorem At.ch (A:At Γ K G₀ H₀ G H ρ σ) {s s':Slot} (hi:ρ[i]?=aa (aa s)) (hv:σ[i]?=aa (aa v)) (hs:SR Γ K H₀ G H s v fp)
  (hH:∀b o,H b=aa o->b∉fp->H' b=aa o) (hS:SR Γ K H₀ G' H' s' v fp') (hn:∀b∈fp',b∈fp\/H b=ac)
  (gg:bp G G') (gh:bp G' H') (out:∀b o,H b=aa o->b∉fp->G' b=G b):At Γ K G₀ H₀ G' H' (ρ.set i (aa s')) σ:=by
 have:=A.put (i:=i) (.inr ⟨s,v,hi,hv,hs⟩) hH hS hn gg gh out fun b hb=>(hs.fpt b hb).1
 rwa [OE hv] at this
theorem At.get (A:At Γ K G₀ H₀ G H ρ σ) {s:Slot} (hi:ρ[i]?=aa (aa s)):∃v fp,σ[i]?=aa (aa v)/\SR Γ K H₀ G H s v fp:=by obtain⟨fps,h,_⟩:=A.env.sl;obtain⟨v,h1,h2⟩:=h i s hi;exact⟨v,_,h1,h2⟩
theorem At.chOwn (A:At Γ K G₀ H₀ G H ρ σ) {a:au} {es:ab D} {ws:ab V} (hi:ρ[i]?=aa (aa (.own ds))) (ha:σ[i]?=aa (aa (.ref a))) (r:Reps Γ K G ws es):At Γ K G₀ H₀ G (upd H a (.lst ws)) (ρ.set i (aa (.own es))) σ:=by
 obtain⟨v,fp,h1,h2⟩:=A.get hi;rw[ha] at h1;cases h1;cases h2 with
 |own q1 q2 q3 q4=>
  refine A.ch hi ha (.own q1 q2 q3 q4) (fun b o e hb=>?_) (.own q1 q2 b7 r) (fun b hb=>.inl hb) (.refl _) (fun b o e=>?_) (fun _ _ _ _=>rfl)
  .rw[aX (fun z=>hb (ce.mpr z))];exact e
  .rw[aX (ck e q2)];exact A.gh b o e
theorem At.freeze (A:At Γ K G₀ H₀ G H ρ σ) (hi:ρ[i]?=aa (aa (.own ds))):∃G',bp G G'/\At Γ K G₀ H₀ G' H (ρ.set i (aa (.sh (.lst ds)))) σ:=by
 obtain⟨v,fp,h1,h2⟩:=A.get hi;cases h2 with
 |own q1 q2 q3 q4=>
  rename_i a vs;have sm:bp G (upd G a (.lst vs)):=fun b o e=>by rw[aX (ck e q2)];exact e
  refine⟨upd G a (.lst vs),sm,A.ch hi h1 (.own q1 q2 q3 q4) (fun b o e hb=>e) (.sh (.lst b7 (q4.mono sm))) (fun b hb=>by cases hb) sm (fun b o e=>?_) (fun b o e hb=>?_)⟩
  .by_cases hb:b=a
   .subst hb;rw[b7] at e;cases e;exact q3
   .rw[aX hb] at e;exact A.gh b o e
  .rw[aX (fun z=>hb (ce.mpr z))]
mutual
inductive NewL (H G:Hp):V->D->Prop where
 |flat {v:V} {d:D}:pT d=ai->NewL H G v d
 |tup {a:au} {vs:ab V} {ds:ab D}:G a=aa (.tup vs)->NewLs H G vs ds->NewL H G (.ref a) (.tup ds)
 |lst {a:au} {vs:ab V} {ds:ab D}:G a=aa (.lst vs)->H a=ac->NewLs H G vs ds->NewL H G (.ref a) (.lst ds)
inductive NewLs (H G:Hp):ab V->ab D->Prop where
 |nil:NewLs H G [] []
 |cons {v:V} {d:D} {vs:ab V} {ds:ab D}:NewL H G v d->NewLs H G vs ds->NewLs H G (v::vs) (d::ds)
end
inductive Fl where
 |nx|bk|ct|rt (d:D)|ow (ds:ab D)|nw (d:D)|od (kvs:ab (Key×D))
abbrev FE:=bd->aq D
abbrev FT:=bd->aq aU
abbrev FA:=bd->aq (ab D)
abbrev FS:=bd->aq (Fl×bd)
noncomputable def TD (Γ:Cn) (K:aR) (f:FE):TE:=fun σ H Q=>∃G₀ H₀ G ρ d,At Γ K G₀ H₀ G H ρ σ/\f ρ=aa d/\∀v G' H',Step G H G' H'->Rep Γ K G' v d->Q v H'
noncomputable def TDt (Γ:Cn) (K:aR) (f:FT):TT:=fun σ H Q=>∃G₀ H₀ G ρ b,At Γ K G₀ H₀ G H ρ σ/\f ρ=aa b/\∀G' H',Step G H G' H'->Q b H'
noncomputable def TDa (Γ:Cn) (K:aR) (f:FA):TA:=fun σ H Q=>∃G₀ H₀ G ρ ds,At Γ K G₀ H₀ G H ρ σ/\f ρ=aa ds/\∀vs G' H',Step G H G' H'->Reps Γ K G' vs ds->Q vs H'
noncomputable def B9 (Γ:Cn) (K:aR) (E:Ends) (H₀ G' H':Hp) (σ':St):Fl->Prop
 |.nx=>E.nx σ' H'
 |.bk=>E.bk σ' H'
 |.ct=>E.ct σ' H'
 |.rt d=>∀v,Rep Γ K G' v d->E.rt v H'
 |.ow ds=>∀p vs,H₀ p=ac->G' p=ac->H' p=aa (.lst vs)->Reps Γ K G' vs ds->E.rt (.ref p) H'
 |.nw d=>∀v,Rep Γ K G' v d->NewL H₀ G' v d->E.rt v H'
 |.od kvs=>∀p us,H₀ p=ac->G' p=ac->H' p=aa (.dK us)->us.map (·.1)=kvs.map (·.1)->Reps Γ K G' (us.map (·.2)) (kvs.map (·.2))->E.rt (.ref p) H'
noncomputable def TDs (Γ:Cn) (K:aR) (g:FS):TS:=fun E σ H=>∃G₀ H₀ G ρ fl ρ',At Γ K G₀ H₀ G H ρ σ/\g ρ=aa (fl,ρ')/\∀σ' G' H',bp G G'->At Γ K G₀ H₀ G' H' ρ' σ'->B9 Γ K E H₀ G' H' σ' fl
noncomputable def TDo (Γ:Cn) (K:aR) (f:FA):TE:=fun σ H Q=>∃G₀ H₀ G ρ ds,At Γ K G₀ H₀ G H ρ σ/\f ρ=aa ds/\∀p vs G' H',Step G H G' H'->H' p=ac->Reps Γ K G' vs ds->Q (.ref p) (upd H' p (.lst vs))
structure DE (Γ:Cn) (X:Cx) (e:Expr) (f:FE):Prop where
 out:PE X e (TD Γ X.K f)
structure DT (Γ:Cn) (X:Cx) (e:Expr) (f:FT):Prop where
 out:PT X e (TDt Γ X.K f)
structure DW (Γ:Cn) (X:Cx) (e:Expr) (f:FT):Prop where
 out:PW X e (TDt Γ X.K f)
structure DA (Γ:Cn) (X:Cx) (es:ab Expr) (f:FA):Prop where
 out:PA X es (TDa Γ X.K f)
structure DS (Γ:Cn) (X:Cx) (st:Stmt) (g:FS):Prop where
 out:PS X st (TDs Γ X.K g)
structure DSs (Γ:Cn) (X:Cx) (st:ab Stmt) (g:FS):Prop where
 out:PSs X st (TDs Γ X.K g)
structure DO (Γ:Cn) (X:Cx) (e:Expr) (f:FA):Prop where
 out:PE X e (TDo Γ X.K f)
variable {fa fb fc f:FE}
theorem PE.imp {t t':TE} (h:PE X e t) (i:∀σ H Q,t' σ H Q->t σ H Q):PE X e t':=fun pins s σ H Q I q=>h pins s σ H Q I (i _ _ _ q)
theorem PT.imp {t t':TT} (h:PT X e t) (i:∀σ H Q,t' σ H Q->t σ H Q):PT X e t':=fun pins s σ H Q I q=>h pins s σ H Q I (i _ _ _ q)
theorem PW.imp {t t':TT} (h:PW X e t) (i:∀σ H Q,t' σ H Q->t σ H Q):PW X e t':=fun wh pins s σ H Q I q=>h wh pins s σ H Q I (i _ _ _ q)
theorem PA.imp {t':TA} (h:PA X es t) (i:∀σ H Q,t' σ H Q->t σ H Q):PA X es t':=fun p pins s σ H Q I q=>h p pins s σ H Q I (i _ _ _ q)
theorem PS.imp {st:Stmt} {t t':TS} (h:PS X st t) (i:∀E σ H,t' E σ H->t E σ H):PS X st t':=fun pins s σ H E I q=>h pins s σ H E I (i _ _ _ q)
theorem PSs.imp {st:ab Stmt} {t t':TS} (h:PSs X st t) (i:∀E σ H,t' E σ H->t E σ H):PSs X st t':=fun pins s σ H E I q=>h pins s σ H E I (i _ _ _ q)
noncomputable def vSh (i:ag):FE:=fun ρ=>match ρ[i]? with
 |some (aa (.sh d))=>aa d
 |_=>ac
theorem Ht (h:vSh i ρ=aa d):ρ[i]?=aa (aa (.sh d)):=by
 unfold vSh at h;split at h
 .rename_i e;cases h;exact e
 .cases h
theorem ak (i:ag) (hN:X.N[i]?=aa x:=by rfl) (hv:Vis X.env.scope x:=by first|exact cz rfl|exact bT (cz rfl)|exact bT (bT rfl)) (hd:(x==("__debug__":ah))=ao:=by decide)
  (hcd:(x==("__classdict__":ah))=ao:=by decide):DE Γ X (.Name x pos) (vSh i):=⟨(dv hN hv hd hcd).imp fun σ H Q ⟨G₀,H₀,G,ρ,d,A,h,k⟩=>by
 obtain⟨v,h1,h2⟩:=A.env.sh i d (Ht h);exact⟨v,h1,k v G H (.refl A.gh) h2⟩⟩
noncomputable def vC (d:D):FE:=fun _=>aa d
theorem TD.const (r:∀G,Rep Γ X.K G v d) (h:PE X e (tC v)):DE Γ X e (vC d):=⟨h.imp fun σ H Q ⟨G₀,H₀,G,ρ,d',A,h,k⟩=>by cases h;exact k v G H (.refl A.gh) (r G)⟩
theorem ay {i j}:DE Γ X (.Constant (.int i) j pos) (vC (.int i)):=TD.const (fun _=>.int i) gf
theorem dX {i j}:DE Γ X (.Constant (.bool i) j pos) (vC (.bl i)):=TD.const (fun _=>.bl i) Ly
theorem Ef {j}:DE Γ X (.Constant .none j pos) (vC .non):=TD.const (fun _=>.non) Ea
theorem aN {i j}:DE Γ X (.Constant (.str i) j pos) (vC (.str i)):=TD.const (fun _=>.str i) mZ
theorem eP {i:aj} {t:Tok} (hg:Gl X x) (hm:X.mg x=aa (.int i t)) (hd:(x==("__debug__":ah))=ao:=by decide):DE Γ X (.Name x pos) (vC (.int i)):=TD.const (fun _=>.int i) (CD hg hm ⟨t,rfl⟩ hd)
noncomputable def b2 (g:D->D->aq D) (fa fb:FE):FE:=fun ρ=>(fa ρ).bind fun x=>(fb ρ).bind fun y=>g x y
noncomputable def b1 (g:D->aq D) (fa:FE):FE:=fun ρ=>(fa ρ).bind g
noncomputable def fA (Γ:Cn) (K:aR) (g:D->D->aq D) (r:R2):Prop:=
 ∀{G H v u x y z},bp G H->Rep Γ K G v x->Rep Γ K G u y->g x y=aa z->∀Q:VK,(∀w G' H',Step G H G' H'->Rep Γ K G' w z->Q w H')->r v u H Q
theorem TD.two {g:D->D->aq D} (hr:fA Γ X.K g r):∀σ H Q,TD Γ X.K (b2 g fa fb) σ H Q->tOp r (TD Γ X.K fa) (TD Γ X.K fb) σ H Q:=by
 rintro σ H Q ⟨G₀,H₀,G,ρ,d,A,h,k⟩;unfold b2 at h;cases ha:fa ρ with
 |none=>rw[ha] at h;cases h
 |some x=>
  cases hb:fb ρ with
  |none=>rw[ha] at h;simp only[qa,hb,Option.bind_none] at h;cases h
  |some y=>
   simp only[ha,hb,qa] at h;refine⟨G₀,H₀,G,ρ,x,A,ha,fun v G1 H1 s1 r1=>⟨G₀,H₀,G1,ρ,y,A.step s1,hb,fun u G2 H2 s2 r2=>?_⟩⟩;exact hr s2.gh (r1.mono s2.gg) r2 h Q fun w G' H' s r=>k w G' H' ((s1.trans s2).trans s) r
theorem my {op:EQ} {g:D->D->aq D} (ho:OpR X (gB op) r) (hr:fA Γ X.K g r) (ha:DE Γ X a fa) (hb:DE Γ X b fb):DE Γ X (.BinOp a op b pos) (b2 g fa fb):=⟨(D3 ho ha.1 hb.1).imp (TD.two hr)⟩
noncomputable def bA:D->D->aq D
 |.int i,.int j=>aa (.int (i+j))
 |.str x,.str y=>if x.length+y.length<=aK then aa (.str (x++y)) else ac
 |.lst x,.lst y=>if x.length+y.length<=aK then aa (.lst (x++y)) else ac
 |_,_=>ac
noncomputable def eB:D->D->aq D
 |.int i,.int j=>aa (.int (i-j))
 |_,_=>ac
noncomputable def jf (x:ah) (n:ag):ah:=⟨(bY n x.cps.toList).flatten.toArray⟩
noncomputable def hV:D->D->aq D
 |.int i,.int j=>if (-(2 ^ 64)<i/\i<2 ^ 64)\/(-(2 ^ 64)<j/\j<2 ^ 64) then aa (.int (i*j)) else ac
 |.lst x,.int j=>if -(2 ^ 63)<=j/\j<2 ^ 63/\x.length*j.toNat<=aK then aa (.lst (bY j.toNat x).flatten) else ac
 |.str x,.int j=>if 0<=j/\j<1000/\x.length<1000 then aa (.str (jf x j.toNat)) else ac
 |_,_=>ac
noncomputable def kZ:D->D->aq D
 |.int i,.int j=>if 0<j/\j<1073741824 then aa (.int (i / j)) else ac
 |_,_=>ac
noncomputable def ib:D->D->aq D
 |.int i,.int j=>if 0<j then aa (.int (i%j)) else ac
 |_,_=>ac
noncomputable def gQ:D->D->aq D
 |.int i,.int j=>if 0<=j/\j<=1000000/\i.natAbs<2 ^ 64 then aa (.int (i ^ j.toNat)) else ac
 |_,_=>ac
theorem Rep.int_inv {i:aj} (r:Rep Γ K G v (.int i)):v=.int i:=by cases r;rfl
theorem Rep.str_inv {i:ah} (r:Rep Γ K G v (.str i)):v=.str i:=by cases r;rfl
theorem Rep.bl_inv {i:aU} (r:Rep Γ K G v (.bl i)):v=.bl i:=by cases r;rfl
theorem Rep.lst_inv (r:Rep Γ K G v (.lst ds)):∃a vs,v=.ref a/\G a=aa (.lst vs)/\Reps Γ K G vs ds:=by cases r;exact⟨_,_,rfl,by assumption,by assumption⟩
theorem Rep.tup_inv (r:Rep Γ K G v (.tup ds)):∃a vs,v=.ref a/\G a=aa (.tup vs)/\Reps Γ K G vs ds:=by cases r;exact⟨_,_,rfl,by assumption,by assumption⟩
theorem Rep.scr_inv {ns:ab aj} (r:Rep Γ K G v (.scr ns)):∃a,v=.ref a/\SqL K G a (ns.map V.int):=by cases r;exact⟨_,rfl,by assumption⟩
theorem ic {Q:VK} (gh:bp G H) (r:Reps Γ K G vs ds) (k:∀w G' H',Step G H G' H'->Rep Γ K G' w (.lst ds)->Q w H'):∀p,H p=ac->Q (.ref p) (upd H p (.lst vs)):=fun p hp=>by have s:=Step.new (o:=.lst vs) gh hp;exact k _ _ _ s (.lst b7 (r.mono s.gg))
theorem uA {Q:VK} (gh:bp G H) (r:Reps Γ K G vs ds) (k:∀w G' H',Step G H G' H'->Rep Γ K G' w (.tup ds)->Q w H'):∀p,H p=ac->Q (.ref p) (upd H p (.tup vs)):=fun p hp=>by have s:=Step.new (o:=.tup vs) gh hp;exact k _ _ _ s (.tup b7 (r.mono s.gg))
theorem AM :fA Γ K bA (fun x y H Q=>(rI0 (fun i j=>V.int (i+j)) x y H Q\/(∃i j,x=.str i/\y=.str j/\i.length+j.length<=aK/\Q (.str (i++j)) H))\/wB x y H Q):=by
 intro G H v u x y z gh r1 r2 h Q k;unfold bA at h;split at h
 .cases h;cases r1.int_inv;cases r2.int_inv;exact .inl (.inl ⟨_,_,rfl,rfl,k _ G H (.refl gh) (.int _)⟩)
 .split at h
  .cases h;cases r1.str_inv;cases r2.str_inv;exact .inl (.inr ⟨_,_,rfl,rfl,by assumption,k _ G H (.refl gh) (.str _)⟩)
  .cases h
 .split at h
  .rename_i hz;cases h;obtain⟨a,vs,rfl,ha,ra⟩:=r1.lst_inv;obtain⟨b,us,rfl,hb,rb⟩:=r2.lst_inv;exact .inr ⟨a,b,vs,us,rfl,rfl,gh _ _ ha,gh _ _ hb,by rw[ra.length,rb.length];exact hz,ic gh (ra.append rb) k⟩
  .cases h
 .cases h
theorem Az:OpR X (gB .Add) (fun x y H Q=>(rI0 (fun i j=>V.int (i+j)) x y H Q\/(∃i j,x=.str i/\y=.str j/\i.length+j.length<=aK/\Q (.str (i++j)) H))\/wB x y H Q):=(Ky.or JJ).or Ge
theorem dB (ha:DE Γ X a fa) (hb:DE Γ X b fb):DE Γ X (.BinOp a .Add b pos) (b2 bA fa fb):=my Az AM ha hb
theorem BG {g:D->D->aq D} {o:aj->aj->aj} (hg:∀x y z,g x y=aa z->∃i j,x=.int i/\y=.int j/\z=.int (o i j)):fA Γ K g (rI0 fun i j=>V.int (o i j)):=by intro G H v u x y z gh r1 r2 h Q k;obtain⟨i,j,rfl,rfl,rfl⟩:=hg x y z h;cases r1.int_inv;cases r2.int_inv;exact⟨_,_,rfl,rfl,k _ G H (.refl gh) (.int _)⟩
theorem n5 {g:D->D->aq D} {C:aj->aj->Prop} {o:aj->aj->aj} (hg:∀x y z,g x y=aa z->∃i j,x=.int i/\y=.int j/\C i j/\z=.int (o i j)):fA Γ K g (rI C fun i j=>V.int (o i j)):=by intro G H v u x y z gh r1 r2 h Q k;obtain⟨i,j,rfl,rfl,hc,rfl⟩:=hg x y z h;cases r1.int_inv;cases r2.int_inv;exact⟨_,_,rfl,rfl,hc,k _ G H (.refl gh) (.int _)⟩
theorem jt (ha:DE Γ X a fa) (hb:DE Γ X b fb):DE Γ X (.BinOp a .Sub b pos) (b2 eB fa fb):=my En (BG fun x y z h=>by unfold eB at h;split at h<;>cases h;exact⟨_,_,rfl,rfl,rfl⟩) ha hb
theorem Ks (ha:DE Γ X a fa) (hb:DE Γ X b fb):DE Γ X (.BinOp a .FloorDiv b pos) (b2 kZ fa fb):=my BE (n5 fun x y z h=>by
 unfold kZ at h;split at h
 .split at h<;>cases h;exact⟨_,_,rfl,rfl,by assumption,rfl⟩
 .cases h) ha hb
theorem vS (ha:DE Γ X a fa) (hb:DE Γ X b fb):DE Γ X (.BinOp a .Mod b pos) (b2 ib fa fb):=my Bh (n5 fun x y z h=>by
 unfold ib at h;split at h
 .split at h<;>cases h;exact⟨_,_,rfl,rfl,by assumption,rfl⟩
 .cases h) ha hb
theorem nS (ha:DE Γ X a fa) (hb:DE Γ X b fb):DE Γ X (.BinOp a .Pow b pos) (b2 gQ fa fb):=my Ke (n5 fun x y z h=>by
 unfold gQ at h;split at h
 .split at h<;>cases h;exact⟨_,_,rfl,rfl,by assumption,rfl⟩
 .cases h) ha hb
theorem Co (a:b9 ag):∀(k:ag) (acc:ab ag),(bY k a).foldl (·++·) acc.toArray=(acc++(bY k a.toList).flatten).toArray
 |0,acc=>by simp
 |k+1,acc=>by
  rw[lL,lM,lL,oo,←qA,←Co a k (acc++a.toList)]
  congr 1
  simp
noncomputable def Ed:R2:=fun x y H Q=>∃z n,x=.str z/\y=.int n/\0<=n/\n<1000/\z.length<1000/\Q (.str (jf z n.toNat)) H
theorem Kx:OpR X (gB .Mult) Ed:=by
 intro pins s σ H x y v u Q I rx ry h;obtain⟨z,n,rfl,rfl,h0,h1,h2,q⟩:=h;obtain⟨t,rfl⟩:=rx;obtain⟨t',rfl⟩:=ry;have hl:z.length*n.toNat<=1000000:=qP (Nat.mul_le_mul (n9 h2) (show n.toNat<=1000 by omega)) (by decide);have e0:(bY n.toNat z.cps).foldl (·++·) #[]=(jf z n.toNat).cps:=by have:=Co z.cps n.toNat [];simpa[jf] using this
 refine PySem.P.mul_str ?_ (fun h _=>?_) (fun _ _=>?_) ?_
 .rw[qQ (by omega),qQ (by omega)];rfl
 .have e:(z.length:aj)*n=((z.length*n.toNat:ag):aj):=by rw[Int.natCast_mul];congr 1;omega
  have:(z.length:aj)<=(2 ^ 63-1:aj) / n:=Int.le_ediv_of_mul_le (by omega) (by rw[e];omega);omega
 .unfold R1;exact qQ (by have:=g8;omega)
 .split
  .have:n=0:=by omega
   subst this;exact⟨by decide,⟨.str _,H,I.tok _,⟨_,rfl⟩,by simpa[jf,yy] using q⟩⟩
  .split
   .rename_i hc;have ez:jf z n.toNat=z:=by
     rcases Fm _ _▸hc with e|e
     .have:n=1:=by simpa using e
      subst this;simp[jf]
     .have hz:z.cps=#[]:=by
       have:z.cps.size=0:=by simpa[gF] using e
       exact Array.eq_empty_of_size_eq_zero this
      cases z;simp only at hz;subst hz;simp[jf]
    exact⟨.str _,H,I,⟨_,rfl⟩,by rw[←ez];exact q⟩
   .rw[e0];refine⟨?_,⟨.str _,H,I.tok _,⟨_,rfl⟩,q⟩⟩;have e1:(jf z n.toNat).length=n.toNat*z.length:=by show(bY n.toNat z.cps.toList).flatten.toArray.size=_;rw[qF,BP];simp[gF]
    show(jf z n.toNat).length<=aK;rw[e1,PN];have:=g8;omega
theorem NC :fA Γ K hV (fun x y H Q=>(rI tU (fun i j=>V.int (i*j)) x y H Q\/zO x y H Q)\/Ed x y H Q):=by
 intro G H v u x y z gh r1 r2 h Q k;unfold hV at h;split at h
 .split at h
  .cases h;cases r1.int_inv;cases r2.int_inv;exact .inl (.inl ⟨_,_,rfl,rfl,by assumption,k _ G H (.refl gh) (.int _)⟩)
  .cases h
 .split at h
  .rename_i hz;cases h;obtain⟨a,vs,rfl,ha,ra⟩:=r1.lst_inv;cases r2.int_inv;exact .inl (.inr ⟨a,_,vs,rfl,rfl,gh _ _ ha,hz.1,hz.2.1,by rw[ra.length];exact hz.2.2,ic gh (ra.rep _) k⟩)
  .cases h
 .split at h
  .rename_i hz;cases h;cases r1.str_inv;cases r2.int_inv;exact .inr ⟨_,_,rfl,rfl,hz.1,hz.2.1,hz.2.2,k _ G H (.refl gh) (.str _)⟩
  .cases h
 .cases h
theorem pJ (ha:DE Γ X a fa) (hb:DE Γ X b fb):DE Γ X (.BinOp a .Mult b pos) (b2 hV fa fb):=my ((OZ.or Io).or Kx) NC ha hb
variable {g':D->D->aq D} {ft:FT} {fr:FA}
section
theorem Rep.non_inv (r:Rep Γ K G v .non):v=.non:=by cases r;rfl
noncomputable def ltS (x y:ah):aU:=decide (x.cps.toList<y.cps.toList)
noncomputable def ltD:D->D->aq D
 |.int i,.int j=>aa (.bl (decide (i<j)))
 |.str x,.str y=>aa (.bl (ltS x y))
 |_,_=>ac
noncomputable def leD:D->D->aq D
 |.int i,.int j=>aa (.bl (decide (i<=j)))
 |.str x,.str y=>aa (.bl (!ltS y x))
 |_,_=>ac
noncomputable def gtD:D->D->aq D
 |.int i,.int j=>aa (.bl (decide (j<i)))
 |_,_=>ac
noncomputable def geD:D->D->aq D
 |.int i,.int j=>aa (.bl (decide (j<=i)))
 |_,_=>ac
noncomputable def eqS:D->D->aq aU
 |.int i,.int j=>aa (decide (i=j))
 |.bl i,.bl j=>aa (decide (i=j))
 |.str i,.str j=>aa (decide (i=j))
 |.non,.non=>aa ai
 |.non,.int _=>aa ao|.int _,.non=>aa ao|.non,.bl _=>aa ao|.bl _,.non=>aa ao|.non,.str _=>aa ao|.str _,.non=>aa ao
 |.int _,.str _=>aa ao|.str _,.int _=>aa ao|.bl _,.str _=>aa ao|.str _,.bl _=>aa ao
 |_,_=>ac
noncomputable def eqD (x y:D):aq D:=(eqS x y).map D.bl
noncomputable def neD (x y:D):aq D:=(eqS x y).map fun b=>D.bl (!b)
theorem AY {u:V} {x y:D} {k:aU} (r1:Rep Γ K G v x) (r2:Rep Γ K G u y) (h:eqS x y=aa k):xg v u=ai/\decide (v=u)=k:=by
 unfold eqS at h;split at h<;>cases h
 .cases r1.int_inv;cases r2.int_inv;exact⟨rfl,by simp⟩
 .cases r1.bl_inv;cases r2.bl_inv;exact⟨rfl,by simp⟩
 .cases r1.str_inv;cases r2.str_inv;exact⟨rfl,by simp⟩
 .cases r1.non_inv;cases r2.non_inv;exact⟨rfl,by simp⟩
 .cases r1.non_inv;cases r2.int_inv;exact⟨rfl,by simp⟩
 .cases r1.int_inv;cases r2.non_inv;exact⟨rfl,by simp⟩
 .cases r1.non_inv;cases r2.bl_inv;exact⟨rfl,by simp⟩
 .cases r1.bl_inv;cases r2.non_inv;exact⟨rfl,by simp⟩
 .cases r1.non_inv;cases r2.str_inv;exact⟨rfl,by simp⟩
 .cases r1.str_inv;cases r2.non_inv;exact⟨rfl,by simp⟩
 .cases r1.int_inv;cases r2.str_inv;exact⟨rfl,by simp⟩
 .cases r1.str_inv;cases r2.int_inv;exact⟨rfl,by simp⟩
 .cases r1.bl_inv;cases r2.str_inv;exact⟨rfl,by simp⟩
 .cases r1.str_inv;cases r2.bl_inv;exact⟨rfl,by simp⟩
theorem Hm :fA Γ K eqD rEq:=by
 intro G H v u x y z gh r1 r2 h Q k;unfold eqD at h;cases e:eqS x y with
 |none=>rw[e] at h;cases h
 |some b=>
  rw[e] at h;cases h;obtain⟨h1,h2⟩:=AY r1 r2 e;exact⟨h1,by rw[h2];exact k _ G H (.refl gh) (.bl _)⟩
theorem L7 :fA Γ K neD rNe:=by
 intro G H v u x y z gh r1 r2 h Q k;unfold neD at h;cases e:eqS x y with
 |none=>rw[e] at h;cases h
 |some b=>
  rw[e] at h;cases h;obtain⟨h1,h2⟩:=AY r1 r2 e;exact⟨h1,by rw[h2];exact k _ G H (.refl gh) (.bl _)⟩
theorem Bt {g:D->D->aq D} {o:aj->aj->aU} (hg:∀x y z,g x y=aa z->∃i j,x=.int i/\y=.int j/\z=.bl (o i j)):fA Γ K g (rI0 fun i j=>V.bl (o i j)):=by intro G H v u x y z gh r1 r2 h Q k;obtain⟨i,j,rfl,rfl,rfl⟩:=hg x y z h;cases r1.int_inv;cases r2.int_inv;exact⟨_,_,rfl,rfl,k _ G H (.refl gh) (.bl _)⟩
theorem LS:OpR X (eD .LtE) (fun x y H Q=>∃i j,x=.str i/\y=.str j/\Q (.bl (!ltS j i)) H):=by intro pins s σ H x y v u Q I rx ry h;obtain⟨i,j,rfl,rfl,q⟩:=h;obtain⟨t,rfl⟩:=rx;obtain⟨t',rfl⟩:=ry;exact PySem.P.le_str (cR I q (by simp[ltS]))
theorem NJ :fA Γ K ltD (fun x y H Q=>rI0 (fun i j=>V.bl (decide (i<j))) x y H Q\/∃i j,x=.str i/\y=.str j/\Q (.bl (decide (i.cps.toList<j.cps.toList))) H):=by
 intro G H v u x y z gh r1 r2 h Q k;unfold ltD at h;split at h<;>cases h
 .cases r1.int_inv;cases r2.int_inv;exact .inl ⟨_,_,rfl,rfl,k _ G H (.refl gh) (.bl _)⟩
 .cases r1.str_inv;cases r2.str_inv;exact .inr ⟨_,_,rfl,rfl,k _ G H (.refl gh) (.bl _)⟩
theorem Gc :fA Γ K leD (fun x y H Q=>rI0 (fun i j=>V.bl (decide (i<=j))) x y H Q\/∃i j,x=.str i/\y=.str j/\Q (.bl (!ltS j i)) H):=by
 intro G H v u x y z gh r1 r2 h Q k;unfold leD at h;split at h<;>cases h
 .cases r1.int_inv;cases r2.int_inv;exact .inl ⟨_,_,rfl,rfl,k _ G H (.refl gh) (.bl _)⟩
 .cases r1.str_inv;cases r2.str_inv;exact .inr ⟨_,_,rfl,rfl,k _ G H (.refl gh) (.bl _)⟩
structure CmpD (Γ:Cn) (X:Cx) (op:CmpOp) (g:D->D->aq D):Prop where
 ex:∃r,OpR X (eD op) r/\fA Γ X.K g r
theorem mi:CmpD Γ X .Lt ltD:=⟨_,Kq.or K8,NJ⟩
theorem kU:CmpD Γ X .LtE leD:=⟨_,NN.or LS,Gc⟩
theorem nC:CmpD Γ X .Gt gtD:=⟨_,Op,Bt fun x y z h=>by unfold gtD at h;split at h<;>cases h;exact⟨_,_,rfl,rfl,rfl⟩⟩
theorem DN:CmpD Γ X .GtE geD:=⟨_,IW,Bt fun x y z h=>by unfold geD at h;split at h<;>cases h;exact⟨_,_,rfl,rfl,rfl⟩⟩
theorem ci:CmpD Γ X .Eq eqD:=⟨_,wx,Hm⟩
theorem oK:CmpD Γ X .NotEq neD:=⟨_,Jk,L7⟩
theorem jA {g:D->D->aq D} (h:CmpD Γ X op g) (ha:DE Γ X a fa) (hb:DE Γ X b fb) (hm:jI op b=ao):DE Γ X (.Compare a [op] [b] pos) (b2 g fa fb):=⟨by obtain⟨r,ho,hr⟩:=h.ex;exact(AU ho ha.1 hb.1 hm).imp (TD.two hr)⟩
noncomputable def chD (g g':D->D->aq D) (fa fb fc:FE):FE:=fun ρ=>(fa ρ).bind fun x=>(fb ρ).bind fun y=>(g x y).bind fun z=>match z with
 |.bl ai=>(fc ρ).bind fun w=>g' y w
 |.bl ao=>aa (.bl ao)
 |_=>ac
theorem TD.chain {g:D->D->aq D} (hr:fA Γ X.K g r) (hr':fA Γ X.K g' r'):∀σ H Q,TD Γ X.K (chD g g' fa fb fc) σ H Q->xh r r' (TD Γ X.K fa) (TD Γ X.K fb) (TD Γ X.K fc) σ H Q:=by
 rintro σ H Q ⟨G₀,H₀,G,ρ,d,A,h,k⟩;unfold chD at h;obtain⟨x,ha,h⟩:=oBd h;obtain⟨y,hb,h⟩:=oBd h;obtain⟨z,hz,h⟩:=oBd h;refine⟨G₀,H₀,G,ρ,x,A,ha,fun v G1 H1 s1 r1=>⟨G₀,H₀,G1,ρ,y,A.step s1,hb,fun u G2 H2 s2 r2=>?_⟩⟩;refine hr s2.gh (r1.mono s2.gg) r2 hz _ fun w G3 H3 s3 r3=>?_;split at h
 .cases r3.bl_inv;obtain⟨w,hc,h⟩:=oBd h;refine⟨ai,rfl,ig ⟨G₀,H₀,G3,ρ,w,((A.step s1).step s2).step s3,hc,fun q G4 H4 s4 r4=>?_⟩⟩;exact hr' s4.gh ((r2.mono s3.gg).mono s4.gg) r4 h Q fun w' G' H' s r=>k w' G' H' ((((s1.trans s2).trans s3).trans s4).trans s) r
 .cases r3.bl_inv;cases h;exact⟨ao,rfl,gr (k _ G3 H3 ((s1.trans s2).trans s3) (.bl _))⟩
 .cases h
theorem wb {g:D->D->aq D} (h:CmpD Γ X op g) (h':CmpD Γ X op' g') (ha:DE Γ X a fa) (hb:DE Γ X b fb) (hc:DE Γ X c fc) (hm:yv [op,op'] [b,c]=ao:=by with_unfolding_all rfl) :
  DE Γ X (.Compare a [op,op'] [b,c] pos) (chD g g' fa fb fc):=⟨by
 obtain⟨r,ho,hr⟩:=h.ex;obtain⟨r',ho',hr'⟩:=h'.ex;exact(Ja ho ho' ha.1 hb.1 hc.1 hm).imp (TD.chain hr hr')⟩
noncomputable def toB (f:FE):FT:=fun ρ=>(f ρ).bind fun d=>match d with
 |.bl b=>aa b
 |_=>ac
theorem TDt.val :∀σ H Q,TDt Γ X.K (toB f) σ H Q->TD Γ X.K f σ H fun x H'=>∃k,x=.bl k/\Q k H':=by rintro σ H Q ⟨G₀,H₀,G,ρ,b,A,h,k⟩;unfold toB at h;obtain⟨d,hd,h⟩:=oBd h;split at h<;>cases h;exact⟨G₀,H₀,G,ρ,_,A,hd,fun v G' H' s r=>⟨b,r.bl_inv,k G' H' s⟩⟩
theorem cb {g:D->D->aq D} (h:CmpD Γ X op g) (ha:DE Γ X a fa) (hb:DE Γ X b fb) (hm:jI op b=ao):DT Γ X (.Compare a [op] [b] pos) (toB (b2 g fa fb)):=⟨by obtain⟨r,ho,hr⟩:=h.ex;exact(oW ho ha.1 hb.1 hm).imp fun σ H Q q=>TD.two hr σ H _ (TDt.val σ H Q q)⟩
theorem M4 {g:D->D->aq D} (h:CmpD Γ X op g) (h':CmpD Γ X op' g') (ha:DE Γ X a fa) (hb:DE Γ X b fb) (hc:DE Γ X c fc) (hm:yv [op,op'] [b,c]=ao:=by with_unfolding_all rfl) :
  DT Γ X (.Compare a [op,op'] [b,c] pos) (toB (chD g g' fa fb fc)):=⟨by
 obtain⟨r,ho,hr⟩:=h.ex;obtain⟨r',ho',hr'⟩:=h'.ex;exact(MO ho ho' ha.1 hb.1 hc.1 hm).imp fun σ H Q q=>TD.chain hr hr' σ H _ (TDt.val σ H Q q)⟩
theorem bM (h:DE Γ X e f) (he:∀whole,isTrue e X.env whole=(do let v ←whole;iQ e.pos;fD [v] (truthy v)):=by intro _;rfl):DT Γ X e (toB f):=⟨(Dv h.1 he).imp TDt.val⟩
noncomputable def bh (f:FT):FT:=fun ρ=>(f ρ).map (!·)
noncomputable def gk (f g:FT):FT:=fun ρ=>(f ρ).bind fun b=>if b=ai then g ρ else aa ao
noncomputable def orT (f g:FT):FT:=fun ρ=>(f ρ).bind fun b=>if b=ai then aa ai else g ρ
variable {gt:FT} {bD:ab Expr}
theorem DW.dt (h:DW Γ X e ft):DT Γ X e ft:=⟨h.1.pt⟩
theorem bU (h:DT Γ X a ft):DT Γ X (.UnaryOp .Not a pos) (bh ft):=⟨(BI h.1).imp fun σ H Q=>by rintro⟨G₀,H₀,G,ρ,b,A,h,k⟩;unfold bh at h;obtain⟨c,hc,h⟩:=oMd h;exact⟨G₀,H₀,G,ρ,c,A,hc,fun G' H' s=>by show Q (!c) H';rw[h];exact k G' H' s⟩⟩
theorem uh (h:DT Γ X a ft):DW Γ X (.BoolOp .And [a] pos) ft:=⟨yn h.1⟩
theorem et (h:DT Γ X a ft):DW Γ X (.BoolOp .Or [a] pos) ft:=⟨Dj h.1⟩
theorem sX (h:DT Γ X a ft) (h':DW Γ X (.BoolOp .And (b::bD) pos) gt):DW Γ X (.BoolOp .And (a::b::bD) pos) (gk ft gt):=⟨(xn h.1 h'.1).imp fun σ H Q=>by
 rintro⟨G₀,H₀,G,ρ,r,A,h,k⟩;unfold gk at h;obtain⟨c,hc,h⟩:=oBd h;refine⟨G₀,H₀,G,ρ,c,A,hc,fun G1 H1 s1=>?_⟩;cases c with
 |true=>exact ig ⟨G₀,H₀,G1,ρ,r,A.step s1,by simpa using h,fun G' H' s=>k G' H' (s1.trans s)⟩
 |false=>
  rw[qZ qv] at h;cases h;exact gr (k _ _ s1)⟩
theorem dh (h:DT Γ X a ft) (h':DW Γ X (.BoolOp .Or (b::bD) pos) gt):DW Γ X (.BoolOp .Or (a::b::bD) pos) (orT ft gt):=⟨(BM h.1 h'.1).imp fun σ H Q=>by
 rintro⟨G₀,H₀,G,ρ,r,A,h,k⟩;unfold orT at h;obtain⟨c,hc,h⟩:=oBd h;refine⟨G₀,H₀,G,ρ,c,A,hc,fun G1 H1 s1=>?_⟩;cases c with
 |false=>exact gr ⟨G₀,H₀,G1,ρ,r,A.step s1,by simpa using h,fun G' H' s=>k G' H' (s1.trans s)⟩
 |true=>
  rw[qY rfl] at h;cases h;exact ig (k _ _ s1)⟩
noncomputable def cD (fa fb:FE):FE:=fun ρ=>(fa ρ).bind fun d=>match d with
 |.bl ai=>fb ρ
 |.bl ao=>aa (.bl ao)
 |_=>ac
noncomputable def l7 (fa:FE):FE:=fun ρ=>(fa ρ).bind fun d=>match d with
 |.bl b=>aa (.bl (!b))
 |_=>ac
theorem fT {op} (h:DE Γ X a fa):DE Γ X (.BoolOp op [a] pos) fa:=⟨Ng h.1⟩
theorem eM (ha:DE Γ X a fa) (hb:DE Γ X (.BoolOp .And (b::bD) pos) fb):DE Γ X (.BoolOp .And (a::b::bD) pos) (cD fa fb):=⟨(OM ha.1 hb.1).imp fun σ H Q=>by
 rintro⟨G₀,H₀,G,ρ,d,A,h,k⟩;unfold cD at h;obtain⟨x,hx,h⟩:=oBd h;refine⟨G₀,H₀,G,ρ,x,A,hx,fun v G1 H1 s1 r1=>?_⟩;split at h
 .cases r1.bl_inv;exact⟨ai,rfl,ig ⟨G₀,H₀,G1,ρ,d,A.step s1,h,fun w G' H' s r=>k w G' H' (s1.trans s) r⟩⟩
 .cases r1.bl_inv;cases h;exact⟨ao,rfl,gr (k _ G1 H1 s1 (.bl _))⟩
 .cases h⟩
theorem Ah (ha:DE Γ X a fa):DE Γ X (.UnaryOp .Not a pos) (l7 fa):=⟨(Ic ha.1).imp fun σ H Q=>by
 rintro⟨G₀,H₀,G,ρ,d,A,h,k⟩;unfold l7 at h;obtain⟨x,hx,h⟩:=oBd h;refine⟨G₀,H₀,G,ρ,x,A,hx,fun v G1 H1 s1 r1=>?_⟩;split at h
 .cases r1.bl_inv;cases h;exact⟨_,rfl,k _ G1 H1 s1 (.bl _)⟩
 .cases h⟩
noncomputable def af:FA:=fun _=>aa []
noncomputable def ae (fa:FE) (fr:FA):FA:=fun ρ=>(fa ρ).bind fun x=>(fr ρ).map (x::·)
theorem ar:DA Γ X [] af:=⟨gc.imp fun σ H Q=>by rintro⟨G₀,H₀,G,ρ,d,A,h,k⟩;cases h;exact k _ G H (.refl A.gh) .nil⟩
theorem al (ha:DE Γ X e fa) (hr:DA Γ X es fr) (hs:aH (e::es) X.env=(ao,eval e X.env)::aH es X.env:=by rfl):DA Γ X (e::es) (ae fa fr):=⟨(eY ha.1 hr.1 hs).imp fun σ H Q=>by rintro⟨G₀,H₀,G,ρ,d,A,h,k⟩;unfold ae at h;obtain⟨x,hx,h⟩:=oBd h;obtain⟨xs,hxs,h⟩:=oMd h;subst h;exact⟨G₀,H₀,G,ρ,x,A,hx,fun v G1 H1 s1 r1=>⟨G₀,H₀,G1,ρ,xs,A.step s1,hxs,fun vs G2 H2 s2 r2=>k _ G2 H2 (s1.trans s2) (.cons (r1.mono s2.gg) r2)⟩⟩⟩
noncomputable def szF (fr:FA):FA:=fun ρ=>(fr ρ).bind fun l=>if l.length<=aK then aa l else ac
noncomputable def aL (fr:FA):FE:=fun ρ=>(fr ρ).map D.lst
noncomputable def b5 (fr:FA):FE:=fun ρ=>(fr ρ).map D.tup
theorem DO.de (h:DO Γ X e fr):DE Γ X e (aL fr):=⟨h.1.imp fun σ H Q=>by rintro⟨G₀,H₀,G,ρ,d,A,h,k⟩;unfold aL at h;obtain⟨ds,hd,rfl⟩:=oMd h;exact⟨G₀,H₀,G,ρ,ds,A,hd,fun p vs G' H' s hp r=>ic s.gh r (fun w G2 H2 s2 r2=>k w G2 H2 (s.trans s2) r2) p hp⟩⟩
theorem cg (h:DA Γ X es fr):DO Γ X (.List es pos) (szF fr):=⟨(Av h.1).imp fun σ H Q=>by
 rintro⟨G₀,H₀,G,ρ,d,A,h,k⟩;unfold szF at h;obtain⟨ds,hd,h⟩:=oBd h;split at h
 .rename_i hz;cases h;exact⟨G₀,H₀,G,ρ,d,A,hd,fun vs G' H' s r=>⟨by rw[r.length];exact hz,fun p hp=>k p vs G' H' s hp r⟩⟩
 .cases h⟩
theorem c9 {x1} (h:DA Γ X es fr):DE Γ X (.Tuple es x1 pos) (b5 (szF fr)):=⟨(xL h.1).imp fun σ H Q=>by
 rintro⟨G₀,H₀,G,ρ,d,A,h,k⟩;unfold b5 szF at h;obtain⟨ds',hd',rfl⟩:=oMd h;obtain⟨ds,hd,h⟩:=oBd hd';split at h
 .rename_i hz;cases h;exact⟨G₀,H₀,G,ρ,ds',A,hd,fun vs G' H' s r=>⟨by rw[r.length];exact hz,uA s.gh r fun w G2 H2 s2 r2=>k w G2 H2 (s.trans s2) r2⟩⟩
 .cases h⟩
noncomputable def wN (Γ:Cn) (K:aR) (g:ab D->aq D) (r:ab V->Hp->VK->Prop):Prop:=
 ∀{G H vs ds z},bp G H->Reps Γ K G vs ds->g ds=aa z->∀Q:VK,(∀w G' H',Step G H G' H'->Rep Γ K G' w z->Q w H')->r vs H Q
noncomputable def cF (g:ab D->aq D) (fr:FA):FE:=fun ρ=>(fr ρ).bind g
theorem TD.call {g:ab D->aq D} {r:ab V->Hp->VK->Prop} (hr:wN Γ X.K g r):∀σ H Q,TD Γ X.K (cF g fr) σ H Q->tCB r (TDa Γ X.K fr) σ H Q:=by rintro σ H Q ⟨G₀,H₀,G,ρ,d,A,h,k⟩;unfold cF at h;obtain⟨ds,hd,h⟩:=oBd h;exact⟨G₀,H₀,G,ρ,ds,A,hd,fun vs G1 H1 s1 r1=>hr s1.gh r1 h Q fun w G' H' s r=>k w G' H' (s1.trans s) r⟩
structure BltD (Γ:Cn) (X:Cx) (id:String) (g:ab D->aq D):Prop where
 ex:∃r,gn X (.builtin id) r/\wN Γ X.K g r
structure TyD (Γ:Cn) (X:Cx) (id:String) (g:ab D->aq D):Prop where
 ex:∃r,gn X (.type id) r/\wN Γ X.K g r
theorem bE {id:String} {g:ab D->aq D} (hc:BltD Γ X id g) (hg:Gl X x) (hm:X.mg x=ac) (hv:ky x=aa (.builtin id)) (ha:DA Γ X (e::es) fr) (hn:x≠"__name__":=by decide) (hdb:(x==("__debug__":ah))=ao:=by decide)
  (he:aH (e::es) X.env=(ao,eval e X.env)::aH es X.env:=by rfl) (hpl:(ca pos (aH es X.env)).any (·.1)=ao:=by rfl):DE Γ X (.Call (.Name x p) (e::es) [] pos) (cF g fr):=⟨by
 obtain⟨r,h1,h2⟩:=hc.ex;exact(wk h1 hg hm hv ha.1 hn hdb he hpl).imp (TD.call h2)⟩
theorem iC {id:String} {g:ab D->aq D} (hc:TyD Γ X id g) (hg:Gl X x) (hm:X.mg x=ac) (hv:ky x=aa (.type id)) (ha:DA Γ X (e::es) fr) (hn:x≠"__name__":=by decide) (hdb:(x==("__debug__":ah))=ao:=by decide)
  (he:aH (e::es) X.env=(ao,eval e X.env)::aH es X.env:=by rfl) (hpl:(ca pos (aH es X.env)).any (·.1)=ao:=by rfl):DE Γ X (.Call (.Name x p) (e::es) [] pos) (cF g fr):=⟨by
 obtain⟨r,h1,h2⟩:=hc.ex;exact(Bf h1 hg hm hv ha.1 hn hdb he hpl).imp (TD.call h2)⟩
theorem e6 {n:String} (hg:Gl X x) (hm:X.mg x=ac) (hv:ky x=aa (.type n)) (hn:x≠"__name__":=by decide) (hd:(x==("__debug__":ah))=ao:=by decide):DE Γ X (.Name x pos) (vC (.ty n)):=TD.const (fun _=>.ty n) (GU hg hm hv rfl hn hd)
theorem Reps.one (r:Reps Γ K G vs [d]):∃v,vs=[v]/\Rep Γ K G v d:=by
 cases r with
 |cons h t=>cases t;exact⟨_,rfl,h⟩
theorem Reps.two {d':D} (r:Reps Γ K G vs [d,d']):∃v u,vs=[v,u]/\Rep Γ K G v d/\Rep Γ K G u d':=by
 cases r with
 |cons h t=>cases t with
  |cons h2 t2=>cases t2;exact⟨_,_,rfl,h,h2⟩
noncomputable def Re:ab D->aq D
 |[.int i]=>aa (.int (if i<0 then -i else i))
 |_=>ac
noncomputable def Rm:ab D->aq D
 |[.int i,.int j]=>aa (.int (if j > i then j else i))
 |_=>ac
noncomputable def lr:ab D->aq D
 |[.int i,.int j]=>aa (.int (if j<i then j else i))
 |_=>ac
theorem t5 (hc:X.calm=ai):BltD Γ X "min" lr:=⟨_,ID hc,fun {G H vs ds z} gh r h Q k=>by unfold lr at h;split at h<;>cases h;obtain⟨v,u,rfl,r1,r2⟩:=r.two;cases r1.int_inv;cases r2.int_inv;exact⟨_,_,rfl,k _ G H (.refl gh) (.int _)⟩⟩
noncomputable def bS:ab D->aq D
 |[.str x]=>if x.length<=aK then aa (.int (x.length:ag)) else ac
 |[.lst l]=>aa (.int (l.length:ag))
 |[.tup l]=>aa (.int (l.length:ag))
 |[.scr l]=>aa (.int (l.length:ag))
 |_=>ac
theorem cP:BltD Γ X "len" bS:=⟨_,K',fun {G H vs ds z} gh r h Q k=>by
 unfold bS at h;split at h
 .split at h
  .cases h;obtain⟨v,rfl,r1⟩:=r.one;cases r1.str_inv;exact⟨_,_,rfl,⟨by assumption,rfl⟩,k _ G H (.refl gh) (.int _)⟩
  .cases h
 .cases h;obtain⟨v,rfl,r1⟩:=r.one;obtain⟨a,vs,rfl,ha,rv⟩:=r1.lst_inv;exact⟨_,_,rfl,.inl ⟨vs,.inl (.inl (gh _ _ ha)),rfl⟩,k _ G H (.refl gh) (by rw[rv.length];exact .int _)⟩
 .cases h;obtain⟨v,rfl,r1⟩:=r.one;obtain⟨a,vs,rfl,ha,rv⟩:=r1.tup_inv;exact⟨_,_,rfl,.inr ⟨vs,.inl (.inl (gh _ _ ha)),rfl⟩,k _ G H (.refl gh) (by rw[rv.length];exact .int _)⟩
 .cases h;obtain⟨v,rfl,r1⟩:=r.one;obtain⟨a,rfl,ha⟩:=r1.scr_inv;exact⟨_,_,rfl,.inl ⟨_,gh.seq ha,rfl⟩,k _ G H (.refl gh) (by rw[qe];exact .int _)⟩
 .cases h⟩
noncomputable def tyD:D->aq String
 |.non=>aa "NoneType"
 |.bl _=>aa "bool"
 |.int _=>aa "int"
 |.str _=>aa "str"
 |.lst _=>aa "list"
 |.tup _=>aa "tuple"
 |.dk _=>aa "dict"
 |.dt _=>aa "dict"
 |_=>ac
noncomputable def fO (t c:String):aq aU:=if (lC t==lC c)=ai then aa ai else if PySem.W.kitMeta c=ai then yR (fun x=>x.contains (lC c)) (PySem.fastBuiltinMro t) else ac
noncomputable def c6:ab D->aq D
 |[d,.ty c]=>(tyD d).bind fun t=>(fO t c).map D.bl
 |_=>ac
theorem NF {t:String} (gh:bp G H) (r:Rep Γ K G v d) (h:tyD d=aa t):TyOf K H v (.type t):=by
 unfold tyD at h;split at h<;>cases h
 .cases r.non_inv;exact .non
 .cases r.bl_inv;exact .bl _
 .cases r.int_inv;exact .int _
 .cases r.str_inv;exact .str _
 .obtain⟨a,vs,rfl,ha,_⟩:=r.lst_inv;exact .lst (gh _ _ ha)
 .obtain⟨a,vs,rfl,ha,_⟩:=r.tup_inv;exact .tup (gh _ _ ha)
 .cases r with
  |dk h _ _=>exact .dK (gh _ _ h)
 .cases r with
  |dt h _ _=>exact .dT (gh _ _ h)
theorem fg:BltD Γ X "isinstance" c6:=by
 refine⟨fun vs H Q=>∃v t c b,vs=[v,.ty c]/\TyOf X.K H v (.type t)/\Pn X.K (.type t) (.type c)=aa b/\Q (.bl b) H,?_,?_⟩
 .intro pins s σ H xs us Q I r h;obtain⟨v,t,c,b,rfl,ty,hk,q⟩:=h;obtain⟨u,w',rfl,r1,r2⟩:=B5 r;cases r2;exact Gg I r1 ty hk fun tk=>⟨.bl b,H,I.tok tk,rfl,q⟩
 .intro G H vs ds z gh r h Q k;unfold c6 at h;split at h
  .obtain⟨t,ht,h⟩:=oBd h;obtain⟨b,hb,rfl⟩:=oMd h;obtain⟨v,u,rfl,r1,r2⟩:=r.two;cases r2;exact⟨v,t,_,b,rfl,NF gh r1 ht,hb,k _ G H (.refl gh) (.bl _)⟩
  .cases h
end
variable {β:Type} {fo:FE}
section
theorem Reps.atI {K:aR} {G:Hp} {vs:ab V} {ds:ab D} {i:aj} {d:D} (r:Reps Γ K G vs ds) (h:L2.atI ds i=aa d):∃v,L2.atI vs i=aa v/\Rep Γ K G v d:=by
 unfold L2.atI at h ⊢;rw[r.length];cases e:ixN ds.length i with
 |none=>rw[e] at h;cases h
 |some j=>
  rw[e] at h;obtain⟨v,h1,h2⟩:=r.get (i:=j) (d:=d) h;exact⟨v,h1,h2⟩
theorem Ip (g:α->β) (xs:ab α) (i:aj):L2.atI (xs.map g) i=(L2.atI xs i).map g:=by
 unfold L2.atI;rw[qe];cases ixN xs.length i with
 |none=>rfl
 |some j=>simp
noncomputable def ixD:D->D->aq D
 |.lst l,.int i=>atI l i
 |.tup l,.int i=>atI l i
 |.scr l,.int i=>(atI l i).map D.int
 |.str x,.int i=>if x.length<=aK then (atI x.cps.toList i).map fun c=>D.str ⟨#[c]⟩ else ac
 |_,_=>ac
theorem EE :fA Γ K ixD (rIx K):=by
 intro G H v u x y z gh r1 r2 h Q k;unfold ixD at h;split at h
 .obtain⟨a,vs,rfl,ha,rv⟩:=r1.lst_inv;cases r2.int_inv;obtain⟨w,hw,rw'⟩:=rv.atI h;exact .inl ⟨a,vs,_,w,rfl,rfl,.inl (.inl (gh _ _ ha)),hw,k w G H (.refl gh) rw'⟩
 .obtain⟨a,vs,rfl,ha,rv⟩:=r1.tup_inv;cases r2.int_inv;obtain⟨w,hw,rw'⟩:=rv.atI h;exact .inr (.inl ⟨a,vs,_,w,rfl,rfl,.inl (.inl (gh _ _ ha)),hw,k w G H (.refl gh) rw'⟩)
 .obtain⟨a,rfl,ha⟩:=r1.scr_inv;cases r2.int_inv;obtain⟨n,hn,rfl⟩:=oMd h;exact .inl ⟨a,_,_,.int n,rfl,rfl,gh.seq ha,by rw[Ip,hn];rfl,k _ G H (.refl gh) (.int _)⟩
 .split at h
  .cases r1.str_inv;cases r2.int_inv;obtain⟨n,hn,rfl⟩:=oMd h;exact .inr (.inr ⟨_,_,n,rfl,rfl,by assumption,hn,k _ G H (.refl gh) (.str _)⟩)
  .cases h
 .cases h
theorem aZ (ha:DE Γ X a fa) (hb:DE Γ X b fb) (hs:tV b:=by intro _ _;rfl):DE Γ X (.Subscript a b pos) (b2 ixD fa fb):=⟨(gK gY ha.1 hb.1 hs).imp (TD.two EE)⟩
noncomputable def fB (xs:ab α) (lo hi:aq aj):ab α:=(xs.drop (HT.sIx xs.length 0 lo)).take (HT.sIx xs.length xs.length hi-HT.sIx xs.length 0 lo)
theorem J7 (g:α->β) (xs:ab α) (lo hi:aq aj):fB (xs.map g) lo hi=(fB xs lo hi).map g:=by unfold fB;simp
theorem Reps.cut (r:Reps Γ K G vs ds) (lo hi:aq aj):Reps Γ K G (ly vs lo hi) (fB ds lo hi):=by unfold ly fB;rw[r.length];exact(r.drop _).take _
noncomputable def jq (x:ah) (lo hi:aq aj):ah:=⟨(fB x.cps.toList lo hi).toArray⟩
theorem BU (lo hi:aq aj) (n:ag):yS lo hi 1 n=(di (HT.sIx n n hi-HT.sIx n 0 lo)).map (HT.sIx n 0 lo+·):=by
 rw[←PH];unfold yS;have h1:∀(o:aq aj) (d:ag),d<=n->(match o with|none=>(d:aj)|some i=>if (1:aj) > 0 then max 0 (min (if i<0 then i+(n:aj) else i) n) else max (-1) (min (if i<0 then i+(n:aj) else i) ((n:aj)-1)))=((HT.sIx n d o:ag):aj):=fun o d hd=>by
  cases o with
  |none=>simp[HT.sIx]
  |some i=>
   simp only[HT.sIx,show(1:aj) > 0 by decide,dn];by_cases h:i<0
   .simp only[h,dn];omega
   .simp only[h,dF];omega
 have e0:=h1 lo 0 (fu _);have e1:=h1 hi n (qy _);rw[←e0,←e1];rfl
theorem Am (x:ah) (lo hi:aq aj):Fn x lo hi=jq x lo hi:=by
 have key:(yS lo hi 1 x.length).filterMap (x.cps[·]?)=fB x.cps.toList lo hi:=by rw[BU,yE];unfold fB;rw[show x.cps.toList.length=x.length by simp[gF]]
 unfold Fn jq;split
 .rename_i h;rw[←key];have hl:(yS lo hi 1 x.length).length=x.length:=by simpa using h
  rw[BU] at hl ⊢;rw[yE];rw[qe,qW] at hl;have hb:HT.sIx x.length x.length hi<=x.length:=by
   cases hi with
   |none=>simp[HT.sIx]
   |some i=>simp only[HT.sIx];split<;>omega
  have h0:HT.sIx x.length 0 lo=0\/x.length=0:=by omega
  have hx:x.cps.toList.length=x.length:=by simp[gF]
  have e:(x.cps.toList.drop (HT.sIx x.length 0 lo)).take (HT.sIx x.length x.length hi-HT.sIx x.length 0 lo)=x.cps.toList:=by
   rcases h0 with h0|h0
   .rw[h0,lN];rw[h0] at hl;exact vh (by omega)
   .have:x.cps.toList=[]:=List.length_eq_zero_iff.mp (by omega);rw[this];simp
  rw[e]
 .rw[key]
noncomputable def pN:bd->aq (aq aj):=fun _=>aa ac
noncomputable def pS (f:FE):bd->aq (aq aj):=fun ρ=>(f ρ).bind fun d=>match d with
 |.int i=>aa (aa i)
 |_=>ac
noncomputable def TDp (Γ:Cn) (K:aR) (f:bd->aq (aq aj)):TO:=fun σ H Q=>∃G₀ H₀ G ρ o,At Γ K G₀ H₀ G H ρ σ/\f ρ=aa o/\∀G' H',Step G H G' H'->Q o H'
structure DP (Γ:Cn) (X:Cx) (e:aq Expr) (f:bd->aq (aq aj)):Prop where
 out:PO X e (TDp Γ X.K f)
theorem pD:DP Γ X ac pN:=⟨fun pins s σ H Q I ⟨G₀,H₀,G,ρ,o,A,h,k⟩=>by cases h;exact yh pins s σ H Q I (k G H (.refl A.gh))⟩
theorem pB (h:DE Γ X e f):DP Γ X (aa e) (pS f):=⟨fun pins s σ H Q I ⟨G₀,H₀,G,ρ,o,A,q,k⟩=>by unfold pS at q;obtain⟨d,hd,q⟩:=oBd q;split at q<;>cases q;exact ye h.1 pins s σ H Q I ⟨G₀,H₀,G,ρ,_,A,hd,fun v G' H' s r=>⟨_,r.int_inv,k G' H' s⟩⟩⟩
theorem Dy:SlR X (fun x lo hi H Q=>∃z,x=.str z/\z.length<=aK/\Q (.str (jq z lo hi)) H):=by
 intro pins s σ H x v vl vu lo hi sl Q I rx hs pl pu h;obtain⟨z,rfl,hz,q⟩:=h;obtain⟨t,rfl⟩:=rx;refine⟨"str",_,PySem.F.slot_str_getitem.lookup,mM _ _ _,?_⟩;obtain⟨l,rfl,el⟩:∃l:aq (aj×Tok),vl=partValue l/\l.map (·.1)=lo:=by
  cases pl with
  |none=>exact⟨ac,rfl,rfl⟩
  |int i t=>exact⟨aa (i,t),rfl,rfl⟩
 obtain⟨u,rfl,eu⟩:∃l:aq (aj×Tok),vu=partValue l/\l.map (·.1)=hi:=by
  cases pu with
  |none=>exact⟨ac,rfl,rfl⟩
  |int i t=>exact⟨aa (i,t),rfl,rfl⟩
 refine wpAny_getItem_str_slice (l:=l) (u:=u) (st:=ac) hs rfl ?_;have e:(if ((yR (fun x=>x.fst) (ac:aq (aj×Tok))).getD 1==1 && (slicePicked z l u ac).length==z.length)=ai then z else {cps:=(List.filterMap (fun x=>z.cps[x]?) (slicePicked z l u ac)).toArray})=jq z lo hi:=by
  have e0:Fn z (l.map (·.1)) (u.map (·.1))=jq z lo hi:=by rw[el,eu];exact Am z lo hi
  exact e0
 refine post_val_or_str ⟨?_,fun t' k=>?_⟩
 .rw[e,←Am];exact qP (Txt.slice_le z _ _) hz
 .rw[e];exact⟨.str _,H,I.tok k,⟨_,rfl⟩,q⟩
noncomputable def nr (lo hi:aq aj):D->aq D
 |.lst l=>aa (.lst (fB l lo hi))
 |.scr l=>aa (.lst ((fB l lo hi).map D.int))
 |.tup l=>if HT.sIx l.length 0 lo=0/\HT.sIx l.length l.length hi=l.length then ac else aa (.tup (fB l lo hi))
 |.str x=>if x.length<=aK then aa (.str (jq x lo hi)) else ac
 |_=>ac
noncomputable def slF (f:FE) (fl fh:bd->aq (aq aj)):FE:=fun ρ=>(f ρ).bind fun d=>(fl ρ).bind fun l=>(fh ρ).bind fun h=>nr l h d
variable {fl fh:bd->aq (aq aj)} {lo hi:aq Expr}
theorem pZ (he:DE Γ X e f) (hl:DP Γ X lo fl) (hh:DP Γ X hi fh):DE Γ X (.Subscript e (.Slice lo hi ac p2) pos) (slF f fl fh):=⟨(xj (Bd.or (Kv.or Dy)) he.1 hl.1 hh.1).imp fun σ H Q=>by
 rintro⟨G₀,H₀,G,ρ,d,A,h,k⟩;unfold slF at h;obtain⟨x,hx,h⟩:=oBd h;obtain⟨l,hl,h⟩:=oBd h;obtain⟨u,hu,h⟩:=oBd h;refine⟨G₀,H₀,G,ρ,x,A,hx,fun v G1 H1 s1 r1=>⟨G₀,H₀,G1,ρ,l,A.step s1,hl,fun G2 H2 s2=>⟨G₀,H₀,G2,ρ,u,(A.step s1).step s2,hu,fun G3 H3 s3=>?_⟩⟩⟩;have s:=(s1.trans s2).trans s3;have r:=r1.mono (s2.gg.trans s3.gg);have gh:=s3.gh;unfold nr at h;split at h
 .cases h;obtain⟨a,vs,rfl,ha,rv⟩:=r.lst_inv;exact .inl ⟨a,vs,rfl,.inl (.inl (gh _ _ ha)),ic gh (rv.cut l u) fun w G4 H4 s4 r4=>k w G4 H4 (s.trans s4) r4⟩
 .cases h;obtain⟨a,rfl,ha⟩:=r.scr_inv;refine .inl ⟨a,_,rfl,gh.seq ha,ic gh ?_ fun w G4 H4 s4 r4=>k w G4 H4 (s.trans s4) r4⟩;show Reps Γ X.K G3 (fB _ l u) _;rw[J7];exact Reps.ints _
 .split at h
  .cases h
  .rename_i hw;cases h;obtain⟨a,vs,rfl,ha,rv⟩:=r.tup_inv;exact .inr (.inl ⟨a,vs,rfl,.inl (.inl (gh _ _ ha)),by rw[rv.length];exact hw,uA gh (rv.cut l u) fun w G4 H4 s4 r4=>k w G4 H4 (s.trans s4) r4⟩)
 .split at h
  .cases h;cases r.str_inv;exact .inr (.inr ⟨_,rfl,by assumption,k _ _ _ s (.str _)⟩)
  .cases h
 .cases h⟩
structure MtD (Γ:Cn) (X:Cx) (T id:String) (g:D->ab D->aq D):Prop where
 ex:∃r,MtR X id r/\∀{G H v x vs ds z},bp G H->Rep Γ X.K G v x->Reps Γ X.K G vs ds->g x ds=aa z->∀Q:VK,(∀w G' H',Step G H G' H'->Rep Γ X.K G' w z->Q w H')->r v vs H Q
 ty:∀{G H v x ds z},bp G H->Rep Γ X.K G v x->g x ds=aa z->tyV X.K T v H
noncomputable def mF (g:D->ab D->aq D) (f:FE) (fr:FA):FE:=fun ρ=>(f ρ).bind fun d=>(fr ρ).bind fun ds=>g d ds
theorem xp {T id:String} {g:D->ab D->aq D} (pa:Ff T) (slot:P3 T name id) (hty:typeOf (.builtin id)=pure (.type "method_descriptor")) (hm:MtD Γ X T id g) (ho:DE Γ X o fo) (ha:DA Γ X (e::es) fr)
  (hbase:iU o name X.env (eval o X.env)=eval o X.env:=by rfl)
  (hfew:((ca cpos (aH (e::es) X.env)).all (fun x=>!x.1) && (gC cpos (gD [] X.env)).all (fun x=>x.1.isSome)
   && decide ((e::es).length+([]:ab iV).length+(if ([]:ab iV).isEmpty then 0 else 1)<30))=ai:=by rfl)
  (hline:(apos.endLine==cpos.line)=ai:=by rfl) (hs:aH (e::es) X.env=(ao,eval e X.env)::aH es X.env:=by rfl) (hplain:(ca cpos (aH es X.env)).any (·.1)=ao:=by rfl) :
  DE Γ X (.Call (.Attribute o name apos) (e::es) [] cpos) (mF g fo fr):=⟨by
 obtain⟨r,h1,h2⟩:=hm.ex;refine(lU pa slot hty h1 ho.1 ha.1 hbase hfew hline hs hplain).imp fun σ H Q=>?_;rintro⟨G₀,H₀,G,ρ,d,A,h,k⟩;unfold mF at h;obtain⟨x,hx,h⟩:=oBd h;obtain⟨ds,hd,h⟩:=oBd h;exact⟨G₀,H₀,G,ρ,x,A,hx,fun v G1 H1 s1 r1=>⟨hm.ty s1.gh r1 h,G₀,H₀,G1,ρ,ds,A.step s1,hd,fun vs G2 H2 s2 r2=>h2 s2.gh (r1.mono s2.gg) r2 h Q fun w G3 H3 s3 r3=>k w G3 H3 ((s1.trans s2).trans s3) r3⟩⟩⟩
noncomputable def mr:ab D->aq (ab ah)
 |[]=>aa []
 |.str x::r=>(mr r).map (x::·)
 |_::_=>ac
noncomputable def rC:D->ab D->aq D
 |.str sep,[.lst l]=>(mr l).bind fun ys=>if (ys.map (·.length)).sum+ys.length*sep.length<=16777216 then aa (.str (rW sep ys)) else ac
 |_,_=>ac
theorem Cy {K:aR} {G:Hp}:∀{vs:ab V} {ds:ab D} {ys:ab ah},Reps Γ K G vs ds->mr ds=aa ys->vs=ys.map V.str
 |_,[],ys,r,h=>by cases r;cases h;rfl
 |_,d::ds,ys,.cons h1 h2,h=>by
  cases d with
  |str x=>
   obtain⟨zs,hz,rfl⟩:=oMd (show(mr ds).map (x::·)=aa ys from h);rw[h1.str_inv,Cy h2 hz];rfl
  |_=>cases h
theorem BZ:∀{ys:ab ah} {us:ab av},bj (ys.map V.str) us->StrsAre us ys
 |[],_,r=>by rw[qR] at r;cases r;exact .nil
 |y::ys,_,r=>by
  rw[qp] at r;cases r with
  |cons r1 r2=>
   obtain⟨t,e⟩:=r1;subst e;exact .cons y t (BZ r2)
theorem KG:MtD Γ X "str" "str.join" rC:=by
 refine⟨⟨fun v vs H Q=>∃sep a ys,v=.str sep/\vs=[.ref a]/\H a=aa (.lst (ys.map V.str))/\(ys.map (·.length)).sum+ys.length*sep.length<=16777216/\Q (.str (rW sep ys)) H,?_,?_⟩,?_⟩
 .intro pins s σ H x xs v us Q I rx rs h;obtain⟨sep,a,ys,rfl,rfl,ha,hz,q⟩:=h;obtain⟨t,rfl⟩:=rx;obtain⟨u,rfl,ru⟩:=fU rs;cases ru;obtain⟨its,rv,pl,_⟩:=I.list (.inl (.inl ha));exact join_list pl.isList (BZ rv) hz fun t' k=>⟨.str _,H,I.tok k,⟨_,rfl⟩,q⟩
 .intro G H v x vs ds z gh r1 r2 h Q k;unfold rC at h;split at h
  .obtain⟨ys,hy,h⟩:=oBd h;split at h
   .cases h;cases r1.str_inv;obtain⟨v,rfl,r3⟩:=r2.one;obtain⟨a,ws,rfl,ha,rw'⟩:=r3.lst_inv;refine⟨_,a,ys,rfl,rfl,?_,by assumption,k _ G H (.refl gh) (.str _)⟩;rw[←Cy rw' hy];exact gh _ _ ha
   .cases h
  .cases h
 .intro G H v x ds z gh r h;unfold rC at h;split at h
  .cases r.str_inv;exact rfl
  .cases h
noncomputable def nv:ab D->aq (ab aU)
 |[]=>aa []
 |.bl x::r=>(nv r).map (x::·)
 |_::_=>ac
theorem BA {K:aR} {G:Hp}:∀{vs:ab V} {ds:ab D} {ys:ab aU},Reps Γ K G vs ds->nv ds=aa ys->vs=ys.map V.bl
 |_,[],ys,r,h=>by cases r;cases h;rfl
 |_,d::ds,ys,.cons h1 h2,h=>by
  cases d with
  |bl x=>
   obtain⟨zs,hz,rfl⟩:=oMd (show(nv ds).map (x::·)=aa ys from h);rw[h1.bl_inv,BA h2 hz];rfl
  |_=>cases h
noncomputable def e9:ab D->aq D
 |[.lst l]=>(nv l).map fun bs=>D.bl (bs.all id)
 |_=>ac
theorem zM:∀{bs:ab aU} {us:ab av},bj (bs.map V.bl) us->us=bs.map lA
 |[],_,r=>by rw[qR] at r;cases r;rfl
 |y::ys,_,r=>by
  rw[qp] at r;cases r with
  |cons r1 r2=>cases r1;rw[zM r2];rfl
theorem GJ (bs:ab aU):(di bs.length).all (fun i=>bs.getD i ao)=bs.all id:=by
 rw[rG,rY,rY];constructor
 .intro h x hx;obtain⟨i,hi,e⟩:=Fp.mp hx;have:=h i (fX.mpr hi);simp[Fq,hi] at this;rw[←e];exact this
 .intro h i hi;have hi':=fX.mp hi;have:=h (bs[i]) (P4 hi');simp[Fq,hi'];exact this
theorem LN {bs:ab aU} :TruthOf prog w A (fun i v=>(bs.map lA).toArray[i]?=aa v) (fun i=>bs.getD i ao):=fun i v s Q E hP hQ=>by
 have hP':(bs.map lA)[i]?=aa v:=by simpa using hP
 rw[ql] at hP';obtain⟨b,hb,rfl⟩:=oMd hP';have:bs.getD i ao=b:=by simp[Fq,hb]
 have hQ':Q (bs.getD i ao) s:=hQ;rw[this] at hQ';exact lE hQ'
theorem gP (hc:X.calm=ai):BltD Γ X "all" e9:=by
 refine⟨fun vs H Q=>∃(a:au) (bs:ab aU),vs=[.ref a]/\H a=aa (.lst (bs.map V.bl))/\Q (.bl (bs.all id)) H,?_,?_⟩
 .intro pins s σ H xs us Q I r h;obtain⟨a,bs,rfl,ha,q⟩:=h;obtain⟨u,rfl,ru⟩:=fU r;cases ru;obtain⟨its,rv,pl,_⟩:=I.list (.inl (.inl ha));have e:=zM rv;subst e;refine call_all_walk (og pl.isList ?_);have ne:a≠s.heap.objs.size:=by obtain⟨o,_,h1,_⟩:=pl;exact qG (qx h1)
  refine⟨s.heap.objs.size,_,_,_,_,_,fun i=>bs.getD i ao,rfl,Ft (A:=X.A.in1) (show X.A.in1.handled=ac from I.ok.hd hc) s.heap.objs.size a ne (bs.map lA).toArray,⟨⟨_,qJ _ rfl,rfl,rfl⟩,pl.isList.at fun o q=>qw _ q⟩,LN,fun h' tk hk=>?_⟩;have e2:(bs.map lA).toArray.size=bs.length:=by simp
  rw[e2,GJ];refine⟨.bl _,H,I.kept fun b o z=>hk b o ?_ (qw _ z),rfl,q⟩;intro z';have:b=s.heap.objs.size:=by simpa using z'
  exact bx (qx z) (by rw[this];exact rE _)
 .intro G H vs ds z gh r h Q k;unfold e9 at h;split at h
  .obtain⟨bs,hb,rfl⟩:=oMd h;obtain⟨v,rfl,r1⟩:=r.one;obtain⟨a,ws,rfl,ha,rw'⟩:=r1.lst_inv;refine⟨a,bs,rfl,?_,k _ G H (.refl gh) (.bl _)⟩;rw[←BA rw' hb];exact gh _ _ ha
  .cases h
end
structure Yd (Γ:Cn) (K:aR) (J:It) (G:Hp) (ds:ab D):Prop where
 go:∀(i:ag) d G2 H2,ds[i]?=aa d->bp G G2->bp G2 H2->J.go i H2/\∀x H3,J.yld i H2 x H3->∃G3,Step G2 H2 G3 H3/\Rep Γ K G3 x d
 stop:∀G2 H2,bp G G2->bp G2 H2->J.stop ds.length H2
noncomputable def TDi (Γ:Cn) (K:aR) (f:FA):TI:=fun σ H R=>∃G₀ H₀ G ρ ds,At Γ K G₀ H₀ G H ρ σ/\f ρ=aa ds/\∀J G' H',Step G H G' H'->Yd Γ K J G' ds->R J H'
structure DI (Γ:Cn) (X:Cx) (tg e:Expr) (f:FA):Prop where
 out:PI X tg e (TDi Γ X.K f)
theorem PI.imp {t t':TI} (h:PI X tg e t) (i:∀σ H R,t' σ H R->t σ H R):PI X tg e t':=fun pins s σ H R I q=>h pins s σ H R I (i _ _ _ q)
variable {fi:FA} {ts:ab Expr} {gs:FGs} {fe:FE}
section
theorem MG {a:au} (h:G a=aa (.tup vs)) (r:Reps Γ K G vs ds):Yd Γ K (Itt K a) G ds:=by refine⟨fun i d G2 H2 hd g1 g2=>?_,fun G2 H2 g1 g2=>⟨vs,.inl (.inl (g2 _ _ (g1 _ _ h))),by rw[r.length];exact qy _⟩⟩;obtain⟨v,hv,rv⟩:=r.get hd;refine⟨⟨vs,v,.inl (.inl (g2 _ _ (g1 _ _ h))),hv⟩,fun x H3 ⟨e1,e2⟩=>?_⟩;subst e1;have:=e2 vs (.inl (.inl (g2 _ _ (g1 _ _ h))));rw[hv] at this;cases this;exact⟨G2,.refl g2,rv.mono g1⟩
noncomputable def pF:D->aq (ab D)
 |.lst l=>aa l
 |.tup l=>aa l
 |.scr l=>aa (l.map D.int)
 |_=>ac
noncomputable def itF (f:FE):FA:=fun ρ=>(f ρ).bind pF
theorem OA {l:Expr} (hl:PE X l tl):PI X tg l (fun σ H R=>tl σ H fun x H1=>(∃a,x=.ref a/\(∃xs,SqL X.K H1 a xs)/\R (Itl X.K a) H1)\/(∃a,x=.ref a/\(∃xs,SqT X.K H1 a xs)/\R (Itt X.K a) H1)):=by
 intro pins s σ H R I h;refine thn (hl pins s σ H _ I h) fun v s1 ⟨x,H1,I1,r1,q1⟩=>?_;rcases q1 with⟨a,e,⟨xs,hq⟩,q⟩|⟨a,e,⟨xs,hq⟩,q⟩
 .subst e;cases r1;obtain⟨its,rv,p,hz⟩:=I1.list hq;refine og p.isList ?_;refine⟨s1.heap.objs.size,[s1.heap.objs.size],_,_,H1,rfl,I1.kept (t':=s1.toks) fun b o e=>qw _ e,zy a _,⟨_,qJ _ rfl,rfl,rfl⟩,fun b hb=>?_,q⟩;have e:b=s1.heap.objs.size:=by simpa using hb
  subst e;exact I1.fpOk (qy _) (I1.hok.fresh (qy _))
 .subst e;cases r1;obtain⟨its,rv,p,hz⟩:=I1.tuple hq;refine Fu (show s1.heap.IsTuple a its.toArray from p) ?_;refine⟨s1.heap.objs.size,[s1.heap.objs.size],_,_,H1,rfl,I1.kept (t':=s1.toks) fun b o e=>qw _ e,JY a _,⟨_,qJ _ rfl,rfl,rfl⟩,fun b hb=>?_,q⟩;have e:b=s1.heap.objs.size:=by simpa using hb
  subst e;exact I1.fpOk (qy _) (I1.hok.fresh (qy _))
theorem cu (h:DE Γ X iter f):DI Γ X tg iter (itF f):=⟨(OA h.1).imp fun σ H R=>by
 rintro⟨G₀,H₀,G,ρ,ds,A,h,k⟩;unfold itF at h;obtain⟨d,hd,h⟩:=oBd h;refine⟨G₀,H₀,G,ρ,d,A,hd,fun v G' H' s r=>?_⟩;unfold pF at h;split at h
 .cases h;obtain⟨a,vs,rfl,ha,rv⟩:=r.lst_inv;refine .inl ⟨a,rfl,⟨vs,.inl (.inl (s.gh _ _ ha))⟩,k _ G' H' s ?_⟩;refine⟨fun i d G2 H2 hd g1 g2=>?_,fun G2 H2 g1 g2=>⟨vs,.inl (.inl (g2 _ _ (g1 _ _ ha))),by rw[rv.length];exact qy _⟩⟩;obtain⟨v,hv,rv'⟩:=rv.get hd;refine⟨⟨vs,v,.inl (.inl (g2 _ _ (g1 _ _ ha))),hv⟩,fun x H3 ⟨e1,e2⟩=>?_⟩;subst e1;have:=e2 vs (.inl (.inl (g2 _ _ (g1 _ _ ha))));rw[hv] at this;cases this;exact⟨G2,.refl g2,rv'.mono g1⟩
 .cases h;obtain⟨a,vs,rfl,ha,rv⟩:=r.tup_inv;exact .inr ⟨a,rfl,⟨vs,.inl (.inl (s.gh _ _ ha))⟩,k _ G' H' s (MG ha rv)⟩
 .rename_i l;cases h;obtain⟨a,rfl,ha⟩:=r.scr_inv;refine .inl ⟨a,rfl,⟨_,s.gh.seq ha⟩,k _ G' H' s ?_⟩;refine⟨fun i d G2 H2 hd g1 g2=>?_,fun G2 H2 g1 g2=>⟨_,g2.seq (g1.seq ha),by simp⟩⟩;rw[ql] at hd;obtain⟨n,hn,rfl⟩:=oMd hd;have hv:(List.map V.int l)[i]?=aa (V.int n):=by rw[ql,hn];rfl
  refine⟨⟨_,_,g2.seq (g1.seq ha),hv⟩,fun x H3 ⟨e1,e2⟩=>?_⟩;subst e1;have:=e2 _ (g2.seq (g1.seq ha));rw[hv] at this;cases this;exact⟨G2,.refl g2,.int _⟩
 .cases h⟩
noncomputable def uQ:D->aq (ab D)
 |.str x=>aa (x.cps.toList.map fun c=>D.str ⟨#[c]⟩)
 |_=>ac
noncomputable def itS (f:FE):FA:=fun ρ=>(f ρ).bind uQ
theorem xB {n:ah} {q:fm} (h:DE Γ X iter f):DI Γ X (.Name n q) iter (itS f):=⟨(JB h.1).imp fun σ H R=>by
 rintro⟨G₀,H₀,G,ρ,ds,A,h,k⟩;unfold itS at h;obtain⟨d,hd,h⟩:=oBd h;refine⟨G₀,H₀,G,ρ,d,A,hd,fun v G' H' s r=>?_⟩;unfold uQ at h;split at h<;>cases h;cases r.str_inv;rename_i x;refine⟨x,rfl,k _ G' H' s ⟨fun i d G2 H2 hd g1 g2=>?_,fun G2 H2 g1 g2=>?_⟩⟩
 .rw[ql] at hd;obtain⟨c,hc,rfl⟩:=oMd hd;have hc':x.cps[i]?=aa c:=by simpa using hc
  refine⟨(iw.mp hc').1,fun y H3 ⟨e1,c2,h2,e2⟩=>?_⟩;subst e1;subst e2;rw[hc'] at h2;cases h2;exact⟨G2,.refl g2,.str _⟩
 .show _=x.cps.size;simp⟩
theorem xc :Yd Γ K (Itr lo n) G ((di n).map fun i:ag=>D.int (lo+i)):=by
 refine⟨fun i d G2 H2 hd g1 g2=>?_,fun G2 H2 g1 g2=>?_⟩
 .rw[ql] at hd;obtain⟨j,hj,rfl⟩:=oMd hd;have hi:i<n:=by have:=(gA.mp hj).1;simpa using this
  have e:j=i:=by simpa[hi] using hj.symm
  subst e;refine⟨hi,fun x H3 ⟨e1,e2⟩=>?_⟩;subst e1;subst e2;exact⟨G2,.refl g2,.int _⟩
 .show n<=_;simp
noncomputable def gq:ab D->aq (ab D)
 |[.int j]=>if -(2 ^ 62)<=j/\j<2 ^ 62 then aa ((di j.toNat).map fun i:ag=>D.int (0+i)) else ac
 |_=>ac
noncomputable def mC:ab D->aq (ab D)
 |[.int i,.int j]=>if -(2 ^ 62)<=i/\i<2 ^ 62 /\ -(2 ^ 62)<=j/\j<2 ^ 62 then aa ((di (j-i).toNat).map fun k:ag=>D.int (i+k)) else ac
 |_=>ac
noncomputable def itR (g:ab D->aq (ab D)) (fr:FA):FA:=fun ρ=>(fr ρ).bind g
theorem Na (hg:Gl X "range") (hm:X.mg "range"=ac) (h:DA Γ X [a] fr) (hs:aH [a] X.env=[(ao,eval a X.env)]:=by rfl):DI Γ X tg (.Call (.Name "range" p) [a] [] pos) (itR gq fr):=⟨(C3 hg hm h.1 hs).imp fun σ H R=>by
 rintro⟨G₀,H₀,G,ρ,ds,A,h,k⟩;unfold itR at h;obtain⟨d,hd,h⟩:=oBd h;refine⟨G₀,H₀,G,ρ,d,A,hd,fun v G' H' s r=>?_⟩;unfold gq at h;split at h
 .split at h
  .rename_i hz;cases h;obtain⟨v,rfl,r1⟩:=r.one;cases r1.int_inv;exact⟨_,rfl,hz.1,hz.2,k _ G' H' s xc⟩
  .cases h
 .cases h⟩
theorem Jm (hg:Gl X "range") (hm:X.mg "range"=ac) (h:DA Γ X [a,b] fr) (hs:aH [a,b] X.env=[(ao,eval a X.env),(ao,eval b X.env)]:=by rfl) (hs2:aH [b] X.env=[(ao,eval b X.env)]:=by rfl):DI Γ X tg (.Call (.Name "range" p) [a,b] [] pos) (itR mC fr):=⟨(L' hg hm h.1 hs hs2).imp fun σ H R=>by
 rintro⟨G₀,H₀,G,ρ,ds,A,h,k⟩;unfold itR at h;obtain⟨d,hd,h⟩:=oBd h;refine⟨G₀,H₀,G,ρ,d,A,hd,fun v G' H' s r=>?_⟩;unfold mC at h;split at h
 .split at h
  .rename_i hz;cases h;obtain⟨v,u,rfl,r1,r2⟩:=r.two;cases r1.int_inv;cases r2.int_inv;exact⟨_,_,rfl,hz,k _ G' H' s xc⟩
  .cases h
 .cases h⟩
abbrev FG:=D->bd->aq bd
abbrev FGs:=ab D->bd->aq bd
noncomputable def TDg (Γ:Cn) (K:aR) (g:FG):TG:=fun v σ H Q=>∃G₀ H₀ G ρ d ρ',At Γ K G₀ H₀ G H ρ σ/\Rep Γ K G v d/\g d ρ=aa ρ'/\∀σ',At Γ K G₀ H₀ G H ρ' σ'->Q σ' H
noncomputable def GZ (Γ:Cn) (K:aR) (g:FGs):TGs:=fun vs σ H Q=>∃G₀ H₀ G ρ ds ρ',At Γ K G₀ H₀ G H ρ σ/\Reps Γ K G vs ds/\g ds ρ=aa ρ'/\∀σ',At Γ K G₀ H₀ G H ρ' σ'->Q σ' H
structure DG (Γ:Cn) (X:Cx) (tg:Expr) (g:FG):Prop where
 pg:PG X tg (TDg Γ X.K g)
 no:∀d ρ ρ',g d ρ=aa ρ'->gW ρ->gW ρ'
structure DGs (Γ:Cn) (X:Cx) (ts:ab Expr) (g:FGs):Prop where
 pg:PGs X ts (GZ Γ X.K g)
 no:∀d ρ ρ',g d ρ=aa ρ'->gW ρ->gW ρ'
theorem PG.imp {t t':TG} (h:PG X tg t) (i:∀v σ H Q,t' v σ H Q->t v σ H Q):PG X tg t':=fun pins s σ H v u Q I r q=>h pins s σ H v u Q I r (i _ _ _ _ q)
theorem PGs.imp {t t':TGs} (h:PGs X ts t) (i:∀v σ H Q,t' v σ H Q->t v σ H Q):PGs X ts t':=fun pins s σ H v u Q I r q=>h pins s σ H v u Q I r (i _ _ _ _ q)
noncomputable def aM (i:ag):FG:=fun d ρ=>aa (ρ.set i (aa (.sh d)))
theorem LH (h:gW ρ):gW (ρ.set i (aa (.sh d))):=fun j ds e=>by
 by_cases hj:j=i
 .subst hj;rw[List.getElem?_set,qY rfl] at e;split at e<;>cases e;exact⟨_,rfl⟩
 .rw[qC (em hj)] at e;exact h j ds e
theorem bV (i:ag) (hN:X.N.Nodup) (hi:X.N[i]?=aa x:=by rfl) (hx:Loc X.env.scope x:=by first|exact cz rfl|exact bT rfl) (hf:X.fn x=ai\/X.env.scope.names.lookup x=aa .local:=by first|exact .inl rfl|exact .inr rfl|assumption):DG Γ X (.Name x pos) (aM i):=by
 refine⟨(zB hN hi hx hf).imp fun v σ H Q=>?_,fun d ρ ρ' e h=>?_⟩
 .rintro⟨G₀,H₀,G,ρ,d,ρ',A,r,h,k⟩;cases h;exact k _ (A.setSh r)
 .cases e;exact LH h
noncomputable def ij:FGs:=fun ds ρ=>match ds with
 |[]=>aa ρ
 |_=>ac
noncomputable def eU (g:FG) (gs:FGs):FGs:=fun ds ρ=>match ds with
 |d::r=>(g d ρ).bind fun ρ'=>gs r ρ'
 |_=>ac
theorem uy:DGs Γ X [] ij:=by
 refine⟨KL.imp fun vs σ H Q=>?_,fun d ρ ρ' e h=>?_⟩
 .rintro⟨G₀,H₀,G,ρ,ds,ρ',A,r,h,k⟩;unfold ij at h;split at h<;>cases h;cases r;exact⟨rfl,k σ A⟩
 .unfold ij at e;split at e<;>cases e;exact h
theorem kQ {g:FG} (h1:DG Γ X e g) (h2:DGs Γ X ts gs) (hs:(jK (e::ts) X.env).map (·.2)=jJ e X.env::(jK ts X.env).map (·.2):=by rfl):DGs Γ X (e::ts) (eU g gs):=by
 refine⟨(Kr h1.pg h2.pg hs).imp fun vs σ H Q=>?_,fun ds ρ ρ' e h=>?_⟩
 .rintro⟨G₀,H₀,G,ρ,ds,ρ',A,r,h,k⟩;unfold eU at h;split at h
  .obtain⟨ρ1,h1,h⟩:=oBd h;cases r with
   |cons r1 r2=>exact⟨_,_,rfl,G₀,H₀,G,ρ,_,ρ1,A,r1,h1,fun σ1 A1=>⟨G₀,H₀,G,ρ1,_,ρ',A1,r2,h,k⟩⟩
  .cases h
 .unfold eU at e;split at e
  .obtain⟨ρ1,e1,e⟩:=oBd e;exact h2.no _ _ _ e (h1.no _ _ _ e1 h)
  .cases e
noncomputable def ie (n:ag) (gs:FGs):FG:=fun d ρ=>match d with
 |.tup ds=>if ds.length=n then gs ds ρ else ac
 |_=>ac
theorem tR {k:ag} (hc:X.calm=ai) (h:DGs Γ X ts gs) (hn:(jK ts X.env).length=n:=by rfl) (hst:(jK ts X.env).findIdx? (·.1)=ac:=by rfl):DG Γ X (.Tuple ts k pos) (ie n gs):=by
 refine⟨(Md hc h.pg hn hst).imp fun v σ H Q=>?_,fun ds ρ ρ' e q=>?_⟩
 .rintro⟨G₀,H₀,G,ρ,d,ρ',A,r,h,k⟩;unfold ie at h;split at h
  .split at h
   .rename_i hl;obtain⟨a,vs,rfl,ha,rv⟩:=r.tup_inv;exact⟨a,vs,rfl,.inl (.inl (A.gh _ _ ha)),by rw[rv.length];exact hl,G₀,H₀,G,ρ,_,ρ',A,rv,h,k⟩
   .cases h
  .cases h
 .unfold ie at e;split at e
  .split at e
   .exact h.no _ _ _ e q
   .cases e
  .cases e
noncomputable def mv (g:FG) (ft:FT) (fe:FE):ab D->bd->aq (ab D)
 |[],_=>aa []
 |x::xs,ρ=>(g x ρ).bind fun ρ1=>(ft ρ1).bind fun b=>if b=ai then (fe ρ1).bind fun d=>(mv g ft fe xs ρ1).map (d::·) else mv g ft fe xs ρ1
noncomputable def ia (fv:ab (aq ag)) (ρ:bd):bd:=fv.map fun o=>o.bind fun j=>match ρ[j]? with
 |some (aa (.sh d))=>aa (.sh d)
 |_=>ac
noncomputable def bQ (fi:FA) (g:FG) (ft:FT) (fe:FE) (fv:ab (aq ag)):FA:=fun ρ=>(fi ρ).bind fun xs=>if xs.length<=aK then mv g ft fe xs (ia fv ρ) else ac
structure DTs (Γ:Cn) (X:Cx) (es:ab Expr) (f:FT):Prop where
 out:PTs X es (TDt Γ X.K f)
theorem PTs.imp {t t':TT} (h:PTs X es t) (i:∀σ H Q,t' σ H Q->t σ H Q):PTs X es t':=fun pins s σ H Q I q=>h pins s σ H Q I (i _ _ _ q)
noncomputable def tT:FT:=fun _=>aa ai
theorem cQ:DTs Γ X [] tT:=⟨Bu.imp fun σ H Q=>by rintro⟨G₀,H₀,G,ρ,b,A,h,k⟩;cases h;exact k G H (.refl A.gh)⟩
variable {g:FG}
structure DB (Γ:Cn) (X:Cx) (N':ab ah) (scope:Scope) (tg:Expr) (ifs:ab Expr) (elt:Expr) (g:FG) (ft:FT) (fe:FE):Prop where
 out:∀(cl:ab (ah×au)) (C:au) (s₀:aB) (H₀:Hp) (fp:ab au),DG Γ (gy X N' scope cl C s₀ H₀ fp) tg g/\DTs Γ (gy X N' scope cl C s₀ H₀ fp) ifs ft/\DE Γ (gy X N' scope cl C s₀ H₀ fp) elt fe
theorem DB.pb (h:DB Γ X N' scope tg ifs elt g ft fe):PB X N' scope tg ifs elt (TDg Γ X.K g) (TDt Γ X.K ft) (TD Γ X.K fe):=fun cl C s₀ H₀ fp=>⟨(h.1 cl C s₀ H₀ fp).1.pg,(h.1 cl C s₀ H₀ fp).2.1.1,(h.1 cl C s₀ H₀ fp).2.2.1⟩
theorem Ib (A:At Γ K G₀ H₀ G H ρ σ):At Γ K G H G H (ia fv ρ) (gd fv σ)/\gW (ia fv ρ):=by
 have no:gW (ia fv ρ):=fun i ds e=>by
  unfold ia at e;rw[ql] at e;obtain⟨o,ho,e⟩:=oMd e;cases o with
  |none=>cases e
  |some j=>
   simp only[qa] at e;split at e<;>cases e;exact⟨_,rfl⟩
 refine⟨⟨.refl A.gh,.ofSh (by simp[ia,gd]) no fun i d e=>?_⟩,no⟩;unfold ia at e;unfold gd;rw[ql] at e ⊢;obtain⟨o,ho,e⟩:=oMd e;rw[ho];cases o with
 |none=>cases e
 |some j=>
  simp only[qa] at e;split at e
  .rename_i d' hd';cases e;obtain⟨v,h1,h2⟩:=A.env.sh j d hd';exact⟨v,by simp[h1],h2⟩
  .cases e
theorem xO (no:∀d ρ ρ',g d ρ=aa ρ'->gW ρ->gW ρ'):∀σ H Q,TDo Γ X.K (bQ fi g ft fe fv) σ H Q->tLC (TDi Γ X.K fi) (TDg Γ X.K g) (TDt Γ X.K ft) (TD Γ X.K fe) fv σ H Q:=by
 rintro σ H Q ⟨G₀,H₀,G,ρ,ds,A,h,k⟩;unfold bQ at h;obtain⟨xs,hx,h⟩:=oBd h;split at h
 case isFalse=>cases h
 rename_i hz;refine⟨G₀,H₀,G,ρ,xs,A,hx,fun J G1 H1 s1 Y acc hacc=>?_⟩;have gacc:G1 acc=ac:=s1.gh.free hacc;obtain⟨A0,no0⟩:=Ib (fv:=fv) (A.step s1);refine⟨fun i m ys σ' H'=>m=xs.length-i/\i<=xs.length/\ys.length<=i/\∃G' ρ' done bD,At Γ X.K G1 H1 G' H' ρ' σ'/\gW ρ'/\H' acc=aa (.lst ys)/\G' acc=ac/\Reps Γ X.K G' ys done/\mv g ft fe (xs.drop i) ρ'=aa bD/\done++bD=ds,?_,?_⟩
 .refine⟨xs.length,rfl,fu _,qy _,G1,ia fv ρ,[],ds,?_,no0,b7,gacc,.nil,by rw[lN];exact h,rfl⟩;have sn:=Step.newOwn (o:=.lst []) s1.gh hacc;exact⟨sn,.ofSh A0.env.len no0 A0.env.sh⟩
 .rintro i m ys σ' H' ⟨hm,hi,hyi,G',ρ',done,bD,A',no',hacc',gacc',ry,hr,hd⟩;subst hm;refine⟨hacc',?_⟩;by_cases hlt:i<xs.length
  .right
   have hxi:xs[i]?=aa xs[i]:=by simp[hlt]
   obtain⟨go,yl⟩:=Y.go i _ G' H' hxi A'.st.gg A'.gh;refine⟨go,fun x H2 hy=>?_⟩;obtain⟨G2,s2,r2⟩:=yl x H2 hy;have A2:=A'.step s2;have hdr:xs.drop i=xs[i]::xs.drop (i+1):=ou hlt;rw[hdr] at hr;unfold mv at hr;obtain⟨ρ1,h1,hr⟩:=oBd hr;obtain⟨b,h2,hr⟩:=oBd hr;refine⟨G1,H1,G2,ρ',_,ρ1,A2,r2,h1,fun σ2 A3=>⟨G1,H1,G2,ρ1,b,A3,h2,fun G4 H4 s4=>?_⟩⟩;have no1:=no _ _ _ h1 no';have hH4:H4 acc=aa (.lst ys):=s4.hh _ _ (s2.hh _ _ hacc');have hG4:G4 acc=ac:=(s4.out _ _ (s2.hh _ _ hacc')).trans ((s2.out _ _ hacc').trans gacc');cases b with
   |false=>
    rw[qZ qv] at hr;refine gr ⟨xs.length-(i+1),by omega,rfl,hlt,by omega,G4,ρ1,done,bD,A3.step s4,no1,hH4,hG4,(ry.mono s2.gg).mono s4.gg,hr,hd⟩
   |true=>
    rw[qY rfl] at hr;obtain⟨d,h3,hr⟩:=oBd hr;obtain⟨zs,h5,rfl⟩:=oMd hr;refine ig ⟨G1,H1,G4,ρ1,d,A3.step s4,h3,fun v G5 H5 s5 r5=>?_⟩;have A5:=(A3.step s4).step s5;have hH5:H5 acc=aa (.lst ys):=s5.hh _ _ hH4;have hG5:G5 acc=ac:=(s5.out _ _ hH4).trans hG4;refine⟨hH5,by omega,xs.length-(i+1),by omega,rfl,hlt,by rw[qk,qX];omega,G5,ρ1,done++[d],zs,?_,no1,b7,hG5,((((ry.mono s2.gg).mono s4.gg).mono s5.gg).append (.cons r5 .nil)),h5,by rw[qA];exact hd⟩;refine⟨⟨fun b o e=>?_,A5.st.gg,fun b o e=>?_,A5.st.out⟩,.ofSh A5.env.len no1 A5.env.sh⟩
    .rw[aX (ck e hacc)];exact A5.st.hh b o e
    .rw[aX (ck e hG5)];exact A5.st.gh b o e
  .left
   have e:i=xs.length:=by omega
   subst e;rw[rZ] at hr;cases hr;rw[eX] at hd;subst hd;refine⟨Y.stop G' H' A'.st.gg A'.gh,?_⟩;have hf:H'=upd (fun b=>if b=acc then ac else H' b) acc (.lst ys):=by
    funext b
    by_cases hb:b=acc
    .subst hb;rw[b7];exact hacc'
    .rw[aX hb,qZ hb]
   rw[hf];refine k acc ys G' (fun b=>if b=acc then ac else H' b) (s1.trans ⟨fun b o e=>?_,A'.st.gg,fun b o e=>?_,A'.st.out⟩) (qY rfl) ry
   .show(if b=acc then ac else H' b)=aa o;rw[qZ (ck e hacc)];exact A'.st.hh b o e
   .show(if b=acc then ac else H' b)=aa o;rw[qZ (ck e gacc')];exact A'.st.gh b o e
theorem cZ (hc:X.calm=ai) (S:CompScope X scope) (F:FvOk X N' scope fv) (hi:DI Γ X tg iter fi) (hb:DB Γ X N' scope tg ifs elt g ft fe) (hs:∀x,kA iter X.env x=pure x:=by intro _;rfl) :
  DO Γ X (.ListComp elt [⟨tg,iter,ifs,0⟩] scope pos) (bQ fi g ft fe fv):=⟨(DV hc S F hi.1 hb.pb hs).imp (xO (hb.1 [] 0 X.s₀ X.H₀ []).1.no)⟩
end
variable {g:FS} {gg:FG} {vp:fm} {sa sb:ab Stmt}
section
variable {g':FS} {st:Stmt}
noncomputable def bR:FS:=fun ρ=>aa (.nx,ρ)
noncomputable def aS (g g':FS):FS:=fun ρ=>(g ρ).bind fun r=>match r.1 with
 |.nx=>g' r.2
 |fl=>aa (fl,r.2)
theorem cv:DSs Γ X [] bR:=⟨nM.imp fun E σ H=>by rintro⟨G₀,H₀,G,ρ,fl,ρ',A,h,k⟩;cases h;exact k σ G H (.refl _) A⟩
theorem aW (h:DS Γ X st g):DSs Γ X [st] g:=⟨l' h.1⟩
theorem bC (h1:DS Γ X st g) (h2:DSs Γ X sts g'):DSs Γ X (st::sts) (aS g g'):=⟨(iJ h1.1 h2.1).imp fun E σ H=>by
 rintro⟨G₀,H₀,G,ρ,fl,ρ',A,h,k⟩;unfold aS at h;obtain⟨⟨fl1,ρ1⟩,h1,h⟩:=oBd h;refine⟨G₀,H₀,G,ρ,fl1,ρ1,A,h1,fun σ1 G1 H1 sm A1=>?_⟩;cases fl1 with
 |nx=>exact⟨G₀,H₀,G1,ρ1,fl,ρ',A1,h,fun σ' G' H' sm' A'=>k σ' G' H' (sm.trans sm') A'⟩
 |bk=>cases h;exact k σ1 G1 H1 sm A1
 |ct=>cases h;exact k σ1 G1 H1 sm A1
 |rt d=>cases h;exact k σ1 G1 H1 sm A1
 |ow d=>cases h;exact k σ1 G1 H1 sm A1
 |nw d=>cases h;exact k σ1 G1 H1 sm A1
 |od d=>cases h;exact k σ1 G1 H1 sm A1⟩
noncomputable def aT (f:FE):FS:=fun ρ=>(f ρ).map fun d=>(.rt d,ρ)
theorem bu (h:DE Γ X e f):DS Γ X (.Return (aa e) pos) (aT f):=⟨(wY h.1).imp fun E σ H=>by rintro⟨G₀,H₀,G,ρ,fl,ρ',A,h,k⟩;unfold aT at h;obtain⟨d,hd,h⟩:=oMd h;cases h;exact⟨G₀,H₀,G,ρ,d,A,hd,fun v G' H' s r=>k σ G' H' s.gg (A.step s) v r⟩⟩
noncomputable def eh (i:ag) (f:FE):FS:=fun ρ=>(f ρ).map fun d=>(.nx,ρ.set i (aa (.sh d)))
theorem kc (i:ag) (hN:X.N.Nodup) (h:DE Γ X e f) (hi:X.N[i]?=aa x:=by rfl) (hx:Loc X.env.scope x:=by first|exact cz rfl|exact bT rfl) (hs:eE e (aa (.Name x pos')) pos.line X.env=pure ao:=by rfl) (hf:X.fn x=ai\/X.env.scope.names.lookup x=aa .local:=by first|exact .inl rfl|exact .inr rfl|assumption) :
  DS Γ X (.Assign [.Name x pos'] e pos) (eh i f):=⟨(mm hN hi hx h.1 hs hf).imp fun E σ H=>by
 rintro⟨G₀,H₀,G,ρ,fl,ρ',A,h,k⟩;unfold eh at h;obtain⟨d,hd,h⟩:=oMd h;cases h;exact⟨G₀,H₀,G,ρ,d,A,hd,fun v G' H' s r=>k _ G' H' s.gg ((A.step s).setSh r)⟩⟩
noncomputable def jk (i:ag) (f:FA):FS:=fun ρ=>(f ρ).map fun d=>(.nx,ρ.set i (aa (.own d)))
theorem LZ :∀E σ H,TDs Γ X.K (jk i fr) E σ H->jV (TDo Γ X.K fr) (jh i) E σ H:=by rintro E σ H ⟨G₀,H₀,G,ρ,fl,ρ',A,h,k⟩;unfold jk at h;obtain⟨d,hd,h⟩:=oMd h;cases h;exact⟨G₀,H₀,G,ρ,d,A,hd,fun p vs G' H' s hp r=>k _ G' _ s.gg ((A.step s).setOwn hp r)⟩
theorem vZ (i:ag) (hN:X.N.Nodup) (h:DO Γ X e fr) (hi:X.N[i]?=aa x:=by rfl) (hx:Loc X.env.scope x:=by first|exact cz rfl|exact bT rfl) (hs:eE e (aa (.Name x pos')) pos.line X.env=pure ao:=by rfl) (hf:X.fn x=ai\/X.env.scope.names.lookup x=aa .local:=by first|exact .inl rfl|exact .inr rfl|assumption) :
  DS Γ X (.Assign [.Name x pos'] e pos) (jk i fr):=⟨(mm hN hi hx h.1 hs hf).imp LZ⟩
theorem Jt :∀E σ H,TDs Γ X.K (eh i (aL fr)) E σ H->jV (TDo Γ X.K fr) (jh i) E σ H:=by rintro E σ H ⟨G₀,H₀,G,ρ,fl,ρ',A,h,k⟩;unfold eh aL at h;obtain⟨d,hd,h⟩:=oMd h;obtain⟨ds,hd',rfl⟩:=oMd hd;cases h;refine⟨G₀,H₀,G,ρ,ds,A,hd',fun p vs G' H' s hp r=>?_⟩;have s2:=Step.new (o:=.lst vs) s.gh hp;exact k _ _ _ (s.gg.trans s2.gg) (((A.step s).step s2).setSh (.lst b7 (r.mono s2.gg)))
theorem Aa (i:ag) (hN:X.N.Nodup) (hc:X.calm=ai) (S:CompScope X scope) (F:FvOk X N' scope fv) (hi:DI Γ X tg iter fi) (hb:DB Γ X N' scope tg ifs elt gg ft fe)
  (hy:X.N[i]?=aa y:=by rfl) (hyl:X.env.scope.names.lookup y=aa .local:=by rfl) (hsw:eE (.ListComp elt [⟨tg,iter,ifs,0⟩] scope pos) (aa (.Name y py)) spos.line X.env=pure ai:=by rfl) (hs:∀x,kA iter X.env x=pure x:=by intro _;rfl) :
  DS Γ X (.Assign [.Name y py] (.ListComp elt [⟨tg,iter,ifs,0⟩] scope pos) spos) (eh i (aL (bQ fi gg ft fe fv))):=⟨(ww hN hy hyl hc S F hi.1 hb.pb hsw hs).imp fun E σ H q=>xO (hb.1 [] 0 X.s₀ X.H₀ []).1.no σ H _ (Jt E σ H q)⟩
noncomputable def rh (i:ag) (f:FE):FS:=fun ρ=>match ρ[i]? with
 |some (aa (.own ds))=>(f ρ).bind fun d=>if ds.length<aK then aa (.nx,ρ.set i (aa (.own (ds++[d])))) else ac
 |_=>ac
theorem LC (i:ag) (h:DE Γ X e f) (hN:X.N[i]?=aa x:=by rfl) (hv:Vis X.env.scope x:=by first|exact cz rfl|exact bT (cz rfl)|exact bT (bT rfl)) (hd:(x==("__debug__":ah))=ao:=by decide)
  (hcd:(x==("__classdict__":ah))=ao:=by decide)
  (hbase:iU (.Name x vp) "append" X.env (eval (.Name x vp) X.env)=eval (.Name x vp) X.env:=by rfl)
  (hfew:((ca cpos (aH [e] X.env)).all (fun x=>!x.1) && (gC cpos (gD [] X.env)).all (fun x=>x.1.isSome)
   && decide ([e].length+([]:ab iV).length+(if ([]:ab iV).isEmpty then 0 else 1)<30))=ai:=by rfl)
  (hline:(apos.endLine==cpos.line)=ai:=by rfl) (hs:aH [e] X.env=(ao,eval e X.env)::aH [] X.env:=by rfl) (hplain:(ca cpos (aH [] X.env)).any (·.1)=ao:=by rfl)
  (hsw:eE (.Call (.Attribute (.Name x vp) "append" apos) [e] [] cpos) ac pos.line X.env=pure ao:=by rfl) :
  DS Γ X (.Expr (.Call (.Attribute (.Name x vp) "append" apos) [e] [] cpos) pos) (rh i f):=⟨(jF (lU vi vf yT pA (dv hN hv hd hcd) (eY h.1 gc hs) hbase hfew hline hs hplain) hsw).imp fun E σ H=>by
  rintro⟨G₀,H₀,G,ρ,fl,ρ',A,h,k⟩;unfold rh at h;split at h
  .rename_i ds hi;obtain⟨d,hd,h⟩:=oBd h;split at h
   .rename_i hz;cases h;obtain⟨a,vs,h1,h2,h3,h4,h5⟩:=A.env.own i ds hi;refine⟨.ref a,h1,.inl ⟨rfl,vs,.inl (.inl h4)⟩,G₀,H₀,G,ρ,d,A,hd,fun v G1 H1 s1 r1=>?_⟩;have A1:=A.step s1;refine⟨a,vs,v,rfl,rfl,s1.hh _ _ h4,by rw[h5.length];exact hz,?_⟩;exact k σ G1 _ s1.gg (A1.chOwn hi h1 ((h5.mono s1.gg).append (.cons r1 .nil)))
   .cases h
  .cases h⟩
noncomputable def kO (i:ag) (g:FS):FS:=fun ρ=>match ρ[i]? with
 |some (aa (.own ds))=>g (ρ.set i (aa (.sh (.lst ds))))
 |_=>ac
theorem TDs.frz (i:ag):∀E σ H,TDs Γ X.K (kO i g) E σ H->TDs Γ X.K g E σ H:=by
 rintro E σ H ⟨G₀,H₀,G,ρ,fl,ρ',A,h,k⟩;unfold kO at h;split at h
 .rename_i ds hi;obtain⟨G',sm,A'⟩:=A.freeze hi;exact⟨G₀,H₀,G',_,fl,ρ',A',h,fun σ1 G1 H1 sm1 A1=>k σ1 G1 H1 (sm.trans sm1) A1⟩
 .cases h
theorem Cq (i:ag) (h:DSs Γ X sts g):DSs Γ X sts (kO i g):=⟨h.1.imp (TDs.frz i)⟩
noncomputable def sIf (ft:FT) (g g':FS):FS:=fun ρ=>(ft ρ).bind fun c=>if c=ai then g ρ else g' ρ
theorem cp (hc:DT Γ X c ft) (ha:DSs Γ X sa g) (hb:DSs Γ X sb g'):DS Γ X (.If c sa sb pos) (sIf ft g g'):=⟨(nQ hc.1 ha.1 hb.1).imp fun E σ H=>by
 rintro⟨G₀,H₀,G,ρ,fl,ρ',A,h,k⟩;unfold sIf at h;obtain⟨x,hx,h⟩:=oBd h;refine⟨G₀,H₀,G,ρ,x,A,hx,fun G1 H1 s1=>?_⟩;cases x with
 |true=>exact ig ⟨G₀,H₀,G1,ρ,fl,ρ',A.step s1,by simpa using h,fun σ2 G2 H2 sm2 A2=>k σ2 G2 H2 (s1.gg.trans sm2) A2⟩
 |false=>exact gr ⟨G₀,H₀,G1,ρ,fl,ρ',A.step s1,by simpa using h,fun σ2 G2 H2 sm2 A2=>k σ2 G2 H2 (s1.gg.trans sm2) A2⟩⟩
noncomputable def eS (gg:FG) (body:FS):ab D->FS
 |[],ρ=>aa (.nx,ρ)
 |x::xs,ρ=>(gg x ρ).bind fun ρ1=>(body ρ1).bind fun r=>match r.1 with
  |.nx=>eS gg body xs r.2
  |.ct=>eS gg body xs r.2
  |.bk=>aa (.nx,r.2)
  |.rt d=>aa (.rt d,r.2)
  |.ow d=>aa (.ow d,r.2)
  |.nw d=>aa (.nw d,r.2)
  |.od d=>aa (.od d,r.2)
noncomputable def dZ (fi:FA) (gg:FG) (body:FS):FS:=fun ρ=>(fi ρ).bind fun xs=>eS gg body xs ρ
theorem kW (hp:uX (aO X.prog X.w) X.A X.env X.xe) (hc:X.calm=ai) (hi:DI Γ X tg iter fi) (hg:DG Γ X tg gg) (hb:DSs Γ X body g) (hs:∀x,kA iter X.env x=pure x:=by intro _;rfl) :
  DS Γ X (.For tg iter body [] pos) (dZ fi gg g):=⟨(wV hp hc hi.1 hg.pg hb.1 hs).imp fun E σ H=>by
 rintro⟨G₀,H₀,G,ρ,fl,ρ',A,h,k⟩;unfold dZ at h;obtain⟨xs,hx,h⟩:=oBd h;refine⟨G₀,H₀,G,ρ,xs,A,hx,fun J G1 H1 s1 Y=>?_⟩;refine⟨fun i m σ' H'=>m=xs.length-i/\i<=xs.length/\∃G' ρ1,bp G1 G'/\At Γ X.K G₀ H₀ G' H' ρ1 σ'/\eS gg g (xs.drop i) ρ1=aa (fl,ρ'),⟨xs.length,rfl,fu _,G1,ρ,.refl _,A.step s1,by rw[lN];exact h⟩,?_⟩;rintro i m σ' H' ⟨rfl,hi,G',ρ1,sm,A',hr⟩;by_cases hlt:i<xs.length
 .right
  have hxi:xs[i]?=aa xs[i]:=by simp[hlt]
  obtain⟨go,yl⟩:=Y.go i _ G' H' hxi sm A'.gh;have hdr:xs.drop i=xs[i]::xs.drop (i+1):=ou hlt;rw[hdr] at hr;unfold eS at hr;obtain⟨ρ2,h2,hr⟩:=oBd hr;obtain⟨⟨fl3,ρ3⟩,h3,hr⟩:=oBd hr;refine⟨go,fun σ3 H3=>(fl3=.nx\/fl3=.ct)/\∃G3,bp G1 G3/\At Γ X.K G₀ H₀ G3 H3 ρ3 σ3,fun σ3 H3 ⟨hfl,G3,sm3,A3⟩=>?_,fun x H2 hy=>?_⟩
  .refine⟨xs.length-(i+1),by omega,rfl,hlt,G3,ρ3,sm3,A3,?_⟩;rcases hfl with e|e<;>subst e<;>exact hr
  .obtain⟨G2,s2,r2⟩:=yl x H2 hy;refine⟨G₀,H₀,G2,ρ1,_,ρ2,A'.step s2,r2,h2,fun σ2 A2=>⟨G₀,H₀,G2,ρ2,fl3,ρ3,A2,h3,fun σ3 G3 H3 sm3 A3=>?_⟩⟩;have smm:bp G1 G3:=(sm.trans s2.gg).trans sm3;cases fl3 with
   |nx=>exact⟨.inl rfl,G3,smm,A3⟩
   |ct=>exact⟨.inr rfl,G3,smm,A3⟩
   |bk=>cases hr;exact k σ3 G3 H3 (s1.gg.trans smm) A3
   |rt d=>cases hr;exact k σ3 G3 H3 (s1.gg.trans smm) A3
   |ow d=>cases hr;exact k σ3 G3 H3 (s1.gg.trans smm) A3
   |nw d=>cases hr;exact k σ3 G3 H3 (s1.gg.trans smm) A3
   |od d=>cases hr;exact k σ3 G3 H3 (s1.gg.trans smm) A3
 .left
  have e:i=xs.length:=by omega
  subst e;rw[rZ] at hr;cases hr;exact⟨Y.stop G' H' sm A'.gh,k σ' G' H' (s1.gg.trans sm) A'⟩⟩
end
variable {fk:FE} {m:ag}
section
variable {fw:FE}
noncomputable def spF (Γ:Cn) (K:aR) (n:ag) (F:ab D->aq D):Sp:=fun vs H Q _=>∃G ds d,bp G H/\Reps Γ K G vs ds/\ds.length=n/\F ds=aa d/\∀v G' H',Step G H G' H'->Rep Γ K G' v d->Q v H'
noncomputable def bJ (n:ag) (g:FS):ab D->aq D:=fun ds=>(g (ds.map (fun d=>aa (Slot.sh d))++bY n ac)).bind fun r=>match r.1 with
 |.rt d=>aa d
 |.nx=>aa .non
 |_=>ac
theorem wT (gh:bp G H) (r:Reps Γ K G vs ds) (hm:m=N.length-vs.length):At Γ K G H G H (ds.map (fun d=>aa (Slot.sh d))++bY m ac) (ee N vs):=by
 have no:gW (ds.map (fun d=>aa (Slot.sh d))++bY m ac):=fun i es e=>by
  by_cases hi:i<ds.length
  .rw[qD (by simpa using hi),ql] at e;obtain⟨d,_,e⟩:=oMd e;cases e;exact⟨_,rfl⟩
  .rw[qN (by simpa using hi),u7] at e;split at e<;>cases e
 refine⟨.refl gh,.ofSh (by simp[ee,r.length,hm]) no fun i d e=>?_⟩;by_cases hi:i<ds.length
 .rw[qD (by simpa using hi),ql] at e;obtain⟨d',hd,e⟩:=oMd e;cases e;obtain⟨v,hv,rv⟩:=r.get hd;refine⟨v,?_,rv⟩;unfold ee;rw[qD (by rw[qe,r.length];exact hi),ql,hv];rfl
 .rw[qN (by simpa using hi),u7] at e;split at e<;>cases e
theorem Fun.okD {st:Stmt} {f:au} {k:ag} (F:Fun K x qual st f fd) (S:FnScope N ps (aF st))
  (hbody:∀(cdv:av) (A:dj) (outer:ab cM) (s:aB) (H:Hp) (E:XK),Room k (A.deeper (dP qual (aF st) s.heap.objs.size f cdv))->
   DSs Γ (eN CX0 P w K mg base N qual (aF st) f cdv A outer s H E).nox (cO st) g):FnOk P w K mg base CX0 (k+1) f fd ps (spF Γ K ps.length (bJ (N.length-ps.length) g)):=by
 refine F.ok S (fun vs H Q E h=>?_) (fun cdv A outer s H vs Q E hr h=>?_)
 .obtain⟨G,ds,d,_,r,hl,_⟩:=h;rw[r.length,hl]
 .obtain⟨G,ds,d,gh,r,hl,hd,k⟩:=h;refine⟨_,(hbody cdv A outer s H E hr).1,?_⟩;unfold bJ at hd;obtain⟨⟨fl,ρ'⟩,hg,hd⟩:=oBd hd;refine⟨G,H,G,_,fl,ρ',wT gh r (by rw[r.length,hl]),hg,fun σ' G' H' sm A'=>?_⟩;cases fl with
  |rt d'=>cases hd;exact fun v rv=>k v G' H' A'.st rv
  |nx=>cases hd;exact k .non G' H' A'.st .non
  |bk=>cases hd
  |ct=>cases hd
  |ow d=>cases hd
  |nw d=>cases hd
  |od d=>cases hd
theorem GL {k:ag} {fx:au} {F:ab D->aq D} (Fo:FnOk X.prog X.w X.K X.mg X.base CX0 k fx fd ps (spF Γ X.K n F)) (hr:Room k X.A) (hg:Gl X x) (hm:X.mg x=aa (.ref fx)) (hk:fY X.K (.ref fx)=ai) (hb:e8 X.K fd ps [])
  (ha:DA Γ X (e::es) fr) (hn:∀ρ ds,fr ρ=aa ds->ds.length=n) (hdb:(x==("__debug__":ah))=ao:=by decide) (he:aH (e::es) X.env=(ao,eval e X.env)::aH es X.env:=by rfl) (hpl:(ca pos (aH es X.env)).any (·.1)=ao:=by rfl) :
  DE Γ X (.Call (.Name x p) (e::es) [] pos) (cF F fr):=⟨(mD Fo hr hg hm hk hb .nil gJ ha.1 hdb he hpl).imp fun σ H Q=>by
 rintro⟨G₀,H₀,G,ρ,d,A,h,k⟩;unfold cF at h;obtain⟨ds,hd,h⟩:=oBd h;refine⟨G₀,H₀,G,ρ,ds,A,hd,fun vs G1 H1 s1 r1=>?_⟩;show spF Γ X.K n F (vs++[]) H1 Q E0;rw[eX];exact⟨G1,ds,d,s1.gh,r1,hn ρ ds hd,h,fun v G' H' s r=>k v G' H' (s1.trans s) r⟩⟩
theorem J0 (h:af ρ=aa ds):ds.length=0:=by cases h;rfl
theorem lV (hn:∀ρ ds,fr ρ=aa ds->ds.length=n):∀ρ ds,ae fa fr ρ=aa ds->ds.length=n+1:=fun ρ ds h=>by unfold ae at h;obtain⟨x,hx,h⟩:=oBd h;obtain⟨xs,hxs,rfl⟩:=oMd h;rw[qh,hn ρ xs hxs]
end
structure Cal (Γ:Cn) (P:dD) (w:cS) (K:aR) (mg:ah->aq av) (base:Heap) (x:ah) (n k:ag) (F:ab D->aq D):Prop where
 ex:∃f fd ps,FnOk P w K mg base CX0 k f fd ps (spF Γ K n F)/\mg x=aa (.ref f)/\fY K (.ref f)=ai/\e8 K fd ps []
structure Dfn (K:aR) (mg:ah->aq av) (x:ah) (st:Stmt):Prop where
 ex:∃f fd,Fun K x x st f fd/\mg x=aa (.ref f)
theorem fG {k:ag} {F:ab D->aq D} (C:Cal Γ X.prog X.w X.K X.mg X.base x n k F) (hr:Room j X.A) (hk:k<=j) (hg:Gl X x) (ha:DA Γ X (e::es) fr) (hn:∀ρ ds,fr ρ=aa ds->ds.length=n)
  (hdb:(x==("__debug__":ah))=ao:=by decide) (he:aH (e::es) X.env=(ao,eval e X.env)::aH es X.env:=by rfl) (hpl:(ca pos (aH es X.env)).any (·.1)=ao:=by rfl) :
  DE Γ X (.Call (.Name x p) (e::es) [] pos) (cF F fr):=by
 obtain⟨f,fd,ps,h1,h2,h3,h4⟩:=C.ex;exact GL h1 (hr.mono hk) hg h2 h3 h4 ha hn hdb he hpl
theorem Dfn.cal {st:Stmt} {k:ag} (F:Dfn K mg x st) (S:FnScope N ps (aF st))
  (hb:∀(kV doc pm:av) (an:aq au) (cdv ct:av) (us:ab av),us.length=ps.length->fZ (eO x x (eT st) (cO st) (aF st) .none kV doc pm an cdv ct) ⟨us,[]⟩=pure (ps.zip us))
  (hbody:∀(f:au) (cdv:av) (A:dj) (outer:ab cM) (s:aB) (H:Hp) (E:XK),Room k (A.deeper (dP x (aF st) s.heap.objs.size f cdv))->
   DSs Γ (eN CX0 P w K mg base N x (aF st) f cdv A outer s H E).nox (cO st) g):Cal Γ P w K mg base x ps.length (k+1) (bJ (N.length-ps.length) g):=by
 obtain⟨f,fd,h1,h2⟩:=F.ex;exact⟨f,fd,ps,h1.okD S (hbody f),h2,h1.kp,h1.binds hb⟩
theorem Dfn.mk' {st:Stmt} {f:au} {kV:av} (X:K.In h) (G:h.Ns eW mg) (a:sd K eW x=aa (aa (.ref f)))
  (l:K.lookup f=aa ⟨oc,od,.func (eO x x (eT st) (cO st) (aF st) .none kV doc pm an cdv ct),osl⟩) (c:rO K cdv x=ai) (k:fY K (.ref f)=ai):Dfn K mg x st:=
 ⟨f,_,x9 l c k,se X G a⟩
noncomputable def AL (names:ab (ah×g9)) (outer:ab (ah×g9)):aU:=
 names.all fun y=>y.2 != .cell && (y.2 != .local || names.lookup y.1==aa .local) && (y.2 != .free || outer.lookup y.1==aa .cell || outer.lookup y.1==aa .free)
theorem CompScope.of (hk:scope.kind=.function) (h:AL scope.names X.env.scope.names=ai):CompScope X scope:=by
 unfold AL at h;rw[rY] at h;refine⟨hk,fun y hy e=>?_,fun y hy e=>?_,fun y hy e=>?_⟩
 .have:=h y hy;rw[e] at this;simp at this
 .have:=h y hy;rw[e] at this;simpa using this
 .have:=h y hy;rw[e] at this;simpa[Env.kindOf] using this
noncomputable def Ct (N':ab ah) (fv:ab (aq ag)) (N:ab ah) (outer names:ab (ah×g9)):aU:=
 fv.length==N'.length && (N'.zip fv).all fun y=>match y.2 with
  |none=>ai
  |some j=>N[j]?==aa y.1 && (outer.lookup y.1==aa .cell || outer.lookup y.1==aa .free) && names.lookup y.1==aa .free
theorem FvOk.of (h:Ct N' fv X.N X.env.scope.names scope.names=ai):FvOk X N' scope fv:=by
 unfold Ct at h;rw[hG,rY] at h;obtain⟨h1,h2⟩:=h;refine⟨by simpa using h1,fun i j x e1 e2=>?_⟩;have hm:(x,aa j)∈N'.zip fv:=by refine vj.mpr ⟨i,?_⟩;rw[P5];exact⟨e1,e2⟩
 have:=h2 _ hm;simp only[hG,Fm,lG] at this;exact⟨this.1.1,this.1.2,this.2⟩
mutual
def pdD:D->aq vm
 |.non=>aa .none
 |.bl b=>aa (.bool b)
 |.int i=>aa (.int i)
 |.str x=>aa (.str x)
 |.tup l=>(fV l).map PyData.tuple
 |.lst l=>(fV l).map PyData.list
 |.scr ns=>aa (.list (ns.map P6))
 |_=>ac
def fV:ab D->aq (ab vm)
 |[]=>aa []
 |d::r=>(pdD d).bind fun p=>(fV r).map (p::·)
end
section
variable {s:aB}
theorem BB {h:Heap}:∀{ns:ab aj} {us:ab av},bj (ns.map V.int) us->∃as,ReadsAll h us (ns.map P6) as
 |[],_,r=>by rw[qR] at r;cases r;exact⟨_,.nil⟩
 |n::ns,_,r=>by
  rw[qp] at r;cases r with
  |cons r1 r2=>
   obtain⟨t,e⟩:=r1;subst e;obtain⟨as,q⟩:=BB r2;exact⟨_,.cons (.int n t) q⟩
mutual
theorem Rep.reads (I:Inv X pins σ H s) (gh:bp G H):∀{v:V} {d:D} {u:av} {p:vm},Rep Γ X.K G v d->bK v u->pdD d=aa p->∃as,Reads s.heap u p as
 |_,_,u,p,.non,r,h=>by cases r;rw[pdD] at h;cases h;exact⟨_,.none⟩
 |_,_,u,p,.bl b,r,h=>by cases r;rw[pdD] at h;cases h;exact⟨_,.bool b⟩
 |_,_,u,p,.int i,r,h=>by obtain⟨t,rfl⟩:=r;rw[pdD] at h;cases h;exact⟨_,.int i t⟩
 |_,_,u,p,.str x,r,h=>by obtain⟨t,rfl⟩:=r;rw[pdD] at h;cases h;exact⟨_,.str x t⟩
 |_,_,u,p,.ty n,r,h=>by rw[pdD] at h;cases h;all_goals (intros;contradiction)
 |_,_,u,p,.tup ha rs,r,h=>by
  cases r;rw[pdD] at h;obtain⟨ps,hp,rfl⟩:=oMd h;obtain⟨its,rv,⟨o,e1,e2,n,e3⟩,_⟩:=I.tuple (.inl (.inl (gh _ _ ha)));obtain⟨as,q⟩:=Reps.reads I gh rs rv hp;exact⟨_,.tuple e1 e2 e3 (by simpa using q)⟩
 |_,_,u,p,.lst ha rs,r,h=>by
  cases r;rw[pdD] at h;obtain⟨ps,hp,rfl⟩:=oMd h;obtain⟨its,rv,⟨o,n,e1,e2,_,e3⟩,_⟩:=I.list (.inl (.inl (gh _ _ ha)));obtain⟨as,q⟩:=Reps.reads I gh rs rv hp;exact⟨_,.list e1 e2 e3 (by simpa using q)⟩
 |_,_,u,p,.scr hs,r,h=>by
  cases r;rw[pdD] at h;cases h;obtain⟨its,rv,⟨o,n,e1,e2,_,e3⟩,_⟩:=I.list (gh.seq hs);obtain⟨as,q⟩:=BB (h:=s.heap) rv;exact⟨_,.list e1 e2 e3 (by simpa using q)⟩
 |_,_,u,p,.dk ha _ _,r,h=>by rw[pdD] at h;cases h;all_goals (intros;contradiction)
 |_,_,u,p,.dt ha _ _,r,h=>by rw[pdD] at h;cases h;all_goals (intros;contradiction)
 |_,_,u,p,.ins ha _ _ _,r,h=>by rw[pdD] at h;cases h;all_goals (intros;contradiction)
theorem Reps.reads (I:Inv X pins σ H s) (gh:bp G H):∀{vs:ab V} {ds:ab D} {us:ab av} {ps:ab vm},Reps Γ X.K G vs ds->bj vs us->fV ds=aa ps->∃as,ReadsAll s.heap us ps as
 |_,_,_,_,.nil,r,h=>by cases r;rw[fV] at h;cases h;exact⟨_,.nil⟩
 |_,_,_,_,.cons r1 r2,r,h=>by
  cases r with
  |cons q1 q2=>
   rw[fV] at h;obtain⟨p,hp,h⟩:=oBd h;obtain⟨ps,hps,rfl⟩:=oMd h;obtain⟨as,a1⟩:=Rep.reads I gh r1 q1 hp;obtain⟨bs,a2⟩:=Reps.reads I gh r2 q2 hps;exact⟨_,.cons a1 a2⟩
end
end
noncomputable def eqX (x y:D):aq aU:=(pdD x).bind fun p=>(pdD y).bind fun q=>if gG p=ai/\gG q=ai then aa (f8 p q) else ac
noncomputable def v7 (x y:D):aq D:=(eqX x y).map D.bl
noncomputable def pV (x y:D):aq D:=(eqX x y).map fun b=>D.bl (!b)
noncomputable def rX (Γ:Cn) (K:aR) (neg:aU):R2:=fun x y H Q=>∃G d e b,bp G H/\Rep Γ K G x d/\Rep Γ K G y e/\eqX d e=aa b/\Q (.bl (if neg then !b else b)) H
theorem Cs {x y:D} {b:aU} (h:eqX x y=aa b):∃p q,pdD x=aa p/\pdD y=aa q/\gG p=ai/\gG q=ai/\b=f8 p q:=by
 unfold eqX at h;obtain⟨p,hp,h⟩:=oBd h;obtain⟨q,hq,h⟩:=oBd h;split at h
 .rename_i hz;cases h;exact⟨p,q,hp,hq,hz.1,hz.2,rfl⟩
 .cases h
theorem NM (hu:X.A.units+64<dO):OpR X (eD .Eq) (rX Γ X.K ao):=by intro pins s σ H x y v u Q I rx ry h;obtain⟨G,d,e,b,gh,r1,r2,hb,q⟩:=h;obtain⟨p,q',hp,hq,s1,s2,rfl⟩:=Cs hb;obtain⟨as,a1⟩:=r1.reads I gh rx hp;obtain⟨bs,a2⟩:=r2.reads I gh ry hq;exact eq_dataH a1 a2 s1 s2 hu ⟨.bl _,H,I,rfl,q⟩
theorem J9 (hu:X.A.units+64<dO):OpR X (eD .NotEq) (rX Γ X.K ai):=by intro pins s σ H x y v u Q I rx ry h;obtain⟨G,d,e,b,gh,r1,r2,hb,q⟩:=h;obtain⟨p,q',hp,hq,s1,s2,rfl⟩:=Cs hb;obtain⟨as,a1⟩:=r1.reads I gh rx hp;obtain⟨bs,a2⟩:=r2.reads I gh ry hq;exact ne_dataH a1 a2 s1 s2 hu ⟨.bl _,H,I,rfl,q⟩
theorem HI (hu:X.A.units+64<dO):CmpD Γ X .Eq v7:=⟨_,NM (Γ:=Γ) hu,fun {G H v u x y z} gh r1 r2 h Q k=>by unfold v7 at h;obtain⟨b,hb,rfl⟩:=oMd h;exact⟨G,x,y,b,gh,r1,r2,hb,k _ G H (.refl gh) (.bl _)⟩⟩
theorem IK (hu:X.A.units+64<dO):CmpD Γ X .NotEq pV:=⟨_,J9 (Γ:=Γ) hu,fun {G H v u x y z} gh r1 r2 h Q k=>by unfold pV at h;obtain⟨b,hb,rfl⟩:=oMd h;exact⟨G,x,y,b,gh,r1,r2,hb,k _ G H (.refl gh) (.bl _)⟩⟩
noncomputable def inX (x y:D):aq aU:=(pdD x).bind fun p=>(pdD y).bind fun q=>match q with
 |.list l=>if gG p=ai/\kF l=ai then aa (l.any fun z=>f8 z p) else ac
 |_=>ac
noncomputable def pW (x y:D):aq D:=(inX x y).map D.bl
noncomputable def nI (x y:D):aq D:=(inX x y).map fun b=>D.bl (!b)
noncomputable def Db (Γ:Cn) (K:aR) (neg:aU):R2:=fun x y H Q=>∃G d e b,bp G H/\Rep Γ K G x d/\Rep Γ K G y e/\inX d e=aa b/\Q (.bl (if neg then !b else b)) H
theorem Ez {x y:D} {b:aU} (h:inX x y=aa b):∃p l,pdD x=aa p/\pdD y=aa (.list l)/\gG p=ai/\kF l=ai/\b=l.any fun z=>f8 z p:=by
 unfold inX at h;obtain⟨p,hp,h⟩:=oBd h;obtain⟨q,hq,h⟩:=oBd h;split at h
 .split at h
  .rename_i hz;cases h;exact⟨p,_,hp,hq,hz.1,hz.2,rfl⟩
  .cases h
 .cases h
theorem wU {p:vm} (h:gG p=ai):p.canLay0=ai/\p.depth<=64:=by unfold gG at h;rw[hG] at h;exact⟨h.1,Fv h.2⟩
theorem MR (hu:X.A.units+66<dO):OpR X (eD .In) (Db Γ X.K ao):=by intro pins s σ H x y v u Q I rx ry h;obtain⟨G,d,e,b,gh,r1,r2,hb,q⟩:=h;obtain⟨p,l,hp,hq,s1,s2,rfl⟩:=Ez hb;obtain⟨as,a1⟩:=r1.reads I gh rx hp;obtain⟨bs,a2⟩:=r2.reads I gh ry hq;obtain⟨c1,c2⟩:=wU s1;have:=u9 (ox l) p.depth;exact SeqAt.in_list_reads a2 a1 s2 c1 (by omega) ⟨.bl _,H,I,rfl,q⟩
theorem Jy (hu:X.A.units+66<dO):OpR X (eD .NotIn) (Db Γ X.K ai):=by intro pins s σ H x y v u Q I rx ry h;obtain⟨G,d,e,b,gh,r1,r2,hb,q⟩:=h;obtain⟨p,l,hp,hq,s1,s2,rfl⟩:=Ez hb;obtain⟨as,a1⟩:=r1.reads I gh rx hp;obtain⟨bs,a2⟩:=r2.reads I gh ry hq;obtain⟨c1,c2⟩:=wU s1;have:=u9 (ox l) p.depth;exact SeqAt.notIn_list_reads a2 a1 s2 c1 (by omega) ⟨.bl _,H,I,rfl,q⟩
theorem Kj (hu:X.A.units+66<dO):CmpD Γ X .In pW:=⟨_,MR (Γ:=Γ) hu,fun {G H v u x y z} gh r1 r2 h Q k=>by unfold pW at h;obtain⟨b,hb,rfl⟩:=oMd h;exact⟨G,x,y,b,gh,r1,r2,hb,k _ G H (.refl gh) (.bl _)⟩⟩
theorem Nt (hu:X.A.units+66<dO):CmpD Γ X .NotIn nI:=⟨_,Jy (Γ:=Γ) hu,fun {G H v u x y z} gh r1 r2 h Q k=>by unfold nI at h;obtain⟨b,hb,rfl⟩:=oMd h;exact⟨G,x,y,b,gh,r1,r2,hb,k _ G H (.refl gh) (.bl _)⟩⟩
theorem lX {k:ag} (hr:Room k X.A):X.A.units+66<dO:=by have:=hr.un;omega
theorem j5 {k:ag} (hr:Room k X.A):X.A.units+64<dO:=by have:=hr.un;omega
noncomputable def xy (d:D):aU:=match d with
 |.non=>ai
 |_=>ao
noncomputable def xm (x y:D):aq D:=match y with
 |.non=>aa (.bl (!xy x))
 |_=>ac
theorem G8 (r:Rep Γ K G v d):decide (v=.non)=xy d:=by cases r<;>simp[xy]
theorem JH:CmpD Γ X .IsNot xm:=⟨_,IB,fun {G H v u x y z} gh r1 r2 h Q k=>by unfold xm at h;split at h<;>cases h;exact⟨r2.non_inv,by rw[G8 r1];exact k _ G H (.refl gh) (.bl _)⟩⟩
variable {fx:FE}
section
variable {i:Expr}
noncomputable def bwT (i:ag) (ft:FT):FT:=fun ρ=>match ρ[i]? with
 |some (aa (.own ds))=>ft (ρ.set i (aa (.sh (.lst ds))))
 |_=>ac
theorem Rep.flat (r:Rep Γ K G v d) (h:pT d=ai):Rep Γ K G' v d:=by
 cases r with
 |non=>exact .non
 |bl b=>exact .bl b
 |int i=>exact .int i
 |str x=>exact .str x
 |_=>cases h
noncomputable def fM (i:ag) (f:FE):FS:=fun ρ=>match ρ[i]? with
 |some (aa (.own ds))=>(f ρ).bind fun d=>match d with
  |.lst l=>if ds.length+l.length<=aK then aa (.nx,ρ.set i (aa (.own (ds++l)))) else ac
  |_=>ac
 |_=>ac
theorem pr (i:ag) (h:DE Γ X e f) (hN:X.N[i]?=aa x:=by rfl) (hv:Vis X.env.scope x:=by first|exact cz rfl|exact bT (cz rfl)|exact bT (bT rfl)) (hd:(x==("__debug__":ah))=ao:=by decide)
  (hcd:(x==("__classdict__":ah))=ao:=by decide)
  (hbase:iU (.Name x vp) "extend" X.env (eval (.Name x vp) X.env)=eval (.Name x vp) X.env:=by rfl)
  (hfew:((ca cpos (aH [e] X.env)).all (fun x=>!x.1) && (gC cpos (gD [] X.env)).all (fun x=>x.1.isSome)
   && decide ([e].length+([]:ab iV).length+(if ([]:ab iV).isEmpty then 0 else 1)<30))=ai:=by rfl)
  (hline:(apos.endLine==cpos.line)=ai:=by rfl) (hs:aH [e] X.env=(ao,eval e X.env)::aH [] X.env:=by rfl) (hplain:(ca cpos (aH [] X.env)).any (·.1)=ao:=by rfl)
  (hsw:eE (.Call (.Attribute (.Name x vp) "extend" apos) [e] [] cpos) ac pos.line X.env=pure ao:=by rfl) :
  DS Γ X (.Expr (.Call (.Attribute (.Name x vp) "extend" apos) [e] [] cpos) pos) (fM i f):=⟨(jF (lU vi PL PySem.F.type_list_extend GY (dv hN hv hd hcd) (eY h.1 gc hs) hbase hfew hline hs hplain) hsw).imp fun E σ H=>by
  rintro⟨G₀,H₀,G,ρ,fl,ρ',A,h,k⟩;unfold fM at h;split at h
  .rename_i ds hi;obtain⟨d,hd,h⟩:=oBd h;split at h
   .rename_i l;split at h
    .rename_i hz;cases h;obtain⟨a,vs,h1,h2,h3,h4,h5⟩:=A.env.own i ds hi;refine⟨.ref a,h1,.inl ⟨rfl,vs,.inl (.inl h4)⟩,G₀,H₀,G,ρ,_,A,hd,fun v G1 H1 s1 r1=>?_⟩;have A1:=A.step s1;obtain⟨b,us,rfl,hb,rb⟩:=r1.lst_inv;refine⟨a,b,vs,us,rfl,rfl,s1.hh _ _ h4,s1.gh _ _ hb,by rw[h5.length,rb.length];exact hz,?_⟩;exact k σ G1 _ s1.gg (A1.chOwn hi h1 ((h5.mono s1.gg).append rb))
    .cases h
   .cases h
  .cases h⟩
noncomputable def Ri:ab D->aq D
 |[.int i]=>aa (.int i)
 |[.bl k]=>aa (.int (if k then 1 else 0))
 |_=>ac
noncomputable def vW:ab D->aq D
 |[.lst l]=>aa (.tup l)
 |[.tup l]=>aa (.tup l)
 |_=>ac
theorem GA:TyD Γ X "tuple" vW:=⟨_,Hv,fun {G H vs ds z} gh r h Q k=>by
 unfold vW at h;split at h<;>cases h
 .obtain⟨v,rfl,r1⟩:=r.one;obtain⟨a,us,rfl,ha,ra⟩:=r1.lst_inv;exact⟨a,us,rfl,.inl ⟨.inl (.inl (gh _ _ ha)),uA gh ra k⟩⟩
 .obtain⟨v,rfl,r1⟩:=r.one;obtain⟨a,us,rfl,ha,ra⟩:=r1.tup_inv;exact⟨a,us,rfl,.inr ⟨.inl (.inl (gh _ _ ha)),k _ G H (.refl gh) (.tup ha ra)⟩⟩⟩
noncomputable def uH:ab D->aq D
 |[.lst l]=>aa (.lst l)
 |[.tup l]=>aa (.lst l)
 |[.scr l]=>aa (.lst (l.map D.int))
 |_=>ac
theorem Np:TyD Γ X "list" uH:=⟨_,IE,fun {G H vs ds z} gh r h Q k=>by
 unfold uH at h;split at h<;>cases h
 .obtain⟨v,rfl,r1⟩:=r.one;obtain⟨a,us,rfl,ha,ra⟩:=r1.lst_inv;exact⟨a,us,rfl,.inl (.inl (.inl (gh _ _ ha))),ic gh ra k⟩
 .obtain⟨v,rfl,r1⟩:=r.one;obtain⟨a,us,rfl,ha,ra⟩:=r1.tup_inv;exact⟨a,us,rfl,.inr (.inl (.inl (gh _ _ ha))),ic gh ra k⟩
 .obtain⟨v,rfl,r1⟩:=r.one;obtain⟨a,rfl,ha⟩:=r1.scr_inv;exact⟨a,_,rfl,.inl (gh.seq ha),ic gh (Reps.ints _) k⟩⟩
noncomputable def uG [fj κ] (kvs:ab (κ×α)) (k:κ):aq α:=(kvs.find? fun kv=>decide (kv.1=k)).map (·.2)
noncomputable def gV [fj κ] (kvs:ab (κ×α)) (k:κ) (v:α):ab (κ×α):=
 if (kvs.any fun kv=>decide (kv.1=k))=ai then kvs.map (fun kv=>if kv.1=k then (kv.1,v) else kv) else kvs++[(k,v)]
theorem MY {κ:Type} [fj κ] {K:aR} {G:Hp} {k:κ}:∀{us:ab (κ×V)} {kvs:ab (κ×D)},us.map (·.1)=kvs.map (·.1)->Reps Γ K G (us.map (·.2)) (kvs.map (·.2))->
  (uG kvs k=ac/\jX us k=ac)\/∃d v,uG kvs k=aa d/\jX us k=aa v/\Rep Γ K G v d
 |[],[],_,_=>.inl ⟨rfl,rfl⟩
 |[],_::_,e,_=>by cases e
 |_::_,[],e,_=>by cases e
 |(k1,v)::us,(k2,d)::kvs,e,r=>by
  have e1:k1=k2:=(ir e).1;have e2:us.map (·.1)=kvs.map (·.1):=(ir e).2;subst e1;have r:Reps Γ K G (v::us.map (·.2)) (d::kvs.map (·.2)):=r;cases r with
  |cons r1 r2=>
   by_cases h:k1=k
   .exact .inr ⟨d,v,by simp[uG,rR,h],xV h,r1⟩
   .have:=MY (k:=k) e2 r2;rw[wu (p:=(k1,v)) h];simpa[uG,rR,h] using this
theorem A7 {κ:Type} [fj κ] {k:κ} {α β:Type}:∀{us:ab (κ×α)} {kvs:ab (κ×β)},us.map (·.1)=kvs.map (·.1)->(us.any fun kv=>decide (kv.1=k))=(kvs.any fun kv=>decide (kv.1=k))
 |[],[],_=>rfl
 |[],_::_,e=>by cases e
 |_::_,[],e=>by cases e
 |(k1,v)::us,(k2,d)::kvs,e=>by have e1:k1=k2:=(ir e).1;subst e1;rw[rS,rS,A7 (us:=us) (kvs:=kvs) (ir e).2]
theorem BD {κ:Type} [fj κ] {K:aR} {G:Hp} {k:κ} {v:V} {d:D} (rv:Rep Γ K G v d):∀{us:ab (κ×V)} {kvs:ab (κ×D)},us.map (·.1)=kvs.map (·.1)->Reps Γ K G (us.map (·.2)) (kvs.map (·.2))->
  (us.map fun kv=>if kv.1=k then (kv.1,v) else kv).map (·.1)=(kvs.map fun kv=>if kv.1=k then (kv.1,d) else kv).map (·.1)/\Reps Γ K G ((us.map fun kv=>if kv.1=k then (kv.1,v) else kv).map (·.2)) ((kvs.map fun kv=>if kv.1=k then (kv.1,d) else kv).map (·.2))
 |[],[],_,_=>⟨rfl,.nil⟩
 |[],_::_,e,_=>by cases e
 |_::_,[],e,_=>by cases e
 |(k1,u)::us,(k2,x)::kvs,e,r=>by
  have e1:k1=k2:=(ir e).1;have e2:us.map (·.1)=kvs.map (·.1):=(ir e).2;subst e1;have r:Reps Γ K G (u::us.map (·.2)) (x::kvs.map (·.2)):=r;cases r with
  |cons r1 r2=>
   obtain⟨h1,h2⟩:=BD (k:=k) rv e2 r2;by_cases h:k1=k
   .subst h;simp only[qp,dn];exact⟨by rw[h1],.cons rv h2⟩
   .simp only[qp,qZ h];exact⟨by rw[h1],.cons r1 h2⟩
theorem Eg [fj κ] {k:κ} (rv:Rep Γ K G v d) {us:ab (κ×V)} {kvs:ab (κ×D)} (e:us.map (·.1)=kvs.map (·.1)) (r:Reps Γ K G (us.map (·.2)) (kvs.map (·.2))) :
  (eJ us k v).map (·.1)=(gV kvs k d).map (·.1)/\Reps Γ K G ((eJ us k v).map (·.2)) ((gV kvs k d).map (·.2)):=by
 unfold eJ gV;rw[A7 (k:=k) e];split
 .exact BD rv e r
 .simp only[f9,qp,qR];exact⟨by rw[e],r.append (.cons rv .nil)⟩
noncomputable def j6:D->aq Key
 |.int i=>aa (.inl i)
 |.str x=>aa (.inr x)
 |_=>ac
noncomputable def h9:ab D->aq (ab Key)
 |[]=>aa []
 |d::r=>(j6 d).bind fun k=>(h9 r).map (k::·)
theorem w9 {k:Key} (r:Rep Γ K G v d) (h:j6 d=aa k):v=kV k:=by
 unfold j6 at h;split at h<;>cases h
 .exact r.int_inv
 .exact r.str_inv
theorem pX {K:aR} {G:Hp}:∀{vs:ab V} {ds:ab D} {ks:ab Key},Reps Γ K G vs ds->h9 ds=aa ks->vs=ks.map kV
 |_,[],ks,r,h=>by cases r;cases h;rfl
 |_,d::ds,ks,.cons h1 h2,h=>by unfold h9 at h;obtain⟨k,hk,h⟩:=oBd h;obtain⟨zs,hz,rfl⟩:=oMd h;rw[w9 h1 hk,pX h2 hz];rfl
noncomputable def b3 (g:D->D->D->aq D) (fa fb fc:FE):FE:=fun ρ=>(fa ρ).bind fun x=>(fb ρ).bind fun y=>(fc ρ).bind fun z=>g x y z
noncomputable def sNo:FS:=fun _=>ac
theorem CM {st:Stmt} :DS Γ X st sNo:=⟨fun pins s σ H E I q=>by obtain⟨G₀,H₀,G,ρ,fl,ρ',A,h,k⟩:=q;cases h⟩
end
structure CF (Γ:Cn) (K:aR) (c:ah) (attrs:ab ah):Prop where
 ex:∃C,Γ.cls c=aa C/\Cls K C/\∀f∈attrs,kH K C f
variable {attrs:ab ah}
section
variable {i:Expr} {fv:FE} {cl fl n m:ah}
theorem ii {K:aR} {G:Hp} {k:ah}:∀{us:ab (ah×V)} {fs:ab (ah×D)},us.map (·.1)=fs.map (·.1)->Reps Γ K G (us.map (·.2)) (fs.map (·.2))->
  (fs.lookup k=ac/\us.lookup k=ac)\/∃d v,fs.lookup k=aa d/\us.lookup k=aa v/\Rep Γ K G v d
 |[],[],_,_=>.inl ⟨rfl,rfl⟩
 |[],_::_,e,_=>by cases e
 |_::_,[],e,_=>by cases e
 |(k1,v)::us,(k2,d)::fs,e,r=>by
  have e1:k1=k2:=(ir e).1;have e2:us.map (·.1)=fs.map (·.1):=(ir e).2;subst e1;have r:Reps Γ K G (v::us.map (·.2)) (d::fs.map (·.2)):=r;cases r with
  |cons r1 r2=>
   by_cases h:k=k1
   .subst h;exact .inr ⟨d,v,by simp[dN],by simp[dN],r1⟩
   .have hb:(k==k1)=ao:=by simpa using h
    have:=ii (k:=k) e2 r2;simpa[dN,hb] using this
theorem yc {f:ah} {v:V}:∀{fs:ab (ah×V)},fs.lookup f=ac->eF f v fs=fs++[(f,v)]
 |[],_=>rfl
 |(g,x)::r,h=>by
  by_cases e:f=g
  .subst e;simp[dN] at h
  .have hb:(f==g)=ao:=by simpa using e
   rw[eF,qZ (fun z=>e z.symm),yc (by simpa[dN,hb] using h)];rfl
noncomputable def Eh (c f:ah):D->aq D
 |.ins c' fs=>if c'=c then fs.lookup f else ac
 |_=>ac
noncomputable def jY (c f:ah) (fo:FE):FE:=fun ρ=>(fo ρ).bind (Eh c f)
theorem pk (hc:CF Γ X.K cl attrs) (hf:fl∈attrs) (ho:DE Γ X o fo) (hb:iU o fl X.env (eval o X.env)=eval o X.env:=by rfl):DE Γ X (.Attribute o fl pos) (jY cl fl fo):=⟨(sO ho.1 hb).imp fun σ H Q=>by
 rintro⟨G₀,H₀,G,ρ,d,A,h,k⟩;unfold jY at h;obtain⟨x,hx,hq⟩:=oBd h;clear h;refine⟨G₀,H₀,G,ρ,x,A,hx,fun v G1 H1 s1 r1=>?_⟩;unfold Eh at hq;split at hq
 .split at hq
  .rename_i ec;subst ec;obtain⟨C,q1,q2,q3⟩:=hc.ex;cases r1 with
   |ins h1 h2 h3 h4=>
    rw[q1] at h2;cases h2;rcases ii (k:=fl) h3 h4 with⟨z1,_⟩|⟨d',v',z1,z2,z3⟩
    .rw[z1] at hq;cases hq
    .rw[z1] at hq;cases hq;exact⟨_,C,_,_,v',rfl,s1.gh _ _ h1,q2,q3 fl hf,z2,k v' G1 H1 s1 z3⟩
  .cases hq
 .cases hq⟩
noncomputable def C8 (f:ah):Slot->aq D
 |.obj _ fs=>fs.lookup f
 |.objd _ fs n _=>if f=n then ac else fs.lookup f
 |_=>ac
noncomputable def Ix:Slot->aq ah
 |.obj c _=>aa c
 |.objd c _ _ _=>aa c
 |_=>ac
noncomputable def ja (c f:ah) (i:ag):FE:=fun ρ=>match ρ[i]? with
 |some (aa s)=>if Ix s=aa c then C8 f s else ac
 |_=>ac
theorem KB {vs:ab (ah×V)} {f:ah} {w:V} (h:vs.lookup f=aa v):(vs++[(n,w)]).lookup f=aa v:=by
 induction vs with
 |nil=>cases h
 |cons p r ih=>
  obtain⟨g,x⟩:=p;by_cases e:f=g
  .subst e;simpa[dN] using h
  .have hb:(f==g)=ao:=by simpa using e
   simp only[qr,dN,hb] at h ⊢;exact ih h
theorem uc (i:ag) (hc:CF Γ X.K cl attrs) (hf:fl∈attrs) (hN:X.N[i]?=aa x:=by rfl) (hv:Vis X.env.scope x:=by first|exact cz rfl|exact bT (cz rfl)|exact bT (bT rfl)) (hd:(x==("__debug__":ah))=ao:=by decide)
  (hcd:(x==("__classdict__":ah))=ao:=by decide) (hb:iU (.Name x vp) fl X.env (eval (.Name x vp) X.env)=eval (.Name x vp) X.env:=by rfl):DE Γ X (.Attribute (.Name x vp) fl pos) (ja cl fl i):=⟨(sO (dv hN hv hd hcd) hb).imp fun σ H Q=>by
 rintro⟨G₀,H₀,G,ρ,d,A,h,k⟩;unfold ja at h;split at h
 .rename_i s hi;split at h
  .rename_i hcl;obtain⟨C,q1,q2,q3⟩:=hc.ex;obtain⟨v,fp,h1,h2⟩:=A.get hi;cases h2 with
   |sh _=>cases h
   |own _ _ _ _=>cases h
   |odk _ _ _ _ _=>cases h
   |odt _ _ _ _ _=>cases h
   |tlo _ _ _ _ _ _=>cases h
   |oll _ _ _ _ _=>cases h
   |pin _=>cases h
   |obj g1 g2 g3 g4 g5 g6 g7=>
    cases hcl;rw[q1] at g1;cases g1;have h:dN fl _=aa d:=h;rcases ii (k:=fl) g5 g6 with⟨z1,_⟩|⟨d',v',z1,z2,z3⟩
    .rw[z1] at h;cases h
    .rw[z1] at h;cases h;exact⟨_,h1,_,C,_,_,v',rfl,g4,q2,q3 fl hf,z2,k v' G H (.refl A.gh) z3⟩
   |objd g1 g2 g3 g4 g5 g6 _ _ _ _ _ g7=>
    cases hcl;rw[q1] at g1;cases g1;unfold C8 at h;simp only at h;split at h
    .cases h
    .rcases ii (k:=fl) g5 g6 with⟨z1,_⟩|⟨d',v',z1,z2,z3⟩
     .rw[z1] at h;cases h
     .rw[z1] at h;cases h;exact⟨_,h1,_,C,_,_,v',rfl,g4,q2,q3 fl hf,KB z2,k v' G H (.refl A.gh) z3⟩
  .cases h
 .cases h⟩
noncomputable def fC (c f:ah) (i:ag) (fv:FE):FS:=fun ρ=>(fv ρ).bind fun d=>match ρ[i]? with
 |some (aa (.obj c' fs))=>if c'=c/\fs.lookup f=ac/\fs.length<100 then aa (.nx,ρ.set i (aa (.obj c (fs++[(f,d)])))) else ac
 |_=>ac
theorem gS (i:ag) (hc:CF Γ X.K cl attrs) (hf:fl∈attrs) (hv':DE Γ X value fv) (hN:X.N[i]?=aa x:=by rfl) (hv:Vis X.env.scope x:=by first|exact cz rfl|exact bT (cz rfl)|exact bT (bT rfl)) (hd:(x==("__debug__":ah))=ao:=by decide)
  (hcd:(x==("__classdict__":ah))=ao:=by decide) (hs:eE value (aa (.Attribute (.Name x vp) fl pos')) pos.line X.env=pure ao:=by rfl):DS Γ X (.Assign [.Attribute (.Name x vp) fl pos'] value pos) (fC cl fl i fv):=⟨(yb (dv hN hv hd hcd) hv'.1 hs).imp fun E σ H=>by
 rintro⟨G₀,H₀,G,ρ,flw,ρ',A,h,k⟩;unfold fC at h;obtain⟨d,hd,h⟩:=oBd h;split at h
 .rename_i c' fs hi;split at h
  .rename_i hz;obtain⟨rfl,hz2,hz3⟩:=hz;cases h;obtain⟨C,q1,q2,q3⟩:=hc.ex;refine⟨G₀,H₀,G,ρ,d,A,hd,fun v G1 H1 s1 r1=>?_⟩;have A1:=A.step s1;obtain⟨w,fp,h1,h2⟩:=A1.get hi;cases h2 with
   |obj g1 g2 g3 g4 g5 g6 g7=>
    rename_i a C' dx vs;have g1':=g1;rw[q1] at g1;cases g1;have hl:vs.lookup fl=ac:=by
     rcases ii (k:=fl) g5 g6 with⟨_,z2⟩|⟨d',v',z1,_,_⟩
     .exact z2
     .rw[z1] at hz2;cases hz2
    have hlen:vs.length=fs.length:=by simpa using c7 gE g5
    refine⟨_,h1,a,C,dx,vs,rfl,g4,q2,q3 fl hf,by omega,?_⟩;rw[yc hl];refine k σ G1 _ s1.gg (A1.ch hi h1 (.obj g1' g2 g3 g4 g5 g6 g7) (fun b o e hb=>?_) (.obj (vs:=vs++[(fl,v)]) g1' g2 g3 b7 (by simp[g5]) (by simpa using g6.append (.cons r1 .nil)) g7) (fun b hb=>.inl hb) (.refl _) (fun b o e=>?_) (fun _ _ _ _=>rfl))
    .rw[aX (fun z=>hb (ce.mpr z))];exact e
    .rw[aX (ck e g3)];exact A1.gh b o e
  .cases h
 .cases h⟩
noncomputable def nT (c f:ah) (i:ag):FS:=fun ρ=>match ρ[i]? with
 |some (aa (.obj c' fs))=>if c'=c/\fs.lookup f=ac/\fs.length<100 then aa (.nx,ρ.set i (aa (.objd c fs f []))) else ac
 |_=>ac
theorem KY (i:ag) (hc:CF Γ X.K cl attrs) (hf:fl∈attrs) {dp:fm} (hN:X.N[i]?=aa x:=by rfl) (hv:Vis X.env.scope x:=by first|exact cz rfl|exact bT (cz rfl)|exact bT (bT rfl)) (hd:(x==("__debug__":ah))=ao:=by decide)
  (hcd:(x==("__classdict__":ah))=ao:=by decide) (hs:eE (.Dict [] [] dp) (aa (.Attribute (.Name x vp) fl pos')) pos.line X.env=pure ao:=by rfl):DS Γ X (.Assign [.Attribute (.Name x vp) fl pos'] (.Dict [] [] dp) pos) (nT cl fl i):=⟨(yb (dv hN hv hd hcd) Ir hs).imp fun E σ H=>by
 rintro⟨G₀,H₀,G,ρ,flw,ρ',A,h,k⟩ p hp;unfold nT at h;split at h
 .rename_i c' fs hi;split at h
  .rename_i hz;obtain⟨rfl,hz2,hz3⟩:=hz;cases h;obtain⟨C,q1,q2,q3⟩:=hc.ex;obtain⟨w,fp,h1,h2⟩:=A.get hi;cases h2 with
   |obj g1 g2 g3 g4 g5 g6 g7=>
    rename_i a C' dx vs;have g1':=g1;rw[q1] at g1;cases g1;have hl:vs.lookup fl=ac:=by
     rcases ii (k:=fl) g5 g6 with⟨_,z2⟩|⟨d',v',z1,_,_⟩
     .exact z2
     .rw[z1] at hz2;cases hz2
    have hlen:vs.length=fs.length:=by simpa using c7 gE g5
    have npa:a≠p:=ck g4 hp;refine⟨_,h1,a,C,dx,vs,rfl,by rw[aX npa];exact g4,q2,q3 fl hf,by omega,?_⟩;rw[yc hl];have hp0:H₀ p=ac:=A.st.hh.free hp;have hpg:G p=ac:=A.gh.free hp;refine k σ G _ (.refl _) (A.ch hi h1 (.obj g1' g2 g3 g4 g5 g6 g7) (fun b o e hb=>?_) (.objd (vs:=vs) (p:=p) (us:=[]) (kvs:=[]) g1' g2 g3 b7 g5 g6 hp0 hpg (by rw[aX npa.symm,b7]) rfl .nil g7) (fun b hb=>?_) (.refl _) (fun b o e=>?_) (fun _ _ _ _=>rfl))
    .rw[aX (fun z=>hb (ce.mpr z)),aX (ck e hp)];exact e
    .rcases eC.mp hb with rfl|hb
     .exact .inl (ce.mpr rfl)
     .rw[ce.mp hb];exact .inr hp
    .rw[aX (ck e g3),aX (ck e hpg)];exact A.gh b o e
  .cases h
 .cases h⟩
noncomputable def jc (c f:ah) (i:ag) (fk fv:FE):FS:=fun ρ=>(fv ρ).bind fun d=>(fk ρ).bind fun kd=>(j6 kd).bind fun k=>match ρ[i]? with
 |some (aa (.objd c' fs n kvs))=>if c'=c/\n=f/\fs.lookup f=ac/\kvs.length<100000 then aa (.nx,ρ.set i (aa (.objd c fs n (gV kvs k d)))) else ac
 |_=>ac
theorem Lj {vs:ab (ah×V)} {f:ah} {w:V} (h:vs.lookup f=ac):(vs++[(f,w)]).lookup f=aa w:=by
 induction vs with
 |nil=>simp[dN]
 |cons p r ih=>
  obtain⟨g,x⟩:=p;by_cases e:f=g
  .subst e;simp[dN] at h
  .have hb:(f==g)=ao:=by simpa using e
   simp only[qr,dN,hb] at h ⊢;exact ih h
theorem Mg (i:ag) (hu:X.A.units+66<dO) (hc:CF Γ X.K cl attrs) (hf:fl∈attrs) {ap:fm} {ke:Expr} (hk:DE Γ X ke fk) (hv':DE Γ X value fv) (hN:X.N[i]?=aa x:=by rfl) (hv:Vis X.env.scope x:=by first|exact cz rfl|exact bT (cz rfl)|exact bT (bT rfl)) (hd:(x==("__debug__":ah))=ao:=by decide)
  (hcd:(x==("__classdict__":ah))=ao:=by decide) (hb:iU (.Name x vp) fl X.env (eval (.Name x vp) X.env)=eval (.Name x vp) X.env:=by rfl) (hs:eE value (aa (.Subscript (.Attribute (.Name x vp) fl ap) ke pos')) pos.line X.env=pure ao:=by rfl) :
  DS Γ X (.Assign [.Subscript (.Attribute (.Name x vp) fl ap) ke pos'] value pos) (jc cl fl i fk fv):=⟨(KO (by omega) (sO (dv hN hv hd hcd) hb) hk.1 hv'.1 hs).imp fun E σ H=>by
 rintro⟨G₀,H₀,G,ρ,flw,ρ',A,h,k⟩;unfold jc at h;obtain⟨d,hd,ha⟩:=oBd h;clear h;obtain⟨kd,hkd,hb1⟩:=oBd ha;clear ha;obtain⟨kk,hkk,hq⟩:=oBd hb1;clear hb1;split at hq
 .rename_i c' fs n kvs hi;split at hq
  .rename_i hz;obtain⟨rfl,rfl,hz2,hz3⟩:=hz;cases hq;obtain⟨C,q1,q2,q3⟩:=hc.ex;refine⟨G₀,H₀,G,ρ,d,A,hd,fun v G1 H1 s1 r1=>?_⟩;have A1:=A.step s1;obtain⟨w,fp,h1,h2⟩:=A1.get hi;cases h2 with
   |objd g1 g2 g3 g4 g5 g6 y1 y2 y3 y4 y5 g7=>
    rename_i a C' dx p vs us;have g1':=g1;rw[q1] at g1;cases g1;have hl:vs.lookup n=ac:=by
     rcases ii (k:=n) g5 g6 with⟨_,z2⟩|⟨d',v',z1,_,_⟩
     .exact z2
     .rw[z1] at hz2;cases hz2
    refine⟨_,h1,a,C,dx,_,.ref p,rfl,g4,q2,q3 n hf,Lj hl,G₀,H₀,G1,ρ,kd,A1,hkd,fun u G2 H2 s2 r2=>?_⟩;have A2:=A1.step s2;have eu:=w9 r2 hkk;subst eu;have hp2:H2 p=aa (.dK us):=s2.hh _ _ y3;have ha2:H2 a=aa (.ins C dx (vs++[(n,.ref p)])):=s2.hh _ _ g4;have ga2:G2 a=ac:=(s2.out _ _ g4).trans g3;have gp2:G2 p=ac:=(s2.out _ _ y3).trans y2;have npa:a≠p:=wC ha2 hp2 (by intro z;cases z);have hlen:us.length=kvs.length:=by simpa using c7 gE y4
    obtain⟨w1,w2⟩:=Eg (k:=kk) (r1.mono s2.gg) y4 (y5.mono s2.gg);refine⟨p,_,rfl,pL.k hp2 (by have:=g8;omega),?_⟩;refine k σ G2 _ (s1.gg.trans s2.gg) (A2.ch hi h1 (.objd g1' g2 ga2 ha2 g5 (g6.mono s2.gg) y1 gp2 hp2 y4 (y5.mono s2.gg) g7) (fun b o e hb=>?_) (.objd (p:=p) g1' g2 ga2 (by rw[aX npa];exact ha2) g5 (g6.mono s2.gg) y1 gp2 b7 w1 w2 g7) (fun b hb=>.inl hb) (.refl _) (fun b o e=>?_) (fun _ _ _ _=>rfl))
    .rw[aX (fun z=>hb (by rw[z];exact qg _ qf))];exact e
    .rw[aX (ck e gp2)];exact A2.gh b o e
  .cases hq
 .cases hq⟩
noncomputable def Bw:Slot->aq D
 |.obj c fs=>aa (.ins c fs)
 |.objd c fs n kvs=>aa (.ins c (fs++[(n,.dk kvs)]))
 |_=>ac
theorem At.done (A:At Γ K G₀ H₀ G H ρ σ) {i:ag} {s:Slot} (hi:ρ[i]?=aa (aa s)) (hd:Bw s=aa d):∃a G',Γ.self=aa a/\Step G₀ H₀ G' H/\Rep Γ K G' (.ref a) d:=by
 obtain⟨v,fp,h1,h2⟩:=A.get hi;cases h2 with
 |sh _=>cases hd
 |own _ _ _ _=>cases hd
 |odk _ _ _ _ _=>cases hd
 |odt _ _ _ _ _=>cases hd
 |tlo _ _ _ _ _ _=>cases hd
 |oll _ _ _ _ _=>cases hd
 |pin _=>cases hd
 |obj g1 g2 g3 g4 g5 g6 g7=>
  cases hd;rename_i a C dx vs fs;have sm:bp G (upd G a (.ins C dx vs)):=fun b o e=>by rw[aX (ck e g3)];exact e
  refine⟨a,upd G a (.ins C dx vs),g7,⟨A.st.hh,A.st.gg.trans sm,fun b o e=>?_,fun b o e=>?_⟩,.ins b7 g1 g5 (g6.mono sm)⟩
  .by_cases hb:b=a
   .subst hb;rw[b7] at e;cases e;exact g4
   .rw[aX hb] at e;exact A.gh b o e
  .rw[aX (ck e g2)];exact A.st.out b o e
 |objd g1 g2 g3 g4 g5 g6 y1 y2 y3 y4 y5 g7=>
  cases hd;rename_i n a C dx p vs fs us kvs;have npa:a≠p:=wC g4 y3 (by intro z;cases z);have sm:bp G (upd (upd G p (.dK us)) a (.ins C dx (vs++[(n,.ref p)]))):=fun b o e=>by rw[aX (ck e g3),aX (ck e y2)];exact e
  refine⟨a,_,g7,⟨A.st.hh,A.st.gg.trans sm,fun b o e=>?_,fun b o e=>?_⟩,.ins (us:=vs++[(n,.ref p)]) (fs:=fs++[(n,.dk kvs)]) b7 g1 (by simp[g5]) ?_⟩
  .by_cases hb:b=a
   .subst hb;rw[b7] at e;cases e;exact g4
   .rw[aX hb] at e;by_cases hb':b=p
    .subst hb';rw[b7] at e;cases e;exact y3
    .rw[aX hb'] at e;exact A.gh b o e
  .rw[aX (ck e g2),aX (ck e y1)];exact A.st.out b o e
  .have r2:Rep Γ K (upd (upd G p (.dK us)) a (.ins C dx (vs++[(n,.ref p)]))) (.ref p) (.dk kvs):=.dk (us:=us) (by rw[aX npa.symm,b7]) y4 (y5.mono sm);simpa using(g6.mono sm).append (.cons r2 .nil)
end
noncomputable def Cn.mk1 (Γ:Cn) (x:au):Cn:=⟨Γ.cls,aa x⟩
section
variable {c:ah} {x:au}
theorem Rep.to1 (x:au) (r:Rep Γ K G v d):Rep (Γ.mk1 x) K G v d:=Rep.re (Γ:=Γ) (Γ':=Γ.mk1 x) rfl r
theorem Rep.of1 (r:Rep (Γ.mk1 x) K G v d):Rep Γ K G v d:=Rep.re (Γ:=Γ.mk1 x) (Γ':=Γ) rfl r
theorem Reps.of1 {v:ab V} {d:ab D} (r:Reps (Γ.mk1 x) K G v d):Reps Γ K G v d:=Reps.re (Γ:=Γ.mk1 x) (Γ':=Γ) rfl r
theorem CF.re (h:CF Γ K c attrs) (x:au):CF (Γ.mk1 x) K c attrs:=⟨h.ex⟩
theorem Ox {F:ab D->aq D} {Q:VK} {E:XK} (x:au) (h:spF (Γ.mk1 x) K n F vs H Q E):spF Γ K n F vs H Q E:=by obtain⟨G,ds,d,h1,h2,h3,h4,k⟩:=h;exact⟨G,ds,d,h1,h2.of1,h3,h4,fun v G' H' s r=>k v G' H' s (r.to1 x)⟩
theorem Cal.re {k:ag} {F:ab D->aq D} (C:Cal Γ P w K mg base y n k F) (x:au):Cal (Γ.mk1 x) P w K mg base y n k F:=by obtain⟨f,fd,ps,h1,h2,h3,h4⟩:=C.ex;exact⟨f,fd,ps,h1.imp fun vs H Q E q=>Ox x q,h2,h3,h4⟩
structure CalM (Γ:Cn) (P:dD) (w:cS) (K:aR) (mg:ah->aq av) (base:Heap) (c m:ah) (n k:ag) (F:ab D->aq D):Prop where
 ex:∃C f fd ps,Γ.cls c=aa C/\Cls K C/\Meth K C m f/\FnOk P w K mg base CX0 k f fd ps (spF Γ K n F)/\e8 K fd ps []
noncomputable def spI (Γ:Cn) (K:aR) (C:au) (n:ag) (F:ab D->aq D):Sp:=fun vs H Q _=>∃x dx H1 G ds d us,vs=.ref x::us/\H=upd (upd H1 dx (.own x)) x (.ins C dx [])/\H1 x=ac/\H1 dx=ac/\dx≠x/\bp G H1/\Reps Γ K G us ds/\ds.length=n/\F ds=aa d /\
 ∀G' H',Step G H1 G' H'->Rep Γ K G' (.ref x) d->Q .non H'
structure CalI (Γ:Cn) (P:dD) (w:cS) (K:aR) (mg:ah->aq av) (base:Heap) (c:ah) (n k:ag) (F:ab D->aq D):Prop where
 ex:∃C f fd ps,Γ.cls c=aa C/\Mk K C f/\mg c=aa (.ref C)/\FnOk P w K mg base CX0 k f fd ps (spI Γ K C n F)/\e8 K fd ps []
end
section
variable {c m:ah}
noncomputable def dM (c m:ah) (F:ab D->aq D) (fo:FE) (fr:FA):FE:=fun ρ=>(fo ρ).bind fun d=>match d with
 |.ins c' fs=>if c'=c/\fs.lookup m=ac then (fr ρ).bind fun ds=>F (d::ds) else ac
 |_=>ac
theorem Rj {k:ag} {F:ab D->aq D} (C:CalM Γ X.prog X.w X.K X.mg X.base c m (n+1) k F) (hr:Room j X.A) (hk:k<=j) (ho:DE Γ X o fo) (ha:DA Γ X (e::es) fr) (hn:∀ρ ds,fr ρ=aa ds->ds.length=n)
  (hst:aH (e::es) X.env=(ao,eval e X.env)::aH es X.env:=by rfl) (hpl:(ca pos (aH es X.env)).any (·.1)=ao:=by rfl)
  (ht:eval (.Call (.Attribute o m apos) (e::es) [] pos) X.env=(do
   let ov ←eval o X.env
   iQ apos.atName
   let (f,first) ←fD [ov] (kC ov m pl)
   lI pos f first (ca pos (aH (e::es) X.env)) (gC pos (gD [] X.env))):=by rfl) :
  DE Γ X (.Call (.Attribute o m apos) (e::es) [] pos) (dM c m F fo fr):=⟨by
 obtain⟨Ca,f,fd,ps,h0,h1,h2,h3,h4⟩:=C.ex;refine(zA ho.1 h1 h2 h3 (hr.mono hk) h4 .nil gJ ha.1 hst hpl ht).imp fun σ H Q=>?_;rintro⟨G₀,H₀,G,ρ,d,A,h,k⟩;unfold dM at h;obtain⟨x,hx,hq⟩:=oBd h;clear h;refine⟨G₀,H₀,G,ρ,x,A,hx,fun v G1 H1 s1 r1=>?_⟩;split at hq
 .rename_i c' fs;split at hq
  .rename_i hz;obtain⟨rfl,hz2⟩:=hz;obtain⟨ds,hds,hF⟩:=oBd hq;have r1':=r1;cases r1 with
   |ins g1 g2 g3 g4=>
    rw[h0] at g2;cases g2;rename_i _ _ us0;have hl:dN m us0=ac:=by
     rcases ii (k:=m) g3 g4 with⟨_,z2⟩|⟨d',v',z1,_,_⟩
     .exact z2
     .rw[z1] at hz2;cases hz2
    refine⟨_,_,_,rfl,s1.gh _ _ g1,hl,G₀,H₀,G1,ρ,ds,A.step s1,hds,fun vs G2 H2 s2 r2=>?_⟩;show spF Γ X.K (n+1) F (_::(vs++[])) H2 Q E0;rw[eX];exact⟨G2,_,d,s2.gh,.cons (r1'.mono s2.gg) r2,by rw[qh,hn ρ ds hds],hF,fun v G' H' s r=>k v G' H' ((s1.trans s2).trans s) r⟩
  .cases hq
 .cases hq⟩
theorem gw {k:ag} {F:ab D->aq D} (C:CalM Γ X.prog X.w X.K X.mg X.base c m 1 k F) (hr:Room j X.A) (hk:k<=j) (ho:DE Γ X o fo)
  (ht:eval (.Call (.Attribute o m apos) [] [] pos) X.env=(do
   let ov ←eval o X.env
   iQ apos.atName
   let (f,first) ←fD [ov] (kC ov m pl)
   lI pos f first (ca pos (aH [] X.env)) (gC pos (gD [] X.env))):=by rfl) :
  DE Γ X (.Call (.Attribute o m apos) [] [] pos) (dM c m F fo af):=⟨by
 obtain⟨Ca,f,fd,ps,h0,h1,h2,h3,h4⟩:=C.ex;refine(Ce ho.1 h1 h2 h3 (hr.mono hk) h4 .nil gJ ht).imp fun σ H Q=>?_;rintro⟨G₀,H₀,G,ρ,d,A,h,k⟩;unfold dM at h;obtain⟨x,hx,hq⟩:=oBd h;clear h;refine⟨G₀,H₀,G,ρ,x,A,hx,fun v G1 H1 s1 r1=>?_⟩;split at hq
 .rename_i c' fs;split at hq
  .rename_i hz;obtain⟨rfl,hz2⟩:=hz;obtain⟨ds,hds,hF⟩:=oBd hq;cases hds;have r1':=r1;cases r1 with
   |ins g1 g2 g3 g4=>
    rw[h0] at g2;cases g2;rename_i _ _ us0;have hl:dN m us0=ac:=by
     rcases ii (k:=m) g3 g4 with⟨_,z2⟩|⟨d',v',z1,_,_⟩
     .exact z2
     .rw[z1] at hz2;cases hz2
    refine⟨_,_,_,rfl,s1.gh _ _ g1,hl,?_⟩;exact⟨G1,_,d,s1.gh,.cons r1' .nil,rfl,hF,fun v G' H' s r=>k v G' H' (s1.trans s) r⟩
  .cases hq
 .cases hq⟩
end
noncomputable def ny (n:ag) (c:ah) (g:FS):ab D->aq D:=fun ds=>(g (aa (.obj c [])::ds.map (fun d=>aa (Slot.sh d))++bY n ac)).bind fun r=>match r.1 with
 |.nx=>match r.2[0]? with
  |some (aa s)=>Bw s
  |_=>ac
 |_=>ac
variable {s0:ah}
section
variable {c:ah}
theorem Fun.okI {st:Stmt} {f:au} {k:ag} (F:Fun K x qual st f fd) (S:FnScope N (s0::ps) (aF st)) (hC:Γ.cls c=aa C)
  (hbody:∀(y:au) (cdv:av) (A:dj) (outer:ab cM) (s:aB) (H:Hp) (E:XK),Room k (A.deeper (dP qual (aF st) s.heap.objs.size f cdv))->
   DSs (Γ.mk1 y) (eN CX0 P w K mg base N qual (aF st) f cdv A outer s H E).nox (cO st) g):FnOk P w K mg base CX0 (k+1) f fd (s0::ps) (spI Γ K C ps.length (ny (N.length-(ps.length+1)) c g)):=by
 refine F.ok S (fun vs H Q E h=>?_) (fun cdv A outer s H vs Q E hr h=>?_)
 .obtain⟨y,dx,H1,G,ds,d,us,rfl,_,_,_,_,_,r,hl,_⟩:=h;rw[qh,r.length,hl,qh]
 .obtain⟨y,dx,H1,G,ds,d,us,rfl,rfl,hx,hdx,hne,gh,r,hl,hd,k⟩:=h;refine⟨_,(hbody y cdv A outer s _ E hr).1,?_⟩;unfold ny at hd;obtain⟨⟨fl,ρ'⟩,hg,hd⟩:=oBd hd;have s1:=Step.newOwn (o:=.own y) gh hdx;have hx1:(upd H1 dx (.own y)) y=ac:=by rw[aX (em hne)];exact hx
  have s2:=s1.trans (Step.newOwn (o:=.ins C dx []) s1.gh hx1);have hlen:us.length=ds.length:=r.length;have A0:At (Γ.mk1 y) K G H1 G (upd (upd H1 dx (.own y)) y (.ins C dx [])) (aa (.obj c [])::ds.map (fun d=>aa (Slot.sh d))++bY (N.length-(ps.length+1)) ac) (ee N (.ref y::us)):=by
   refine⟨s2,by simp[ee,hlen,hl],fun i=>if i=0 then [y] else [],fun i t e=>?_,fun i j t u hij e1 e2 b hb=>?_⟩
   .cases i with
    |zero=>
     cases e;exact⟨.ref y,rfl,.obj (vs:=[]) (fs:=[]) hC hx (gh.free hx) b7 rfl .nil rfl⟩
    |succ i=>
     have e:(ds.map (fun d=>aa (Slot.sh d))++bY (N.length-(ps.length+1)) ac)[i]?=aa (aa t):=e;by_cases hi:i<ds.length
     .rw[qD (by simpa using hi),ql] at e;obtain⟨d',hd',e⟩:=oMd e;cases e;obtain⟨v,hv,rv⟩:=r.get hd';refine⟨v,?_,.sh (rv.to1 y)⟩;unfold ee;show((us.map aa)++_)[i]?=aa (aa v);rw[qD (by rw[qe,hlen];exact hi),ql,hv];rfl
     .rw[qN (by simpa using hi),u7] at e;split at e<;>cases e
   .have hb:b∈(if i=0 then [y] else []):=hb;show b∉(if j=0 then [y] else []);by_cases hi:i=0
    .subst hi;rw[qZ (em hij)];exact fun z=>by cases z
    .rw[qZ hi] at hb;cases hb
  refine⟨G,H1,G,_,fl,ρ',A0,hg,fun σ' G' H' sm A'=>?_⟩;cases fl with
  |nx=>
   simp only at hd;split at hd
   .rename_i sl hs;obtain⟨a,G2,e1,st2,rp⟩:=A'.done hs hd;cases e1;exact k G2 H' st2 rp.of1
   .cases hd
  |rt d'=>cases hd
  |ow d'=>cases hd
  |nw d'=>cases hd
  |od d'=>cases hd
  |bk=>cases hd
  |ct=>cases hd
structure DfnM (K:aR) (C:au) (c m qual:ah) (st:Stmt):Prop where
 ex:∃f fd,Fun K m qual st f fd/\dE K (.ref C) m=aa (aa (.ref f))/\u4 K (.ref f)=ai
structure ClsOk (Γ:Cn) (K:aR) (mg:ah->aq av) (c:ah) (C:au):Prop where
 cn:Γ.cls c=aa C
 cl:Cls K C
 mgC:mg c=aa (.ref C)
 makes:u5 K C=ai
 kp:fY K (.ref C)=ai
theorem DfnM.cal {m:ah} {st:Stmt} {k:ag} (O:ClsOk Γ K mg c C) (F:DfnM K C c m qual st) (S:FnScope N ps (aF st))
  (hb:∀(kV doc pm:av) (an:aq au) (cdv ct:av) (us:ab av),us.length=ps.length->fZ (eO m qual (eT st) (cO st) (aF st) .none kV doc pm an cdv ct) ⟨us,[]⟩=pure (ps.zip us))
  (hbody:∀(f:au) (cdv:av) (A:dj) (outer:ab cM) (s:aB) (H:Hp) (E:XK),Room k (A.deeper (dP qual (aF st) s.heap.objs.size f cdv))->
   DSs Γ (eN CX0 P w K mg base N qual (aF st) f cdv A outer s H E).nox (cO st) g):CalM Γ P w K mg base c m ps.length (k+1) (bJ (N.length-ps.length) g):=by
 obtain⟨f,fd,h1,h2,h3⟩:=F.ex;exact⟨C,f,fd,ps,O.cn,O.cl,⟨h2,h3,h1.kp⟩,h1.okD S (hbody f),h1.binds hb⟩
theorem DfnM.calI {st:Stmt} {k:ag} (O:ClsOk Γ K mg c C) (F:DfnM K C c "__init__" qual st) (S:FnScope N (s0::ps) (aF st))
  (hb:∀(kV doc pm:av) (an:aq au) (cdv ct:av) (us:ab av),us.length=(s0::ps).length->fZ (eO "__init__" qual (eT st) (cO st) (aF st) .none kV doc pm an cdv ct) ⟨us,[]⟩=pure ((s0::ps).zip us))
  (hbody:∀(f y:au) (cdv:av) (A:dj) (outer:ab cM) (s:aB) (H:Hp) (E:XK),Room k (A.deeper (dP qual (aF st) s.heap.objs.size f cdv))->
   DSs (Γ.mk1 y) (eN CX0 P w K mg base N qual (aF st) f cdv A outer s H E).nox (cO st) g):CalI Γ P w K mg base c ps.length (k+1) (ny (N.length-(ps.length+1)) c g):=by
 obtain⟨f,fd,h1,h2,h3⟩:=F.ex;exact⟨C,f,fd,s0::ps,O.cn,⟨O.makes,h2,h3,O.kp⟩,O.mgC,h1.okI S O.cn (hbody f),h1.binds hb⟩
theorem ClsOk.cf (O:ClsOk Γ K mg c C) (h:∀f∈attrs,kH K C f):CF Γ K c attrs:=⟨C,O.cn,O.cl,h⟩
end
variable {M n0 ep:ag} {owner:b9 (aq ag)} {hs:ab aj} {I:au} {wr:ab au} {hashAt:ag->aj} {es':b9 (aj×av)}
namespace ST
structure Pr where
 j:ag
 more:ag
 i:ag
 pt:ag
noncomputable def adv (M:ag) (p:Pr):Pr:=if p.more > 0 then {p with j:=p.j+1,more:=p.more-1} else
 {j:=(iW M p.i p.pt).1,more:=dG M (iW M p.i p.pt).1-(iW M p.i p.pt).1,i:=(iW M p.i p.pt).1,pt:=(iW M p.i p.pt).2}
noncomputable def st0 (M:ag) (h:aj):Pr:={j:=fE h%(M+1),more:=dG M (fE h%(M+1))-fE h%(M+1),i:=fE h%(M+1),pt:=fE h}
noncomputable def it (M:ag) (h:aj):ag->Pr
 |0=>st0 M h
 |n+1=>adv M (it M h n)
noncomputable def J (M:ag) (h:aj) (n:ag):ag:=(it M h n).j
noncomputable def lp (M:ag) (h:aj):ag->ag×ag
 |0=>(fE h%(M+1),fE h)
 |r+1=>iW M (lp M h r).1 (lp M h r).2
noncomputable def mB (M:ag) (x:ag×ag):Pr:={j:=x.1,more:=dG M x.1-x.1,i:=x.1,pt:=x.2}
theorem uD (M:ag) (h:aj) (n:ag):∀k,it M h (n+k)=(Nat.repeat (adv M) k (it M h n))
 |0=>rfl
 |k+1=>by rw[←Fw,it,uD M h n k];rfl
theorem LD (M i:ag):dG M i-i<=9:=by unfold dG;split<;>omega
theorem sW (M:ag):∀(k:ag) (p:Pr),k<=p.more->Nat.repeat (adv M) k p={p with j:=p.j+k,more:=p.more-k}
 |0,p,_=>rfl
 |k+1,p,h=>by rw[Nat.repeat,sW M k p (by omega)];unfold adv;rw[qY (by show p.more-k > 0;omega)];simp only[Nat.sub_sub,Fw]
theorem AC (M:ag) (h:aj):∀r,∃n,n<=10*r/\it M h n=mB M (lp M h r)
 |0=>⟨0,qy _,rfl⟩
 |r+1=>by obtain⟨n,hn,e⟩:=AC M h r;have hl:=LD M (lp M h r).1;refine⟨n+(dG M (lp M h r).1-(lp M h r).1)+1,by omega,?_⟩;have e2:=sW M (dG M (lp M h r).1-(lp M h r).1) (mB M (lp M h r)) (qy _);rw[it,uD,e,e2];unfold adv;rw[qZ (by show ¬((dG M (lp M h r).1-(lp M h r).1)-(dG M (lp M h r).1-(lp M h r).1) > 0);omega)];rfl
theorem Ga (h:aj):fE h<2 ^ 64:=by unfold fE;have h1:=yU h (show(2 ^ 64:aj)≠0 by decide);have h2:=yV h (show(0:aj)<2 ^ 64 by decide);omega
theorem C0 (M:ag) (h:aj):∀r,(lp M h r).2=fE h / 32 ^ r
 |0=>by simp[lp]
 |r+1=>by show(lp M h r).2 / 32=_;rw[C0 M h r,Nat.div_div_eq_div_mul,Nat.pow_succ]
theorem Nm (M:ag) (h:aj) {r:ag} (hr:13<=r):(lp M h r).2=0:=by rw[C0];refine Nat.div_eq_of_lt (qI (Ga h) ?_);exact qP (show 2 ^ 64<=32 ^ 13 by decide) (Nat.pow_le_pow_right (by decide) hr)
noncomputable def fl (M i:ag):ag:=(i*5+1)%(M+1)
noncomputable def orb (M:ag):ag->ag->ag
 |0,i=>i
 |m+1,i=>fl M (orb M m i)
theorem xA (M:ag) (h:aj):∀m,(lp M h (13+m)).1=orb M m (lp M h 13).1
 |0=>rfl
 |m+1=>by show(iW M (lp M h (13+m)).1 (lp M h (13+m)).2).1=_;rw[Nm M h (by omega),xA M h m];simp[iW,orb,fl]
theorem uJ (M i:ag) (a:ag):∀b,orb M (a+b) i=orb M b (orb M a i)
 |0=>rfl
 |b+1=>by rw[←Fw,orb,uJ M i a b];rfl
noncomputable def vY (M:ag):ag->ag->ab ag
 |0,_=>[]
 |n+1,i=>i::vY M n (fl M i)
theorem BX (M:ag):∀m i,orb M (m+1) i=orb M m (fl M i)
 |0,_=>rfl
 |m+1,i=>by rw[orb,BX M m i];rfl
theorem AJ (M:ag):∀(n i j:ag),j∈vY M n i->∃m,m<n/\orb M m i=j
 |0,_,_,h=>nomatch h
 |n+1,i,j,h=>by
  rcases eC.mp h with e|h
  .exact⟨0,yW _,e.symm⟩
  .obtain⟨m,hm,e⟩:=AJ M n (fl M i) j h;exact⟨m+1,by omega,by rw[BX];exact e⟩
structure Full (M:ag):Prop where
 all:∀j,j<=M->∃m,m<M+1/\orb M m 0=j
 back:orb M (M+1) 0=0
noncomputable def chk (M:ag):aU:=(di (M+1)).all (fun j=>(vY M (M+1) 0).contains j) && orb M (M+1) 0==0
theorem t8 (h:chk M=ai):Full M:=by unfold chk at h;rw[hG,rY] at h;refine⟨fun j hj=>?_,by simpa using h.2⟩;have:=h.1 j (fX.mpr (by omega));exact AJ M (M+1) 0 j (by simpa using this)
theorem Ap:Full 7:=t8 (by decide +kernel)
theorem Hc:Full 31:=t8 (by decide +kernel)
theorem HQ:Full 127:=t8 (by decide +kernel)
theorem Ju:Full 511:=t8 (by decide +kernel)
theorem Full.reach (F:Full M) (hi:i<=M) (hj:j<=M):∃m,m<=M/\orb M m i=j:=by
 obtain⟨a,ha,ea⟩:=F.all i hi;obtain⟨b,hb,eb⟩:=F.all j hj;by_cases h:a<=b
 .refine⟨b-a,by omega,?_⟩;rw[←ea,←uJ,show a+(b-a)=b by omega,eb]
 .refine⟨M+1-a+b,by omega,?_⟩;rw[←ea,←uJ,show a+(M+1-a+b)=(M+1)+b by omega,uJ,F.back,eb]
theorem wG (M:ag) (h:aj):∀r,(lp M h r).1<=M
 |0=>Fx.mp (yX _ (yW _))
 |r+1=>Fx.mp (yX _ (yW _))
theorem Full.covers (F:Full M) (h:aj) (hj:j<=M):∃n,n<10*(M+15)/\J M h n=j:=by obtain⟨m,hm,e⟩:=F.reach (wG M h 13) hj;obtain⟨n,hn,en⟩:=AC M h (13+m);refine⟨n,by omega,?_⟩;unfold J;rw[en];show(lp M h (13+m)).1=j;rw[xA,e]
theorem AF (M:ag) (h:aj):∀n,(it M h n).j+(it M h n).more<=M
 |0=>by
  have:=wG M h 0;show(lp M h 0).1+(dG M (lp M h 0).1-(lp M h 0).1)<=M;unfold dG;split<;>omega
 |n+1=>by
  have ih:=AF M h n;rw[it];unfold adv;split
  .show(it M h n).j+1+((it M h n).more-1)<=M;omega
  .show(iW M (it M h n).i (it M h n).pt).1+(dG M (iW M (it M h n).i (it M h n).pt).1-(iW M (it M h n).i (it M h n).pt).1)<=M;have:(iW M (it M h n).i (it M h n).pt).1<=M:=Fx.mp (yX _ (yW _));unfold dG;split<;>omega
theorem wm (M:ag) (h:aj) (n:ag):J M h n<=M:=qP (iX _ _) (AF M h n)
theorem Full.first (F:Full M) (h:aj) (occ:ag->aU) (hf:∃j,j<=M/\occ j=ao):∃n,n<10*(M+15)/\occ (J M h n)=ao/\∀m,m<n->occ (J M h m)=ai:=by
 obtain⟨j,hj,hof⟩:=hf;obtain⟨n,hn,e⟩:=F.covers h hj;have key:∀n,n<10*(M+15)->occ (J M h n)=ao->∃n,n<10*(M+15)/\occ (J M h n)=ao/\∀m,m<n->occ (J M h m)=ai:=by
  intro n
  induction n using P7 with
  |ind n ih=>
   intro hn ho;by_cases hx:∃m,m<n/\occ (J M h m)=ao
   .obtain⟨m,hm,hm2⟩:=hx;exact ih m hm (by omega) hm2
   .refine⟨n,hn,ho,fun m hm=>?_⟩;cases q:occ (J M h m) with
    |true=>rfl
    |false=>exact bx ⟨m,hm,q⟩ hx
 exact key n hn (by rw[e];exact hof)
theorem yi (xs:b9 ag) (j:ag) (hs:xs.toList.Pairwise (· < ·)):∀(fuel lo hi:ag),hi-lo<=fuel->lo<=hi->hi<=xs.size->(∀i,i<lo->∀v,xs[i]?=aa v->v<j)->(∀i,hi<=i->∀v,xs[i]?=aa v->j<=v)->
  (yY xs j fuel lo hi<=xs.size)/\(∀i,i<yY xs j fuel lo hi->∀v,xs[i]?=aa v->v<j)/\∀i,yY xs j fuel lo hi<=i->∀v,xs[i]?=aa v->j<=v
 |0,lo,hi,hf,hl,hh,h1,h2=>by
  have e:lo=hi:=by omega
  subst e;exact⟨hh,h1,h2⟩
 |fuel+1,lo,hi,hf,hl,hh,h1,h2=>by
  have mono:∀a b va vb,a<b->xs[a]?=aa va->xs[b]?=aa vb->va<vb:=fun a b va vb hab ha hb=>by have:=P8.mp hs a b;obtain⟨a1,a2⟩:=iw.mp ha;obtain⟨b1,b2⟩:=iw.mp hb;have q:=this (by simpa using a1) (by simpa using b1) hab;simpa[a2,b2] using q
  unfold yY;by_cases hlt:lo<hi
  .rw[qY hlt];have hm1:lo<=(lo+hi) / 2:=by omega
   have hm2:(lo+hi) / 2<hi:=by omega
   have hget:∃v,xs[(lo+hi) / 2]?=aa v:=⟨xs[(lo+hi) / 2]'(by omega),by simp[show(lo+hi) / 2<xs.size by omega]⟩;obtain⟨v,hv⟩:=hget;have hd:xs.getD ((lo+hi) / 2) j=v:=by simp[yZ,hv]
   dsimp only;rw[hd];by_cases hvj:v<j
   .rw[qY hvj];refine yi xs j hs fuel _ _ (by omega) (by omega) hh (fun i hi' w hw=>?_) h2;rcases iu i ((lo+hi) / 2) with hi2|hi2
    .exact mO (mono i _ w v hi2 hw hv) hvj
    .have e:i=(lo+hi) / 2:=by omega
     subst e;rw[hv] at hw;cases hw;exact hvj
   .rw[qZ hvj];refine yi xs j hs fuel _ _ (by omega) (by omega) (by omega) h1 fun i hi' w hw=>?_;rcases iu ((lo+hi) / 2) i with hi2|hi2
    .exact qP (by omega) (n9 (mono _ i v w hi2 hv hw))
    .have e:i=(lo+hi) / 2:=by omega
     subst e;rw[hv] at hw;cases hw;omega
  .rw[qZ hlt];have e:lo=hi:=by omega
   subst e;exact⟨hh,h1,h2⟩
theorem vP (xs:b9 ag) (j:ag) (hs:xs.toList.Pairwise (· < ·)):cN xs j<=xs.size/\(∀i,i<cN xs j->∀v,xs[i]?=aa v->v<j)/\∀i,cN xs j<=i->∀v,xs[i]?=aa v->j<=v:=
 yi xs j hs xs.size 0 xs.size (qy _) (fu _) (qy _) (fun i h=>bx h (Fy _)) fun i h v hv=>by have:=(iw.mp hv).1;omega
theorem yo (xs:b9 ag) (j i:ag) (hs:xs.toList.Pairwise (· < ·)) (h:xs[i]?=aa j):cN xs j=i:=by
 obtain⟨h0,h1,h2⟩:=vP xs j hs;rcases P9 (cN xs j) i with hl|hl|hl
 .have hi:=(iw.mp h).1;have hg:xs[cN xs j]?=aa (xs[cN xs j]'(by omega)):=by simp[show cN xs j<xs.size by omega]
  have q1:=h2 _ (qy _) _ hg;have:=P8.mp hs (cN xs j) i (by simp;omega) (by simpa using hi) hl;obtain⟨_,e⟩:=iw.mp h;simp only[Array.getElem_toList] at this;omega
 .exact hl
 .have:=h1 i hl j h;omega
structure Tb (t:lO) (es:b9 (aj×av)):Prop where
 full:Full t.mask
 sz:t.place.size=es.size
 dm:t.dummies=#[]
 ri:t.place.toList.Pairwise (· < ·)
 le:∀j∈t.place.toList,j<=t.mask
 few:es.size*5<t.mask*3
 rc:∀(i j:ag) (h:aj) (x:av),t.place[i]?=aa j->es[i]?=aa (h,x)->∃n,J t.mask h n=j/\∀m,m<n->J t.mask h m∈t.place.toList
section
variable {t:lO} {es:b9 (aj×av)}
theorem Tb.live (T:Tb t es) (h:t.place[i]?=aa j):t.slot j=.live i:=by unfold P';rw[yo _ _ _ T.ri h];simp[h]
theorem Tb.empty (T:Tb t es) (h:j∉t.place.toList):t.slot j=.empty:=by
 unfold P';have h1:t.place[cN t.place j]?≠aa j:=fun e=>h (by rw[←qL] at e;exact qS e)
 have h2:Fz t.dummies j=ao:=by rw[T.dm];rfl
 simp[h1,h2]
theorem Tb.occ (T:Tb t es) (h:j∈t.place.toList):∃i:ag,t.place[i]?=aa j:=by obtain⟨i,hi⟩:=vj.mp h;exact⟨i,by rw[←qL];exact hi⟩
theorem Tb.fits (T:Tb t es):t.fits es.size=ai:=by have h1:=T.sz;have h2:=T.few;simp only[FB,Qa,T.dm,Array.size_empty,hG,lG,vn];omega
theorem rA:∀(a b:ab ag),a.Nodup->(∀x∈a,x∈b)->a.length<=b.length
 |[],_,_,_=>fu _
 |x::r,b,nd,h=>by have hx:=h x qf;have nd':=rN.mp nd;have:=rA r (b.erase x) nd'.2 fun y hy=>(List.mem_erase_of_ne (show y≠x from fun e=>nd'.1 (by rw[←e];exact hy))).mpr (h y (qg _ hy));have hl:=List.length_erase_of_mem hx;have hp:0<b.length:=List.length_pos_of_mem hx;rw[qh];omega
theorem Tb.free (T:Tb t es):∃j,j<=t.mask/\decide (j∈t.place.toList)=ao:=by
 by_cases hx:∃j,j<=t.mask/\j∉t.place.toList
 .obtain⟨j,h1,h2⟩:=hx;exact⟨j,h1,qQ h2⟩
 .exfalso;have all:∀j,j<=t.mask->j∈t.place.toList:=fun j hj=>Classical.byContradiction fun hn=>hx ⟨j,hj,hn⟩;have h1:=rA (di (t.mask+1)) t.place.toList FC fun j hj=>all j (by have:=fX.mp hj;omega);have h2:=T.sz;have h3:=T.few;simp only[qW,iR] at h1;omega
theorem Tb.first (T:Tb t es) (h:aj):∃n,n<10*(t.mask+15)/\J t.mask h n∉t.place.toList/\∀m,m<n->J t.mask h m∈t.place.toList:=by obtain⟨n,h1,h2,h3⟩:=T.full.first h (fun j=>decide (j∈t.place.toList)) T.free;exact⟨n,h1,of_decide_eq_false h2,fun m hm=>Fv (h3 m hm)⟩
noncomputable def gI (p:Pr):y0:={j:=p.j,more:=p.more,i:=p.i,perturb:=p.pt,dummy:=ac}
theorem Ey (t:lO) (p:Pr):t.advance (gI p)=gI (adv t.mask p):=by
 unfold SetTable.advance adv gI;by_cases h:p.more > 0
 .simp only[h,dn]
 .simp only[h,dF]
theorem Tb.probe_go (T:Tb t es) (hashAt:ag->aj) (h:aj) {n0:ag} (hf:J t.mask h n0∉t.place.toList) (ho:∀m,m<n0->J t.mask h m∈t.place.toList):∀(fuel n:ag),n<=n0->n0<n+fuel->
  (∃n' i,n<=n'/\n'<n0/\t.place[i]?=aa (J t.mask h n')/\hashAt i=h/\(∀m i,n<=m->m<n'->t.place[i]?=aa (J t.mask h m)->hashAt i≠h)/\FD t hashAt h fuel (gI (it t.mask h n))=aa (.candidate (J t.mask h n') i (gI (it t.mask h (n'+1))))) \/
  ((∀m i,n<=m->m<n0->t.place[i]?=aa (J t.mask h m)->hashAt i≠h)/\FD t hashAt h fuel (gI (it t.mask h n))=aa (.empty (J t.mask h n0) ac))
 |0,n,h1,h2=>by omega
 |fuel+1,n,h1,h2=>by
  unfold FD;by_cases hn:n=n0
  .subst hn
   right
   refine⟨fun m i a b=>by omega,?_⟩;have hs:t.slot (gI (it t.mask h n)).j=.empty:=T.empty hf;rw[hs];rfl
  .obtain⟨i,hi⟩:=T.occ (ho n (by omega));have hs:t.slot (gI (it t.mask h n)).j=.live i:=T.live hi;rw[hs];dsimp only;by_cases hh:hashAt i=h
   .left
    refine⟨n,i,qy _,by omega,hi,hh,fun m i a b=>by omega,?_⟩;rw[qY (by simpa using hh),Ey];rfl
   .rw[qZ (by simpa using hh),Ey];have inj:∀i',t.place[i']?=aa (J t.mask h n)->i'=i:=fun i' h'=>by rw[←yo _ _ _ T.ri h',←yo _ _ _ T.ri hi]
    have ext:∀{b:ag},(∀m i,n+1<=m->m<b->t.place[i]?=aa (J t.mask h m)->hashAt i≠h)->∀m i,n<=m->m<b->t.place[i]?=aa (J t.mask h m)->hashAt i≠h:=fun {b} q m i' a c d=>by
     by_cases e:m=n
     .subst e;rw[inj i' d];exact hh
     .exact q m i' (by omega) c d
    rcases T.probe_go hashAt h hf ho fuel (n+1) (by omega) (by omega) with⟨n',i',a,b,c,d,e,f⟩|⟨e,f⟩
    .exact .inl ⟨n',i',by omega,b,c,d,ext e,f⟩
    .exact .inr ⟨ext e,f⟩
theorem pp (xs:b9 α) (p:ag) (x:α) (hp:p<=xs.size):(dH xs p x).toList=xs.toList.take p++x::xs.toList.drop p:=by unfold dH;simp[Array.toList_extract,List.extract_eq_take_drop];exact vh (by simp)
theorem Dd (l:ab α) (p:ag) (x:α) (hp:p<=l.length) (i:ag):(l.take p++x::l.drop p)[i]?=if i<p then l[i]? else if i=p then aa x else l[i-1]?:=by
 by_cases h1:i<p
 .rw[qY h1,qD (by rw[qH];omega),u8 h1]
 .rw[qZ h1,qN (by rw[qH];omega),qH,vo hp];by_cases h2:i=p
  .rw[qY h2,h2];simp
  .rw[qZ h2];obtain⟨k,hk⟩:∃k,i-p=k+1:=⟨i-p-1,by omega⟩;rw[hk,qc,si]
   congr 1
   omega
theorem v9 (l:ab α) (p:ag) (x y:α):y∈l.take p++x::l.drop p↔y=x\/y∈l:=by
 rw[gz,qO];constructor
 .rintro(h|h|h)
  .exact .inr (y6 h)
  .exact .inl h
  .exact .inr (FF h)
 .rintro(h|h)
  .exact .inr (.inl h)
  .have:y∈l.take p++l.drop p:=by rw[Qb];exact h
   rcases gz.mp this with h|h
   .exact .inl h
   .exact .inr (.inr h)
theorem Tb.put (T:Tb t es) {h:aj} {x:av} (hf:J t.mask h n0∉t.place.toList) (ho:∀m,m<n0->J t.mask h m∈t.place.toList) (few:(es.size+1)*5<t.mask*3) (pl:aU) :
  Tb { (t.put (J t.mask h n0)).1 with plain:=pl} (dH es (t.put (J t.mask h n0)).2 (h,x)):=by
 obtain⟨b0,b1,b2⟩:=vP t.place (J t.mask h n0) T.ri;have bes:cN t.place (J t.mask h n0)<=es.size:=by rw[←T.sz];exact b0
 have pl1:(dH t.place (cN t.place (J t.mask h n0)) (J t.mask h n0)).toList=t.place.toList.take (cN t.place (J t.mask h n0))++J t.mask h n0::t.place.toList.drop (cN t.place (J t.mask h n0)):=pp _ _ _ b0;have el1:(dH es (cN t.place (J t.mask h n0)) (h,x)).toList=es.toList.take (cN t.place (J t.mask h n0))++(h,x)::es.toList.drop (cN t.place (J t.mask h n0)):=pp _ _ _ bes;have szp:(dH t.place (cN t.place (J t.mask h n0)) (J t.mask h n0)).size=t.place.size+1:=by rw[←iR,pl1];simp;omega
 have sze:(dH es (cN t.place (J t.mask h n0)) (h,x)).size=es.size+1:=by rw[←iR,el1];simp;omega
 refine⟨T.full,?_,?_,?_,?_,?_,?_⟩
 .show(dH t.place _ _).size=_;rw[szp];show _=(dH es (cN t.place (J t.mask h n0)) (h,x)).size;rw[sze,T.sz]
 .show(if Fz t.dummies (J t.mask h n0)=ai then _ else t.dummies)=#[];rw[T.dm];rfl
 .show(dH t.place (cN t.place (J t.mask h n0)) (J t.mask h n0)).toList.Pairwise (· < ·);rw[pl1,List.pairwise_append,List.pairwise_cons];have tk:∀a∈t.place.toList.take (cN t.place (J t.mask h n0)),a<J t.mask h n0:=fun a ha=>by
   obtain⟨i,hi⟩:=vj.mp ha;have hi':i<cN t.place (J t.mask h n0):=by have:=(gA.mp hi).1;rw[qH] at this;omega
   rw[u8 hi',qL] at hi;exact b1 i hi' a hi
  have dr:∀a∈t.place.toList.drop (cN t.place (J t.mask h n0)),J t.mask h n0<a:=fun a ha=>by
   obtain⟨i,hi⟩:=vj.mp ha;rw[si,qL] at hi;have h1:=b2 _ (iX _ i) a hi;rcases iu (J t.mask h n0) a with q|q
   .exact q
   .exact bx (by rw[←qL] at hi;have e:a=J t.mask h n0:=(by omega);rw[e] at hi;exact qS hi) hf
  refine⟨T.ri.sublist (oi _ _),⟨dr,T.ri.sublist (Qc _ _)⟩,fun a ha b hb=>?_⟩;rcases eC.mp hb with e|hb
  .rw[e];exact tk a ha
  .exact mO (tk a ha) (dr b hb)
 .intro j hj;have hj':j∈(dH t.place (cN t.place (J t.mask h n0)) (J t.mask h n0)).toList:=hj;rw[pl1,v9] at hj';rcases hj' with e|hj'
  .rw[e];exact wm _ _ _
  .exact T.le j hj'
 .show(dH es (cN t.place (J t.mask h n0)) (h,x)).size*5<t.mask*3;rw[sze];exact few
 .intro i j h' x' e1 e2;have e1':(dH t.place (cN t.place (J t.mask h n0)) (J t.mask h n0)).toList[i]?=aa j:=by rw[qL];exact e1
  have e2':(dH es (cN t.place (J t.mask h n0)) (h,x)).toList[i]?=aa (h',x'):=by rw[qL];exact e2
  rw[pl1,Dd _ _ _ (by simpa using b0)] at e1';rw[el1,Dd _ _ _ (by simpa using bes)] at e2';have up:∀{n:ag},(∀m,m<n->J t.mask h' m∈t.place.toList)->∀m,m<n->J t.mask h' m∈(dH t.place (cN t.place (J t.mask h n0)) (J t.mask h n0)).toList:=fun q m hm=>by rw[pl1,v9];exact .inr (q m hm)
  by_cases c1:i<cN t.place (J t.mask h n0)
  .rw[qY c1] at e1' e2';rw[qL] at e1' e2';obtain⟨n,hn,q⟩:=T.rc i j h' x' e1' e2';exact⟨n,hn,up q⟩
  .rw[qZ c1] at e1' e2';by_cases c2:i=cN t.place (J t.mask h n0)
   .rw[qY c2] at e1' e2';cases e1';cases e2';exact⟨n0,rfl,up ho⟩
   .rw[qZ c2] at e1' e2';rw[qL] at e1' e2';obtain⟨n,hn,q⟩:=T.rc _ j h' x' e1' e2';exact⟨n,hn,up q⟩
end
noncomputable def eV (owner:b9 (aq ag)) (j:ag):aU:=(owner.getD j (aa 0)).isNone
theorem o8 {h:aj} {r:ag} (e:it M h n=mB M (lp M h r)) {k:ag} (hk:k<dG M (lp M h r).1+1-(lp M h r).1):J M h (n+k)=(lp M h r).1+k:=by unfold J;rw[uD,e,sW M k _ (by show k<=dG M (lp M h r).1-(lp M h r).1;omega)];rfl
theorem Lh {h:aj} {r:ag} (e:it M h n=mB M (lp M h r)):it M h (n+(dG M (lp M h r).1+1-(lp M h r).1))=mB M (lp M h (r+1)):=by
 have hge:(lp M h r).1<=dG M (lp M h r).1:=by unfold dG;split<;>omega
 have e2:=sW M (dG M (lp M h r).1-(lp M h r).1) (mB M (lp M h r)) (qy _);rw[show n+(dG M (lp M h r).1+1-(lp M h r).1)=n+(dG M (lp M h r).1-(lp M h r).1)+1 by omega,it,uD,e,e2];unfold adv;rw[qZ (by show ¬((dG M (lp M h r).1-(lp M h r).1)-(dG M (lp M h r).1-(lp M h r).1) > 0);omega)];rfl
theorem Bm {M:ag} {h:aj} (owner:b9 (aq ag)) {rs:ag} (hfr:eV owner (lp M h rs).1=ai):∀(fuel r n:ag),it M h n=mB M (lp M h r)->r<=rs->rs<r+fuel->(∀m,m<n->eV owner (J M h m)=ao)->
  ∃n',eV owner (J M h n')=ai/\(∀m,m<n'->eV owner (J M h m)=ao)/\sj M owner fuel (lp M h r).1 (lp M h r).2=aa (J M h n')
 |0,r,n,_,h1,h2,_=>by omega
 |fuel+1,r,n,e,h1,h2,h3=>by
  unfold sj;cases hf:(di (dG M (lp M h r).1+1-(lp M h r).1)).find? (fun k=>(owner.getD ((lp M h r).1+k) (aa 0)).isNone) with
  |some k=>
   have hk:=fX.mp (List.mem_of_find?_eq_some hf);have hp:eV owner ((lp M h r).1+k)=ai:=by have:=List.find?_some hf;exact this
   refine⟨n+k,by rw[o8 e hk];exact hp,fun m hm=>?_,?_⟩
   .rcases iu m n with c|c
    .exact h3 m c
    .obtain⟨d,rfl⟩:∃d,m=n+d:=⟨m-n,by omega⟩;rw[o8 e (by omega)];obtain⟨as,bs,hab,hno⟩:=(List.find?_eq_some_iff_append.mp hf).2;have hd:d∈as:=by
      have hl:as=di k:=by
       have hlen:as.length=k:=by
        have:(di (dG M (lp M h r).1+1-(lp M h r).1))[as.length]?=aa k:=by rw[hab];simp
        rw[List.getElem?_range] at this
        .exact qK this
        .have:=c7 gE hab;simp at this;omega
       have:=c7 (y7 k) hab;rw[List.take_range,vo (by omega),←hlen,List.take_left'] at this
       .rw[hlen] at this;exact this.symm
       .rfl
      rw[hl];exact fX.mpr (by omega)
     have:=hno d hd;exact FH.mpr (fun z=>by rw[show(owner.getD ((lp M h r).1+d) (aa 0)).isNone=ai from z] at this;cases this)
   .rw[o8 e hk]
  |none=>
   have hn:∀k,k<dG M (lp M h r).1+1-(lp M h r).1->eV owner (J M h (n+k))=ao:=fun k hk=>by rw[o8 e hk];have:=List.find?_eq_none.mp hf k (fX.mpr hk);exact FH.mpr this
   have hge:(lp M h r).1<=dG M (lp M h r).1:=by unfold dG;split<;>omega
   have hr:r≠rs:=fun z=>by subst z;have:=hn 0 (by omega);rw[o8 e (by omega),Nat.add_zero,hfr] at this;cases this
   exact Bm owner hfr fuel (r+1) _ (Lh e) (by omega) (by omega) fun m hm=>by
    rcases iu m n with c|c
    .exact h3 m c
    .obtain⟨d,rfl⟩:∃d,m=n+d:=⟨m-n,by omega⟩;exact hn d (by omega)
theorem Full.free (F:Full M) (h:aj) (owner:b9 (aq ag)) (hf:∃j,j<=M/\eV owner j=ai) :
  ∃n,eV owner (J M h n)=ai/\(∀m,m<n->eV owner (J M h m)=ao)/\sj M owner (mR M) (fE h%(M+1)) (fE h)=aa (J M h n):=by
 obtain⟨j,hj,hjf⟩:=hf;obtain⟨m,hm,e⟩:=F.reach (wG M h 13) hj;have hl:(lp M h (13+m)).1=j:=by rw[xA,e]
 exact Bm owner (rs:=13+m) (by rw[hl];exact hjf) (mR M) 0 0 rfl (fu _) (by unfold mR;omega) fun m hm=>bx hm (Fy _)
structure Own (M:ag) (hs:ab aj) (owner:b9 (aq ag)):Prop where
 sz:owner.size=M+1
 lt:∀(j k:ag),owner[j]?=aa (aa k)->k<hs.length
 on:∀k,k<hs.length->∃j:ag,owner[j]?=aa (aa k)
 inj:∀(j j' k:ag),owner[j]?=aa (aa k)->owner[j']?=aa (aa k)->j=j'
 rc:∀(j k:ag) h,owner[j]?=aa (aa k)->hs[k]?=aa h->∃n,J M h n=j/\∀m,m<n->eV owner (J M h m)=ao
theorem pG :eV owner j=ai↔owner[j]?=aa ac:=by
 unfold eV;rw[yZ];cases e:owner[j]? with
 |none=>simp
 |some o=>cases o<;>simp
theorem Own.empty (M:ag):Own M [] (Qd (M+1) ac):=by
 have no:∀(j k:ag),(Qd (M+1) (ac:aq ag))[j]?=aa (aa k)->False:=fun j k h=>by rw[Array.getElem?_replicate] at h;split at h<;>cases h
 exact⟨by simp,fun j k h=>(no j k h).elim,fun k h=>bx h (Fy _),fun j _ k h _=>(no j k h).elim,fun j k _ h _=>(no j k h).elim⟩
theorem Own.room (O:Own M hs owner) (hr:hs.length<=M):∃j,j<=M/\eV owner j=ai:=by
 by_cases hx:∃j,j<=M/\eV owner j=ai
 .exact hx
 .exfalso;have all:∀j,j<=M->∃k,owner[j]?=aa (aa k):=fun j hj=>by
   have h1:eV owner j≠ai:=fun z=>hx ⟨j,hj,z⟩;have h2:j<owner.size:=by rw[O.sz];omega
   cases q:owner[j] with
   |none=>exact bx (pG.mpr (by simp[h2,q])) h1
   |some k=>exact⟨k,by simp[h2,q]⟩
  have pig:=rA ((di (M+1)).map fun j=>((owner[j]?).join).getD 0) (di hs.length) ?_ ?_
  .rw[qe,qW,qW] at pig;omega
  .refine Qe.mpr (vq.mpr (Qf ?_ FC));intro a b ha hb hab e;obtain⟨k,hk⟩:=all a (by have:=fX.mp ha;omega);obtain⟨k',hk'⟩:=all b (by have:=fX.mp hb;omega);simp only[hk,hk',Qg,Qh] at e;subst e;exact hab (O.inj a b k hk hk')
  .intro x hx';obtain⟨j,hj,rfl⟩:=cY.mp hx';obtain⟨k,hk⟩:=all j (by have:=fX.mp hj;omega);simp only[hk,Qg,Qh];exact fX.mpr (O.lt j k hk)
theorem Own.more (O:Own M hs owner) {h:aj} (hf:eV owner (J M h n)=ai) (ho:∀m,m<n->eV owner (J M h m)=ao) :
  Own M (hs++[h]) (owner.setIfInBounds (J M h n) (aa hs.length)):=by
 have hlt:J M h n<owner.size:=by rw[O.sz];have:=wm M h n;omega
 have hold:=pG.mp hf;have get:∀j:ag,(owner.setIfInBounds (J M h n) (aa hs.length))[j]?=if j=J M h n then aa (aa hs.length) else owner[j]?:=fun j=>by
  rw[Array.getElem?_setIfInBounds];by_cases e:J M h n=j
  .subst e;simp[hlt]
  .rw[qZ e,qZ (em e)]
 have stay:∀{j k:ag},owner[j]?=aa (aa k)->(owner.setIfInBounds (J M h n) (aa hs.length))[j]?=aa (aa k):=fun {j k} q=>by
  rw[get,qZ]
  .exact q
  .intro e;rw[e,hold] at q;cases q
 have notfree:∀{j:ag},eV owner j=ao->eV (owner.setIfInBounds (J M h n) (aa hs.length)) j=ao:=fun {j} q=>by
  refine FH.mpr fun z=>?_;have z':=pG.mp z;rw[get] at z';split at z'
  .cases z'
  .rw[pG.mpr z'] at q;cases q
 refine⟨by simp[O.sz],fun j k q=>?_,fun k hk=>?_,fun j j' k q q'=>?_,fun j k h' q q'=>?_⟩
 .rw[get] at q;rw[qk,qX];split at q
  .cases q;omega
  .have:=O.lt j k q;omega
 .rw[qk,qX] at hk;by_cases e:k=hs.length
  .exact⟨J M h n,by rw[get,qY rfl,e]⟩
  .obtain⟨j,hj⟩:=O.on k (by omega);exact⟨j,stay hj⟩
 .rw[get] at q q';split at q
  .rename_i c;cases q;split at q'
   .rename_i c';rw[c,c']
   .have:=O.lt j' _ q';omega
  .split at q'
   .cases q';have:=O.lt j _ q;omega
   .exact O.inj j j' k q q'
 .rw[get] at q;split at q
  .rename_i c;cases q;rw[qN (qy _)] at q';simp at q';subst q';exact⟨n,c.symm,fun m hm=>notfree (ho m hm)⟩
  .have hk:=O.lt j k q;rw[qD hk] at q';obtain⟨n',e,r⟩:=O.rc j k h' q q';exact⟨n',e,fun m hm=>notfree (r m hm)⟩
theorem Full.lays (F:Full M) (hs:b9 aj) (hr:hs.size<=M):∃owner,Qi M hs=aa owner/\Own M hs.toList owner:=by
 have all:∀(bD done:ab aj) (owner:b9 (aq ag)),Own M done owner->(done++bD).length<=M->∃owner',Own M (done++bD) owner' /\
   bD.foldl (fun(acc:aq (b9 (aq ag)×ag)) h=>do
    let (owner,k) ←acc
    let j ←sj M owner (mR M) (fE h%(M+1)) (fE h)
    pure (owner.setIfInBounds j (aa k),k+1)) (aa (owner,done.length))=aa (owner',(done++bD).length):=by
  intro bD
  induction bD with
  |nil=>intro done owner O _;exact⟨owner,by rw[eX];exact O,by simp⟩
  |cons h r ih=>
   intro done owner O hl;obtain⟨n,h1,h2,h3⟩:=F.free h owner (O.room (by simp at hl;omega));have O':=O.more h1 h2;obtain⟨owner',O2,e⟩:=ih (done++[h]) _ O' (by simpa using hl);refine⟨owner',by simpa using O2,?_⟩;rw[lM];have e1:(do
    let (owner,k) ←aa (owner,done.length)
    let j ←sj M owner (mR M) (fE h%(M+1)) (fE h)
    pure (owner.setIfInBounds j (aa k),k+1):aq (b9 (aq ag)×ag))=aa (owner.setIfInBounds (J M h n) (aa done.length),done.length+1):=by
    show(sj M owner (mR M) (fE h%(M+1)) (fE h) >>= fun j=>pure (owner.setIfInBounds j (aa done.length),done.length+1))=_;rw[h3];rfl
   rw[e1];rw[qk,qX] at e;rw[e];simp
 obtain⟨owner',O,e⟩:=all hs.toList [] _ (Own.empty M) (by simpa using hr);refine⟨owner',?_,by simpa using O⟩;unfold Qi;rw[←Array.foldl_toList];have e':=c7 (yR (·.1)) e;exact e'
theorem DQ {α β:Type} (f:α->aq β):∀(l:ab α),(∀k∈l,∃y,f k=aa y)->∀i:ag,(l.filterMap f)[i]?=(l[i]?).bind f
 |[],_,i=>by simp
 |k::r,h,i=>by
  obtain⟨y,hy⟩:=h k qf;rw[Qj hy];cases i with
  |zero=>simp[hy]
  |succ i=>simp only[qc];exact DQ f r (fun k hk=>h k (qg _ hk)) i
theorem AR {α β:Type} (f:α->aq β):∀(l:ab α),(∀k∈l,∃y,f k=aa y)->(l.filterMap f).length=l.length
 |[],_=>rfl
 |k::r,h=>by obtain⟨y,hy⟩:=h k qf;rw[Qj hy,qh,qh,AR f r fun k hk=>h k (qg _ hk)]
noncomputable def eR (M:ag) (owner:b9 (aq ag)):ab (ag×ag):=(di (M+1)).filterMap fun j=>(owner.getD j ac).map (j,·)
theorem jZ (hsz:owner.size=M+1) {k:ag} :(j,k)∈eR M owner↔owner[j]?=aa (aa k):=by
 unfold eR;rw[yu];constructor
 .rintro⟨j',hj',e⟩;rw[yZ] at e;cases q:owner[j']? with
  |none=>rw[q] at e;cases e
  |some o=>
   rw[q] at e;cases o with
   |none=>cases e
   |some k'=>cases e;exact q
 .intro q;have hj:j<owner.size:=(iw.mp q).1;exact⟨j,fX.mpr (by omega),by rw[yZ,q];rfl⟩
theorem D4 (M:ag) (owner:b9 (aq ag)):((eR M owner).map (·.1)).Pairwise (· < ·):=by unfold eR;rw[vq];refine R3 _ ?_ (List.pairwise_lt_range (n:=M+1));intro a a' haa b hb b' hb';obtain⟨k,_,rfl⟩:=oMd hb;obtain⟨k',_,rfl⟩:=oMd hb';exact haa
theorem HD (O:Own M hs owner):((eR M owner).map (·.2)).Nodup:=by have h1:=vq.mp (D4 M owner);refine Qe.mpr (vq.mpr (Qf ?_ h1));rintro⟨j,k⟩ ⟨j',k'⟩ ha hb hlt e;have e':k=k':=e;subst e';have:=O.inj j j' k ((jZ O.sz).mp ha) ((jZ O.sz).mp hb);have hlt':j<j':=hlt;omega
theorem NB (O:Own M hs owner):(eR M owner).length=hs.length:=by
 have h1:=rA ((eR M owner).map (·.2)) (di hs.length) (HD O) fun k hk=>by obtain⟨⟨j,k'⟩,hm,rfl⟩:=cY.mp hk;exact fX.mpr (O.lt j k' ((jZ O.sz).mp hm))
 have h2:=rA (di hs.length) ((eR M owner).map (·.2)) FC fun k hk=>by obtain⟨j,hj⟩:=O.on k (fX.mp hk);exact cY.mpr ⟨(j,k),(jZ O.sz).mpr hj,rfl⟩
 rw[qe,qW] at h1 h2;omega
theorem Full.relaid {t:lO} {es:b9 (aj×av)} {wanted:ag} (F:Full (oy wanted-1)) (few:es.size*5<(oy wanted-1)*3) :
  ∃t' order,t.relaid (es.map (·.1)) wanted=aa (t',order)/\(order.filterMap (es[·]?)).size=es.size/\Tb t' (order.filterMap (es[·]?))/\(∀e,e∈(order.filterMap (es[·]?)).toList↔e∈es.toList)/\t'.mask=oy wanted-1/\t'.led=t.led:=by
 generalize hM:oy wanted-1=M at F few;obtain⟨owner,hl,O⟩:=F.lays (es.map (·.1)) (by simp;omega);have hlen:(es.map (·.1)).toList.length=es.size:=by simp
 have llen:(eR M owner).length=es.size:=by rw[NB O,hlen]
 refine⟨{mask:=M,place:=((eR M owner).map (·.1)).toArray,dummies:=#[],finger:=t.finger,led:=t.led,moves:=t.movedTo M,plain:=t.plain},((eR M owner).map (·.2)).toArray,?_,?_⟩
 .unfold SetTable.relaid;rw[hM];unfold SetTable.laid;rw[hl];rfl
 .have hall:∀k∈(eR M owner).map (·.2),∃y,es[k]?=aa y:=fun k hk=>by obtain⟨⟨j,k'⟩,hm,rfl⟩:=cY.mp hk;have:=O.lt j k' ((jZ O.sz).mp hm);rw[hlen] at this;exact⟨es[k'],by simp[this]⟩
  have etl:(Qk (fun x=>es[x]?) ((eR M owner).map (·.2)).toArray).toList=((eR M owner).map (·.2)).filterMap (fun x=>es[x]?):=by simp
  have esz:(Qk (fun x=>es[x]?) ((eR M owner).map (·.2)).toArray).size=es.size:=by rw[←iR,etl,AR _ _ hall,qe,llen]
  refine⟨esz,⟨F,?_,rfl,?_,?_,?_,?_⟩,fun e=>?_,rfl,rfl⟩
  .rw[esz];simp[llen]
  .show((eR M owner).map (·.1)).toArray.toList.Pairwise (· < ·);exact D4 M owner
  .intro j hj;have hj':j∈(eR M owner).map (·.1):=hj;obtain⟨⟨j',k⟩,hm,rfl⟩:=cY.mp hj';have:=(iw.mp ((jZ O.sz).mp hm)).1;rw[O.sz] at this;show j'<=M;omega
  .rw[esz];exact few
  .intro i j h x e1 e2;have e1':((eR M owner).map (·.1))[i]?=aa j:=by simpa using e1
   rw[←qL,etl,DQ _ _ hall,ql] at e2;rw[ql] at e1';obtain⟨⟨j',k⟩,hm,rfl⟩:=oMd e1';rw[hm] at e2;have e2':es[k]?=aa (h,x):=e2;have ho:=(jZ O.sz).mp (qS hm);obtain⟨n,hn,q⟩:=O.rc j' k h ho (by simp[e2']);refine⟨n,hn,fun m hm'=>?_⟩;have hnf:=q m hm';have hle:=wm M h m;have hlt:J M h m<owner.size:=by rw[O.sz];omega
   cases c:owner[J M h m] with
   |none=>
    rw[pG.mpr (by simp[hlt,c])] at hnf;cases hnf
   |some k'=>
    show J M h m∈(eR M owner).map (·.1);exact cY.mpr ⟨(J M h m,k'),(jZ O.sz).mpr (by simp[hlt,c]),rfl⟩
  .rw[etl,yu];constructor
   .rintro⟨k,_,hk⟩;rw[←qL] at hk;exact qS hk
   .intro he;obtain⟨k,hk⟩:=vj.mp he;rw[qL] at hk;have hlt:=(iw.mp hk).1;obtain⟨j,hj⟩:=O.on k (by rw[hlen];exact hlt);exact⟨k,cY.mpr ⟨(j,k),(jZ O.sz).mpr hj,rfl⟩,hk⟩
noncomputable def Mk (M:ag):Prop:=M=7\/M=31\/M=127\/M=511
theorem Mk.full (h:Mk M):Full M:=by
 rcases h with h|h|h|h<;>subst h
 .exact Ap
 .exact Hc
 .exact HQ
 .exact Ju
theorem Mk.grow (h:Mk M) (h1:n*5<M*3) (h2:¬(n+1)*5<M*3) (hn:n<=300):Mk (oy (y9 (n+1))-1)/\(n+1)*5<(oy (y9 (n+1))-1)*3/\oy (y9 (n+1))<=512:=by
 rcases h with h|h|h|h<;>subst h
 .have:n=4:=by omega
  subst this;exact⟨.inr (.inl (by decide)),by decide,by decide⟩
 .have:n=18:=by omega
  subst this;exact⟨.inr (.inr (.inl (by decide))),by decide,by decide⟩
 .have:n=76:=by omega
  subst this;exact⟨.inr (.inr (.inr (by decide))),by decide,by decide⟩
 .omega
section
variable {R:oh->aB->Prop} {G:b9 rF->b9 rF->Prop} {P:ag->av->Prop} {St:ag->aB->Prop}
noncomputable def zG (prog:dD) (w:cS) (A:dj) (S:au) (Ba:Heap->Prop) (P:ag->av->Prop) (n:ag) (J:ag->bf->Prop):Prop:=
 ∀(i:ag) (v:av) (s:aB) (o:bf) (Q:aU->aB->Prop) (E:av->aB->Prop),i<n->P i v->s.heap.get? S=aa o->J i o->Ba s.heap->
  (∀b h' tk o',s.toks<=tk->iP S s.heap h'->h'.get? S=aa o'->J (i+1) o'->Q b {s with heap:=h',toks:=tk})->aE (aO prog w) A (vt S v) Q E s
theorem Iq (W:WalksS prog w A.in1 I fp wr G n P St) (S:au) (hSf:S∉fp) (Ba:Heap->Prop) (hBa:∀h h',Ba h->(∀b o,b∉S::wr->h.get? b=aa o->h'.get? b=aa o)->Ba h') (J:ag->bf->Prop) (hadd:zG prog w A.in1 S Ba P n J) :
  ∀(k i:ag) (s:aB) (o:bf),n-i=k->i<=n->St i s->s.heap.get? S=aa o->J i o->Ba s.heap->
   (∀s' o',Moved (S::wr) G s s'->s'.heap.get? S=aa o'->J n o'->R (.ok (.ret .none)) s')->
   iS (aO prog w) A (.builtin "set.update.loop" ⟨[.ref S,.ref I],[]⟩) R s:=by
 have hSw:S∉wr:=fun h=>hSf (W.sub _ h);have hsub:∀b∈wr,b∈S::wr:=fun b hb=>qg _ hb;intro k
 induction k with
 |zero=>
  intro i s o hk hi hst hS hJ hB hR;have hin:i=n:=by omega
  subst hin;refine vw Ql ?_;rw[za FI _];show aE _ A.in1 (lF (.ref I) >>= _) _ _ s;refine qB (W.done s _ _ hst fun s' hm=>?_);show aE _ A.in1 (ret mE) _ _ s';exact qE (hR s' o (hm.mono hsub) (hm.heap S _ hSw hS) hJ)
 |succ k ih=>
  intro i s o hk hi hst hS hJ hB hR;have hlt:i<n:=by omega
  refine vw Ql ?_;rw[za FI _];show aE _ A.in1 (lF (.ref I) >>= _) _ _ s;refine qB (W.item i s _ _ hlt hst fun v s' hP hst' hm=>?_);show aE _ A.in1 (fD [v] (vt S v) >>= _) _ _ s';refine qB (ip ?_);refine hadd i v s' o _ _ hlt hP (hm.heap S _ hSw hS) hJ (hBa _ _ hB fun b o hb e=>hm.heap b o (fun z=>hb (hsub b z)) e) fun b h' tk o' htk hsb hS' hJ'=>?_;refine qE ⟨FJ FI _,ih (i+1) _ o' (by omega) hlt (W.frame _ s' _ _ hst' htk fun b hb o e=>?_) hS' hJ' ?_ fun s'' o'' hm'' hS'' hJ''=>?_⟩
  .rw[hsb.2 b (fun h:b=S=>hSf (by rw[←h];exact hb))];exact e
  .refine hBa _ _ (hBa _ _ hB fun b o hb e=>hm.heap b o (fun z=>hb (hsub b z)) e) fun b o hb e=>?_;show h'.get? b=aa o;rw[hsb.2 b (fun h:b=S=>hb (by rw[h];exact qf))];exact e
  .refine hR s'' o'' (Qm W.gtrans ((hm.mono hsub).then_heap htk fun b o hb e=>?_) hm'') hS'' hJ'';rw[hsb.2 b (fun h:b=S=>hb (by rw[h];exact qf))];exact e
end
section
variable {s:aB}
set_option maxRecDepth 100000 in
set_option maxHeartbeats 3200000 in
theorem AH (hh:A.handled=ac) (hl:s.heap.IsList l items) (J:ag->bf->Prop)
  (hJ0:∀led:aU,J 0 {cls:=.type "set",dict:=ac,data:=.set #[] 0 (.fresh 0 0 led)})
  (hadd:∀A':dj,A'.units<=A.units+16->zG prog w A' s.heap.objs.size (fun h=>∀b o,b<s.heap.objs.size->s.heap.get? b=aa o->h.get? b=aa o) (fun i v=>items[i]?=aa v) items.size J)
  (h:∀(h':Heap) (tk:ag) (o:bf),h'.get? s.heap.objs.size=aa o->J items.size o->
   (∀b o,b<s.heap.objs.size->s.heap.get? b=aa o->h'.get? b=aa o)->Q (.ref s.heap.objs.size) {s with heap:=h',toks:=tk}) :
  aE (aO prog w) A (call (.type "set") [.ref l]) Q E s:=by
 obtain⟨c,tl,hmro⟩:=mS.mro;have hmade:=mS.made;have hsub:=mS.sub;refine yA (codeAny_of_tree ?_);show aE _ _ (callAny (.type "set") _) _ _ _;refine qE ⟨Code.quiet_builtin _ (by decide +kernel),vw F.entry_type_call ?_⟩;rw[Around.under_plain (weight_type_call_type "set" [.ref l] []) rfl];have h1:=mS.notType;have h2:=mS.canCreate;have hct:=F.typeCall_set_1 (.ref l)
 repeat (any_goals (first|assumption|wp_step))
 refine rL (code_set_new_1 (.ref l) (E:=E) (Q₁:=fun obj s₁=>∃led:aU,obj=.ref s.heap.objs.size/\s₁={s with heap:=s.heap.push {cls:=.type "set",dict:=ac,data:=.set #[] 0 (.fresh 0 0 led)} }) fun led=>⟨led,rfl,rfl⟩) fun r s₁ hr=>?_;cases r with
 |error e=>exact hr
 |ok fl=>
  cases fl with
  |ret obj=>
   obtain⟨led,rfl,rfl⟩:=hr;have hS:(s.heap.push {cls:=.type "set",dict:=ac,data:=.set #[] 0 (.fresh 0 0 led)}).get? s.heap.objs.size=aa {cls:=.type "set",dict:=ac,data:=.set #[] 0 (.fresh 0 0 led)}:=qJ _ rfl;have hT:zb {s with heap:=s.heap.push {cls:=.type "set",dict:=ac,data:=.set #[] 0 (.fresh 0 0 led)} } (.ref s.heap.objs.size) "set":=⟨_,hS,rfl⟩;have hli:=mS.init.lookup;have hbi:=mS.init.bind (.ref s.heap.objs.size)
   repeat (any_goals (first|assumption|wp_step))
   refine rL (Qn (R:=wants (fun r s₂=>r=.none/\∃h' tk o,s₂={s with heap:=h',toks:=tk}/\h'.get? s.heap.objs.size=aa o/\J items.size o /\
     (∀b o,b<s.heap.objs.size->s.heap.get? b=aa o->h'.get? b=aa o)) E) mS.init.plain F.entry_set_init (check_set_init_1 hT ?_)) fun r₂ s₂ hr₂=>?_
   .obtain⟨ol,hol,hcl,nl,hdl⟩:=hl;obtain⟨ocls,odict,odata,oslots⟩:=ol;simp only at hcl hdl;subst hcl;subst hdl;have hol':(s.heap.push {cls:=.type "set",dict:=ac,data:=.set #[] 0 (.fresh 0 0 led)}).get? l=aa {cls:=.type "list",dict:=odict,data:=.seq items nl,slots:=oslots}:=qw _ hol;have hsls:=F.sub_list_set;have hslf:=F.sub_list_frozenset;have hne:(lC "list"==lC "dict")=ao:=by decide
    have hl1:(s.heap.push {cls:=.type "set",dict:=ac,data:=.set #[] 0 (.fresh 0 0 led)}).IsList l items:=⟨_,hol',rfl,nl,rfl⟩;unfold Builtin.«set.__init__» noKeywords R4;generalize hPI:u0=PI
    wp_walk
    subst hPI;refine og hl1 ?_;refine qB (wpAny_runValue ?_);have hlS:l<s.heap.objs.size:=qx hol;have hh3:A.in1.in1.in1.handled=ac:=by simp[hh]
    have hneI:l≠(s.heap.push {cls:=.type "set",dict:=ac,data:=.set #[] 0 (.fresh 0 0 led)}).objs.size:=by rw[iT];exact qG (FK hlS)
    have hSf:s.heap.objs.size∉[(s.heap.push {cls:=.type "set",dict:=ac,data:=.set #[] 0 (.fresh 0 0 led)}).objs.size,l]:=by rw[iT];simp only[qO,ce,qM,or_false,mT];exact⟨qG (u6 _),uY hlS⟩
    have hget:((s.heap.push {cls:=.type "set",dict:=ac,data:=.set #[] 0 (.fresh 0 0 led)}).push {cls:=.type "list_iterator",data:=.fields #[.ref l,.int 0 0]}).get? s.heap.objs.size
       = aa {cls:=.type "set",dict:=ac,data:=.set #[] 0 (.fresh 0 0 led)}:=qw _ hS
    refine Iq ((Ft hh3 _ l hneI items).toS) s.heap.objs.size
     hSf (fun h=>∀b o,b<s.heap.objs.size->s.heap.get? b=aa o->h.get? b=aa o) (fun h h' hB hk b o hb e=>hk b o ?_ (hB b o hb e)) J (hadd _ (by show A.units+3<=_;omega)) (items.size-0) 0 _ _ (by omega) (fu _)
     ⟨⟨_,qJ _ rfl,rfl,rfl⟩,(hl1.push _)⟩ hget (hJ0 led) (fun b o hb e=>qw _ (qw _ e)) ?hR
    .have hb1:b≠s.heap.objs.size:=qG hb;have hb2:b≠(s.heap.push {cls:=.type "set",dict:=ac,data:=.set #[] 0 (.fresh 0 0 led)}).objs.size:=by rw[iT];exact qG (FK hb)
     simp only[qO,ce,qM,or_false,mT];exact⟨hb1,hb2⟩
    case hR=>
     intro s' o' hm hS' hJ';obtain⟨h',g',d',tk',os'⟩:=s';have eg:g'=s.gens:=hm.gens;have ed:d'=s.drawn:=hm.drawn;have eo:os'=s.os:=hm.os;subst eg;subst ed;subst eo;show aE _ _ _ _ _ _;refine qE ?_;show aE _ _ (ret mE) _ _ _;refine qE ⟨rfl,h',tk',o',rfl,hS',hJ',fun b o hb e=>?_⟩;have hb1:b≠s.heap.objs.size:=qG hb;have hb2:b≠(s.heap.push {cls:=.type "set",dict:=ac,data:=.set #[] 0 (.fresh 0 0 led)}).objs.size:=by rw[iT];exact qG (FK hb)
     exact hm.heap b o (by simp only[qO,ce,qM,or_false,mT];exact⟨hb1,hb2⟩) (qw _ (qw _ e))
   .cases r₂ with
    |error e=>exact hr₂
    |ok fl₂ =>
     cases fl₂ with
     |ret r=>
      obtain⟨rfl,h',tk,o',rfl,hS',hJ',hk'⟩:=hr₂
      repeat (any_goals (first|assumption|wp_step))
      exact h _ _ _ hS' hJ' hk'
     |_=>exact hr₂.elim
  |_=>exact hr.elim
end
noncomputable def dd [fj κ] (l:ab κ):ab κ:=l.foldl (fun a k=>if k∈a then a else a++[k]) []
theorem wF [fj κ] (l:ab κ) (k:κ):dd (l++[k])=if k∈dd l then dd l else dd l++[k]:=by unfold dd;rw[zc];rfl
theorem oT [fj κ] (l:ab κ):(dd l).length<=l.length:=by
 have key:∀(l a:ab κ),(l.foldl (fun a k=>if k∈a then a else a++[k]) a).length<=a.length+l.length:=by
  intro l
  induction l with
  |nil=>intro a;exact qy _
  |cons k r ih=>
   intro a;rw[lM];refine qP (ih _) ?_;split
   .simp only[qh];omega
   .simp only[qk,qh,qm];omega
 have:=key l [];simpa[dd] using this
section
variable [fj κ] {knd:KeyKind prog w κ} {s:aB}
theorem JQ {ks:ab κ} {a:au} {Q:aU->aB->Prop} (hk:IsTupleKey knd s.heap ks a) (hsc:∀v k,knd.is k v=ai->v.scannable=ai) (h:∀b,Q b s):aE (aO prog w) A (hashByValue 8 (.ref a)) Q E s:=by
 have hT:=hk.typeIs;obtain⟨o,items,n,ho,_,hd,hi⟩:=hk;unfold hashByValue;refine qB (wpAny_specialOf hT F.slot_tuple_hash.lookup ?_);refine qB (lP ho hd ?_);refine qB ?_;show aE _ _ (vg items _ _) _ _ s;rw[←Qo];have hall:∀v∈items.toList,v.scannable=ai:=by
  have:∀{x:ab κ} {vs:ab av},ItemsAre knd x vs->∀v∈vs,v.scannable=ai:=by
   intro x vs q
   induction q with
   |nil=>intro v hv;cases hv
   |cons h1 _ ih=>
    intro v hv;rcases eC.mp hv with rfl|hv
    .exact hsc _ _ h1
    .exact ih v hv
  exact this hi
 refine FM _ (fun bD r s'=>s'=s/\∀v∈bD,v.scannable=ai) _ ?_ ?_ _ _ ⟨rfl,hall⟩
 .rintro v bD r s' ⟨rfl,hv⟩;rw[hashByValue_scannable _ (hv v qf)];refine qB (qE ?_);cases hp:plainKind v with
  |true=>
   simp only[iy,qu,dF];exact qE ⟨rfl,fun u hu'=>hv u (qg _ hu')⟩
  |false=>
   simp only[oz,dn]
   first|exact qE (qE (h _))|exact qE (h _)|exact qB (qE (qE (qE (h _))))
 .rintro⟨r1,r2⟩ s' ⟨rfl,_⟩
  first|exact qE (h _)|(cases r1<;>exact qE (h _))
theorem BN {ks:ab κ} {a:au} {Q:aU->aB->Prop} (hk:IsTupleKey knd s.heap ks a) (h:Q ao s):aE (aO prog w) A (FN 8 (.ref a)) Q E s:=by
 have hT:=hk.typeIs;obtain⟨o,items,n,ho,_,hd,hi⟩:=hk;unfold FN;refine qB (vd hT ?_);dsimp only;rw[qY (by decide)];refine qB (qE ?_);simp only[iy,qu,dF];refine qB (lP ho hd ?_);refine qB ?_;show aE _ _ (vg items _ _) _ _ s;rw[←Qo];refine FM _ (fun bD r s'=>r.1=ac/\s'=s/\∀v∈bD,Qp v=ai) _ ?_ ?_ _ _ ⟨rfl,rfl,hi.byValue⟩
 .rintro v bD r s' ⟨hr,rfl,hv⟩;have e:FN 7 v=pure ao:=by
   have:=hv v qf;cases v with
   |ref b=>simp[Qp] at this
   |_=>rfl
  rw[e];refine qB (qE ?_);simp only[qu,dF];exact qE ⟨rfl,rfl,fun u hu'=>hv u (qg _ hu')⟩
 .rintro⟨r1,r2⟩ s' ⟨hr,rfl,_⟩;simp only at hr;subst hr;exact qE h
theorem On {ks:ab κ} {a:au} {Q:aU->aB->Prop} (hk:IsTupleKey knd s.heap ks a) (st:ab av) (hst:∀y∈st,∃k b,y=.ref b/\IsTupleKey knd s.heap k b) (h:Q ao s):aE (aO prog w) A (Qq (.ref a) st) Q E s:=by
 unfold Qq;refine qB ?_;refine FM _ (fun bD r s'=>r.1=ac/\s'=s/\∀y∈bD,∃k b,y=.ref b/\IsTupleKey knd s.heap k b) _ ?_ ?_ _ _ ⟨rfl,rfl,hst⟩
 .rintro v bD r s' ⟨hr,rfl,hv⟩;obtain⟨k,b,rfl,hb⟩:=hv v qf;dsimp only;split
  .exact qE ⟨rfl,rfl,fun u hu'=>hv u (qg _ hu')⟩
  .refine qB (Qr hk ?_);simp only[iy,qu,dF];refine qB (Qr hb ?_);simp only[iy,qu,dF];refine qB (BN hk ?_);simp only[qu,dF];refine qB (BN hb ?_);simp only[qu,dF];exact qE ⟨rfl,rfl,fun u hu'=>hv u (qg _ hu')⟩
 .rintro⟨r1,r2⟩ s' ⟨hr,rfl,_⟩;simp only at hr;subst hr;exact qE h
end
theorem Cw {t:lO} {es:b9 (aj×av)} (T:Tb t es) {h:aj} {p:y0} {r:aq SetTable.Met} (hp:t.probe hashAt h p=r) (hpp:p=gI (it t.mask h n)) (hn:n<=n0) (hn0:n0<10*(t.mask+15))
  (hf:J t.mask h n0∉t.place.toList) (ho:∀m,m<n0->J t.mask h m∈t.place.toList) :
  (∃n' i,n<=n'/\n'<n0/\t.place[i]?=aa (J t.mask h n')/\hashAt i=h/\(∀m i,n<=m->m<n'->t.place[i]?=aa (J t.mask h m)->hashAt i≠h)/\r=aa (.candidate (J t.mask h n') i (gI (it t.mask h (n'+1))))) \/
  ((∀m i,n<=m->m<n0->t.place[i]?=aa (J t.mask h m)->hashAt i≠h)/\r=aa (.empty (J t.mask h n0) ac)):=by
 subst hpp;subst hp;unfold SetTable.probe;exact T.probe_go hashAt h hf ho (10*mR t.mask) n hn (by unfold mR;omega)
theorem Gs {t:lO} {es:b9 (aj×av)} (T:Tb t es) {h:aj} {p:y0} (hp:∀met,t.probe hashAt h p=aa met->False) (hpp:p=gI (it t.mask h n)) (hn:n<=n0) (hn0:n0<10*(t.mask+15))
  (hf:J t.mask h n0∉t.place.toList) (ho:∀m,m<n0->J t.mask h m∈t.place.toList):False:=by
 rcases Cw T (r:=t.probe hashAt h p) rfl hpp hn hn0 hf ho with⟨n',i,_,_,_,_,_,g6⟩|⟨_,g2⟩
 .exact hp _ g6
 .exact hp _ g2
section
variable [fj κ] {knd:KeyKind prog w κ} {s:aB}
noncomputable def oR (knd:KeyKind prog w κ) (h:Heap) (es:b9 (aj×av)):Prop:=∀(i:ag) e,es[i]?=aa e->∃k b,e=(bG knd k,.ref b)/\IsTupleKey knd h k b
theorem Mk.odd (h:Mk M):(M%2==0)=ao:=by rcases h with rfl|rfl|rfl|rfl<;>rfl
theorem JS {S a:au} {o:bf} {es:b9 (aj×av)} {t:lO} {k:ab κ} {Q:SetFound->aB->Prop} (hu:A.units<dO) (ho:s.heap.get? S=aa o) (hd:o.data=.set es ep t) (T:Tb t es) (hM:Mk t.mask)
  (hk:IsTupleKey knd s.heap k a) (he:oR knd s.heap es) (hf:J t.mask (bG knd k) n0∉t.place.toList) (hocc:∀m,m<n0->J t.mask (bG knd k) m∈t.place.toList) (hn0:n0<10*(t.mask+15))
  (hyes:∀(i:ag) (b:au),es[i]?=aa (bG knd k,.ref b)->IsTupleKey knd s.heap k b->Q (.there ac) s)
  (hno:(∀(i:ag) (b:au),es[i]?=aa (bG knd k,.ref b)->¬IsTupleKey knd s.heap k b)->Q (.free (J t.mask (bG knd k) n0) ao) s) :
  ∀(fuel n:ag) (stand:aq y0),n0-n<fuel->n<=n0->(stand.getD (t.probeStart (bG knd k))=gI (it t.mask (bG knd k) n))->
   (∀(m i:ag) (b:au),m<n->t.place[i]?=aa (J t.mask (bG knd k) m)->es[i]?=aa (bG knd k,.ref b)->¬IsTupleKey knd s.heap k b)->
   aE (aO prog w) A (zd S (.ref a) (bG knd k) ai fuel stand) Q E s:=by
 intro fuel
 induction fuel with
 |zero=>intro n stand h1;omega
 |succ fuel ih=>
  intro n stand h1 h2 hs hw;unfold zd;refine qB (vx ho hd T.fits ?_);dsimp only;have hg:t.gaveWay=ao:=hM.odd;rw[hg];simp only[qu,dF];split
  .rename_i met hp;rcases Cw T hp hs h2 hn0 hf hocc with⟨n',i,g1,g2,g3,g4,g5,g6⟩|⟨g1,g2⟩
   .cases g6;have hi:i<es.size:=by have:=(iw.mp g3).1;rw[T.sz] at this;exact this
    have hei:es[i]?=aa es[i]:=by simp[hi]
    obtain⟨k',b,e1,hb⟩:=he i _ hei;rw[e1] at hei;have hh:bG knd k'=bG knd k:=by have g4':((es[i]?).map (·.1)).getD 0=bG knd k:=g4;rw[hei] at g4';exact g4'
    rw[hh] at hei;have bD:aE (aO prog w) A (do
      let aa (_,y):=es[i]? | unsupported "internal:set-entry"
      let equal ←fD [y] (eqBool y (.ref a))
      let (es',_,t') ←setState S
      if ai && equal then return .there ac
      let aa same:=t'.sameMemory t.moves t.mask|unsupported "set.changed-during-lookup:is-the-new-block-at-the-old-address"
      let still ←match (if same then t'.slot (J t.mask (bG knd k) n') else .empty) with
       |.live i'=>match es'[i']? with
        |some (_,y')=>do pure (if ←isSame y' y then aa i' else ac)
        |none=>pure ac
       |_=>pure ac
      match still with
      |none=>rule "set.search.anew";zd S (.ref a) (bG knd k) ai fuel ac
      |some i'=>if equal then return .there (aa i') else zd S (.ref a) (bG knd k) ai fuel (aa (gI (it t.mask (bG knd k) (n'+1))))) Q E s:=by
     rw[hei];dsimp only;refine qB (ip (wpAny_eqBool_tuple hu hb hk ?_));refine qB (vx ho hd T.fits ?_);dsimp only;by_cases hkk:k'=k
     .subst hkk;rw[qV rfl];simp only[FO,dn];exact qE (hyes i b hei hb)
     .rw[qQ hkk];simp only[FO,qu,dF];have hsm:t.sameMemory t.moves t.mask=aa ai:=by unfold SetTable.sameMemory;simp
      rw[hsm];dsimp only;simp only[dn];rw[T.live g3];dsimp only;rw[hei];dsimp only;refine qB (wpAny_isSame_ref_self ?_);simp only[dn];refine qB (qE ?_);dsimp only;refine ih (n'+1) _ (by omega) (by omega) rfl ?_;intro m i2 b2 hm hp2 he2;by_cases h3:m<n
      .exact hw m i2 b2 h3 hp2 he2
      .by_cases h4:m=n'
       .subst h4;have ei:i2=i:=by have q1:=T.live hp2;have q2:=T.live g3;rw[q1] at q2;injection q2
        subst ei;rw[hei] at he2;cases he2;exact fun z=>hkk (hb.inj z)
       .exfalso;refine g5 m i2 (by omega) (by omega) hp2 ?_;show((es[i2]?).map (·.1)).getD 0=_;rw[he2];rfl
    cases hled:t.led with
    |true=>
     simp only[iy,qu,dF];exact bD
    |false=>
     simp only[oz,dn];refine qB (On hk _ (fun y hy=>?_) ?_)
     .obtain⟨e,he1,rfl⟩:=cY.mp hy;have he2:e∈es.toList:=by have:=ES.mp he1;rw[Array.mem_filter] at this;exact ES.mpr this.1
      obtain⟨j,hj,ej⟩:=Fp.mp he2;obtain⟨k2,b2,q1,q2⟩:=he j e (by rw[←qL,vy hj,ej]);exact⟨k2,b2,by rw[q1],q2⟩
     .simp only[qu,dF];exact bD
   .cases g2;dsimp only;refine qE (hno fun i b hei hb=>?_);have hi:i<es.size:=(iw.mp hei).1;have hpi:t.place[i]?=aa t.place[i]! := by
     have:i<t.place.size:=by rw[T.sz];exact hi
     simp[this]
    obtain⟨m,q1,q2⟩:=T.rc i _ _ _ hpi hei;have hmem:J t.mask (bG knd k) m∈t.place.toList:=by rw[q1];rw[←qL] at hpi;exact qS hpi
    have hm:m<n0:=by
     rcases P9 m n0 with z|z|z
     .exact z
     .subst z;exact bx hmem hf
     .exact bx (q2 n0 z) hf
    by_cases h3:m<n
    .exact hw m i b h3 (by rw[q1];exact hpi) hei hb
    .refine g1 m i (by omega) hm (by rw[q1];exact hpi) ?_;show((es[i]?).map (·.1)).getD 0=_;rw[hei];rfl
  .rename_i hp;exact(Gs T hp hs h2 hn0 hf hocc).elim
structure TS (knd:KeyKind prog w κ) (h:Heap) (ks:ab (ab κ)) (o:bf):Prop where
 cls:o.ExactSet
 ex:∃es ep t,o.data=.set es ep t/\Tb t es/\Mk t.mask/\oR knd h es/\es.size=(dd ks).length/\(∀k∈dd ks,∃(i:ag) (b:au),es[i]?=aa (bG knd k,.ref b)/\IsTupleKey knd h k b)/\∀(i:ag) (k:ab κ) (b:au),es[i]?=aa (bG knd k,.ref b)->IsTupleKey knd h k b->k∈dd ks
theorem IsTupleKey.mono {k:ab κ} {a:au} (x:IsTupleKey knd h k a) (q:∀o,h.get? a=aa o->h'.get? a=aa o):IsTupleKey knd h' k a:=by obtain⟨o,items,n,h1,h2⟩:=x;exact⟨o,items,n,q o h1,h2⟩
theorem mw {es:b9 (aj×av)} {e:aj×av} :e∈es.toList↔∃i:ag,es[i]?=aa e:=by
 constructor
 .intro h;obtain⟨i,hi,q⟩:=Fp.mp h;exact⟨i,by rw[←qL,vy hi,q]⟩
 .rintro⟨i,h⟩;rw[←qL] at h;exact qS h
theorem Gz {h0:Heap} {ks:ab (ab κ)} {k:ab κ} {a:au} {es:b9 (aj×av)} (hk:IsTupleKey knd h0 k a) (hE:oR knd h0 es) (hsz:es.size=(dd ks).length) (hin:∀k∈dd ks,∃(i:ag) (b:au),es[i]?=aa (bG knd k,.ref b)/\IsTupleKey knd h0 k b)
  (hout:∀(i:ag) (k:ab κ) (b:au),es[i]?=aa (bG knd k,.ref b)->IsTupleKey knd h0 k b->k∈dd ks) (hnew:k∉dd ks) (mem:∀e,e∈es'.toList↔e=(bG knd k,.ref a)\/e∈es.toList) (size:es'.size=es.size+1) :
  oR knd h0 es'/\es'.size=(dd (ks++[k])).length/\(∀k'∈dd (ks++[k]),∃(i:ag) (b:au),es'[i]?=aa (bG knd k',.ref b)/\IsTupleKey knd h0 k' b)/\∀(i:ag) (k':ab κ) (b:au),es'[i]?=aa (bG knd k',.ref b)->IsTupleKey knd h0 k' b->k'∈dd (ks++[k]):=by
 rw[wF,qZ hnew];refine⟨fun i e he=>?_,by rw[size,hsz,qk,qX],fun k' hk'=>?_,fun i k' b he hb=>?_⟩
 .rcases(mem e).mp (mw.mpr ⟨i,he⟩) with rfl|q
  .exact⟨k,a,rfl,hk⟩
  .obtain⟨j,q⟩:=mw.mp q;exact hE j e q
 .rcases gz.mp hk' with q|q
  .obtain⟨i,b,q1,q2⟩:=hin k' q;obtain⟨j,q3⟩:=mw.mp ((mem _).mpr (.inr (mw.mpr ⟨i,q1⟩)));exact⟨j,b,q3,q2⟩
  .rw[ce.mp q];obtain⟨j,q3⟩:=mw.mp ((mem _).mpr (.inl rfl));exact⟨j,a,q3,hk⟩
 .rcases(mem _).mp (mw.mpr ⟨i,he⟩) with q|q
  .have e:b=a:=by have:=(Qs q).2;injection this
   subst e;exact gz.mpr (.inr (ce.mpr (hb.inj hk)))
  .obtain⟨j,q⟩:=mw.mp q;exact gz.mpr (.inl (hout j k' b q hb))
theorem B7 {S:au} {o:bf} {es:b9 (aj×av)} {t t':lO} (ho:h.get? S=aa o) (hd:o.data=.set es ep t):(h.update S (FP es' t')).get? S=aa {o with data:=.set es' (ep+1) t'}:=by
 have q:=Fd (FP es' t') ho (by rw[putSet_of es' t' hd];rfl)
 rwa [putSet_of es' t' hd] at q
set_option maxHeartbeats 1000000 in
theorem Mh {S a:au} {o:bf} {h0:Heap} {ks:ab (ab κ)} {k:ab κ} {Q:aU->aB->Prop} (hsc:∀v k,knd.is k v=ai->v.scannable=ai) (hu:A.units<dO) (ho:s.heap.get? S=aa o) (T:TS knd h0 ks o) (hk:IsTupleKey knd h0 k a)
  (hB:∀b o,h0.get? b=aa o->s.heap.get? b=aa o) (hlen:ks.length<=300)
  (h:∀b h' tk o',s.toks<=tk->iP S s.heap h'->h'.get? S=aa o'->TS knd h0 (ks++[k]) o'->Q b {s with heap:=h',toks:=tk}):aE (aO prog w) A (vt S (.ref a)) Q E s:=by
 obtain⟨hc,es,ep,t,hd,TB,hM,hE,hsz,hin,hout⟩:=T;have up:∀{k:ab κ} {b:au},IsTupleKey knd h0 k b->IsTupleKey knd s.heap k b:=fun q=>IsTupleKey.mono q fun o e=>hB _ _ e;have down:∀{k k':ab κ} {b:au},IsTupleKey knd h0 k' b->IsTupleKey knd s.heap k b->k=k':=fun q1 q2=>q2.inj (up q1);have hE':oR knd s.heap es:=fun i e he=>by obtain⟨k,b,q1,q2⟩:=hE i e he;exact⟨k,b,q1,up q2⟩
 have hddl:=oT ks;obtain⟨n0,f1,f2,f3⟩:=TB.first (bG knd k);unfold vt;refine ip (qB (wpAny_pyHash_tuple hu (up hk) ?_));unfold setAddHashed setAddHashedIn;refine ip (qB (vx (s:={s with toks:=s.toks+(k.length+1)}) ho hd TB.fits ?_));dsimp only;rw[show byScan (.ref a) es=ao from rfl];simp only[qu,dF];unfold setSearch;refine qB (JS (s:={s with toks:=s.toks+(k.length+1)}) hu ho hd TB hM (up hk) hE' f2 f3 f1 (fun i b hei hb=>?_) (fun hall=>?_) 100000 0 ac ?_ (fu _) rfl (fun m i b hm=>by omega))
 ·
  dsimp only;obtain⟨k',b',q1,q2⟩:=hE i _ hei;have:b'=b:=by have:=(Qs q1).2;injection this with e;exact e.symm
  subst this;have ek:=down q2 hb;subst ek;have hmem:=hout i k _ hei q2;refine qE (h ao s.heap _ o (by show s.toks<=s.toks+(k.length+1);omega) (P1 S s.heap) ho ⟨hc,es,ep,t,hd,TB,hM,hE,?_⟩);rw[wF,qY hmem];exact⟨hsz,hin,hout⟩
 ·
  dsimp only;have hnew:k∉dd ks:=fun hm=>by obtain⟨i,b,q1,q2⟩:=hin k hm;exact hall i b q1 (up q2)
  have hpl:cN t.place (J t.mask (bG knd k) n0)<=es.size:=by have:=(vP t.place (J t.mask (bG knd k) n0) TB.ri).1;rw[TB.sz] at this;exact this
  have hmaskle:t.mask<=511:=by rcases hM with e|e|e|e<;>omega
  have hmem:∀e,e∈(dH es (cN t.place (J t.mask (bG knd k) n0)) (bG knd k,cG a)).toList↔e=(bG knd k,cG a)\/e∈es.toList:=fun e=>by rw[pp _ _ _ hpl];exact v9 _ _ _ _
  have hsize:(dH es (cN t.place (J t.mask (bG knd k) n0)) (bG knd k,cG a)).size=es.size+1:=by have:=c7 gE (pp es _ (bG knd k,cG a) hpl);simp only[iR,qk,qh,qH,iq] at this;omega
  have hpsz:(dH t.place (cN t.place (J t.mask (bG knd k) n0)) (J t.mask (bG knd k) n0)).size=es.size+1:=by have:=c7 gE (pp t.place _ (J t.mask (bG knd k) n0) (by rw[TB.sz];exact hpl));have h3:=TB.sz;simp only[iR,qk,qh,qH,iq] at this;omega
  refine qB (vx (s:={s with toks:=s.toks+(k.length+1)}) ho hd TB.fits ?_);dsimp only;have fin:∀(es':b9 (aj×av)) (t':lO) (h':Heap) (o':bf),Tb t' es'->Mk t'.mask->(∀e,e∈es'.toList↔e=(bG knd k,cG a)\/e∈es.toList)->es'.size=es.size+1->iP S s.heap h'->h'.get? S=aa o'->o'.ExactSet->(∃ep',o'.data=.set es' ep' t')->Q ai {s with heap:=h',toks:=s.toks+(k.length+1)}:=fun es' t' h' o' q1 q2 q3 q4 q5 q6 q7 q8=>by obtain⟨ep',q8⟩:=q8;obtain⟨w1,w2,w3,w4⟩:=Gz hk hE hsz hin hout hnew q3 q4;exact h ai h' _ o' (by omega) q5 q6 ⟨q7,es',ep',t',q8,q1,q2,w1,w2,w3,w4⟩
  have bD:∀pl:aU,aE (aO prog w) A (do
    storeSet S (dH es (t.put (J t.mask (bG knd k) n0)).2 (bG knd k,cG a)) { (t.put (J t.mask (bG knd k) n0)).1 with plain:=pl}
    if (!ao && vz { (t.put (J t.mask (bG knd k) n0)).1 with plain:=pl})=ai then do
     setRelay S (y9 (es.size+1))
     pure ai
    else pure ai) Q E {s with toks:=s.toks+(k.length+1)}:=fun pl=>by
   refine qB (Qt (s:={s with toks:=s.toks+(k.length+1)}) ho hd ?_ (by show(dH es (cN t.place (J t.mask (bG knd k) n0)) (bG knd k,cG a)).size<=aK;rw[hsize,g8];omega));have hg1:=B7 (es':=dH es (t.put (J t.mask (bG knd k) n0)).2 (bG knd k,cG a)) (t':={ (t.put (J t.mask (bG knd k) n0)).1 with plain:=pl}) ho hd;have hsb1:=ze s.heap S (FP (dH es (t.put (J t.mask (bG knd k) n0)).2 (bG knd k,cG a)) { (t.put (J t.mask (bG knd k) n0)).1 with plain:=pl});have hdum:(t.put (J t.mask (bG knd k) n0)).1.dummies=#[]:=by show(if Fz t.dummies _ then _ else t.dummies)=#[];rw[TB.dm];rfl
   have hfill:Qa { (t.put (J t.mask (bG knd k) n0)).1 with plain:=pl}=es.size+1:=by show(dH t.place _ _).size+(t.put (J t.mask (bG knd k) n0)).1.dummies.size=_;rw[hdum];exact hpsz
   by_cases few:(es.size+1)*5<t.mask*3
   .have hfull:vz { (t.put (J t.mask (bG knd k) n0)).1 with plain:=pl}=ao:=by unfold vz;rw[hfill];exact qQ (by show ¬((es.size+1)*5 ≥ t.mask*3);omega)
    rw[hfull];simp only[oz,PK,qu,dF];refine qE (fin _ _ _ _ (TB.put (x:=.ref a) f2 f3 few pl) hM hmem hsize hsb1 hg1 hc ⟨_,rfl⟩)
   .have hfull:vz { (t.put (J t.mask (bG knd k) n0)).1 with plain:=pl}=ai:=by unfold vz;rw[hfill];exact qV (by show((es.size+1)*5 ≥ t.mask*3);omega)
    rw[hfull];simp only[oz,Bool.and_true,dn];obtain⟨m1,m2,m3⟩:=hM.grow TB.few few (by omega);have hes1:(dH es (t.put (J t.mask (bG knd k) n0)).2 (bG knd k,cG a)).size=es.size+1:=hsize;obtain⟨t',order,r1,r2,r3,r4,r5,r6⟩:=Full.relaid (t:={ (t.put (J t.mask (bG knd k) n0)).1 with plain:=pl}) (es:=dH es (t.put (J t.mask (bG knd k) n0)).2 (bG knd k,cG a)) m1.full (by rw[hes1];exact m2);unfold setRelay;have hfits:FB { (t.put (J t.mask (bG knd k) n0)).1 with plain:=pl} (dH es (t.put (J t.mask (bG knd k) n0)).2 (bG knd k,cG a)).size=ai:=by unfold FB;rw[hfill,hes1,hG];have:=TB.few;exact⟨by rw[lG];exact hpsz,qV (by show es.size+1<=t.mask;omega)⟩
    refine qB ?_;refine qB (vx (s:={s with heap:=_,toks:=s.toks+(k.length+1)}) hg1 rfl hfits ?_);dsimp only;rw[qZ (by rw[g8];omega),r1];refine qB ?_;show aE _ _ (if ((order.filterMap ((dH es (t.put (J t.mask (bG knd k) n0)).2 (bG knd k,cG a))[·]?)).size != (dH es (t.put (J t.mask (bG knd k) n0)).2 (bG knd k,cG a)).size)=ai then _ else _) _ _ _;rw[qZ (by rw[r2];simp)];refine qE ?_;dsimp only;refine Qt (s:={s with heap:=_,toks:=s.toks+(k.length+1)}) hg1 rfl ?_ (by rw[r2,hes1,g8];omega);refine qE (fin _ t' _ _ r3 (by rw[r5];exact m1) (fun e=>(r4 e).trans (hmem e)) (by rw[r2,hes1]) (hsb1.trans (ze _ S _)) (B7 hg1 rfl) hc ⟨_,rfl⟩)
  split
  .refine qB (JQ (s:={s with toks:=s.toks+(k.length+1)}) (up hk) hsc fun bv=>?_);cases bv
   .exact bD ao
   .exact bD _
  .refine qB (qE ?_);exact bD _
 .show n0-0<100000;have:t.mask<=511:=by rcases hM with e|e|e|e<;>omega
  omega
end
end ST
section
open ST
instance (priority:=high) keyBEq:BEq Key:=Qu
instance (priority:=high) keyLaw:LawfulBEq Key:=inferInstanceAs (@LawfulBEq Key Qu)
noncomputable def Dr (n:ag) (o:bf):Prop:=o.ExactSet/\∃es ep t,o.data=.set es ep t/\t.fits es.size=ai/\es.size=n
noncomputable def kY (p:au) (n:ag):HO:=.ext fun h=>∃o,h.get? p=aa o/\Dr n o
theorem Cf (v:av) (k:Key) (h:(dQ P w).is k v=ai):v.scannable=ai:=by rcases ji h with⟨i,t,rfl,rfl⟩|⟨x,t,rfl,rfl⟩<;>rfl
noncomputable def Jq:ab V->Hp->VK->Prop:=fun xs H Q=>∃a vs,xs=[.ref a]/\H a=aa (.lst vs)/\vs.length<=300 /\
 ((∃ks:ab Key,vs=ks.map kV/\∀p,H p=ac->Q (.ref p) (upd H p (kY p (dd ks).length))) \/
 (∃ts:ab (ab Key),vs.length=ts.length/\(∀(i:ag) t,ts[i]?=aa t->∃b,vs[i]?=aa (.ref b)/\H b=aa (.tup (t.map kV)))/\∀p,H p=ac->Q (.ref p) (upd H p (kY p (dd ts).length))))
theorem J5 (hc:X.calm=ai) (hu:X.A.units+66<dO):gn X (.type "set") Jq:=by
 intro pins s σ H xs us Q I r h;obtain⟨a,vs,rfl,ha,hl,h⟩:=h;obtain⟨u,rfl,ru⟩:=fU r;cases ru;obtain⟨its,rv,pl,hz⟩:=I.list (.inl (.inl ha));have hlen:=rv.length;have hsz:its.toArray.size=vs.length:=by rw[qF,hlen]
 have fin:∀(n:ag) (h':Heap) (tk:ag) (o:bf),h'.get? s.heap.objs.size=aa o->Dr n o->(∀b o,b<s.heap.objs.size->s.heap.get? b=aa o->h'.get? b=aa o)->
   (∀p,H p=ac->Q (.ref p) (upd H p (kY p n)))->EP X pins σ Q (.ref s.heap.objs.size) {s with heap:=h',toks:=tk}:=fun n h' tk o ho hn hk q=>by
  refine⟨.ref s.heap.objs.size,_,I.laid (a:=s.heap.objs.size) (o:=kY s.heap.objs.size n) (fun b u e=>hk b u (qx e) e) (qy _) ?_,rfl,q _ I.fresh⟩;refine⟨⟨o,ho,hn⟩,⟨o,ho⟩,fun h1 h2 hp hk2=>?_⟩;obtain⟨o1,q1,q2⟩:=hp;exact⟨o1,hk2 o1 q1,q2⟩
 rcases h with⟨ks,rfl,q⟩|⟨ts,ht,hts,q⟩
 ·
  have hkl:ks.length=its.length:=by rw[←hlen,qe]
  refine AH (I.ok.hd hc) pl.isList (fun i o=>o.SetObjOf (dQ X.prog X.w) (fun k=>decide (k∈dd (ks.take i))) (dd (ks.take i)).length) (fun led=>?_) (fun A' hA' i v sh o Q' E' hi hv ho hJ hB hQ=>?_) fun h' tk o ho hJ hk=>?_
  .have:=setObjOf_fresh (knd:=dQ X.prog X.w) led;simpa[dd] using this
  .have hi':i<ks.length:=by rw[qF] at hi;omega
   obtain⟨u2,hu2,ru2⟩:=rv.get (i:=i) (x:=kV ks[i]) (by simp[hi']);have ev:v=u2:=by
    have hv':its[i]?=aa v:=by simpa using hv
    rw[hu2] at hv';exact(qK hv').symm
   subst ev;have hkey:=uC (P:=X.prog) (w:=X.w) ru2;have hle:(dd (ks.take i)).length<=300:=by have h1:=oT (ks.take i);rw[qH] at h1;rw[qe] at hl;omega
   unfold vt;refine ip (qB ((dQ X.prog X.w).pyHash hkey ?_));refine wpAny_setAddHashed_of (knd:=dQ X.prog X.w) (s:={sh with toks:=sh.toks+1}) hkey (Cf _ _ hkey) (hJ.setOf ho (by unfold FU;omega)) (by unfold FU;omega) fun h' hsb hS2=>?_;obtain⟨o',ho',hso⟩:=hS2.objOf;refine hQ _ h' _ o' (E1 _) hsb ho' ?_;have htk:ks.take (i+1)=ks.take i++[ks[i]]:=by rw[zf,vy hi'];rfl
   show Obj.SetObjOf (dQ X.prog X.w) o' (fun k=>decide (k∈dd (y7 (i+1) ks))) (dd (y7 (i+1) ks)).length;rw[htk,wF];by_cases hm:ks[i]∈dd (ks.take i)
   .rw[qY hm];rw[qY (by simpa using hm)] at hso;have e:(fun k'=>decide (k'∈dd (ks.take i)) || decide (k'=ks[i]))=fun k'=>decide (k'∈dd (ks.take i)):=by
     funext k'
     by_cases hk':k'=ks[i]
     .subst hk';simp[hm]
     .simp[hk']
    rw[e] at hso;exact hso
   .rw[qZ hm];rw[qZ (by simpa using hm)] at hso;have e:(fun k'=>decide (k'∈dd (ks.take i)) || decide (k'=ks[i]))=fun k'=>decide (k'∈dd (ks.take i)++[ks[i]]):=by
     funext k'
     rw[rG];simp
    rw[e] at hso;simpa using hso
  .have e:ks.take its.toArray.size=ks:=by rw[qF,←hkl];exact mU
   rw[e] at hJ;have hS:=hJ.setOf ho (by have:=oT ks;rw[qe] at hl;unfold FU;omega);obtain⟨o1,es,ep,t,v0,v1,v2,_,_,_,v3,v4⟩:=hS;rw[ho] at v0;cases v0;exact fin _ h' tk o ho ⟨v1,es,ep,t,v2,v3,v4⟩ hk q
 ·
  have hkl:ts.length=its.length:=by rw[←hlen,ht]
  refine AH (I.ok.hd hc) pl.isList (fun i o=>ST.TS (dQ X.prog X.w) s.heap (ts.take i) o) (fun led=>?_) (fun A' hA' i v sh o Q' E' hi hv ho hJ hB hQ=>?_) fun h' tk o ho hJ hk=>?_
  .refine⟨⟨rfl,rfl,rfl⟩,#[],0,vA 0 0 led,rfl,?_,.inl rfl,fun i e he=>by simp at he,rfl,fun k hk=>by simp[dd] at hk,fun i k b he=>by simp at he⟩;exact⟨Ap,rfl,rfl,by simp[vA],by simp[vA],by simp[vA],fun i j h x hp=>by simp[vA] at hp⟩
  .have hi':i<ts.length:=by rw[qF] at hi;omega
   obtain⟨b,hb1,hb2⟩:=hts i ts[i] (by simp[hi']);obtain⟨u2,hu2,ru2⟩:=rv.get hb1;have ev:v=u2:=by
    have hv':its[i]?=aa v:=by simpa using hv
    rw[hu2] at hv';exact(qK hv').symm
   subst ev;cases ru2;have hkey:=sv I.hok hb2;have htk:ts.take (i+1)=ts.take i++[ts[i]]:=by rw[zf,vy hi'];rfl
   refine Mh (fun v k=>Cf v k) (by omega) ho hJ hkey (fun b' o' e=>hB b' o' (qx e) e) (by rw[qH];have:=hl;omega) fun bb h' tk o' h1 h2 h3 h4=>hQ bb h' tk o' h1 h2 h3 (by show ST.TS _ _ (y7 (i+1) ts) o';rw[htk];exact h4)
  .have e:ts.take its.toArray.size=ts:=by rw[qF,←hkl];exact mU
   rw[e] at hJ;obtain⟨hc',es,ep,t,w1,w2,w3,w4,w5,w6,w7⟩:=hJ;exact fin _ h' tk o ho ⟨hc',es,ep,t,w1,w2.fits,w5⟩ hk q
theorem Kk:gn X (.builtin "len") (fun xs H Q=>∃p n,xs=[.ref p]/\H p=aa (kY p n)/\n<=300/\Q (.int n) H):=by intro pins s σ H xs us Q I r h;obtain⟨p,n,rfl,hp,hn,q⟩:=h;obtain⟨u,rfl,ru⟩:=fU r;cases ru;obtain⟨⟨o,ho,hex,es,ep,t,w1,w2,w3⟩,_,_⟩:=I.hok p _ hp;exact call_len_set ho hex w1 w2 (by omega) ⟨.int n,H,I.tok _,⟨_,by rw[w3]⟩,q⟩
end
section
open ST
noncomputable def l6:ab D->aq (ab (ab Key))
 |[]=>aa []
 |.tup t::r=>(h9 t).bind fun k=>(l6 r).map (k::·)
 |_::_=>ac
theorem AN {Γ:Cn} {K:aR} {G H:Hp} (gh:bp G H):∀{vs:ab V} {ds:ab D} {ts:ab (ab Key)},Reps Γ K G vs ds->l6 ds=aa ts->vs.length=ts.length/\∀(i:ag) t,ts[i]?=aa t->∃b,vs[i]?=aa (.ref b)/\H b=aa (.tup (t.map kV))
 |_,[],ts,r,h=>by cases r;cases h;exact⟨rfl,fun i t e=>by simp at e⟩
 |_,d::ds,ts,.cons h1 h2,h=>by
  cases d with
  |tup t=>
   unfold l6 at h;obtain⟨k,hk,h⟩:=oBd h;obtain⟨zs,hz,rfl⟩:=oMd h;obtain⟨a,us,rfl,ha,ra⟩:=h1.tup_inv;have e:=pX ra hk;subst e;obtain⟨q1,q2⟩:=AN gh h2 hz;refine⟨by rw[qh,qh,q1],fun i t' e=>?_⟩;cases i with
   |zero=>cases e;exact⟨a,rfl,gh _ _ ha⟩
   |succ i=>exact q2 i t' e
  |_=>cases h
noncomputable def nW:D->aq D
 |.lst l=>if l.length<=300 then match h9 l with
  |some ks=>aa (.int (dd ks).length)
  |none=>(l6 l).map fun ts=>.int (dd ts).length
  else ac
 |_=>ac
section
variable {pos2:fm}
theorem MB (hc:X.calm=ai) (hu:X.A.units+66<dO) (hgl:Gl X "len") (hml:X.mg "len"=ac) (hgs:Gl X "set") (hms:X.mg "set"=ac) (h:DE Γ X e f)
  (h1:aH ([.Call (.Name "set" p2) [e] [] pos2]:ab Expr) X.env=(ao,eval (.Call (.Name "set" p2) [e] [] pos2) X.env)::aH [] X.env:=by rfl) (h2:(ca pos (aH [] X.env)).any (·.1)=ao:=by rfl)
  (h3:aH ([e]:ab Expr) X.env=(ao,eval e X.env)::aH [] X.env:=by rfl) (h4:(ca pos2 (aH [] X.env)).any (·.1)=ao:=by rfl) :
  DE Γ X (.Call (.Name "len" p) [.Call (.Name "set" p2) [e] [] pos2] [] pos) (b1 nW f):=⟨by
 refine(wk Kk hgl hml (by rfl) (eY (Bf (J5 hc hu) hgs hms (by rfl) (eY h.1 gc h3) (by decide) (by decide) h3 h4) gc h1) (by decide) (by decide) h1 h2).imp fun σ H Q=>?_;rintro⟨G₀,H₀,G,ρ,d,A,hq,k⟩;unfold b1 at hq;obtain⟨x,hx,hl⟩:=oBd hq;clear hq;refine⟨G₀,H₀,G,ρ,x,A,hx,fun v G1 H1 s1 r1=>?_⟩;unfold nW at hl;split at hl
 .rename_i l;split at hl
  .rename_i hz;obtain⟨a,vs,rfl,ha,ra⟩:=r1.lst_inv;have go:∀(n:ag),n<=300->d=.int n->∀p,H1 p=ac->∃p' n',[V.ref p]=[V.ref p']/\(upd H1 p (kY p n)) p'=aa (kY p' n')/\n'<=300/\Q (.int n') (upd H1 p (kY p n)):=fun n hn ed p hp=>by subst ed;refine⟨p,n,rfl,b7,hn,k _ G1 _ (s1.trans (Step.newOwn s1.gh hp)) (.int _)⟩
   refine⟨a,vs,rfl,s1.gh _ _ ha,by rw[ra.length];exact hz,?_⟩;split at hl
   .rename_i ks hk;refine .inl ⟨ks,pX ra hk,go _ ?_ (qK hl).symm⟩;have h5:=oT ks;have h6:ks.length=l.length:=by have:=pX ra hk;rw[←ra.length,this,qe]
    omega
   .obtain⟨ts,ht,e1⟩:=oMd hl;obtain⟨q1,q2⟩:=AN s1.gh ra ht;refine .inr ⟨ts,q1,q2,go _ ?_ e1.symm⟩;have h5:=oT ts;have h6:=ra.length;omega
  .cases hl
 .cases hl⟩
end
end
namespace DT
theorem NV:E7 (.type "list") "keys"=pure ac:=by rw[Qv,Qw];kernel_rfl
theorem IJ:E7 (.type "list") "__getattr__"=pure ac:=by rw[Qv,Qw];kernel_rfl
theorem NU {u:Tok} {R:oh->aB->Prop} {s:aB} {xs:b9 av} (hx:s.heap.get? l=aa {cls:=.type "list",data:=.seq xs n}) (hA:A.handled=ac)
  (h:∀h' tk e,Heap.NewAttrErr s.heap h' e (.ref l) "keys"->R (.error (.ref e)) {s with heap:=h',toks:=tk}) :
  iS (aO prog w) A (.call (.builtin "list.__getattribute__") ⟨[.ref l,.str "keys" u],[]⟩) R s:=by
 obtain⟨hp,g,d,tk,os⟩:=s;have hT:(⟨hp,g,d,tk,os⟩:aB).TypeIs (.ref l) "list":=⟨_,hx,rfl⟩;have f1:=NV;refine Qn zg.plain F.entry_list_ga (zg.check _ _ _ _ _ _ _ _ hT (F.args_list_getattribute_2 _ _) ?_);unfold Builtin.«object.__getattribute__»
 repeat (any_goals (first|assumption|wp_step))
 have hsz:(rQ "keys").length+100<=aK:=by rw[PySem.ofString_length];decide
 refine wpAny_raiseAttrError (A:=A.in1) hA h ?_;exact attrMsg_fits (by decide +kernel) hsz
set_option maxHeartbeats 4000000 in
theorem OB {Q:aq av->aB->Prop} {s:aB} {xs:b9 av} (hx:s.heap.get? l=aa {cls:=.type "list",data:=.seq xs n}) (hA:A.handled=ac)
  (h:∀h' tk,(∀b ob,s.heap.get? b=aa ob->h'.get? b=aa ob)->Q ac {s with heap:=h',toks:=tk}) :
  aE (aO prog w) A (getAttr? (.ref l) "keys") Q E s:=by
 obtain⟨hp,g,d,tk,os⟩:=s;have hT:∀tk',(⟨hp,g,d,tk',os⟩:aB).TypeIs (.ref l) "list":=fun _=>⟨_,hx,rfl⟩;have f1:=sub_AttributeError;have f2:=zg.lookup;have f3:=zg.bind (.ref l);have f5:=IJ;unfold getAttr? getAttrBy?;refine qB (wpAny_mkText ?_);refine qB (FV ?_);unfold getAttrBy;refine ip (qB (vd (hT _) (qB (zh f2 ?_))));show aE _ _ (Qx _ _ _ _ _ _) _ _ _;unfold Qx;refine qB (m:=hookBefore (lC "list")) (qE ?_);refine qB (FV (ip ?_));show aE _ _ (Qy _ _ _) _ _ _;unfold Qy;refine qB (zh f3 ?_);refine yA (NU (s:=⟨hp,g,d,tk+1,os⟩) hx hA fun h' tk' e hn=>?_);obtain⟨t',u',he⟩:=hn.there;have hE:zb ⟨h',g,d,tk',os⟩ (.ref e) "AttributeError":=⟨_,he,rfl⟩;show aE _ _ (Qz _ _ _ _ _ _ _) _ _ _;unfold Qz;refine qB (FW hE f1 ?_);simp only[dn];refine qB (m:=hookBehind (lC "list") ac) (zh f5 ?_);unfold hookOrError attributeErrorLeaves;simp only[oz,dn];refine qB (wpAny_throw ?_);refine qB (FW hE f1 ?_);simp only[dn];exact qE (h h' tk' hn.keeps)
theorem Ai:entryFor table "dict.update.loop"=aa Builtin.«dict.update.loop»:=entryFor_of_tree (by kernel_rfl)
theorem sr:plainId "dict.update.loop"=ai:=by decide +kernel
section
variable {R:oh->aB->Prop} {G:b9 rF->b9 rF->Prop} {P:ag->av->Prop} {St:ag->aB->Prop}
noncomputable def AK (prog:dD) (w:cS) (A:dj) (S:au) (h0:Heap) (P:ag->av->Prop) (n:ag) (J:ag->bf->Prop):Prop:=
 ∀(i:ag) (b:au) (kv vv:av) (s:aB) (o:bf) (Q:mI->aB->Prop) (E:av->aB->Prop),i<n->P i (.ref b)->h0.IsTuple b #[kv,vv]->s.heap.get? S=aa o->J i o->(∀b o,b<h0.objs.size->h0.get? b=aa o->s.heap.get? b=aa o)->
  (∀h' tk o',s.toks<=tk->iP S s.heap h'->h'.get? S=aa o'->J (i+1) o'->Q () {s with heap:=h',toks:=tk})->aE (aO prog w) A (dictSet S kv vv) Q E s
theorem Hs (W:WalksS prog w A.in1 I fp wr G n P St) (S:au) (hSf:S∉fp) (h0:Heap) (hS0:h0.objs.size<=S) (hw0:∀b∈wr,h0.objs.size<=b) (J:ag->bf->Prop) (hadd:AK prog w A.in1 S h0 P n J) (hP:∀i v,P i v->∃b kv vv,v=.ref b/\h0.IsTuple b #[kv,vv]) :
  ∀(k i:ag) (c:aj) (s:aB) (o:bf),n-i=k->i<=n->St i s->s.heap.get? S=aa o->J i o->(∀b o,b<h0.objs.size->h0.get? b=aa o->s.heap.get? b=aa o)->
   (∀s' o',Moved (S::wr) G s s'->s'.heap.get? S=aa o'->J n o'->R (.ok (.ret .none)) s')->
   iS (aO prog w) A (.builtin "dict.update.loop" ⟨[.ref S,.ref I,oe c,.none],[]⟩) R s:=by
 have hSw:S∉wr:=fun h=>hSf (W.sub _ h);have hsub:∀b∈wr,b∈S::wr:=fun b hb=>qg _ hb;have keep:∀{h h':Heap},(∀b o,b<h0.objs.size->h0.get? b=aa o->h.get? b=aa o)->(∀b o,b∉S::wr->h.get? b=aa o->h'.get? b=aa o)->∀b o,b<h0.objs.size->h0.get? b=aa o->h'.get? b=aa o:=fun q1 q2 b o hb e=>q2 b o (fun z=>by
  rcases eC.mp z with z|z
  .rw[z] at hb;exact bx hb (Fk.mpr hS0)
  .exact bx hb (Fk.mpr (hw0 b z))) (q1 b o hb e)
 intro k
 induction k with
 |zero=>
  intro i c s o hk hi hst hS hJ hB hR;have hin:i=n:=by omega
  subst hin;refine vw Ai ?_;rw[za sr _];show aE _ A.in1 (lF (.ref I) >>= _) _ _ s;refine qB (W.done s _ _ hst fun s' hm=>?_);show aE _ A.in1 (R5 S [] >>= _) _ _ s';exact qB (qE (qE (hR s' o (hm.mono hsub) (hm.heap S _ hSw hS) hJ)))
 |succ k ih=>
  intro i c s o hk hi hst hS hJ hB hR;have hlt:i<n:=by omega
  refine vw Ai ?_;rw[za sr _];show aE _ A.in1 (lF (.ref I) >>= _) _ _ s;refine qB (W.item i s _ _ hlt hst fun v s' hPv hst' hm=>?_);obtain⟨b,kv,vv,rfl,hb⟩:=hP i v hPv;have hB':=keep hB fun b o hb e=>hm.heap b o (fun z=>hb (hsub b z)) e;obtain⟨ob,hob,hoc,nn,hod⟩:=hb;have hob':s'.heap.get? b=aa ob:=hB' b ob (qx hob) hob;have hTb:s'.TypeIs (.ref b) "tuple":=⟨_,hob',hoc⟩;show aE _ A.in1 (fD [cG b] _ >>= _) _ _ s';refine qB (ip ?_);refine qB ?_;refine wpAny_tryCatch ?_;unfold R6;refine qB (vd hTb ?_);rw[qY (by decide)];refine qB (lP hob' hod (qE ?_));show aE _ A.in1 (fD [kv,vv] (dictSet S kv vv)) _ _ s';refine ip (hadd i b kv vv s' o _ _ hlt hPv ⟨ob,hob,hoc,nn,hod⟩ (hm.heap S _ hSw hS) hJ hB' fun h' tk o' htk hsb hS' hJ'=>?_);refine qE ⟨FJ sr _,ih (i+1) (c+1) _ o' (by omega) hlt (W.frame _ s' _ _ hst' htk fun b hb o e=>?_) hS' hJ' ?_ fun s'' o'' hm'' hS'' hJ''=>?_⟩
  .rw[hsb.2 b (fun h:b=S=>hSf (by rw[←h];exact hb))];exact e
  .refine keep hB' fun b o hb e=>?_;show h'.get? b=aa o;rw[hsb.2 b (fun h:b=S=>hb (by rw[h];exact qf))];exact e
  .refine hR s'' o'' (Qm W.gtrans ((hm.mono hsub).then_heap htk fun b o hb e=>?_) hm'') hS'' hJ'';rw[hsb.2 b (fun h:b=S=>hb (by rw[h];exact qf))];exact e
end
section
variable {s:aB}
theorem call_dict_gen {c:ag} (hh:A.handled=ac) (hl:s.heap.get? l=aa {cls:=.type "list",data:=.seq items c}) (J:ag->bf->Prop)
  (hJ0:J 0 {cls:=.type "dict",data:=.dict #[]})
  (hadd:∀A':dj,A'.units<=A.units+16->AK prog w A' s.heap.objs.size s.heap (fun i v=>items[i]?=aa v) items.size J)
  (hP:∀(i:ag) (v:av),items[i]?=aa v->∃b kv vv,v=.ref b/\s.heap.IsTuple b #[kv,vv])
  (h:∀(h':Heap) (tk:ag) (o:bf),h'.get? s.heap.objs.size=aa o->J items.size o->
   (∀b o,b<s.heap.objs.size->s.heap.get? b=aa o->h'.get? b=aa o)->Q (.ref s.heap.objs.size) {s with heap:=h',toks:=tk}) :
  aE (aO prog w) A (call (.type "dict") [.ref l]) Q E s:=by
 refine callType_codes (Q₁:=fun obj s₁=>obj=.ref s.heap.objs.size/\s₁={s with heap:=s.heap.push {cls:=.type "dict",data:=.dict #[]} }) F.kt_called_dict (F.kt_typeCall_dict_1 _) F.entry_dict_init (kt_code_dict_new _ ⟨rfl,rfl⟩) ?_;rintro obj s₁ ⟨rfl,rfl⟩;have hnew:(s.heap.push {cls:=.type "dict",data:=.dict #[]}).get? s.heap.objs.size=aa {cls:=.type "dict",data:=.dict #[]}:=qJ _ rfl;have hl1:(s.heap.push {cls:=.type "dict",data:=.dict #[]}).get? l=aa {cls:=.type "list",data:=.seq items c}:=qw _ hl;have hT:zb {s with heap:=s.heap.push {cls:=.type "dict",data:=.dict #[]} } (.ref s.heap.objs.size) "dict":=⟨_,hnew,rfl⟩;have hTl:zb {s with heap:=s.heap.push {cls:=.type "dict",data:=.dict #[]} } (.ref l) "list":=⟨_,hl1,rfl⟩;refine⟨hT,F.args_dict_init_2 _ _,?_⟩;unfold Builtin.«dict.__init__»;refine qB ?_;unfold R7;refine qB (wpAny_notOrdered_dict hT ?_);show aE _ _ (pure (s.heap.objs.size,[cG l])) _ _ _;refine qE ?_;show aE _ _ (QA "dict.__init__" s.heap.objs.size (.ref l) [] .none) _ _ _;unfold QA;refine qB (vd hTl ?_);rw[qY (by decide)];refine qB (OB (s:={s with heap:=s.heap.push {cls:=.type "dict",data:=.dict #[]} }) (A:=A.in1.in1) hl1 hh fun h1 tk1 hk1=>?_);simp only[Option.isNone_none,dn];refine qB (FX ?_);have hl2:h1.IsList l items:=⟨_,hk1 _ _ hl1,rfl,_,rfl⟩;refine qB (og (s:={s with heap:=h1,toks:=tk1}) hl2 ?_);refine qE ⟨FJ sr _,?_⟩;have hlS:l<s.heap.objs.size:=qx hl;have hsz1:s.heap.objs.size<h1.objs.size:=qx (hk1 _ _ hnew);have hneI:l≠h1.objs.size:=qG (mO hlS hsz1);have hSf:s.heap.objs.size∉[h1.objs.size,l]:=by simp only[qO,ce,qM,or_false,mT];exact⟨qG hsz1,uY hlS⟩
 have old:∀b o,b<s.heap.objs.size->s.heap.get? b=aa o->h1.get? b=aa o:=fun b o _ e=>hk1 _ _ (qw _ e);refine Hs ((Ft (A:=A.in1.in1) (by simpa using hh) _ l hneI items).toS) s.heap.objs.size hSf s.heap (qy _) (fun b hb=>?_) J (hadd _ (by show A.units+2<=_;omega)) hP (items.size-0) 0 0 _ _ (by omega) (fu _)
  ⟨⟨_,qJ _ rfl,rfl,rfl⟩,hl2.push _⟩ (qw _ (hk1 _ _ hnew)) hJ0 (fun b o hb e=>qw _ (old b o hb e)) fun s' o' hm hS' hJ'=>?_
 .have:b=h1.objs.size:=by simpa using hb
  rw[this];exact n9 hsz1
 .obtain⟨h',g',d',tk',os'⟩:=s';have eg:g'=s.gens:=hm.gens;have ed:d'=s.drawn:=hm.drawn;have eo:os'=s.os:=hm.os;subst eg;subst ed;subst eo;refine⟨rfl,h h' tk' o' hS' hJ' fun b o hb e=>hm.heap b o ?_ (qw _ (old b o hb e))⟩;simp only[qO,ce,qM,or_false,mT];exact⟨qG hb,qG (mO hb hsz1)⟩
end
end DT
section
variable [fj κ]
noncomputable def mrg (kvs ps:ab (κ×V)):ab (κ×V):=ps.foldl (fun acc kv=>eJ acc kv.1 kv.2) kvs
theorem BR (kvs ps:ab (κ×V)) (p:κ×V):mrg kvs (ps++[p])=eJ (mrg kvs ps) p.1 p.2:=by unfold mrg;rw[zc];rfl
theorem Lq (kvs:ab (κ×V)) (k:κ) (v:V):(eJ kvs k v).length<=kvs.length+1:=by
 unfold eJ;split
 .rw[qe];omega
 .rw[qk,qX];omega
theorem rD:∀(ps kvs:ab (κ×V)),(mrg kvs ps).length<=kvs.length+ps.length
 |[],kvs=>qy _
 |p::ps,kvs=>by have h1:=rD ps (eJ kvs p.1 p.2);have h2:=Lq kvs p.1 p.2;show(mrg (eJ kvs p.1 p.2) ps).length<=_;rw[qh];omega
end
noncomputable def Nv:ab V->Hp->VK->Prop:=fun xs H Q=>∃(a:au) (vs:ab V) (ps:ab (Key×V)),xs=[.ref a]/\H a=aa (.lst vs)/\vs.length=ps.length/\ps.length<=1000/\(∀(i:ag) p,ps[i]?=aa p->∃b,vs[i]?=aa (.ref b)/\H b=aa (.tup [kV p.1,p.2])) /\
 ∀q,H q=ac->Q (.ref q) (upd H q (.dK (mrg [] ps)))
theorem A6 {s:aB} {b:au} {x y:V} (I:Inv X pins σ H s) (hb:H b=aa (.tup [x,y])):∃u v,bK x u/\bK y v/\s.heap.IsTuple b #[u,v]:=by
 obtain⟨its,r,p,_⟩:=I.tuple (.inl (.inl hb));cases r with
 |cons r1 r2=>
  cases r2 with
  |cons r2 r3=>
   cases r3;exact⟨_,_,r1,r2,p⟩
theorem tuple_inj {b:au} {x y:b9 av} (p:h.IsTuple b x) (q:h.IsTuple b y):x=y:=by obtain⟨o,h1,_,n,h2⟩:=p;obtain⟨o',g1,_,m,g2⟩:=q;rw[h1] at g1;cases g1;rw[h2] at g2;cases g2;rfl
theorem OH (hc:X.calm=ai) (hu:X.A.units+66<dO):gn X (.type "dict") Nv:=by
 intro pins s σ H xs us Q I r h;obtain⟨a,vs,ps,rfl,ha,hl,hz,hp,q⟩:=h;obtain⟨u,rfl,ru⟩:=fU r;cases ru;obtain⟨z,its,n,rv,hlen,e⟩:=I.lstM ha;have hsz:its.toArray.size=ps.length:=by rw[qF,←hlen,hl]
 have hit:∀(i:ag) (v:av),its.toArray[i]?=aa v->∃p b u w,ps[i]?=aa p/\v=.ref b/\bK (kV p.1) u/\bK p.2 w/\s.heap.IsTuple b #[u,w]:=fun i v hv=>by
  have hi:i<ps.length:=by rw[←hsz];exact(iw.mp hv).1
  obtain⟨b,hb1,hb2⟩:=hp i ps[i] (by simp[hi]);obtain⟨u2,hu2,ru2⟩:=rv.get hb1;have hv':its[i]?=aa v:=by simpa using hv
  rw[hu2] at hv';cases hv';cases ru2;obtain⟨u,w,r1,r2,r3⟩:=A6 I hb2;exact⟨ps[i],b,u,w,by simp[hi],rfl,r1,r2,r3⟩
 refine DT.call_dict_gen (I.ok.hd hc) e (fun i o=>∃vs',KV (mrg [] (ps.take i)) vs'/\o.IsDictOf (dQ X.prog X.w) vs') ?_ (fun A' hA' i b kv vv sh o Q' E' hi hv hb ho hJ hB hQ=>?_) (fun i v hv=>?_) fun h' tk o ho hJ hk=>?_
 .obtain⟨o,ho,hd⟩:=zi.mp (PP (knd:=dQ X.prog X.w) s.heap);have:o={cls:=.type "dict",data:=.dict #[]}:=by have:=qJ s.heap (o:={cls:=.type "dict",data:=.dict #[]}) rfl;rw[this] at ho;exact(qK ho).symm
  subst this;exact⟨[],.nil,hd⟩
 .obtain⟨p,b',u,w,h1,h2,h3,h4,h5⟩:=hit i _ hv;cases h2;have e2:=tuple_inj hb h5;have e3:kv=u/\vv=w:=by simpa using e2
  obtain⟨rfl,rfl⟩:=e3;obtain⟨vs',k1,k2⟩:=hJ;have hle:vs'.length<=1000:=by have q1:=k1.length;have q2:=rD (ps.take i) ([]:ab (Key×V));rw[qH,qm] at q2;omega
  refine wpAny_dictSet_pairs (uC h3) (zi.mpr ⟨o,ho,k2⟩) (fun h' hd' hsb=>?_) (by rw[g8];omega);obtain⟨o',ho',hd''⟩:=zi.mp hd';refine hQ h' _ o' (E1 _) hsb ho' ⟨_,?_,hd''⟩;have htk:ps.take (i+1)=ps.take i++[p]:=by rw[zf,h1];rfl
  rw[htk,BR];exact k1.put p.1 h4
 .obtain⟨p,b,u,w,h1,h2,h3,h4,h5⟩:=hit i v hv;exact⟨b,u,w,h2,h5⟩
 .obtain⟨vs',k1,k2⟩:=hJ;rw[hsz,mU] at k1;refine⟨.ref s.heap.objs.size,_,I.laid (a:=s.heap.objs.size) (o:=.dK (mrg [] ps)) (fun b u e=>hk b u (qx e) e) (qy _) ⟨?_,?_,vs',k1,zi.mpr ⟨o,ho,k2⟩⟩,rfl,q _ I.fresh⟩
  .have:=rD ps ([]:ab (Key×V));rw[qm] at this;rw[g8];omega
  .exact n8.mpr (em (qG I.big))
noncomputable def LF:ab V->Hp->VK->Prop:=fun xs H Q=>∃(a:au) (vs:ab V) (ps:ab (ab Key×V)),xs=[.ref a]/\H a=aa (.lst vs)/\vs.length=ps.length/\ps.length<=1000/\(∀(i:ag) p,ps[i]?=aa p->∃b kb,vs[i]?=aa (.ref b)/\H b=aa (.tup [.ref kb,p.2])/\H kb=aa (.tup (p.1.map kV))) /\
 ∀q,H q=ac->Q (.ref q) (upd H q (.dT (mrg [] ps)))
theorem Hu {P:ab Key->au->Prop} (hP:∀k b,H b=aa (.tup (k.map kV))->P k b):∀{kvs:ab (ab Key×V)} {xs:ab (ab Key×au×av)},KT H kvs xs->∀x∈xs,P x.1 x.2.1:=by
 intro kvs xs q
 induction q with
 |nil=>intro x hx;cases hx
 | @cons p y ps ys hq t ih=>
  intro x hx;rcases eC.mp hx with rfl|hx
  .exact hP _ _ (by rw[←hq.1];exact hq.2.1)
  .exact ih x hx
theorem J3 (hc:X.calm=ai) (hu:X.A.units+66<dO):gn X (.type "dict") LF:=by
 intro pins s σ H xs us Q I r h;obtain⟨a,vs,ps,rfl,ha,hl,hz,hp,q⟩:=h;obtain⟨u,rfl,ru⟩:=fU r;cases ru;obtain⟨z,its,n,rv,hlen,e⟩:=I.lstM ha;have hsz:its.toArray.size=ps.length:=by rw[qF,←hlen,hl]
 have hit:∀(i:ag) (v:av),its.toArray[i]?=aa v->∃p b kb w,ps[i]?=aa p/\v=.ref b/\H kb=aa (.tup (p.1.map kV))/\bK p.2 w/\s.heap.IsTuple b #[.ref kb,w]:=fun i v hv=>by
  have hi:i<ps.length:=by rw[←hsz];exact(iw.mp hv).1
  obtain⟨b,kb,hb1,hb2,hb3⟩:=hp i ps[i] (by simp[hi]);obtain⟨u2,hu2,ru2⟩:=rv.get hb1;have hv':its[i]?=aa v:=by simpa using hv
  rw[hu2] at hv';cases hv';cases ru2;obtain⟨u,w,r1,r2,r3⟩:=A6 I hb2;cases r1;exact⟨ps[i],b,kb,w,by simp[hi],rfl,hb3,r2,r3⟩
 have isk:∀{h':Heap},(∀b o,b<s.heap.objs.size->s.heap.get? b=aa o->h'.get? b=aa o)->∀k b,H b=aa (.tup (k.map kV))->(mG (dQ X.prog X.w)).is h' k b:=fun hB k b hb=>ST.IsTupleKey.mono (sv I.hok hb) fun o e=>hB _ _ (qx e) e;refine DT.call_dict_gen (I.ok.hd hc) e (fun i o=>∃xs',KT H (mrg [] (ps.take i)) xs'/\∃es ep,o.ExactDict/\o.data=.dict es ep/\es.toList=xs'.map (entryOfKey (mG (dQ X.prog X.w)))/\(xs'.map (·.1)).Nodup) ?_ (fun A' hA' i b kv vv sh o Q' E' hi hv hb ho hJ hB hQ=>?_) (fun i v hv=>?_) fun h' tk o ho hJ hk=>?_
 .exact⟨[],.nil,#[],0,⟨rfl,rfl,rfl⟩,rfl,rfl,List.nodup_nil⟩
 .obtain⟨p,b',kb,w,h1,h2,h3,h4,h5⟩:=hit i _ hv;cases h2;have e2:=tuple_inj hb h5;have e3:kv=.ref kb/\vv=w:=by simpa using e2
  obtain⟨rfl,rfl⟩:=e3;obtain⟨xs',k1,es,ep,k2,k3,k4,k5⟩:=hJ;have hle:xs'.length<=1000:=by have q1:=Paired.length k1;have q2:=rD (ps.take i) ([]:ab (ab Key×V));rw[qH,qm] at q2;omega
  refine wpAny_dictSet_heap (knd:=mG (dQ X.prog X.w)) (show A'.units<dO by omega) (isk hB _ _ h3) ⟨o,es,ep,ho,k2,k3,k4,Hu (isk hB) k1,k5⟩ (fun h' hd' hsb=>?_) (by rw[g8];omega);obtain⟨o',es',ep',ho',w2,w3,w4,_,w5⟩:=hd';refine hQ h' _ o' (iX _ _) hsb ho' ⟨_,?_,es',ep',w2,w3,w4,w5⟩;have htk:ps.take (i+1)=ps.take i++[p]:=by rw[zf,h1];rfl
  rw[htk,BR];exact k1.put p.1 h3 h4
 .obtain⟨p,b,kb,w,h1,h2,h3,h4,h5⟩:=hit i v hv;exact⟨b,_,w,h2,h5⟩
 .obtain⟨xs',k1,es,ep,k2,k3,k4,k5⟩:=hJ;rw[hsz,mU] at k1;refine⟨.ref s.heap.objs.size,_,I.laid (a:=s.heap.objs.size) (o:=.dT (mrg [] ps)) (fun b u e=>hk b u (qx e) e) (qy _) ⟨?_,?_,xs',k1.keeps fun b ys e=>?_,o,es,ep,ho,k2,k3,k4,k5⟩,rfl,q _ I.fresh⟩
  .have:=rD ps ([]:ab (ab Key×V));rw[qm] at this;rw[g8];omega
  .exact n8.mpr (em (qG I.big))
  .rw[aX (ck e I.fresh)];exact e
noncomputable def m5:ab D->aq (ab (Key×D))
 |[]=>aa []
 |.tup [k,v]::r=>(j6 k).bind fun kk=>(m5 r).map ((kk,v)::·)
 |_::_=>ac
noncomputable def mj:ab D->aq (ab (ab Key×D))
 |[]=>aa []
 |.tup [.tup t,v]::r=>(h9 t).bind fun kk=>(mj r).map ((kk,v)::·)
 |_::_=>ac
noncomputable def t6 [fj κ] (ps:ab (κ×D)):ab (κ×D):=ps.foldl (fun acc kv=>gV acc kv.1 kv.2) []
noncomputable def pe:ab D->aq D
 |[.lst l]=>if l.length<=1000 then (m5 l).map fun ps=>.dk (t6 ps) else ac
 |_=>ac
noncomputable def t7:ab D->aq D
 |[.lst l]=>if l.length<=1000 then (mj l).map fun ps=>.dt (t6 ps) else ac
 |_=>ac
theorem wQ {κ:Type} [fj κ] {K:aR} {G:Hp}:∀{us:ab (κ×V)} {kvs:ab (κ×D)} {acc:ab (κ×V)} {acd:ab (κ×D)},us.map (·.1)=kvs.map (·.1)->Reps Γ K G (us.map (·.2)) (kvs.map (·.2))->acc.map (·.1)=acd.map (·.1)->Reps Γ K G (acc.map (·.2)) (acd.map (·.2))->
  (mrg acc us).map (·.1)=(kvs.foldl (fun acc kv=>gV acc kv.1 kv.2) acd).map (·.1)/\Reps Γ K G ((mrg acc us).map (·.2)) ((kvs.foldl (fun acc kv=>gV acc kv.1 kv.2) acd).map (·.2))
 |[],[],_,_,_,_,e,r=>⟨e,r⟩
 |[],_::_,_,_,e,_,_,_=>by cases e
 |_::_,[],_,_,e,_,_,_=>by cases e
 |(k1,v)::us,(k2,d)::kvs,acc,acd,e,r,e0,r0=>by
  have e1:k1=k2:=(ir e).1;subst e1;have r:Reps Γ K G (v::us.map (·.2)) (d::kvs.map (·.2)):=r;cases r with
  |cons r1 r2=>
   obtain⟨w1,w2⟩:=Eg (k:=k1) r1 e0 r0;exact wQ (us:=us) (kvs:=kvs) (ir e).2 r2 w1 w2
theorem By {K:aR} {G H:Hp} (gh:bp G H):∀{vs:ab V} {ds:ab D} {ps:ab (Key×D)},Reps Γ K G vs ds->m5 ds=aa ps->
  ∃us:ab (Key×V),vs.length=us.length/\us.map (·.1)=ps.map (·.1)/\Reps Γ K G (us.map (·.2)) (ps.map (·.2))/\∀(i:ag) p,us[i]?=aa p->∃b,vs[i]?=aa (.ref b)/\H b=aa (.tup [kV p.1,p.2])
 |_,[],ps,r,h=>by cases r;cases h;exact⟨[],rfl,rfl,.nil,fun i p e=>by simp at e⟩
 |_,d::ds,ps,.cons h1 h2,h=>by
  unfold m5 at h;split at h
  .rename_i heq;cases heq
  .rename_i heq;cases heq;obtain⟨kk,hk,h⟩:=oBd h;obtain⟨zs,hz,rfl⟩:=oMd h;obtain⟨us,q1,q2,q3,q4⟩:=By gh h2 hz;obtain⟨a,ws,rfl,ha,ra⟩:=h1.tup_inv;obtain⟨x,y,rfl,rx,ry⟩:=ra.two;have ex:=w9 rx hk;subst ex;refine⟨(kk,y)::us,by rw[qh,qh,q1],by simp[q2],.cons ry q3,fun i p e=>?_⟩;cases i with
   |zero=>cases e;exact⟨a,rfl,gh _ _ ha⟩
   |succ i=>exact q4 i p e
  .cases h
theorem BK {K:aR} {G H:Hp} (gh:bp G H):∀{vs:ab V} {ds:ab D} {ps:ab (ab Key×D)},Reps Γ K G vs ds->mj ds=aa ps->
  ∃us:ab (ab Key×V),vs.length=us.length/\us.map (·.1)=ps.map (·.1)/\Reps Γ K G (us.map (·.2)) (ps.map (·.2))/\∀(i:ag) p,us[i]?=aa p->∃b kb,vs[i]?=aa (.ref b)/\H b=aa (.tup [.ref kb,p.2])/\H kb=aa (.tup (p.1.map kV))
 |_,[],ps,r,h=>by cases r;cases h;exact⟨[],rfl,rfl,.nil,fun i p e=>by simp at e⟩
 |_,d::ds,ps,.cons h1 h2,h=>by
  unfold mj at h;split at h
  .rename_i heq;cases heq
  .rename_i heq;cases heq;obtain⟨kk,hk,h⟩:=oBd h;obtain⟨zs,hz,rfl⟩:=oMd h;obtain⟨us,q1,q2,q3,q4⟩:=BK gh h2 hz;obtain⟨a,ws,rfl,ha,ra⟩:=h1.tup_inv;obtain⟨x,y,rfl,rx,ry⟩:=ra.two;obtain⟨kb,ks,rfl,hkb,rk⟩:=rx.tup_inv;have ex:=pX rk hk;subst ex;refine⟨(kk,y)::us,by rw[qh,qh,q1],by simp[q2],.cons ry q3,fun i p e=>?_⟩;cases i with
   |zero=>cases e;exact⟨a,kb,rfl,gh _ _ ha,gh _ _ hkb⟩
   |succ i=>exact q4 i p e
  .cases h
theorem zJ (hc:X.calm=ai) (hu:X.A.units+66<dO):TyD Γ X "dict" pe:=⟨_,OH hc hu,fun {G H vs ds z} gh r h Q k=>by
 unfold pe at h;split at h
 .split at h
  .rename_i hz;obtain⟨ps,hp,rfl⟩:=oMd h;obtain⟨v,rfl,r1⟩:=r.one;obtain⟨a,ws,rfl,ha,ra⟩:=r1.lst_inv;obtain⟨us,q1,q2,q3,q4⟩:=By gh ra hp;refine⟨a,ws,us,rfl,gh _ _ ha,q1,by rw[←q1,ra.length];exact hz,q4,fun p hp=>?_⟩;have s:=Step.new (o:=.dK (mrg [] us)) gh hp;obtain⟨w1,w2⟩:=wQ (acc:=[]) (acd:=[]) q2 q3 rfl .nil;exact k _ _ _ s (.dk b7 w1 (w2.mono s.gg))
  .cases h
 .cases h⟩
theorem Ii (hc:X.calm=ai) (hu:X.A.units+66<dO):TyD Γ X "dict" t7:=⟨_,J3 hc hu,fun {G H vs ds z} gh r h Q k=>by
 unfold t7 at h;split at h
 .split at h
  .rename_i hz;obtain⟨ps,hp,rfl⟩:=oMd h;obtain⟨v,rfl,r1⟩:=r.one;obtain⟨a,ws,rfl,ha,ra⟩:=r1.lst_inv;obtain⟨us,q1,q2,q3,q4⟩:=BK gh ra hp;refine⟨a,ws,us,rfl,gh _ _ ha,q1,by rw[←q1,ra.length];exact hz,q4,fun p hp=>?_⟩;have s:=Step.new (o:=.dT (mrg [] us)) gh hp;obtain⟨w1,w2⟩:=wQ (acc:=[]) (acd:=[]) q2 q3 rfl .nil;exact k _ _ _ s (.dt b7 w1 (w2.mono s.gg))
  .cases h
 .cases h⟩
noncomputable def nZ (fr:FA):FS:=fun ρ=>(fr ρ).map fun ds=>(.ow ds,ρ)
theorem Ds (h:DO Γ X e fr):DS Γ X (.Return (aa e) pos) (nZ fr):=⟨(wY h.1).imp fun E σ H=>by rintro⟨G₀,H₀,G,ρ,fl,ρ',A,h,k⟩;unfold nZ at h;obtain⟨ds,hd,h⟩:=oMd h;cases h;refine⟨G₀,H₀,G,ρ,ds,A,hd,fun p vs G' H' s hp r=>?_⟩;have hp0:H₀ p=ac:=A.st.hh.free (s.hh.free hp);have hg:G' p=ac:=s.gh.free hp;have s2:=s.trans (Step.newOwn (o:=.lst vs) s.gh hp);exact k σ G' _ s.gg (A.step s2) p vs hp0 hg b7 r⟩
noncomputable def spO (Γ:Cn) (K:aR) (n:ag) (F:ab D->aq (ab D)):Sp:=fun vs H Q _=>∃G ds rs,bp G H/\Reps Γ K G vs ds/\ds.length=n/\F ds=aa rs/\∀p us G' H',Step G H G' H'->H' p=ac->Reps Γ K G' us rs->Q (.ref p) (upd H' p (.lst us))
noncomputable def nR (n:ag) (g:FS):ab D->aq (ab D):=fun ds=>(g (ds.map (fun d=>aa (Slot.sh d))++bY n ac)).bind fun r=>match r.1 with
 |.ow ds=>aa ds
 |_=>ac
theorem Fun.okO {st:Stmt} {f:au} {k:ag} (F:Fun K x qual st f fd) (S:FnScope N ps (aF st))
  (hbody:∀(cdv:av) (A:dj) (outer:ab cM) (s:aB) (H:Hp) (E:XK),Room k (A.deeper (dP qual (aF st) s.heap.objs.size f cdv))->
   DSs Γ (eN CX0 P w K mg base N qual (aF st) f cdv A outer s H E).nox (cO st) g):FnOk P w K mg base CX0 (k+1) f fd ps (spO Γ K ps.length (nR (N.length-ps.length) g)):=by
 refine F.ok S (fun vs H Q E h=>?_) (fun cdv A outer s H vs Q E hr h=>?_)
 .obtain⟨G,ds,d,_,r,hl,_⟩:=h;rw[r.length,hl]
 .obtain⟨G,ds,rs,gh,r,hl,hd,k⟩:=h;refine⟨_,(hbody cdv A outer s H E hr).1,?_⟩;unfold nR at hd;obtain⟨⟨fl,ρ'⟩,hg,hd⟩:=oBd hd;refine⟨G,H,G,_,fl,ρ',wT gh r (by rw[r.length,hl]),hg,fun σ' G' H' sm A'=>?_⟩;cases fl with
  |rt d'=>cases hd
  |nx=>cases hd
  |bk=>cases hd
  |ct=>cases hd
  |nw d'=>cases hd
  |od d'=>cases hd
  |ow d'=>
   cases hd;intro p us hp0 hg hp rr;have st:Step G H G' (fun b=>if b=p then ac else H' b):=by
    refine⟨fun b o e=>?_,A'.st.gg,fun b o e=>?_,A'.st.out⟩
    .show(if b=p then ac else H' b)=aa o;rw[qZ (ck e hp0)];exact A'.st.hh b o e
    .show(if b=p then ac else H' b)=aa o;rw[qZ (ck e hg)];exact A'.st.gh b o e
   have:=k p us G' _ st (qY rfl) rr;have hf:upd (fun b=>if b=p then ac else H' b) p (.lst us)=H':=by
    funext b
    by_cases hb:b=p
    .subst hb;rw[b7,hp]
    .rw[aX hb];exact qZ hb
   rwa [hf] at this
structure CalO (Γ:Cn) (P:dD) (w:cS) (K:aR) (mg:ah->aq av) (base:Heap) (x:ah) (n k:ag) (F:ab D->aq (ab D)):Prop where
 ex:∃f fd ps,FnOk P w K mg base CX0 k f fd ps (spO Γ K n F)/\mg x=aa (.ref f)/\fY K (.ref f)=ai/\e8 K fd ps []
noncomputable def cFO (F:ab D->aq (ab D)) (fr:FA):FA:=fun ρ=>(fr ρ).bind F
theorem Oe {k:ag} {F:ab D->aq (ab D)} (C:CalO Γ X.prog X.w X.K X.mg X.base x n k F) (hr:Room j X.A) (hk:k<=j) (hg:Gl X x) (ha:DA Γ X (e::es) fr) (hn:∀ρ ds,fr ρ=aa ds->ds.length=n)
  (hdb:(x==("__debug__":ah))=ao:=by decide) (he:aH (e::es) X.env=(ao,eval e X.env)::aH es X.env:=by rfl) (hpl:(ca pos (aH es X.env)).any (·.1)=ao:=by rfl) :
  DO Γ X (.Call (.Name x p) (e::es) [] pos) (cFO F fr):=⟨by
 obtain⟨f,fd,ps,h1,h2,h3,h4⟩:=C.ex;refine(mD h1 (hr.mono hk) hg h2 h3 h4 .nil gJ ha.1 hdb he hpl).imp fun σ H Q=>?_;rintro⟨G₀,H₀,G,ρ,d,A,h,k⟩;unfold cFO at h;obtain⟨ds,hd,h⟩:=oBd h;refine⟨G₀,H₀,G,ρ,ds,A,hd,fun vs G1 H1 s1 r1=>?_⟩;show spO Γ X.K n F (vs++[]) H1 Q E0;rw[eX];exact⟨G1,ds,d,s1.gh,r1,hn ρ ds hd,h,fun p us G' H' s hp r=>k p us G' H' (s1.trans s) hp r⟩⟩
theorem Dfn.calO {st:Stmt} {k:ag} (F:Dfn K mg x st) (S:FnScope N ps (aF st))
  (hb:∀(kV doc pm:av) (an:aq au) (cdv ct:av) (us:ab av),us.length=ps.length->fZ (eO x x (eT st) (cO st) (aF st) .none kV doc pm an cdv ct) ⟨us,[]⟩=pure (ps.zip us))
  (hbody:∀(f:au) (cdv:av) (A:dj) (outer:ab cM) (s:aB) (H:Hp) (E:XK),Room k (A.deeper (dP x (aF st) s.heap.objs.size f cdv))->
   DSs Γ (eN CX0 P w K mg base N x (aF st) f cdv A outer s H E).nox (cO st) g):CalO Γ P w K mg base x ps.length (k+1) (nR (N.length-ps.length) g):=by
 obtain⟨f,fd,h1,h2⟩:=F.ex;exact⟨f,fd,ps,h1.okO S (hbody f),h2,h1.kp,h1.binds hb⟩
theorem Dfn.none {st:Stmt} {k:ag} (F:Dfn K mg x st)
  (hb:∀(kV doc pm:av) (an:aq au) (cdv ct:av) (us:ab av),us.length=ps.length->fZ (eO x x (eT st) (cO st) (aF st) .none kV doc pm an cdv ct) ⟨us,[]⟩=pure (ps.zip us))
 : Cal Γ P w K mg base x ps.length k (fun _=>ac):=by
 obtain⟨f,fd,h1,h2⟩:=F.ex;refine⟨f,fd,ps,⟨fun vs H Q E h=>?_,fun A outer s H args us vs Q E hr I b v h=>?_⟩,h2,h1.kp,h1.binds hb⟩
 .obtain⟨_,_,_,_,_,_,z,_⟩:=h;cases z
 .obtain⟨_,_,_,_,_,_,z,_⟩:=h;cases z
noncomputable def orG (g g':D->D->aq D) (x y:D):aq D:=match g x y with
 |some z=>aa z
 |none=>g' x y
variable {z:D}
section
variable {g:D->D->aq D}
theorem Gq {x y:D} (h:orG g g' x y=aa z):g x y=aa z\/g' x y=aa z:=by
 unfold orG at h;split at h
 .rename_i q;cases h;exact .inl q
 .exact .inr h
theorem CmpD.or (h:CmpD Γ X op g) (h':CmpD Γ X op g'):CmpD Γ X op (orG g g'):=by
 obtain⟨r,o,d⟩:=h.ex;obtain⟨r',o',d'⟩:=h'.ex;refine⟨_,o.or o',fun {G H v u x y z} gh r1 r2 q Q k=>?_⟩;rcases Gq q with q|q
 .exact .inl (d gh r1 r2 q Q k)
 .exact .inr (d' gh r1 r2 q Q k)
noncomputable def eqA:=orG eqD v7
noncomputable def neA:=orG neD pV
theorem wZ (hu:X.A.units+64<dO):CmpD Γ X .Eq eqA:=ci.or (HI hu)
theorem nL (hu:X.A.units+64<dO):CmpD Γ X .NotEq neA:=oK.or (IK hu)
theorem DfnM.mk' {f:au} {c m:ah} {st:Stmt} {kV:av} (a:dE K (.ref C) m=aa (aa (.ref f))) (i:u4 K (.ref f)=ai)
  (l:K.lookup f=aa ⟨oc,od,.func (eO m qual (eT st) (cO st) (aF st) .none kV doc pm an cdv ct),osl⟩) (cd:rO K cdv qual=ai) (k:fY K (.ref f)=ai):DfnM K C c m qual st:=⟨f,_,x9 l cd k,a,i⟩
end
section
variable {f1 f2 f3 f4 f5 f6 f7:FE}
theorem ln1:∀ρ ds,ae f1 af ρ=aa ds->ds.length=1:=lV fun _ _ h=>J0 h
theorem ln2:∀ρ ds,ae f1 (ae f2 af) ρ=aa ds->ds.length=2:=lV ln1
theorem ln3:∀ρ ds,ae f1 (ae f2 (ae f3 af)) ρ=aa ds->ds.length=3:=lV ln2
theorem ln4:∀ρ ds,ae f1 (ae f2 (ae f3 (ae f4 af))) ρ=aa ds->ds.length=4:=lV ln3
theorem ln5:∀ρ ds,ae f1 (ae f2 (ae f3 (ae f4 (ae f5 af)))) ρ=aa ds->ds.length=5:=lV ln4
theorem ln6:∀ρ ds,ae f1 (ae f2 (ae f3 (ae f4 (ae f5 (ae f6 af))))) ρ=aa ds->ds.length=6:=lV ln5
theorem ln7:∀ρ ds,ae f1 (ae f2 (ae f3 (ae f4 (ae f5 (ae f6 (ae f7 af)))))) ρ=aa ds->ds.length=7:=lV ln6
end
section
variable {c m:ah}
theorem Reps.flats {K:aR} {G G':Hp}:∀{vs:ab V} {ds:ab D},Reps Γ K G vs ds->ds.all pT=ai->Reps Γ K G' vs ds
 |_,_,.nil,_=>.nil
 |_,_,.cons r t,h=>by rw[List.all_cons,hG] at h;exact .cons (r.flat h.1) (t.flats h.2)
end
section
open PyProof
end
section
variable {i:Expr}
theorem Bs {t:Tok} (hg:Gl X x) (hm:X.mg x=aa (.str y t)) (hd:(x==("__debug__":ah))=ao:=by decide):DE Γ X (.Name x pos) (vC (.str y)):=TD.const (fun _=>.str y) (CD hg hm ⟨t,rfl⟩ hd)
noncomputable def Rf:ab D->aq D
 |[.int i]=>if i.natAbs.log2<1920 then aa (.str (rH i)) else ac
 |_=>ac
noncomputable def inS (x y:ah):aU:=!(kB y x 0 y.length 1).isEmpty
noncomputable def tG:D->D->aq D
 |.str x,.str y=>aa (.bl (inS x y))
 |_,_=>ac
theorem Nq:CmpD Γ X .In tG:=⟨_,Jl,fun {G H v u x y z} gh r1 r2 h Q k=>by unfold tG at h;split at h<;>cases h;cases r1.str_inv;cases r2.str_inv;exact⟨_,_,rfl,rfl,k _ G H (.refl gh) (.bl _)⟩⟩
noncomputable def mo:D->ab D->aq D
 |.str x,[.str y]=>match kB x y 0 x.length 1 with
  |i::_=>aa (.int (i:ag))
  |[]=>ac
 |_,_=>ac
theorem Lv:MtD Γ X "str" "str.index" mo:=by
 refine⟨⟨fun v vs H Q=>∃x y i bD,v=.str x/\vs=[.str y]/\kB x y 0 x.length 1=i::bD/\Q (.int (i:ag)) H,?_,?_⟩,?_⟩
 .intro pins s σ H x xs v us Q I rx rs h;obtain⟨z,y,i,bD,rfl,rfl,ho,q⟩:=h;obtain⟨t,rfl⟩:=rx;obtain⟨u,rfl,ru⟩:=fU rs;obtain⟨t2,rfl⟩:=ru;exact call_gives QB (mM _ _ _) PySem.F.entry_str_index (PySem.F.args_str_index_2 _ _) (gives_str_index z y t t2 i bD ho) ⟨.int _,H,I.tok _,⟨_,rfl⟩,q⟩
 .intro G H v x vs ds z gh r1 r2 h Q k;unfold mo at h;split at h
  .split at h
   .rename_i heq;cases h;cases r1.str_inv;obtain⟨v,rfl,r3⟩:=r2.one;cases r3.str_inv;exact⟨_,_,_,_,rfl,rfl,heq,k _ G H (.refl gh) (.int _)⟩
   .cases h
  .cases h
 .intro G H v x ds z gh r h;unfold mo at h;split at h
  .cases r.str_inv;exact rfl
  .cases h
noncomputable def nG:D->ab D->aq D
 |.str x,[.str y]=>if y.length≠0/\x.length<=1000000 then aa (.lst ((kG x y).map D.str)) else ac
 |_,_=>ac
theorem Reps.strs {K:aR} {G:Hp}:∀(ns:ab ah),Reps Γ K G (ns.map V.str) (ns.map D.str)
 |[]=>.nil
 |n::r=>.cons (.str n) (Reps.strs r)
theorem Br:∀(l:ab (ah×Tok)),bj ((l.map (·.1)).map V.str) (strValues l)
 |[]=>.nil
 |(x,t)::r=>.cons ⟨t,rfl⟩ (Br r)
theorem GE:MtD Γ X "str" "str.split" nG:=by
 refine⟨⟨fun v vs H Q=>∃x y,v=.str x/\vs=[.str y]/\y.length≠0/\x.length<=1000000/\∀p,H p=ac->Q (.ref p) (upd H p (.lst ((kG x y).map V.str))),?_,?_⟩,?_⟩
 .intro pins s σ H x xs v us Q I rx rs h;obtain⟨z,y,rfl,rfl,hy,hz,q⟩:=h;obtain⟨t,rfl⟩:=rx;obtain⟨u,rfl,ru⟩:=fU rs;obtain⟨t2,rfl⟩:=ru;have hy':(y.length==0)=ao:=by simpa using hy
  have hlen:(kG z y).length<=z.length+2:=split_le z y;have hsl:=g8;have fin:∀(l:ab (ah×Tok)) (k:ag),l.map (·.1)=kG z y->EP X pins σ Q (.ref s.heap.objs.size) {s with heap:=s.heap.push {cls:=.type "list",data:=.seq (strValues l).toArray},toks:=k}:=fun l k e=>by refine⟨.ref _,_,I.lnew (ys:=(kG z y).map V.str) (t':=k) (by rw[←e];exact Br l) (by rw[qe];omega),rfl,q _ I.fresh⟩
  cases h1:(decide (z.length<y.length) || decide (vB z<vB y))
  .cases hf:(kB z y 0 z.length (z.length+1)).isEmpty
   .have es:kG z y=QC z (kB z y 0 z.length (z.length+1)) y.length:=(qZ (FY h1)).trans (qZ (FY hf));refine oq zj (mM _ _ _) FZ (F0 _ _) (meets_str_split_sep z y t t2 h1 hy' hf (by omega) (by rw[←es];omega)) ?_;show EP X pins σ Q _ {s with toks:=_,heap:=s.heap.push {cls:=.type "list",data:=.seq (strsFrom s.toks (QC z (kB z y 0 z.length (z.length+1)) y.length)).toArray} };rw[strsFrom_eq];exact fin _ _ ((numbered_texts _ _).trans es.symm)
   .refine oq zj (mM _ _ _) FZ (F0 _ _) (meets_str_split_not_found z y t t2 h1 hy' hf) ?_;exact fin [(z,t)] s.toks ((qZ (FY h1)).trans (qY hf)).symm
  .refine oq zj (mM _ _ _) FZ (F0 _ _) (meets_str_split_cannot_occur z y t t2 h1) ?_;exact fin [(z,t)] s.toks (qY h1).symm
 .intro G H v x vs ds z gh r1 r2 h Q k;unfold nG at h;split at h
  .split at h
   .rename_i hz;cases h;cases r1.str_inv;obtain⟨v,rfl,r3⟩:=r2.one;cases r3.str_inv;exact⟨_,_,rfl,rfl,hz.1,hz.2,ic gh (Reps.strs _) k⟩
   .cases h
  .cases h
 .intro G H v x ds z gh r h;unfold nG at h;split at h
  .cases r.str_inv;exact rfl
  .cases h
end
section
variable {i:Expr}
end
variable {p3 p4:fm}
section
variable {i:Expr}
end
section
variable {i:Expr}
noncomputable def oY:D->aq D
 |.int i=>aa (.int (-i))
 |_=>ac
noncomputable def sK:D->aq D
 |.lst l=>aa (.lst l.reverse)
 |_=>ac
theorem Reps.reverse {K:aR} {G:Hp}:∀{vs:ab V} {ds:ab D},Reps Γ K G vs ds->Reps Γ K G vs.reverse ds.reverse
 |_,_,.nil=>.nil
 |_,_,.cons h r=>by rw[yI,yI];exact r.reverse.append (.cons h .nil)
theorem OC {j} (he:DE Γ X e f):DE Γ X (.Subscript e (.Slice ac ac (aa (.UnaryOp .USub (.Constant (.int 1) j p3) p4)) p2) pos) (b1 sK f):=⟨fun pins s σ H Q I=>by
 rintro⟨G₀,H₀,G,ρ,d,A,h,k⟩;unfold b1 at h;obtain⟨x,hx,h⟩:=oBd h;unfold sK at h;split at h
 .rename_i l;cases h;refine E8 (thn (he.1 pins s σ H (fun v H'=>∃G',Step G H G' H'/\Rep Γ X.K G' v (.lst l)) I ⟨G₀,H₀,G,ρ,_,A,hx,fun v G' H' st r=>⟨G',st,r⟩⟩) fun v s1 ⟨v',H1,I1,r1,G1,st,rp⟩=>?_);obtain⟨a,vs,rfl,ha,rv⟩:=rp.lst_inv;cases r1;refine wpAny_Slice (qE (qE ?_));refine thn ((HS Og gf) pins s1 σ H1 (fun v H'=>v=.int (-1)/\H'=H1) I1 ⟨_,rfl,rfl,rfl⟩) fun vk s3 ⟨vv,H3,I3,r3,e1,e2⟩=>?_;subst e1 e2;obtain⟨t,rfl⟩:=r3;have I4:Inv X pins σ H3 {s3 with heap:=s3.heap.push {cls:=.type "slice",data:=.fields #[.none,.none,.int (-1) t]} }:=I3.kept (t':=s3.toks) fun b ob q=>qw _ q;obtain⟨its,rr,hti,hz⟩:=I4.list (.inl (.inl (st.gh _ _ ha)));show aE (aO X.prog X.w) X.A (E9 e (.Slice ac ac (aa (.UnaryOp .USub (.Constant (.int 1) j p3) p4)) p2) (.ref a) (.ref s3.heap.objs.size)) (EP X pins σ Q) X.xe {s3 with heap:=s3.heap.push {cls:=.type "slice",data:=.fields #[.none,.none,.int (-1) t]} };refine Fa (ops:=[.ref a,.ref s3.heap.objs.size]) hti.isList.typeIs Fc.lookup ?_ (by with_unfolding_all rfl);refine PJ hti.isList (Pw ..) .none .none (.int _ _) (by decide) ?_ (by rw[qF];have:=rr.length;omega);rw[PySem.W.krv_pick];have hn:=I4.fresh;exact⟨.ref _,_,I4.lnew (ys:=vs.reverse) (its:=its.reverse) (t':=s3.toks) (bj.reverse rr) (by rw[List.length_reverse];exact hz),rfl,ic st.gh rv.reverse (fun w G2 H2 s2 r2=>k w G2 H2 (st.trans s2) r2) _ hn⟩
 .cases h⟩
end
namespace Law
abbrev oS (d:D):aq Slot:=aa (.sh d)
end Law
abbrev FQ:=ab D->aq D
variable {F:FQ}
namespace Law
theorem dC {k:ag} (C:Cal Γ X.prog X.w X.K X.mg X.base x n k F) (hr:Room j X.A) (ha:DA Γ X (e::es) fr) (hn:∀ρ ds,fr ρ=aa ds->ds.length=n) (hk:k<=j:=by decide) (hg:Gl X x:=by exact rfl) (hdb:(x==("__debug__":ah))=ao:=by decide) (he:aH (e::es) X.env=(ao,eval e X.env)::aH es X.env:=by rfl) (hpl:(ca pos (aH es X.env)).any (·.1)=ao:=by rfl):DE Γ X (.Call (.Name x p) (e::es) [] pos) (cF F fr):=fG C hr hk hg ha hn hdb he hpl
theorem bz {P:ab ah} (a:sc.kind=.function:=by rfl) (b:sc.isCoroutine=ao:=by rfl) (c:sc.isGenerator=ao:=by rfl) (d:N.Nodup:=by decide +kernel) (e:N.take P.length=P:=by rfl) (f:∀x∈P,sc.names.lookup x=aa .local∨sc.names.lookup x=aa .cell:=by decide +kernel) (g:∀y∈sc.names,y.2≠.free:=by decide +kernel):FnScope N P sc:=⟨a,b,c,d,e,f,g⟩
end Law
variable {s₀:aB}
section
variable {f:au} {E:XK}
 {pins:ab (au×bf)} {σ:St} {H:Hp} {s:aB} {h1:Heap} {e:au} {cls:av} {vs:ab av}
end
section
variable {f:au} {E:XK}
 {R:Hp->Prop} {n:String} {x:ah} {np cpos pos:fm} {e₀:Expr} {bD:ab Expr} {fr:FA} {Bn newId initId:String} {bmB:ab av}
end
section
open PySem.W Builtin Builtin.ObjectAttr Builtin.Getset_descriptor
end
section
variable {i:Expr}
end
theorem C1 (h:DE Γ X a fa):DE Γ X (.UnaryOp .USub a pos) (b1 oY fa):=⟨fun pins s σ H Q I=>by
 rintro⟨G₀,H₀,G,ρ,d,A,hq,k⟩;unfold b1 at hq;obtain⟨x,hx,hq⟩:=oBd hq;refine EL (thn (h.1 pins s σ H (fun v H'=>∃G',Step G H G' H'/\Rep Γ X.K G' v x) I ⟨G₀,H₀,G,ρ,x,A,hx,fun v G' H' st r=>⟨G',st,r⟩⟩) fun v s1 ⟨v',H1,I1,r1,G1,st,rp⟩=>?_);unfold oY at hq;split at hq
 .cases hq;cases rp.int_inv;obtain⟨t,rfl⟩:=r1;exact R8 ⟨.int _,H1,I1.tok _,⟨_,rfl⟩,k _ G1 H1 st (.int _)⟩
 .cases hq⟩
noncomputable def del (G:Hp) (a:au):Hp:=fun b=>if b=a then ac else G b
section
variable {f:au} {E:XK}
 {pins:ab (au×bf)} {σ:St} {H:Hp} {s:aB} {e C t dx:au}
end
section
variable {f CS fI:au} {E:XK}
 {R:ah->Hp->Prop} {x fl:ah} {np cpos pos:fm} {e₀:Expr} {fr:FA} {k j:ag}
end
section
open PyProof
end
section
open PyProof
end
noncomputable def bt (p:au) (H:Hp):Hp:=fun a=>if a=p then ac else H a
theorem jR {p:au} :bt p H p=ac:=qY rfl
theorem dc {p a:au} (h:a≠p):bt p H a=H a:=qZ h
theorem fW {p a:au} {o:HO} (h:bt p H a=aa o):a≠p/\H a=aa o:=by
 unfold bt at h;split at h
 .cases h
 .exact⟨by assumption,h⟩
variable {H₁:Hp}
theorem SR.h0 {s:Slot} (r:SR Γ K H₀ G H s v fp) (h:∀b∈fp,H₁ b=ac):SR Γ K H₁ G H s v fp:=by
 cases r with
 |sh r=>exact .sh r
 |own h1 h2 h3 h4=>exact .own (h _ qf) h2 h3 h4
 |obj c h1 h2 h3 h4 h5 hs=>exact .obj c (h _ qf) h2 h3 h4 h5 hs
 |objd c h1 h2 h3 h4 h5 q1 q2 q3 q4 q5 hs=>exact .objd c (h _ qf) h2 h3 h4 h5 (h _ (qg _ qf)) q2 q3 q4 q5 hs
 |odk h1 h2 h3 h4 h5=>exact .odk (h _ qf) h2 h3 h4 h5
 |odt h1 h2 h3 h4 h5=>exact .odt (h _ qf) h2 h3 h4 h5
 |pin a=>exact .pin a
 |oll h1 h2 h3 h4 h5=>exact .oll (fun b hb=>⟨h b hb,(h1 b hb).2⟩) h2 h3 h4 h5
 |tlo h1 h2 h3 h4 h5 h6=>exact .tlo (h _ qf) h2 h3 h4 h5 h6
structure Rg (R:Type) where
 rc:Hp->R->HO->Prop
 mono:∀{G G':Hp} {r:R} {o:HO},bp G G'->rc G r o->rc G' r o
variable {R:Type} {rg:Rg R}
structure RAt {R:Type} (rg:Rg R) (Γ:Cn) (K:aR) (G₀ H₀ G H:Hp) (ρ:bd) (σ:St) (i:ag) (p:au) (r:R):Prop where
 at':At Γ K G₀ H₀ G (bt p H) ρ σ
 sl:ρ[i]?=aa (aa (.pin p))
 here:∃o,H p=aa o/\rg.rc G r o
structure RStep {R:Type} (rg:Rg R) (p:au) (r:R) (G H G' H':Hp):Prop where
 st:Step G (bt p H) G' (bt p H')
 here:∃o,H' p=aa o/\rg.rc G' r o
variable {ρ':bd}
section
variable {p:au} {r r1 r2:R}
theorem RAt.gp (A:RAt rg Γ K G₀ H₀ G H ρ σ i p r):G p=ac:=A.at'.gh.free jR
theorem RAt.gh (A:RAt rg Γ K G₀ H₀ G H ρ σ i p r):bp G H:=fun b o e=>(fW (A.at'.gh b o e)).2
theorem RAt.h0p (A:RAt rg Γ K G₀ H₀ G H ρ σ i p r):H₀ p=ac:=A.at'.st.hh.free jR
theorem RAt.var (A:RAt rg Γ K G₀ H₀ G H ρ σ i p r):σ[i]?=aa (aa (.ref p)):=by obtain⟨v,fp,h1,h2⟩:=A.at'.get A.sl;cases h2;exact h1
theorem RAt.shut (A:RAt rg Γ K G₀ H₀ G H ρ σ i p r) {w:HO} (he:H p=aa w):At Γ K G₀ (upd H₀ p w) G H ρ σ:=by
 have st:=A.at'.st;refine⟨⟨fun b o e=>?_,st.gg,A.gh,fun b o e=>?_⟩,?_⟩
 .by_cases hb:b=p
  .subst hb;rw[b7] at e;rw[←e];exact he
  .rw[aX hb] at e;exact(fW (st.hh b o e)).2
 .by_cases hb:b=p
  .subst hb;rw[A.gp,st.gg.free A.gp]
  .rw[aX hb] at e;exact st.out b o e
 .obtain⟨fps,h,ap⟩:=A.at'.env.sl;refine⟨A.at'.env.len,fps,fun j s e=>?_,ap⟩;obtain⟨v,h1,h2⟩:=h j s e;have hf:=h2.fpt;have ne:∀b∈fps j,b≠p:=fun b hb=>by obtain⟨_,_,o,e⟩:=hf b hb;exact(fW e).1
  have h3:=h2.stay (H':=H) (.refl G) (fun b hb=>(hf b hb).2.1) (fun b hb=>(dc (ne b hb)).symm);exact⟨v,h1,h3.h0 fun b hb=>by rw[aX (ne b hb)];exact(hf b hb).1⟩
theorem RAt.open' (A:RAt rg Γ K G₀ H₀ G H ρ σ i p r) {w:HO} (hw:rg.rc G r w) (sm:bp G G') (B:At Γ K G₀ (upd H₀ p w) G' H' ρ' σ') (hs:ρ'[i]?=ρ[i]?):RAt rg Γ K G₀ H₀ G' H' ρ' σ' i p r:=by
 have st:=B.st;have hp:H' p=aa w:=st.hh _ _ b7;have gp:G' p=ac:=(st.out _ _ b7).trans (A.at'.st.gg.free A.gp);have ne0:∀b o,H₀ b=aa o->b≠p:=fun b o e z=>by subst z;rw[A.h0p] at e;cases e
 have neg:∀b o,G' b=aa o->b≠p:=fun b o e z=>by subst z;rw[gp] at e;cases e
 refine⟨⟨⟨fun b o e=>?_,st.gg,fun b o e=>?_,fun b o e=>st.out b o (by rw[aX (ne0 b o e)];exact e)⟩,?_⟩,hs.trans A.sl,w,hp,rg.mono sm hw⟩
 .rw[dc (ne0 b o e)];exact st.hh b o (by rw[aX (ne0 b o e)];exact e)
 .rw[dc (neg b o e)];exact st.gh b o e
 .obtain⟨fps,h,ap⟩:=B.env.sl;refine⟨B.env.len,fps,fun j s e=>?_,ap⟩;obtain⟨v,h1,h2⟩:=h j s e;have hf:=h2.fpt;have ne:∀b∈fps j,b≠p:=fun b hb z=>by have:=(hf b hb).1;rw[z,b7] at this;cases this
  have h3:=h2.stay (H':=bt p H') (.refl G') (fun b hb=>(hf b hb).2.1) (fun b hb=>dc (ne b hb));exact⟨v,h1,h3.h0 fun b hb=>by have:=(hf b hb).1;rwa [aX (ne b hb)] at this⟩
theorem RAt.full (A:RAt rg Γ K G₀ H₀ G H ρ σ i p r):At Γ K G₀ H₀ G H ρ σ:=by
 obtain⟨w,he,_⟩:=A.here;have B:=A.shut he;have ne0:∀b o,H₀ b=aa o->b≠p:=fun b o e z=>by subst z;rw[A.h0p] at e;cases e
 refine⟨⟨fun b o e=>B.st.hh b o (by rw[aX (ne0 b o e)];exact e),B.st.gg,B.st.gh,A.at'.st.out⟩,?_⟩;obtain⟨fps,h,ap⟩:=B.env.sl;refine⟨B.env.len,fps,fun j s e=>?_,ap⟩;obtain⟨v,h1,h2⟩:=h j s e;exact⟨v,h1,h2.h0 fun b hb=>by
  have:=(h2.fpt b hb).1;by_cases z:b=p
  .rw[z];exact A.h0p
  .rwa [aX z] at this⟩
theorem RAt.pure (A:RAt rg Γ K G₀ H₀ G H ρ σ i p r) (s:Step G H G' H'):RStep rg p r G H G' H':=by
 obtain⟨w,he,hw⟩:=A.here;have gp:G' p=ac:=(s.out _ _ he).trans A.gp;refine⟨⟨fun b o e=>?_,s.gg,fun b o e=>?_,fun b o e=>s.out b o (fW e).2⟩,w,s.hh _ _ he,rg.mono s.gg hw⟩
 .rw[dc (fW e).1];exact s.hh b o (fW e).2
 .have:b≠p:=fun z=>by subst z;rw[gp] at e;cases e
  rw[dc this];exact s.gh b o e
theorem RAt.step (A:RAt rg Γ K G₀ H₀ G H ρ σ i p r) (s:RStep rg p r1 G H G' H'):RAt rg Γ K G₀ H₀ G' H' ρ σ i p r1:=⟨A.at'.step s.st,A.sl,s.here⟩
theorem RStep.trans (a:RStep rg p r1 G H G1 H1) (b:RStep rg p r2 G1 H1 G2 H2):RStep rg p r2 G H G2 H2:=⟨a.st.trans b.st,b.here⟩
theorem RAt.refl (A:RAt rg Γ K G₀ H₀ G H ρ σ i p r):RStep rg p r G H G H:=⟨.refl A.at'.gh,A.here⟩
end
abbrev FR (R:Type):=bd->R->aq (D×R)
abbrev FRt (R:Type):=bd->R->aq (aU×R)
abbrev FRa (R:Type):=bd->R->aq (ab D×R)
abbrev FRs (R:Type):=bd->R->aq (Fl×bd×R)
noncomputable def TDr (rg:Rg R) (Γ:Cn) (K:aR) (i:ag) (f:(FR R)):TE:=fun σ H Q=>∃G₀ H₀ G ρ p r d r',RAt rg Γ K G₀ H₀ G H ρ σ i p r/\f ρ r=aa (d,r')/\∀v G' H',RStep rg p r' G H G' H'->Rep Γ K G' v d->Q v H'
noncomputable def j7 (rg:Rg R) (Γ:Cn) (K:aR) (i:ag) (f:(FRt R)):TT:=fun σ H Q=>∃G₀ H₀ G ρ p r d r',RAt rg Γ K G₀ H₀ G H ρ σ i p r/\f ρ r=aa (d,r')/\∀G' H',RStep rg p r' G H G' H'->Q d H'
noncomputable def Jd (rg:Rg R) (Γ:Cn) (K:aR) (i:ag) (f:(FRa R)):TA:=fun σ H Q=>∃G₀ H₀ G ρ p r d r',RAt rg Γ K G₀ H₀ G H ρ σ i p r/\f ρ r=aa (d,r')/\∀vs G' H',RStep rg p r' G H G' H'->Reps Γ K G' vs d->Q vs H'
noncomputable def sw (rg:Rg R) (Γ:Cn) (K:aR) (i:ag) (f:(FRa R)):TE:=fun σ H Q=>∃G₀ H₀ G ρ p r d r',RAt rg Γ K G₀ H₀ G H ρ σ i p r/\f ρ r=aa (d,r')/\∀q vs G' H',RStep rg p r' G H G' H'->H' q=ac->Reps Γ K G' vs d->Q (.ref q) (upd H' q (.lst vs))
noncomputable def As (rg:Rg R) (Γ:Cn) (K:aR) (i:ag) (f:(FRa R)):TI:=fun σ H R=>∃G₀ H₀ G ρ p r d r',RAt rg Γ K G₀ H₀ G H ρ σ i p r/\f ρ r=aa (d,r')/\∀J G' H',RStep rg p r' G H G' H'->Yd Γ K J G' d->R J H'
noncomputable def kh (rg:Rg R) (Γ:Cn) (K:aR) (i:ag) (g:(FRs R)):TS:=fun E σ H=>∃G₀ H₀ G ρ p r fl ρ' r',RAt rg Γ K G₀ H₀ G H ρ σ i p r/\g ρ r=aa (fl,ρ',r')/\∀σ' G' H',bp G G'->RAt rg Γ K G₀ H₀ G' H' ρ' σ' i p r'->B9 Γ K E H₀ G' H' σ' fl
structure RE {R:Type} (rg:Rg R) (Γ:Cn) (X:Cx) (i:ag) (e:Expr) (f:(FR R)):Prop where
 out:PE X e (TDr rg Γ X.K i f)
structure RT {R:Type} (rg:Rg R) (Γ:Cn) (X:Cx) (i:ag) (e:Expr) (f:(FRt R)):Prop where
 out:PT X e (j7 rg Γ X.K i f)
structure RW {R:Type} (rg:Rg R) (Γ:Cn) (X:Cx) (i:ag) (e:Expr) (f:(FRt R)):Prop where
 out:PW X e (j7 rg Γ X.K i f)
structure RA {R:Type} (rg:Rg R) (Γ:Cn) (X:Cx) (i:ag) (es:ab Expr) (f:(FRa R)):Prop where
 out:PA X es (Jd rg Γ X.K i f)
structure RO {R:Type} (rg:Rg R) (Γ:Cn) (X:Cx) (i:ag) (e:Expr) (f:(FRa R)):Prop where
 out:PE X e (sw rg Γ X.K i f)
structure RI {R:Type} (rg:Rg R) (Γ:Cn) (X:Cx) (i:ag) (tg e:Expr) (f:(FRa R)):Prop where
 out:PI X tg e (As rg Γ X.K i f)
structure RS {R:Type} (rg:Rg R) (Γ:Cn) (X:Cx) (i:ag) (st:Stmt) (g:(FRs R)):Prop where
 out:PS X st (kh rg Γ X.K i g)
structure RSs {R:Type} (rg:Rg R) (Γ:Cn) (X:Cx) (i:ag) (st:ab Stmt) (g:(FRs R)):Prop where
 out:PSs X st (kh rg Γ X.K i g)
noncomputable def rb (f:bd->R->aq (α×R)) (g:bd->α->R->aq (β×R)):bd->R->aq (β×R):=fun ρ r=>(f ρ r).bind fun x=>g ρ x.1 x.2
noncomputable def rP (f:bd->aq α):bd->R->aq (α×R):=fun ρ r=>(f ρ).map fun d=>(d,r)
noncomputable def rM (f:bd->R->aq (α×R)) (g:α->aq β):bd->R->aq (β×R):=fun ρ r=>(f ρ r).bind fun x=>(g x.1).map fun d=>(d,x.2)
theorem jS {f:bd->R->aq (α×R)} {g:bd->α->R->aq (β×R)} {r r':R} {b:β} (h:rb f g ρ r=aa (b,r')):∃a r1,f ρ r=aa (a,r1)/\g ρ a r1=aa (b,r'):=by obtain⟨⟨a,r1⟩,h1,h2⟩:=oBd h;exact⟨a,r1,h1,h2⟩
theorem ko {f:bd->aq α} {r r':R} {b:α} (h:rP f ρ r=aa (b,r')):f ρ=aa b/\r'=r:=by obtain⟨a,h1,h2⟩:=oMd h;cases h2;exact⟨h1,rfl⟩
theorem fK {f:bd->R->aq (α×R)} {g:α->aq β} {r r':R} {b:β} (h:rM f g ρ r=aa (b,r')):∃a,f ρ r=aa (a,r')/\g a=aa b:=by obtain⟨⟨a,r1⟩,h1,h2⟩:=oBd h;obtain⟨b',h3,h4⟩:=oMd h2;cases h4;exact⟨a,h1,h3⟩
section
variable {bD:ab Expr} {fa fb f:(FR R)} {fr fi:(FRa R)} {ft gt:(FRt R)} {F:FE}
theorem ax (h:DE Γ X e F):RE rg Γ X i e (rP F):=⟨h.1.imp fun σ H Q=>by rintro⟨G₀,H₀,G,ρ,p,r,d,r',A,h,k⟩;obtain⟨hd,rfl⟩:=ko h;exact⟨G₀,H₀,G,ρ,d,A.full,hd,fun v G' H' s rv=>k v G' H' (A.pure s) rv⟩⟩
theorem cU {F:FT} (h:DT Γ X e F):RT rg Γ X i e (rP F):=⟨h.1.imp fun σ H Q=>by rintro⟨G₀,H₀,G,ρ,p,r,d,r',A,h,k⟩;obtain⟨hd,rfl⟩:=ko h;exact⟨G₀,H₀,G,ρ,d,A.full,hd,fun G' H' s=>k G' H' (A.pure s)⟩⟩
theorem aG {F:FA} (h:DA Γ X es F):RA rg Γ X i es (rP F):=⟨h.1.imp fun σ H Q=>by rintro⟨G₀,H₀,G,ρ,p,r,d,r',A,h,k⟩;obtain⟨hd,rfl⟩:=ko h;exact⟨G₀,H₀,G,ρ,d,A.full,hd,fun v G' H' s rv=>k v G' H' (A.pure s) rv⟩⟩
theorem sY {F:FA} (h:DO Γ X e F):RO rg Γ X i e (rP F):=⟨h.1.imp fun σ H Q=>by rintro⟨G₀,H₀,G,ρ,p,r,d,r',A,h,k⟩;obtain⟨hd,rfl⟩:=ko h;exact⟨G₀,H₀,G,ρ,d,A.full,hd,fun q v G' H' s hq rv=>k q v G' H' (A.pure s) hq rv⟩⟩
theorem ud {F:FA} (h:DI Γ X tg e F):RI rg Γ X i tg e (rP F):=⟨h.1.imp fun σ H Q=>by rintro⟨G₀,H₀,G,ρ,p,r,d,r',A,h,k⟩;obtain⟨hd,rfl⟩:=ko h;exact⟨G₀,H₀,G,ρ,d,A.full,hd,fun v G' H' s rv=>k v G' H' (A.pure s) rv⟩⟩
noncomputable def r2 (g:D->D->aq D) (fa fb:(FR R)):(FR R):=rb fa fun ρ x r=>rM fb (fun y=>g x y) ρ r
theorem TDr.two {g:D->D->aq D} {q:R2} (hr:fA Γ X.K g q):∀σ H Q,TDr rg Γ X.K i (r2 g fa fb) σ H Q->tOp q (TDr rg Γ X.K i fa) (TDr rg Γ X.K i fb) σ H Q:=by rintro σ H Q ⟨G₀,H₀,G,ρ,p,r,d,r',A,h,k⟩;obtain⟨x,r1,ha,h⟩:=jS h;obtain⟨y,hb,h⟩:=fK h;refine⟨G₀,H₀,G,ρ,p,r,x,r1,A,ha,fun v G1 H1 s1 v1=>⟨G₀,H₀,G1,ρ,p,r1,y,r',A.step s1,hb,fun u G2 H2 s2 v2=>?_⟩⟩;have A2:=(A.step s1).step s2;exact hr A2.gh (v1.mono s2.st.gg) v2 h Q fun w G' H' s v=>k w G' H' ((s1.trans s2).trans (A2.pure s)) v
theorem sH {op:EQ} {g:D->D->aq D} {q:R2} (ho:OpR X (gB op) q) (hr:fA Γ X.K g q) (ha:RE rg Γ X i a fa) (hb:RE rg Γ X i b fb):RE rg Γ X i (.BinOp a op b pos) (r2 g fa fb):=⟨(D3 ho ha.1 hb.1).imp (TDr.two hr)⟩
theorem xZ {g:D->D->aq D} (h:CmpD Γ X op g) (ha:RE rg Γ X i a fa) (hb:RE rg Γ X i b fb) (hm:jI op b=ao):RE rg Γ X i (.Compare a [op] [b] pos) (r2 g fa fb):=⟨by obtain⟨r,ho,hr⟩:=h.ex;exact(AU ho ha.1 hb.1 hm).imp (TDr.two hr)⟩
theorem eZ (ha:RE rg Γ X i a fa) (hb:RE rg Γ X i b fb) (hs:tV b:=by intro _ _;rfl):RE rg Γ X i (.Subscript a b pos) (r2 ixD fa fb):=⟨(gK gY ha.1 hb.1 hs).imp (TDr.two EE)⟩
noncomputable def blD:D->aq aU
 |.bl b=>aa b
 |_=>ac
theorem j7.val :∀σ H Q,j7 rg Γ X.K i (rM f blD) σ H Q->TDr rg Γ X.K i f σ H fun x H'=>∃k,x=.bl k/\Q k H':=by rintro σ H Q ⟨G₀,H₀,G,ρ,p,r,d,r',A,h,k⟩;obtain⟨d',hd,h⟩:=fK h;unfold blD at h;split at h<;>cases h;exact⟨G₀,H₀,G,ρ,p,r,_,r',A,hd,fun v G' H' s r=>⟨d,r.bl_inv,k G' H' s⟩⟩
theorem fL {g:D->D->aq D} (h:CmpD Γ X op g) (ha:RE rg Γ X i a fa) (hb:RE rg Γ X i b fb) (hm:jI op b=ao):RT rg Γ X i (.Compare a [op] [b] pos) (rM (r2 g fa fb) blD):=⟨by obtain⟨r,ho,hr⟩:=h.ex;exact(oW ho ha.1 hb.1 hm).imp fun σ H Q q=>TDr.two hr σ H _ (j7.val σ H Q q)⟩
theorem RW.rt (h:RW rg Γ X i e ft):RT rg Γ X i e ft:=⟨h.1.pt⟩
theorem wE (h:RT rg Γ X i a ft):RW rg Γ X i (.BoolOp .And [a] pos) ft:=⟨yn h.1⟩
theorem Mj (h:RT rg Γ X i a ft):RW rg Γ X i (.BoolOp .Or [a] pos) ft:=⟨Dj h.1⟩
noncomputable def kR (f g:(FRt R)):(FRt R):=rb f fun ρ b r=>if b=ai then g ρ r else aa (ao,r)
noncomputable def rOr (f g:(FRt R)):(FRt R):=rb f fun ρ b r=>if b=ai then aa (ai,r) else g ρ r
theorem t9 (h:RT rg Γ X i a ft) (h':RW rg Γ X i (.BoolOp .And (b::bD) pos) gt):RW rg Γ X i (.BoolOp .And (a::b::bD) pos) (kR ft gt):=⟨(xn h.1 h'.1).imp fun σ H Q=>by
 rintro⟨G₀,H₀,G,ρ,p,r,d,r',A,h,k⟩;obtain⟨c,r1,hc,h⟩:=jS h;refine⟨G₀,H₀,G,ρ,p,r,c,r1,A,hc,fun G1 H1 s1=>?_⟩;cases c with
 |true=>exact ig ⟨G₀,H₀,G1,ρ,p,r1,d,r',A.step s1,by simpa using h,fun G' H' s=>k G' H' (s1.trans s)⟩
 |false=>
  rw[qZ qv] at h;cases h;exact gr (k _ _ s1)⟩
theorem KA (h:RT rg Γ X i a ft) (h':RW rg Γ X i (.BoolOp .Or (b::bD) pos) gt):RW rg Γ X i (.BoolOp .Or (a::b::bD) pos) (rOr ft gt):=⟨(BM h.1 h'.1).imp fun σ H Q=>by
 rintro⟨G₀,H₀,G,ρ,p,r,d,r',A,h,k⟩;obtain⟨c,r1,hc,h⟩:=jS h;refine⟨G₀,H₀,G,ρ,p,r,c,r1,A,hc,fun G1 H1 s1=>?_⟩;cases c with
 |false=>exact gr ⟨G₀,H₀,G1,ρ,p,r1,d,r',A.step s1,by simpa using h,fun G' H' s=>k G' H' (s1.trans s)⟩
 |true=>
  rw[qY rfl] at h;cases h;exact ig (k _ _ s1)⟩
noncomputable def aw (fa:(FR R)) (fr:(FRa R)):(FRa R):=rb fa fun ρ x r=>rM fr (fun l=>aa (x::l)) ρ r
theorem aA (ha:RE rg Γ X i e fa) (hr:RA rg Γ X i es fr) (hs:aH (e::es) X.env=(ao,eval e X.env)::aH es X.env:=by rfl):RA rg Γ X i (e::es) (aw fa fr):=⟨(eY ha.1 hr.1 hs).imp fun σ H Q=>by rintro⟨G₀,H₀,G,ρ,p,r,d,r',A,h,k⟩;obtain⟨x,r1,hx,h⟩:=jS h;obtain⟨xs,hxs,h⟩:=fK h;cases h;exact⟨G₀,H₀,G,ρ,p,r,x,r1,A,hx,fun v G1 H1 s1 v1=>⟨G₀,H₀,G1,ρ,p,r1,xs,r',A.step s1,hxs,fun vs G2 H2 s2 v2=>k _ G2 H2 (s1.trans s2) (.cons (v1.mono s2.st.gg) v2)⟩⟩⟩
noncomputable def szD (l:ab D):aq (ab D):=if l.length<=aK then aa l else ac
theorem RO.re (h:RO rg Γ X i e fr):RE rg Γ X i e (rM fr fun l=>aa (.lst l)):=⟨h.1.imp fun σ H Q=>by rintro⟨G₀,H₀,G,ρ,p,r,d,r',A,h,k⟩;obtain⟨ds,hd,h⟩:=fK h;cases h;exact⟨G₀,H₀,G,ρ,p,r,ds,r',A,hd,fun q vs G' H' s hq rv=>ic (A.step s).gh rv (fun w G2 H2 s2 r2=>k w G2 H2 (s.trans ((A.step s).pure s2)) r2) q hq⟩⟩
theorem oO (h:RA rg Γ X i es fr):RO rg Γ X i (.List es pos) (rM fr szD):=⟨(Av h.1).imp fun σ H Q=>by
 rintro⟨G₀,H₀,G,ρ,p,r,d,r',A,h,k⟩;obtain⟨ds,hd,h⟩:=fK h;unfold szD at h;split at h
 .rename_i hz;cases h;exact⟨G₀,H₀,G,ρ,p,r,d,r',A,hd,fun vs G' H' s v=>⟨by rw[v.length];exact hz,fun q hq=>k q vs G' H' s hq v⟩⟩
 .cases h⟩
theorem cJ {x1} (h:RA rg Γ X i es fr):RE rg Γ X i (.Tuple es x1 pos) (rM fr fun l=>(szD l).map .tup):=⟨(xL h.1).imp fun σ H Q=>by
 rintro⟨G₀,H₀,G,ρ,p,r,d,r',A,h,k⟩;obtain⟨ds,hd,h⟩:=fK h;unfold szD at h;split at h
 .rename_i hz;cases h;exact⟨G₀,H₀,G,ρ,p,r,ds,r',A,hd,fun vs G' H' s v=>⟨by rw[v.length];exact hz,uA (A.step s).gh v fun w G2 H2 s2 r2=>k w G2 H2 (s.trans ((A.step s).pure s2)) r2⟩⟩
 .cases h⟩
theorem GM {k:ag} {F:FQ} {c:ah} (C:CalI Γ X.prog X.w X.K X.mg X.base c n k F) (hr:Room j X.A) (hk:k+1<=j) (hg:Gl X c) (ha:RA rg Γ X i (e::es) fr) (hn:∀ρ r ds r',fr ρ r=aa (ds,r')->ds.length=n)
  (hdb:(c==("__debug__":ah))=ao:=by decide) (he:aH (e::es) X.env=(ao,eval e X.env)::aH es X.env:=by rfl) (hpl:(ca pos (aH es X.env)).any (·.1)=ao:=by rfl) :
  RE rg Γ X i (.Call (.Name c p) (e::es) [] pos) (rM fr F):=⟨by
 obtain⟨Ca,f,fd,ps,h0,h1,h2,h3,h4⟩:=C.ex;refine(zK h1 h3 (hr.mono hk) hg h2 h4 .nil gJ ha.1 hdb he hpl).imp fun σ H Q=>?_;rintro⟨G₀,H₀,G,ρ,p,r,d,r',A,h,k⟩;obtain⟨ds,hd,hq⟩:=fK h;refine⟨G₀,H₀,G,ρ,p,r,ds,r',A,hd,fun vs G1 H1 s1 v1 x dx hx hdx hne=>?_⟩;rw[eX];exact⟨x,dx,H1,G1,ds,d,vs,rfl,rfl,hx,hdx,hne,(A.step s1).gh,v1,hn ρ r ds r' hd,hq,fun G' H' s r=>⟨rfl,k _ G' H' (s1.trans ((A.step s1).pure s)) r⟩⟩⟩
theorem GC {r r':R} (h:rP af ρ r=aa (ds,r')):ds.length=0:=by obtain⟨h,_⟩:=ko h;cases h;rfl
theorem ma (hn:∀ρ r ds r',fr ρ r=aa (ds,r')->ds.length=n):∀ρ r ds r',aw fa fr ρ r=aa (ds,r')->ds.length=n+1:=fun ρ r ds r' h=>by obtain⟨x,r1,hx,h⟩:=jS h;obtain⟨xs,hxs,h⟩:=fK h;cases h;rw[qh,hn _ _ _ _ hxs]
theorem sJ (hg:Gl X "range") (hm:X.mg "range"=ac) (h:RA rg Γ X i [a] fr) (hs:aH [a] X.env=[(ao,eval a X.env)]:=by rfl):RI rg Γ X i tg (.Call (.Name "range" p) [a] [] pos) (rM fr gq):=⟨(C3 hg hm h.1 hs).imp fun σ H R=>by
 rintro⟨G₀,H₀,G,ρ,p,r,d,r',A,h,k⟩;obtain⟨ds,hd,h⟩:=fK h;refine⟨G₀,H₀,G,ρ,p,r,ds,r',A,hd,fun v G' H' s rv=>?_⟩;unfold gq at h;split at h
 .split at h
  .rename_i hz;cases h;obtain⟨v,rfl,r1⟩:=rv.one;cases r1.int_inv;exact⟨_,rfl,hz.1,hz.2,k _ G' H' s xc⟩
  .cases h
 .cases h⟩
end
variable {q:au}
section
variable {bD:ab Expr} {fa fb f:(FR R)} {fr fi:(FRa R)} {ft gt:(FRt R)} {st:Stmt} {g g':(FRs R)}
noncomputable def xq:D->D->aq D
 |.lst l,.int i=>aa (.lst (fB l (aa i) ac))
 |_,_=>ac
theorem HE (he:RE rg Γ X i e fa) (hl:RE rg Γ X i a fb):RE rg Γ X i (.Subscript e (.Slice (aa a) ac ac p2) pos) (r2 xq fa fb):=⟨(xj Bd he.1 (ye hl.1) yh).imp fun σ H Q=>by
 rintro⟨G₀,H₀,G,ρ,p,r,d,r',A,h,k⟩;obtain⟨x,r1,ha,h⟩:=jS h;obtain⟨y,hb,h⟩:=fK h;unfold xq at h;split at h
 .cases h;refine⟨G₀,H₀,G,ρ,p,r,_,r1,A,ha,fun v G1 H1 s1 v1=>⟨G₀,H₀,G1,ρ,p,r1,_,r',A.step s1,hb,fun u G2 H2 s2 v2=>⟨_,v2.int_inv,?_⟩⟩⟩;have A2:=(A.step s1).step s2;obtain⟨a,vs,rfl,ha,rv⟩:=(v1.mono s2.st.gg).lst_inv;exact⟨a,vs,rfl,.inl (.inl (A2.gh _ _ ha)),ic A2.gh (rv.cut _ _) fun w G4 H4 s4 r4=>k w G4 H4 ((s1.trans s2).trans (A2.pure s4)) r4⟩
 .cases h⟩
theorem bi (h:RS rg Γ X i st g):RSs rg Γ X i [st] g:=⟨l' h.1⟩
noncomputable def bZ:(FRs R):=fun ρ r=>aa (.nx,ρ,r)
theorem cq:RSs rg Γ X i [] bZ:=⟨nM.imp fun E σ H=>by rintro⟨G₀,H₀,G,ρ,p,r,fl,ρ',r',A,h,k⟩;cases h;exact k σ G H (.refl _) A⟩
noncomputable def aC (g g':(FRs R)):(FRs R):=fun ρ r=>(g ρ r).bind fun x=>match x.1 with
 |.nx=>g' x.2.1 x.2.2
 |fl=>aa (fl,x.2)
theorem aJ (h1:RS rg Γ X i st g) (h2:RSs rg Γ X i sts g'):RSs rg Γ X i (st::sts) (aC g g'):=⟨(iJ h1.1 h2.1).imp fun E σ H=>by
 rintro⟨G₀,H₀,G,ρ,p,r,fl,ρ',r',A,h,k⟩;obtain⟨⟨fl1,ρ1,r1⟩,h1,h⟩:=oBd h;refine⟨G₀,H₀,G,ρ,p,r,fl1,ρ1,r1,A,h1,fun σ1 G1 H1 sm A1=>?_⟩;cases fl1 with
 |nx=>exact⟨G₀,H₀,G1,ρ1,p,r1,fl,ρ',r',A1,h,fun σ' G' H' sm' A'=>k σ' G' H' (sm.trans sm') A'⟩
 |_=>cases h;exact k σ1 G1 H1 sm A1⟩
noncomputable def bI (f:(FR R)):(FRs R):=fun ρ r=>(f ρ r).map fun x=>(.rt x.1,ρ,x.2)
theorem bX (h:RE rg Γ X i e f):RS rg Γ X i (.Return (aa e) pos) (bI f):=⟨(wY h.1).imp fun E σ H=>by rintro⟨G₀,H₀,G,ρ,p,r,fl,ρ',r',A,h,k⟩;obtain⟨⟨d,r1⟩,hd,h⟩:=oMd h;cases h;exact⟨G₀,H₀,G,ρ,p,r,d,r1,A,hd,fun v G' H' s v1=>k σ G' H' s.st.gg (A.step s) v v1⟩⟩
theorem kJ {s:aq Slot} (h:j≠i):(ρ.set j s)[i]?=ρ[i]?:=qC h
noncomputable def aV (j:ag) (f:(FR R)):(FRs R):=fun ρ r=>(f ρ r).map fun x=>(.nx,ρ.set j (aa (.sh x.1)),x.2)
theorem bL (j:ag) (hN:X.N.Nodup) (h:RE rg Γ X i e f) (hji:j≠i:=by decide) (hi:X.N[j]?=aa x:=by rfl) (hx:Loc X.env.scope x:=by first|exact cz rfl|exact bT rfl) (hs:eE e (aa (.Name x pos')) pos.line X.env=pure ao:=by rfl) (hf:X.fn x=ai\/X.env.scope.names.lookup x=aa .local:=by first|exact .inl rfl|exact .inr rfl|assumption) :
  RS rg Γ X i (.Assign [.Name x pos'] e pos) (aV j f):=⟨(mm hN hi hx h.1 hs hf).imp fun E σ H=>by
 rintro⟨G₀,H₀,G,ρ,p,r,fl,ρ',r',A,h,k⟩;obtain⟨⟨d,r1⟩,hd,h⟩:=oMd h;cases h;exact⟨G₀,H₀,G,ρ,p,r,d,r1,A,hd,fun v G' H' s v1=>k _ G' H' s.st.gg ⟨(A.step s).at'.setSh v1,(kJ hji).trans A.sl,s.here⟩⟩⟩
noncomputable def fP (j:ag) (f:(FRa R)):(FRs R):=fun ρ r=>(f ρ r).map fun x=>(.nx,ρ.set j (aa (.own x.1)),x.2)
theorem tQ {p:au} {o:HO} (h:q≠p):bt p (upd H q o)=upd (bt p H) q o:=by
 funext b
 by_cases hb:b=q
 .subst hb;rw[dc h,b7,b7]
 .rw[aX hb];by_cases hp:b=p
  .subst hp;rw[jR,jR]
  .rw[dc hp,dc hp,aX hb]
theorem JZ (hji:j≠i):∀E σ H,kh rg Γ X.K i (fP j fr) E σ H->jV (sw rg Γ X.K i fr) (jh j) E σ H:=by
 rintro E σ H ⟨G₀,H₀,G,ρ,p,r,fl,ρ',r',A,h,k⟩;obtain⟨⟨d,r1⟩,hd,h⟩:=oMd h;cases h;refine⟨G₀,H₀,G,ρ,p,r,d,r1,A,hd,fun q vs G' H' s hq v1=>?_⟩;have hqp:q≠p:=fun z=>by subst z;obtain⟨_,e,_⟩:=s.here;rw[e] at hq;cases hq
 refine k _ G' _ s.st.gg ⟨?_,(kJ hji).trans A.sl,by rw[aX hqp.symm];exact s.here⟩;rw[tQ hqp];exact(A.step s).at'.setOwn (by rw[dc hqp];exact hq) v1
theorem lc (j:ag) (hN:X.N.Nodup) (h:RO rg Γ X i e fr) (hji:j≠i:=by decide) (hi:X.N[j]?=aa x:=by rfl) (hx:Loc X.env.scope x:=by first|exact cz rfl|exact bT rfl) (hs:eE e (aa (.Name x pos')) pos.line X.env=pure ao:=by rfl) (hf:X.fn x=ai\/X.env.scope.names.lookup x=aa .local:=by first|exact .inl rfl|exact .inr rfl|assumption) :
  RS rg Γ X i (.Assign [.Name x pos'] e pos) (fP j fr):=⟨(mm hN hi hx h.1 hs hf).imp (JZ hji)⟩
noncomputable def fS (j:ag) (g:(FRs R)):(FRs R):=fun ρ r=>match ρ[j]? with
 |some (aa (.own ds))=>g (ρ.set j (aa (.sh (.lst ds)))) r
 |_=>ac
theorem kh.frz (j:ag):∀E σ H,kh rg Γ X.K i (fS j g) E σ H->kh rg Γ X.K i g E σ H:=by
 rintro E σ H ⟨G₀,H₀,G,ρ,p,r,fl,ρ',r',A,h,k⟩;unfold fS at h;split at h
 .rename_i ds hi;obtain⟨G',sm,A'⟩:=A.at'.freeze hi;have hji:j≠i:=fun z=>by subst z;rw[A.sl] at hi;cases hi
  exact⟨G₀,H₀,G',_,p,r,fl,ρ',r',⟨A',(kJ hji).trans A.sl,A.here.imp fun _ z=>⟨z.1,rg.mono sm z.2⟩⟩,h,fun σ1 G1 H1 sm1 A1=>k σ1 G1 H1 (sm.trans sm1) A1⟩
 .cases h
theorem kK (j:ag) (h:RSs rg Γ X i sts g):RSs rg Γ X i sts (fS j g):=⟨h.1.imp (kh.frz j)⟩
noncomputable def qIf (ft:(FRt R)) (g g':(FRs R)):(FRs R):=fun ρ r=>(ft ρ r).bind fun c=>if c.1=ai then g ρ c.2 else g' ρ c.2
theorem cr (hc:RT rg Γ X i c ft) (ha:RSs rg Γ X i sa g) (hb:RSs rg Γ X i sb g'):RS rg Γ X i (.If c sa sb pos) (qIf ft g g'):=⟨(nQ hc.1 ha.1 hb.1).imp fun E σ H=>by
 rintro⟨G₀,H₀,G,ρ,p,r,fl,ρ',r',A,h,k⟩;obtain⟨⟨x,r1⟩,hx,h⟩:=oBd h;refine⟨G₀,H₀,G,ρ,p,r,x,r1,A,hx,fun G1 H1 s1=>?_⟩;cases x with
 |true=>exact ig ⟨G₀,H₀,G1,ρ,p,r1,fl,ρ',r',A.step s1,by simpa using h,fun σ2 G2 H2 sm2 A2=>k σ2 G2 H2 (s1.st.gg.trans sm2) A2⟩
 |false=>exact gr ⟨G₀,H₀,G1,ρ,p,r1,fl,ρ',r',A.step s1,by simpa using h,fun σ2 G2 H2 sm2 A2=>k σ2 G2 H2 (s1.st.gg.trans sm2) A2⟩⟩
noncomputable def eL (j:ag) (f:(FR R)):(FRs R):=fun ρ r=>match ρ[j]? with
 |some (aa (.own ds))=>(f ρ r).bind fun d=>if ds.length<aK then aa (.nx,ρ.set j (aa (.own (ds++[d.1]))),d.2) else ac
 |_=>ac
theorem kM (j:ag) (h:RE rg Γ X i e f) (hN:X.N[j]?=aa x:=by rfl) (hv:Vis X.env.scope x:=by first|exact cz rfl|exact bT (cz rfl)|exact bT (bT rfl)) (hd:(x==("__debug__":ah))=ao:=by decide)
  (hcd:(x==("__classdict__":ah))=ao:=by decide)
  (hbase:iU (.Name x vp) "append" X.env (eval (.Name x vp) X.env)=eval (.Name x vp) X.env:=by rfl)
  (hfew:((ca cpos (aH [e] X.env)).all (fun x=>!x.1) && (gC cpos (gD [] X.env)).all (fun x=>x.1.isSome)
   && decide ([e].length+([]:ab iV).length+(if ([]:ab iV).isEmpty then 0 else 1)<30))=ai:=by rfl)
  (hline:(apos.endLine==cpos.line)=ai:=by rfl) (hs:aH [e] X.env=(ao,eval e X.env)::aH [] X.env:=by rfl) (hplain:(ca cpos (aH [] X.env)).any (·.1)=ao:=by rfl)
  (hsw:eE (.Call (.Attribute (.Name x vp) "append" apos) [e] [] cpos) ac pos.line X.env=pure ao:=by rfl) :
  RS rg Γ X i (.Expr (.Call (.Attribute (.Name x vp) "append" apos) [e] [] cpos) pos) (eL j f):=⟨(jF (lU vi vf yT pA (dv hN hv hd hcd) (eY h.1 gc hs) hbase hfew hline hs hplain) hsw).imp fun E σ H=>by
  rintro⟨G₀,H₀,G,ρ,p,r,fl,ρ',r',A,h,k⟩;unfold eL at h;split at h
  .rename_i ds hi;obtain⟨⟨d,r1⟩,hd,h⟩:=oBd h;split at h
   .rename_i hz;cases h;obtain⟨a,vs,h1,h2,h3,h4,h5⟩:=A.at'.env.own j ds hi;have hji:j≠i:=fun z=>by subst z;rw[A.sl] at hi;cases hi
    have hap:=(fW h4).1;refine⟨.ref a,h1,.inl ⟨rfl,vs,.inl (.inl (fW h4).2)⟩,G₀,H₀,G,ρ,p,r,d,r1,A,hd,fun v G1 H1 s1 v1=>?_⟩;have A1:=A.step s1;refine⟨a,vs,v,rfl,rfl,(fW (s1.st.hh _ _ h4)).2,by rw[h5.length];exact hz,?_⟩;refine k σ G1 _ s1.st.gg ⟨?_,(kJ hji).trans A.sl,by rw[aX hap.symm];exact s1.here⟩;rw[tQ hap];exact A1.at'.chOwn hi h1 ((h5.mono s1.st.gg).append (.cons v1 .nil))
   .cases h
  .cases h⟩
structure KpG (i:ag) (g:FG):Prop where
 out:∀d ρ ρ',g d ρ=aa ρ'->ρ'[i]?=ρ[i]?
structure KpGs (i:ag) (g:FGs):Prop where
 out:∀d ρ ρ',g d ρ=aa ρ'->ρ'[i]?=ρ[i]?
theorem i8 (h:j≠i):KpG i (aM j):=⟨fun d ρ ρ' e=>by cases e;exact kJ h⟩
theorem wI:KpGs i ij:=⟨fun d ρ ρ' e=>by unfold ij at e;split at e<;>cases e;rfl⟩
theorem nz {g:FG} (h:KpG i g) (h':KpGs i gs):KpGs i (eU g gs):=⟨fun d ρ ρ' e=>by
 unfold eU at e;split at e
 .obtain⟨ρ1,h1,e⟩:=oBd e
  first|exact(h'.1 _ _ _ e).trans (h.1 _ _ _ h1)|exact(h.1 _ _ _ e).trans (h'.1 _ _ _ h1)
 .cases e⟩
theorem vL (h:KpGs i gs):KpG i (ie n gs):=⟨fun d ρ ρ' e=>by
 unfold ie at e;split at e
 .first|exact h.1 _ _ _ e|(split at e;exact h.1 _ _ _ e;cases e)
 .cases e⟩
theorem RAt.tgt {r:R} {Q:St->Hp->Prop} (A:RAt rg Γ K G₀ H₀ G H ρ σ i q r) (kp:KpG i gg) (rv:Rep Γ K G v d) (h:gg d ρ=aa ρ') (k:∀σ',RAt rg Γ K G₀ H₀ G H ρ' σ' i q r->Q σ' H):TDg Γ K gg v σ H Q:=
 by
 obtain⟨w,he,hw⟩:=A.here;exact⟨_,_,G,ρ,d,ρ',A.shut he,rv,h,fun σ' B=>k σ' (A.open' hw (fun _ _ z=>z) B (kp.1 _ _ _ h))⟩
noncomputable def pO (gg:FG) (f:(FR R)):(FRs R):=fun ρ r=>(f ρ r).bind fun d=>(gg d.1 ρ).map fun ρ'=>(.nx,ρ',d.2)
theorem Ad (kp:KpG i gg) (h:RE rg Γ X i e f) (hg:DG Γ X tg gg) (hs:EN [tg] e pos.line X.env=pure ao:=by rfl) (hw:EO [tg] e X.env=pure ac:=by rfl)
  (h1:(jK [tg] X.env).map (·.2)=[jJ tg X.env]:=by rfl):RS rg Γ X i (.Assign [tg] e pos) (pO gg f):=⟨(DZ h.1 hg.pg hs hw h1).imp fun E σ H=>by
 rintro⟨G₀,H₀,G,ρ,p,r,fl,ρ',r',A,h,k⟩;obtain⟨⟨d,r1⟩,hd,h⟩:=oBd h;obtain⟨ρ1,h1,h⟩:=oMd h;cases h;exact⟨G₀,H₀,G,ρ,p,r,d,r1,A,hd,fun v G' H' s v1=>(A.step s).tgt kp v1 h1 fun σ' A'=>k σ' G' H' s.st.gg A'⟩⟩
noncomputable def nF (gg:FG) (body:(FRs R)):ab D->(FRs R)
 |[],ρ,r=>aa (.nx,ρ,r)
 |x::xs,ρ,r=>(gg x ρ).bind fun ρ1=>(body ρ1 r).bind fun y=>match y.1 with
  |.nx=>nF gg body xs y.2.1 y.2.2
  |.rt d=>aa (.rt d,y.2)
  |_=>ac
noncomputable def iI (fi:(FRa R)) (gg:FG) (body:(FRs R)):(FRs R):=fun ρ r=>(fi ρ r).bind fun xs=>nF gg body xs.1 ρ xs.2
theorem tW (kp:KpG i gg) (hp:uX (aO X.prog X.w) X.A X.env X.xe) (hc:X.calm=ai) (hi:RI rg Γ X i tg iter fi) (hg:DG Γ X tg gg) (hb:RSs rg Γ X i body g) (hs:∀x,kA iter X.env x=pure x:=by intro _;rfl) :
  RS rg Γ X i (.For tg iter body [] pos) (iI fi gg g):=⟨(wV hp hc hi.1 hg.pg hb.1 hs).imp fun E σ H=>by
 rintro⟨G₀,H₀,G,ρ,q,r,fl,ρ',r',A,h,k⟩;obtain⟨⟨xs,r0⟩,hx,h⟩:=oBd h;refine⟨G₀,H₀,G,ρ,q,r,xs,r0,A,hx,fun J G1 H1 s1 Y=>?_⟩;refine⟨fun n m σ' H'=>m=xs.length-n/\n<=xs.length/\∃G' ρ1 r1,bp G1 G'/\RAt rg Γ X.K G₀ H₀ G' H' ρ1 σ' i q r1/\nF gg g (xs.drop n) ρ1 r1=aa (fl,ρ',r'),⟨xs.length,rfl,fu _,G1,ρ,r0,.refl _,A.step s1,by rw[lN];exact h⟩,?_⟩;rintro n m σ' H' ⟨rfl,hi,G',ρ1,r1,sm,A',hr⟩;by_cases hlt:n<xs.length
 .right
  have hxi:xs[n]?=aa xs[n]:=by simp[hlt]
  obtain⟨go,yl⟩:=Y.go n _ G' H' hxi sm A'.gh;have hdr:xs.drop n=xs[n]::xs.drop (n+1):=ou hlt;rw[hdr] at hr;unfold nF at hr;obtain⟨ρ2,h2,hr⟩:=oBd hr;obtain⟨⟨fl3,ρ3,r3⟩,h3,hr⟩:=oBd hr;refine⟨go,fun σ3 H3=>fl3=.nx/\∃G3,bp G1 G3/\RAt rg Γ X.K G₀ H₀ G3 H3 ρ3 σ3 i q r3,fun σ3 H3 ⟨hfl,G3,sm3,A3⟩=>?_,fun x H2 hy=>?_⟩
  .subst hfl;exact⟨xs.length-(n+1),by omega,rfl,hlt,G3,ρ3,r3,sm3,A3,hr⟩
  .obtain⟨G2,s2,v2⟩:=yl x H2 hy;refine(A'.step (A'.pure s2)).tgt kp v2 h2 fun σ2 A2=>⟨G₀,H₀,G2,ρ2,q,r1,fl3,ρ3,r3,A2,h3,fun σ3 G3 H3 sm3 A3=>?_⟩;have smm:bp G1 G3:=(sm.trans s2.gg).trans sm3;cases fl3 with
   |nx=>exact⟨rfl,G3,smm,A3⟩
   |rt d=>cases hr;exact k σ3 G3 H3 (s1.st.gg.trans smm) A3
   |_=>cases hr
 .left
  have e:n=xs.length:=by omega
  subst e;rw[rZ] at hr;cases hr;exact⟨Y.stop G' H' sm A'.gh,k σ' G' H' (s1.st.gg.trans sm) A'⟩⟩
end
noncomputable def mn (ρ:bd):Prop:=∀(i:ag) s,ρ[i]?=aa (aa s)->(∃d,s=.sh d)\/∃a,s=.pin a
theorem EnvRel.of0 (E:EnvRel Γ K H₁ G H' ρ σ) (no:mn ρ):EnvRel Γ K H₀ G H ρ σ:=by
 obtain⟨fps,h,ap⟩:=E.sl;refine⟨E.len,fun _=>[],fun j s e=>?_,fun _ _ _ _ _ _ _ b hb=>by cases hb⟩;obtain⟨v,h1,h2⟩:=h j s e;rcases no j s e with⟨d,rfl⟩|⟨a,rfl⟩
 .generalize fps j=fp at h2;cases h2 with|sh r=>exact⟨v,h1,.sh r⟩
 .generalize fps j=fp at h2;cases h2 with|pin a=>exact⟨_,h1,.pin a⟩
noncomputable def fvR (fv:ab (aq ag)) (ρ:bd):bd:=fv.map fun o=>o.bind fun j=>match ρ[j]? with
 |some (aa (.sh d))=>aa (.sh d)
 |some (aa (.pin a))=>aa (.pin a)
 |_=>ac
noncomputable def j1 (g:FG) (ft:(FRt R)) (fe:(FR R)):ab D->bd->R->aq (ab D×R)
 |[],_,r=>aa ([],r)
 |x::xs,ρ,r=>(g x ρ).bind fun ρ1=>(ft ρ1 r).bind fun b=>if b.1=ai then (fe ρ1 b.2).bind fun d=>(j1 g ft fe xs ρ1 d.2).map fun l=>(d.1::l.1,l.2) else j1 g ft fe xs ρ1 b.2
noncomputable def iB (fi:(FRa R)) (g:FG) (ft:(FRt R)) (fe:(FR R)) (fv:ab (aq ag)):(FRa R):=rb fi fun ρ xs r=>if xs.length<=aK then j1 g ft fe xs (fvR fv ρ) r else ac
section
variable {i2 j2:ag} {bD:ab Expr} {fa fb f fe:(FR R)} {fr fi:(FRa R)} {ft gt:(FRt R)}
theorem Ob {r:R} (A:RAt rg Γ K G₀ H₀ G H ρ σ i q r) (hfv:fv[i2]?=aa (aa i)):RAt rg Γ K G (bt q H) G H (fvR fv ρ) (gd fv σ) i2 q r/\mn (fvR fv ρ):=by
 have key:∀(k:ag) s,(fvR fv ρ)[k]?=aa (aa s)->∃j,fv[k]?=aa (aa j)/\ρ[j]?=aa (aa s)/\((∃d,s=.sh d)\/∃a,s=.pin a):=fun k s e=>by
  unfold fvR at e;rw[ql] at e;obtain⟨o,ho,e⟩:=oMd e;cases o with
  |none=>cases e
  |some j=>
   simp only[qa] at e;split at e<;>cases e
   .exact⟨j,ho,by assumption,.inl ⟨_,rfl⟩⟩
   .exact⟨j,ho,by assumption,.inr ⟨_,rfl⟩⟩
 have no:mn (fvR fv ρ):=fun k s e=>(key k s e).elim fun j h=>h.2.2;refine⟨⟨⟨.refl A.at'.gh,by simp[fvR,gd],fun _=>[],fun k s e=>?_,fun _ _ _ _ _ _ _ b hb=>by cases hb⟩,?_,A.here⟩,no⟩
 .obtain⟨j,h1,h2,h3⟩:=key k s e;obtain⟨v,fp,h4,h5⟩:=A.at'.get h2;refine⟨v,by unfold gd;rw[ql,h1];simp[h4],?_⟩;rcases h3 with⟨d,rfl⟩|⟨a,rfl⟩
  .cases h5 with|sh r=>exact .sh r
  .cases h5 with|pin a=>exact .pin a
 .unfold fvR;rw[ql,hfv];simp[A.sl]
structure RTs {R:Type} (rg:Rg R) (Γ:Cn) (X:Cx) (i:ag) (es:ab Expr) (f:(FRt R)):Prop where
 out:PTs X es (j7 rg Γ X.K i f)
theorem AI:RTs rg Γ X i [] (rP tT):=⟨Bu.imp fun σ H Q=>by rintro⟨G₀,H₀,G,ρ,p,r,b,r',A,h,k⟩;cases h;exact k G H A.refl⟩
theorem Dk (h:RT rg Γ X i c ft):RTs rg Γ X i [c] ft:=⟨OX h.1⟩
theorem LX (h:mn ρ):mn (ρ.set j (aa (.sh d))):=fun k s e=>by
 by_cases hk:k=j
 .subst hk;rcases iu k ρ.length with q|q
  .rw[ik q] at e;cases e;exact .inl ⟨_,rfl⟩
  .rw[yQ (by simp;omega)] at e;cases e
 .rw[qC (em hk)] at e;exact h k s e
structure RB {R:Type} (rg:Rg R) (Γ:Cn) (X:Cx) (i2 j2:ag) (N':ab ah) (scope:Scope) (tg:Expr) (ifs:ab Expr) (elt:Expr) (ft:(FRt R)) (fe:(FR R)):Prop where
 out:∀(cl:ab (ah×au)) (C:au) (s₀:aB) (H₀:Hp) (fp:ab au),DG Γ (gy X N' scope cl C s₀ H₀ fp) tg (aM j2)/\RTs rg Γ (gy X N' scope cl C s₀ H₀ fp) i2 ifs ft/\RE rg Γ (gy X N' scope cl C s₀ H₀ fp) i2 elt fe
theorem RB.pb (h:RB rg Γ X i2 j2 N' scope tg ifs elt ft fe):PB X N' scope tg ifs elt (TDg Γ X.K (aM j2)) (j7 rg Γ X.K i2 ft) (TDr rg Γ X.K i2 fe):=fun cl C s₀ H₀ fp=>⟨(h.1 cl C s₀ H₀ fp).1.pg,(h.1 cl C s₀ H₀ fp).2.1.1,(h.1 cl C s₀ H₀ fp).2.2.1⟩
theorem BO (hj:j2≠i2) (hfv:fv[i2]?=aa (aa i)):∀σ H Q,sw rg Γ X.K i (iB fi (aM j2) ft fe fv) σ H Q->tLC (As rg Γ X.K i fi) (TDg Γ X.K (aM j2)) (j7 rg Γ X.K i2 ft) (TDr rg Γ X.K i2 fe) fv σ H Q:=by
 rintro σ H Q ⟨G₀,H₀,G,ρ,q,r,ds,rz,A,h,k⟩;obtain⟨xs,r0,hx,h⟩:=jS h;split at h
 case isFalse=>cases h
 rename_i hz;refine⟨G₀,H₀,G,ρ,q,r,xs,r0,A,hx,fun J G1 H1 s1 Y acc hacc=>?_⟩;have A1:=A.step s1;have hap:acc≠q:=fun z=>by subst z;obtain⟨_,e,_⟩:=s1.here;rw[e] at hacc;cases hacc
 have gacc:G1 acc=ac:=A1.gh.free hacc;obtain⟨A0,no0⟩:=Ob (fv:=fv) A1 hfv;refine⟨fun n m ys σ' H'=>m=xs.length-n/\n<=xs.length/\ys.length<=n/\∃G' ρ' r' done bD,RAt rg Γ X.K G1 (bt q H1) G' H' ρ' σ' i2 q r'/\mn ρ'/\H' acc=aa (.lst ys)/\G' acc=ac/\Reps Γ X.K G' ys done/\j1 (aM j2) ft fe (xs.drop n) ρ' r'=aa (bD,rz)/\done++bD=ds,?_,?_⟩
 .refine⟨xs.length,rfl,fu _,qy _,G1,fvR fv ρ,r0,[],ds,⟨⟨?_,A0.at'.env.of0 no0⟩,A0.sl,by rw[aX hap.symm];exact s1.here⟩,no0,b7,gacc,.nil,by rw[lN];exact h,rfl⟩;rw[tQ hap];exact Step.newOwn A1.at'.gh (by rw[dc hap];exact hacc)
 .rintro n m ys σ' H' ⟨hm,hi,hyi,G',ρ',r',done,bD,A',no',hacc',gacc',ry,hr,hd⟩;subst hm;refine⟨hacc',?_⟩;by_cases hlt:n<xs.length
  .right
   have hxi:xs[n]?=aa xs[n]:=by simp[hlt]
   obtain⟨go,yl⟩:=Y.go n _ G' H' hxi A'.at'.st.gg A'.gh;refine⟨go,fun x H2 hy=>?_⟩;obtain⟨G2,s2,v2⟩:=yl x H2 hy;have t2:=A'.pure s2;have A2:=A'.step t2;have hdr:xs.drop n=xs[n]::xs.drop (n+1):=ou hlt;rw[hdr] at hr;unfold j1 at hr;obtain⟨ρ1,h1,hr⟩:=oBd hr;obtain⟨⟨b,r2⟩,h2,hr⟩:=oBd hr;refine A2.tgt (i8 hj) v2 h1 fun σ2 A3=>⟨_,_,G2,ρ1,q,r',b,r2,A3,h2,fun G4 H4 s4=>?_⟩;have no1:mn ρ1:=by cases h1;exact LX no'
   have hb2:bt q H2 acc=aa (.lst ys):=by rw[dc hap];exact s2.hh _ _ hacc'
   have hb4:=s4.st.hh _ _ hb2;have hG4:G4 acc=ac:=(s4.st.out _ _ hb2).trans ((s2.out _ _ hacc').trans gacc');have A4:=A3.step s4;cases b with
   |false=>
    rw[qZ qv] at hr;refine gr ⟨xs.length-(n+1),by omega,rfl,hlt,by omega,G4,ρ1,r2,done,bD,A4,no1,(fW hb4).2,hG4,(ry.mono s2.gg).mono s4.st.gg,hr,hd⟩
   |true=>
    rw[qY rfl] at hr;obtain⟨⟨d,r3⟩,h3,hr⟩:=oBd hr;obtain⟨⟨zs,r4⟩,h5,hr⟩:=oMd hr;cases hr;refine ig ⟨_,_,G4,ρ1,q,r2,d,r3,A4,h3,fun v G5 H5 s5 v5=>?_⟩;have A5:=A4.step s5;have hb5:=s5.st.hh _ _ hb4;have hG5:G5 acc=ac:=(s5.st.out _ _ hb4).trans hG4;refine⟨(fW hb5).2,by omega,xs.length-(n+1),by omega,rfl,hlt,by rw[qk,qX];omega,G5,ρ1,r3,done++[d],zs,⟨⟨?_,A5.at'.env.of0 no1⟩,A5.sl,by rw[aX hap.symm];exact s5.here⟩,no1,b7,hG5,((((ry.mono s2.gg).mono s4.st.gg).mono s5.st.gg).append (.cons v5 .nil)),h5,by rw[qA];exact hd⟩;have st5:=A5.at'.st;rw[tQ hap];refine⟨fun b o e=>?_,st5.gg,fun b o e=>?_,st5.out⟩
    .rw[aX (ck e (by rw[dc hap];exact hacc))];exact st5.hh b o e
    .rw[aX (ck e hG5)];exact st5.gh b o e
  .left
   have e:n=xs.length:=by omega
   subst e;rw[rZ] at hr;cases hr;rw[eX] at hd;subst hd;refine⟨Y.stop G' H' A'.at'.st.gg A'.gh,?_⟩;have hf:H'=upd (bt acc H') acc (.lst ys):=by
    funext b
    by_cases hb:b=acc
    .subst hb;rw[b7];exact hacc'
    .rw[aX hb,dc hb]
   rw[hf];have st':=A'.at'.st;refine k acc ys G' (bt acc H') (s1.trans ⟨⟨fun b o e=>?_,st'.gg,fun b o e=>?_,st'.out⟩,by rw[dc hap.symm];exact A'.here⟩) jR ry
   .have hne:=(fW e).1;have hna:b≠acc:=ck (fW e).2 hacc;rw[dc hne,dc hna];exact(fW (st'.hh b o e)).2
   .have hne:=(fW (st'.gh b o e)).1;have hna:b≠acc:=ck e gacc';rw[dc hne,dc hna];exact A'.gh b o e
theorem Ko (hj:j2≠i2) (hfv:fv[i2]?=aa (aa i)) (hc:X.calm=ai) (S:CompScope X scope) (F:FvOk X N' scope fv) (hi:RI rg Γ X i tg iter fi) (hb:RB rg Γ X i2 j2 N' scope tg ifs elt ft fe) (hs:∀x,kA iter X.env x=pure x:=by intro _;rfl) :
  RO rg Γ X i (.ListComp elt [⟨tg,iter,ifs,0⟩] scope pos) (iB fi (aM j2) ft fe fv):=⟨(DV hc S F hi.1 hb.pb hs).imp (BO hj hfv)⟩
theorem IP (hji:j≠i):∀E σ H,kh rg Γ X.K i (aV j (rM fr fun l=>aa (.lst l))) E σ H->jV (sw rg Γ X.K i fr) (jh j) E σ H:=by rintro E σ H ⟨G₀,H₀,G,ρ,p,r,fl,ρ',r',A,h,k⟩;obtain⟨⟨d,r1⟩,hd,h⟩:=oMd h;obtain⟨ds,hd',e⟩:=fK hd;cases e;cases h;refine⟨G₀,H₀,G,ρ,p,r,ds,r1,A,hd',fun q vs G' H' s hq v1=>?_⟩;have A':=A.step s;have s2:=Step.new (o:=.lst vs) A'.gh hq;have t2:=A'.pure s2;exact k _ _ _ (s.st.gg.trans t2.st.gg) ⟨(A'.step t2).at'.setSh (.lst b7 (v1.mono s2.gg)),(kJ hji).trans A.sl,t2.here⟩
theorem wp (j:ag) (hN:X.N.Nodup) (hji:j≠i) (hj:j2≠i2) (hfv:fv[i2]?=aa (aa i)) (hc:X.calm=ai) (S:CompScope X scope) (F:FvOk X N' scope fv) (hi:RI rg Γ X i tg iter fi) (hb:RB rg Γ X i2 j2 N' scope tg ifs elt ft fe)
  (hy:X.N[j]?=aa y:=by rfl) (hyl:X.env.scope.names.lookup y=aa .local:=by rfl) (hsw:eE (.ListComp elt [⟨tg,iter,ifs,0⟩] scope pos) (aa (.Name y py)) spos.line X.env=pure ai:=by rfl) (hs:∀x,kA iter X.env x=pure x:=by intro _;rfl) :
  RS rg Γ X i (.Assign [.Name y py] (.ListComp elt [⟨tg,iter,ifs,0⟩] scope pos) spos) (aV j (rM (iB fi (aM j2) ft fe fv) fun l=>aa (.lst l))):=⟨(ww hN hy hyl hc S F hi.1 hb.pb hsw hs).imp fun E σ H q=>BO hj hfv σ H _ (IP hji E σ H q)⟩
end
section
variable {fa fb f:(FR R)} {fr:(FRa R)}
theorem fR (ha:RE rg Γ X i a fa) (hb:RE rg Γ X i b fb):RE rg Γ X i (.BinOp a .Add b pos) (r2 bA fa fb):=sH Az AM ha hb
theorem Kw (ha:RE rg Γ X i a fa) (hb:RE rg Γ X i b fb):RE rg Γ X i (.BinOp a .Sub b pos) (r2 eB fa fb):=sH En (BG fun x y z h=>by unfold eB at h;split at h<;>cases h;exact⟨_,_,rfl,rfl,rfl⟩) ha hb
theorem OF (ha:RE rg Γ X i a fa) (hb:RE rg Γ X i b fb):RE rg Γ X i (.BinOp a .FloorDiv b pos) (r2 kZ fa fb):=sH BE (n5 fun x y z h=>by
 unfold kZ at h;split at h
 .split at h<;>cases h;exact⟨_,_,rfl,rfl,by assumption,rfl⟩
 .cases h) ha hb
theorem zU (ha:RE rg Γ X i a fa) (hb:RE rg Γ X i b fb):RE rg Γ X i (.BinOp a .Mod b pos) (r2 ib fa fb):=sH Bh (n5 fun x y z h=>by
 unfold ib at h;split at h
 .split at h<;>cases h;exact⟨_,_,rfl,rfl,by assumption,rfl⟩
 .cases h) ha hb
noncomputable def spR (rg:Rg R) (Γ:Cn) (K:aR) (n:ag) (F:au->ab D->R->aq (D×R)):Sp:=fun vs H Q _=>∃G q r us ds d r',vs=.ref q::us/\bp G (bt q H)/\(∃o,H q=aa o/\rg.rc G r o)/\Reps Γ K G us ds/\ds.length=n/\F q ds r=aa (d,r')/\∀v G' H',RStep rg q r' G H G' H'->Rep Γ K G' v d->Q v H'
noncomputable def cC (n:ag) (g:(FRs R)):au->ab D->R->aq (D×R):=fun q ds r=>(g (aa (.pin q)::(ds.map (fun d=>aa (Slot.sh d))++bY n ac)) r).bind fun x=>match x.1 with
 |.rt d=>aa (d,x.2.2)
 |.nx=>aa (.non,x.2.2)
 |_=>ac
theorem Kt {us:ab V} {r:R} (gh:bp G (bt q H)) (hq:∃o,H q=aa o/\rg.rc G r o) (rv:Reps Γ K G us ds) (hm:m=N.length-(us.length+1)):RAt rg Γ K G (bt q H) G H (aa (.pin q)::(ds.map (fun d=>aa (Slot.sh d))++bY m ac)) (ee N (.ref q::us)) 0 q r:=by
 have B:=wT (N:=N.tail) (m:=m) gh rv (by rw[QD];omega);obtain⟨fps,h,ap⟩:=B.env.sl;have es:ee N (.ref q::us)=aa (.ref q)::ee N.tail us:=by
  unfold ee;rw[qp,qr,qh,QD]
  congr 3
  omega
 refine⟨⟨B.st,by rw[es,qh,qh,B.env.len],fun|0=>[]|j+1=>fps j,fun j s e=>?_,fun j k s t hjk e1 e2=>?_⟩,rfl,hq⟩
 .rw[es];cases j with
  |zero=>cases e;exact⟨_,rfl,.pin q⟩
  |succ j=>exact h j s e
 .cases j with
  |zero=>intro b hb;cases hb
  |succ j=>
   cases k with
   |zero=>intro b _ hb;cases hb
   |succ k=>exact ap j k s t (fun z=>hjk (by rw[z])) e1 e2
theorem Fun.okR {st:Stmt} {f:au} {k:ag} {g:(FRs R)} (F:Fun K x qual st f fd) (S:FnScope N (s0::ps) (aF st))
  (hbody:∀(cdv:av) (A:dj) (outer:ab cM) (s:aB) (H:Hp) (E:XK),Room k (A.deeper (dP qual (aF st) s.heap.objs.size f cdv))->
   RSs rg Γ (eN CX0 P w K mg base N qual (aF st) f cdv A outer s H E).nox 0 (cO st) g):FnOk P w K mg base CX0 (k+1) f fd (s0::ps) (spR rg Γ K ps.length (cC (N.length-(ps.length+1)) g)):=by
 refine F.ok S (fun vs H Q E h=>?_) (fun cdv A outer s H vs Q E hr h=>?_)
 .obtain⟨G,q,r,us,ds,d,r',rfl,_,_,rv,hl,_⟩:=h;rw[qh,qh,rv.length,hl]
 .obtain⟨G,q,r,us,ds,d,r',rfl,gh,hq,rv,hl,hd,k⟩:=h;refine⟨_,(hbody cdv A outer s H E hr).1,?_⟩;unfold cC at hd;obtain⟨⟨fl,ρ',r1⟩,hg,hd⟩:=oBd hd;refine⟨G,bt q H,G,_,q,r,fl,ρ',r1,Kt gh hq rv (by rw[rv.length,hl]),hg,fun σ' G' H' sm A'=>?_⟩;cases fl with
  |rt d'=>cases hd;exact fun v rv=>k v G' H' ⟨A'.at'.st,A'.here⟩ rv
  |nx=>cases hd;exact k .non G' H' ⟨A'.at'.st,A'.here⟩ .non
  |_=>cases hd
structure CalR {R:Type} (rg:Rg R) (Γ:Cn) (P:dD) (w:cS) (K:aR) (mg:ah->aq av) (base:Heap) (x:ah) (n k:ag) (F:au->ab D->R->aq (D×R)):Prop where
 ex:∃f fd ps,FnOk P w K mg base CX0 k f fd ps (spR rg Γ K n F)/\mg x=aa (.ref f)/\fY K (.ref f)=ai/\e8 K fd ps []
noncomputable def aI (F:au->ab D->R->aq (D×R)) (i:ag) (fr:(FRa R)):(FR R):=fun ρ r=>match ρ[i]? with
 |some (aa (.pin q))=>(fr ρ r).bind fun x=>F q x.1 x.2
 |_=>ac
theorem a9 {k:ag} {F:au->ab D->R->aq (D×R)} {q:fm} (C:CalR rg Γ X.prog X.w X.K X.mg X.base x n k F) (hr:Room j X.A) (hk:k<=j) (hg:Gl X x) (ha:RA rg Γ X i es fr) (hn:∀ρ r ds r',fr ρ r=aa (ds,r')->ds.length=n)
  (hN:X.N[i]?=aa y:=by rfl) (hv:Vis X.env.scope y:=by first|exact cz rfl|exact bT (cz rfl)|exact bT (bT rfl)) (hd:(y==("__debug__":ah))=ao:=by decide) (hcd:(y==("__classdict__":ah))=ao:=by decide)
  (hdb:(x==("__debug__":ah))=ao:=by decide) (he:aH (.Name y q::es) X.env=(ao,eval (.Name y q) X.env)::aH es X.env:=by rfl) (hpl:(ca pos (aH es X.env)).any (·.1)=ao:=by rfl) :
  RE rg Γ X i (.Call (.Name x p) (.Name y q::es) [] pos) (aI F i fr):=by
 obtain⟨f,fd,ps,h1,h2,h3,h4⟩:=C.ex;refine⟨(mD h1 (hr.mono hk) hg h2 h3 h4 .nil gJ (eY (dv hN hv hd hcd) ha.1 he) hdb he hpl).imp fun σ H Q=>?_⟩;rintro⟨G₀,H₀,G,ρ,p,r,d,r',A,h,k⟩;unfold aI at h;rw[A.sl] at h;obtain⟨⟨ds,r1⟩,hd,h⟩:=oBd h;refine⟨_,A.var,G₀,H₀,G,ρ,p,r,ds,r1,A,hd,fun vs G1 H1 s1 v1=>?_⟩;show spR rg Γ X.K n F (.ref p::(vs++[])) H1 Q E0;rw[eX];exact⟨G1,p,r1,vs,ds,d,r',rfl,(A.step s1).at'.gh,s1.here,v1,hn ρ r ds r1 hd,h,fun v G' H' s rv=>k v G' H' (s1.trans s) rv⟩
theorem Dfn.calR {st:Stmt} {k:ag} {g:(FRs R)} (F:Dfn K mg x st) (S:FnScope N (s0::ps) (aF st))
  (hb:∀(kV doc pm:av) (an:aq au) (cdv ct:av) (us:ab av),us.length=(s0::ps).length->fZ (eO x x (eT st) (cO st) (aF st) .none kV doc pm an cdv ct) ⟨us,[]⟩=pure ((s0::ps).zip us))
  (hbody:∀(f:au) (cdv:av) (A:dj) (outer:ab cM) (s:aB) (H:Hp) (E:XK),Room k (A.deeper (dP x (aF st) s.heap.objs.size f cdv))->
   RSs rg Γ (eN CX0 P w K mg base N x (aF st) f cdv A outer s H E).nox 0 (cO st) g):CalR rg Γ P w K mg base x ps.length (k+1) (cC (N.length-(ps.length+1)) g):=by
 obtain⟨f,fd,h1,h2⟩:=F.ex;exact⟨f,fd,s0::ps,h1.okR S (hbody f),h2,h1.kp,h1.binds hb⟩
theorem Dfn.noneR {st:Stmt} {k:ag} (F:Dfn K mg x st)
  (hb:∀(kV doc pm:av) (an:aq au) (cdv ct:av) (us:ab av),us.length=ps.length->fZ (eO x x (eT st) (cO st) (aF st) .none kV doc pm an cdv ct) ⟨us,[]⟩=pure (ps.zip us))
 : CalR rg Γ P w K mg base x n k (fun _ _ _=>ac):=by
 obtain⟨f,fd,h1,h2⟩:=F.ex;refine⟨f,fd,ps,⟨fun vs H Q E h=>?_,fun A outer s H args us vs Q E hr I b v h=>?_⟩,h2,h1.kp,h1.binds hb⟩
 .obtain⟨_,_,_,_,_,_,_,_,_,_,_,_,z,_⟩:=h;cases z
 .obtain⟨_,_,_,_,_,_,_,_,_,_,_,_,z,_⟩:=h;cases z
end
noncomputable def rgI:Rg aj:=⟨fun _ r o=>o=.lst [.int r],fun _ h=>h⟩
variable {pc:fm}
section
variable {f:FR aj}
noncomputable def uq:(FR aj):=fun _ r=>aa (.int r,r)
theorem AQ {kk} (hN:X.N[i]?=aa x:=by rfl) (hv:Vis X.env.scope x:=by first|exact cz rfl|exact bT (cz rfl)|exact bT (bT rfl)) (hd:(x==("__debug__":ah))=ao:=by decide) (hcd:(x==("__classdict__":ah))=ao:=by decide)
  (hs:tV (.Constant (.int 0) kk pc):=by intro _ _;rfl):RE rgI Γ X i (.Subscript (.Name x vp) (.Constant (.int 0) kk pc) pos) uq:=⟨(gK gY (dv hN hv hd hcd) gf hs).imp fun σ H Q=>by
 rintro⟨G₀,H₀,G,ρ,p,r,d,r',A,h,k⟩;cases h;obtain⟨_,hp,rfl⟩:=A.here;exact⟨_,A.var,.inl ⟨p,_,_,_,rfl,rfl,.inl (.inl hp),rfl,k _ G H A.refl (.int _)⟩⟩⟩
noncomputable def vK (f:(FR aj)):(FRs aj):=fun ρ r=>(f ρ r).bind fun x=>match x.1 with
 |.int n=>aa (.nx,ρ,n)
 |_=>ac
theorem Ka {kk} (h:RE rgI Γ X i e f) (hN:X.N[i]?=aa x:=by rfl) (hv:Vis X.env.scope x:=by first|exact cz rfl|exact bT (cz rfl)|exact bT (bT rfl)) (hd:(x==("__debug__":ah))=ao:=by decide) (hcd:(x==("__classdict__":ah))=ao:=by decide)
  (hs:EN [.Subscript (.Name x vp) (.Constant (.int 0) kk pc) p2] e pos.line X.env=pure ao:=by rfl) (hw:EO [.Subscript (.Name x vp) (.Constant (.int 0) kk pc) p2] e X.env=pure ac:=by rfl) :
  RS rgI Γ X i (.Assign [.Subscript (.Name x vp) (.Constant (.int 0) kk pc) p2] e pos) (vK f):=⟨(DZ h.1 (JA (dv hN hv hd hcd) gf G6) hs hw).imp fun E σ H=>by
  rintro⟨G₀,H₀,G,ρ,p,r,fl,ρ',r',A,h,k⟩;obtain⟨⟨d,r1⟩,hd,h⟩:=oBd h;cases d with
  |int n=>
   cases h;refine⟨G₀,H₀,G,ρ,p,r,_,r1,A,hd,fun u G2 H2 s2 v2=>⟨_,A.var,?_⟩⟩;have A2:=A.step s2;obtain⟨_,hp,rfl⟩:=s2.here;cases v2.int_inv;refine⟨p,[.int r1],0,0,rfl,rfl,hp,rfl,k σ G2 _ s2.st.gg ⟨?_,A.sl,_,b7,rfl⟩⟩;have e:bt p (upd H2 p (.lst ([V.int r1].set 0 (.int r'))))=bt p H2:=by
    funext b
    by_cases hb:b=p
    .subst hb;rw[jR,jR]
    .rw[dc hb,dc hb,aX hb]
   rw[e];exact A2.at'
  |_=>cases h⟩
open Classical in
noncomputable def nh (j:ag) (g:(FRs aj)):FS:=fun ρ=>match ρ[j]? with
 |some (aa (.own [.int r]))=>if h:∃z:Fl×bd ,∃r':aj,∀q,g (ρ.set j (aa (.pin q))) r=aa (z.1,z.2.set j (aa (.pin q)),r') then aa ((choose h).1,(choose h).2.set j ac) else ac
 |_=>ac
theorem At.drop (A:At Γ K G₀ H₀ G H ρ σ) (j:ag):At Γ K G₀ H₀ G H (ρ.set j ac) σ:=by
 obtain⟨fps,h,ap⟩:=A.env.sl;have key:∀(k:ag) s,(ρ.set j ac)[k]?=aa (aa s)->ρ[k]?=aa (aa s):=fun k s e=>by
  by_cases hk:j=k
  .subst hk;rcases iu j ρ.length with z|z
   .rw[ik z] at e;cases e
   .rw[yQ (by simp;omega)] at e;cases e
  .rwa [qC hk] at e
 exact⟨A.st,by simp[A.env.len],fps,fun k s e=>h k s (key k s e),fun k l s t hkl e1 e2=>ap k l s t hkl (key _ _ e1) (key _ _ e2)⟩
theorem At.reg {r:aj} (A:At Γ K G₀ H₀ G H ρ σ) (hj:ρ[j]?=aa (aa (.own [.int r]))):∃q,RAt rgI Γ K G₀ H₀ G H (ρ.set j (aa (.pin q))) σ j q r:=by
 obtain⟨fps,h,ap⟩:=A.env.sl;obtain⟨v,h1,h2⟩:=h j _ hj;have lt:j < ρ.length:=(gA.mp hj).1;generalize hf:fps j=fp at h2;cases h2 with
 |own q1 q2 q3 q4=>
  rename_i a vs;obtain⟨v,rfl,rv⟩:=q4.one;cases rv.int_inv;have ne0:∀b o,H₀ b=aa o->b≠a:=fun b o e z=>by subst z;rw[q1] at e;cases e
  have neg:∀b o,G b=aa o->b≠a:=fun b o e z=>by subst z;rw[q2] at e;cases e
  have old:∀(k:ag) s,k≠j->(ρ.set j (aa (.pin a)))[k]?=aa (aa s)->ρ[k]?=aa (aa s):=fun k s hk e=>by rwa [qC (em hk)] at e
  refine⟨a,⟨⟨fun b o e=>by rw[dc (ne0 b o e)];exact A.st.hh b o e,A.st.gg,fun b o e=>by rw[dc (neg b o e)];exact A.st.gh b o e,A.st.out⟩,by simp[A.env.len],fun k=>if k=j then [] else fps k,fun k s e=>?_,fun k l s t hkl e1 e2 b hb hb2=>?_⟩,by rw[ik lt],_,q3,rfl⟩
  .by_cases hk:k=j
   .subst hk;rw[ik lt] at e;cases e;show ∃v,_/\SR _ _ _ _ _ _ v (if k=k then [] else fps k);rw[qY rfl];exact⟨_,h1,.pin a⟩
   .show ∃v,_/\SR _ _ _ _ _ _ v (if k=j then [] else fps k);rw[qZ hk];obtain⟨v,h3,h4⟩:=h k s (old k s hk e);refine⟨v,h3,h4.stay (.refl G) (fun b hb=>(h4.fpt b hb).2.1) fun b hb=>dc fun z=>?_⟩;subst z;exact ap k j s _ hk (old k s hk e) hj b hb (by rw[hf];exact qf)
  .replace hb:b∈(if k=j then [] else fps k):=hb
   replace hb2:b∈(if l=j then [] else fps l):=hb2
   by_cases hk:k=j
   .rw[qY hk] at hb;cases hb
   .by_cases hl:l=j
    .rw[qY hl] at hb2;cases hb2
    .rw[qZ hk] at hb;rw[qZ hl] at hb2;exact ap k l s t hkl (old k s hk e1) (old l t hl e2) b hb hb2
theorem I0 {g:(FRs aj)} (h:RSs rgI Γ X j sts g):DSs Γ X sts (nh j g):=⟨h.1.imp fun E σ H=>by
 rintro⟨G₀,H₀,G,ρ,fl,ρ',A,h,k⟩;unfold nh at h;split at h
 .rename_i r hj;split at h
  .rename_i hz;cases h;obtain⟨q,B⟩:=A.reg hj;obtain⟨r',hz'⟩:=zk hz;refine⟨G₀,H₀,G,_,q,r,_,_,r',B,hz' q,fun σ' G' H' sm A'=>k σ' G' H' sm ?_⟩;have:=A'.full.drop j
   rwa [vD] at this
  .cases h
 .cases h⟩
theorem L5 {g:(FRs aj)} {r r':aj} {fl:Fl} (h1:ρ[j]?=aa (aa (.own [.int r]))) (h2:∀q,g (ρ.set j (aa (.pin q))) r=aa (fl,ρ'.set j (aa (.pin q)),r')):nh j g ρ=aa (fl,ρ'.set j ac):=by unfold nh;rw[h1];have hz:∃z:Fl×bd,∃r':aj,∀q,g (ρ.set j (aa (.pin q))) r=aa (z.1,z.2.set j (aa (.pin q)),r'):=⟨(fl,ρ'),r',h2⟩;show(@dite _ _ (F1 _) _ _)=_;rw[dif_pos hz];obtain⟨r1,hc⟩:=zk hz;have e:=(hc 0).symm.trans (h2 0);have e1:=qK e;have e2:(zl hz).1=fl:=c7 (·.1) e1;have e3:(zl hz).2.set j (aa (.pin 0))=ρ'.set j (aa (.pin 0)):=c7 (·.2.1) e1;have e4:=c7 (fun l:bd=>l.set j ac) e3;simp only[vD] at e4;rw[e2,e4]
end
noncomputable def fJ:FQ
 |[.str x]=>aa (.str x)
 |[.int i]=>if i.natAbs.log2<1920 then aa (.str (rH i)) else ac
 |_=>ac
theorem Ih:gn X (.type "str") (fun xs H Q=>(∃i,xs=[.int i]/\i.natAbs.log2<1920/\Q (.str (rH i)) H)\/∃x,xs=[.str x]/\Q (.str x) H):=by
 intro pins s σ H xs us Q I r h;rcases h with h|⟨x,rfl,q⟩
 .exact JL pins s σ H xs us Q I r h
 .obtain⟨u,rfl,t,rfl⟩:=fU r;exact PySem.P.str_of_str ⟨.str _,H,I,⟨_,rfl⟩,q⟩
theorem nO:TyD Γ X "str" fJ:=⟨_,Ih,fun {G H vs ds z} gh r h Q k=>by
 unfold fJ at h;split at h
 .cases h;obtain⟨v,rfl,r1⟩:=r.one;cases r1.str_inv;exact .inr ⟨_,rfl,k _ G H (.refl gh) (.str _)⟩
 .split at h
  .cases h;obtain⟨v,rfl,r1⟩:=r.one;cases r1.int_inv;exact .inl ⟨_,rfl,by assumption,k _ G H (.refl gh) (.str _)⟩
  .cases h
 .cases h⟩
noncomputable def xC (i j:aj):Prop:=i.natAbs.log2<4000/\j.natAbs.log2<4000
theorem xC.ok {i j:aj} (h:xC i j):ER i j:=by
 have e:∀k:aj,k.natAbs.log2<4000->zm k<=4000:=fun k hk=>by unfold zm;split<;>omega
 have h1:=e i h.1;have h2:=e j h.2;have hb:¬((zm i:aj)+(zm j:aj) > bitsLine):=by
  have:(8000:aj)<=bitsLine:=by decide
  omega
 unfold ER R9;rw[qQ hb];simp
noncomputable def pv:D->D->aq D
 |.int i,.int j=>if i.natAbs.log2<4000/\j.natAbs.log2<4000 then aa (.int (i*j)) else ac
 |_,_=>ac
theorem GT:OpR X (gB .Mult) (rI xC fun i j=>.int (i*j)):=opI fun _ _ _ _ _ _ _ hc q=>mul_int q hc.ok
theorem HK (ha:DE Γ X a fa) (hb:DE Γ X b fb):DE Γ X (.BinOp a .Mult b pos) (b2 pv fa fb):=my GT (n5 fun x y z h=>by
 unfold pv at h;split at h
 .split at h<;>cases h;exact⟨_,_,rfl,rfl,by assumption,rfl⟩
 .cases h) ha hb
theorem Jr (hji:j≠i):∀E σ H,kh rg Γ X.K i (aV j (rP (aL fr))) E σ H->jV (TDo Γ X.K fr) (jh j) E σ H:=by rintro E σ H ⟨G₀,H₀,G,ρ,p,r,fl,ρ',r',A,h,k⟩;obtain⟨⟨d,r1⟩,hd,h⟩:=oMd h;obtain⟨hd',rfl⟩:=ko hd;obtain⟨ds,hd'',rfl⟩:=oMd hd';cases h;refine⟨G₀,H₀,G,ρ,ds,A.full,hd'',fun q vs G' H' s hq v1=>?_⟩;have s1:=A.pure s;have A':=A.step s1;have s2:=Step.new (o:=.lst vs) A'.gh hq;have t2:=A'.pure s2;exact k _ _ _ (s1.st.gg.trans t2.st.gg) ⟨(A'.step t2).at'.setSh (.lst b7 (v1.mono s2.gg)),(kJ hji).trans A.sl,t2.here⟩
theorem LV (j:ag) (hN:X.N.Nodup) (hji:j≠i) (hc:X.calm=ai) (S:CompScope X scope) (F:FvOk X N' scope fv) (hi:DI Γ X tg iter fi) (hb:DB Γ X N' scope tg ifs elt gg ft fe)
  (hy:X.N[j]?=aa y:=by rfl) (hyl:X.env.scope.names.lookup y=aa .local:=by rfl) (hsw:eE (.ListComp elt [⟨tg,iter,ifs,0⟩] scope pos) (aa (.Name y py)) spos.line X.env=pure ai:=by rfl) (hs:∀x,kA iter X.env x=pure x:=by intro _;rfl) :
  RS rg Γ X i (.Assign [.Name y py] (.ListComp elt [⟨tg,iter,ifs,0⟩] scope pos) spos) (aV j (rP (aL (bQ fi gg ft fe fv)))):=⟨(ww hN hy hyl hc S F hi.1 hb.pb hsw hs).imp fun E σ H q=>xO (hb.1 [] 0 X.s₀ X.H₀ []).1.no σ H _ (Jr hji E σ H q)⟩
theorem lr0:∀(ρ:bd) (r:R) ds r',rP af ρ r=aa (ds,r')->ds.length=0:=fun _ _ _ _=>GC
theorem lr1 {a:(FR R)} :∀(ρ:bd) r ds r',aw a (rP af) ρ r=aa (ds,r')->ds.length=1:=ma lr0
theorem lr2 {a b:(FR R)} :∀(ρ:bd) r ds r',aw a (aw b (rP af)) ρ r=aa (ds,r')->ds.length=2:=ma lr1
theorem lr3 {a b c:(FR R)} :∀(ρ:bd) r ds r',aw a (aw b (aw c (rP af))) ρ r=aa (ds,r')->ds.length=3:=ma lr2
theorem lr7 {a b c d e f g:(FR R)} :∀(ρ:bd) r ds r',aw a (aw b (aw c (aw d (aw e (aw f (aw g (rP af))))))) ρ r=aa (ds,r')->ds.length=7:=ma (ma (ma (ma lr3)))
noncomputable def inT (x y:D):aq aU:=(pdD x).bind fun p=>(pdD y).bind fun q=>match q with
 |.tuple l=>if gG p=ai/\kF l=ai then aa (l.any fun z=>f8 z p) else ac
 |_=>ac
theorem Ni (hu:X.A.units+66<dO):OpR X (eD .In) (fun x y H Q=>∃G d e b,bp G H/\Rep Γ X.K G x d/\Rep Γ X.K G y e/\inT d e=aa b/\Q (.bl b) H):=by
 intro pins s σ H x y v u Q I rx ry h;obtain⟨G,d,e,b,gh,r1,r2,hb,q⟩:=h;unfold inT at hb;obtain⟨p,hp,hb⟩:=oBd hb;obtain⟨t,ht,hb⟩:=oBd hb;split at hb
 .split at hb
  .rename_i l hz;cases hb;obtain⟨as,a1⟩:=r1.reads I gh rx hp;obtain⟨bs,a2⟩:=r2.reads I gh ry ht;obtain⟨c1,c2⟩:=wU hz.1;have:=u9 (ox l) p.depth;exact SeqAt.in_tuple_reads a2 a1 hz.2 c1 (by omega) ⟨.bl _,H,I,rfl,q⟩
  .cases hb
 .cases hb
abbrev Fs:=ab (ah×D)
noncomputable def rcO (Γ:Cn) (K:aR) (c:ah) (G:Hp) (fs:Fs) (o:HO):Prop:=∃(C dx:au) (vs:ab (ah×V)),Γ.cls c=aa C/\o=.ins C dx vs/\vs.map (·.1)=fs.map (·.1)/\Reps Γ K G (vs.map (·.2)) (fs.map (·.2))
theorem KF {c:ah} {fs:Fs} {o:HO} (sm:bp G G') (h:rcO Γ K c G fs o):rcO Γ K c G' fs o:=by obtain⟨C,dx,vs,h1,h2,h3,h4⟩:=h;exact⟨C,dx,vs,h1,h2,h3,h4.mono sm⟩
noncomputable def rgO (Γ:Cn) (K:aR) (c:ah):Rg Fs:=⟨rcO Γ K c,KF⟩
noncomputable def pi (f:ah) (v:D):Fs->Fs
 |[]=>[(f,v)]
 |(g,x)::r=>if g=f then (g,v)::r else (g,x)::pi f v r
theorem AE {Γ:Cn} {K:aR} {G:Hp} {f:ah} {v:V} {d:D} (rv:Rep Γ K G v d):∀{vs:ab (ah×V)} {fs:Fs},vs.map (·.1)=fs.map (·.1)->Reps Γ K G (vs.map (·.2)) (fs.map (·.2))->
  (eF f v vs).map (·.1)=(pi f d fs).map (·.1)/\Reps Γ K G ((eF f v vs).map (·.2)) ((pi f d fs).map (·.2))
 |[],[],_,_=>⟨rfl,.cons rv .nil⟩
 |(g,x)::r,(g',x')::r',h1,h2=>by
  obtain⟨e1,e2⟩:=ir h1;cases e1;cases h2 with
  |cons q1 q2=>
   unfold eF pi;by_cases hg:g=f
   .rw[qY hg,qY hg];exact⟨by simp only[qp];rw[e2],.cons rv q2⟩
   .rw[qZ hg,qZ hg];obtain⟨a1,a2⟩:=AE rv e2 q2;exact⟨by simp only[qp];rw[a1],.cons q1 a2⟩
section
variable {f:FR Fs} {fr:FRa Fs} {c fl m:ah}
noncomputable def eK (fl:ah):FR Fs:=fun _ fs=>(fs.lookup fl).map fun d=>(d,fs)
theorem j8 (hc:CF Γ K c attrs) (hf:fl∈attrs) (hK:X.K=K:=by rfl) (hN:X.N[i]?=aa x:=by rfl) (hv:Vis X.env.scope x:=by first|exact cz rfl|exact bT (cz rfl)|exact bT (bT rfl)) (hd:(x==("__debug__":ah))=ao:=by decide)
  (hcd:(x==("__classdict__":ah))=ao:=by decide) (hb:iU (.Name x vp) fl X.env (eval (.Name x vp) X.env)=eval (.Name x vp) X.env:=by rfl):RE (rgO Γ K c) Γ X i (.Attribute (.Name x vp) fl pos) (eK fl):=by
 subst hK;exact⟨(sO (dv hN hv hd hcd) hb).imp fun σ H Q=>by
 rintro⟨G₀,H₀,G,ρ,p,r,d,r',A,h,k⟩;unfold eK at h;obtain⟨d',hd',h⟩:=oMd h;cases h;obtain⟨o,ho,C,dx,vs,g1,rfl,g2,g3⟩:=A.here;obtain⟨C',q1,q2,q3⟩:=hc.ex;rw[q1] at g1;cases g1;rcases ii (k:=fl) g2 g3 with⟨z1,_⟩|⟨d',v',z1,z2,z3⟩
 .rw[z1] at hd';cases hd'
 .rw[z1] at hd';cases hd';exact⟨_,A.var,p,_,dx,vs,v',rfl,ho,q2,q3 fl hf,z2,k v' G H A.refl z3⟩⟩
noncomputable def pH (fl:ah) (f:FR Fs):FRs Fs:=fun ρ r=>(f ρ r).bind fun z=>if z.2.length<1000 then aa (.nx,ρ,pi fl z.1 z.2) else ac
theorem Ae (hc:CF Γ K c attrs) (hf:fl∈attrs) (h:RE (rgO Γ K c) Γ X i value f) (hK:X.K=K:=by rfl) (hN:X.N[i]?=aa x:=by rfl) (hv:Vis X.env.scope x:=by first|exact cz rfl|exact bT (cz rfl)|exact bT (bT rfl)) (hd:(x==("__debug__":ah))=ao:=by decide)
  (hcd:(x==("__classdict__":ah))=ao:=by decide) (hs:eE value (aa (.Attribute (.Name x vp) fl pos')) pos.line X.env=pure ao:=by rfl):RS (rgO Γ K c) Γ X i (.Assign [.Attribute (.Name x vp) fl pos'] value pos) (pH fl f):=by
 subst hK;exact⟨(yb (dv hN hv hd hcd) h.1 hs).imp fun E σ H=>by
 rintro⟨G₀,H₀,G,ρ,p,r,flw,ρ',r',A,h,k⟩;unfold pH at h;obtain⟨⟨d,r1⟩,hd,h⟩:=oBd h;split at h
 .rename_i hz;cases h;refine⟨G₀,H₀,G,ρ,p,r,d,r1,A,hd,fun v G1 H1 s1 v1=>⟨_,A.var,?_⟩⟩;have A1:=A.step s1;obtain⟨o,ho,C,dx,vs,g1,rfl,g2,g3⟩:=s1.here;obtain⟨C',q1,q2,q3⟩:=hc.ex;have g1':=g1;rw[q1] at g1;cases g1;have hlen:vs.length=r1.length:=by simpa using c7 gE g2
  obtain⟨p1,p2⟩:=AE (f:=fl) v1 g2 g3;refine⟨p,_,dx,vs,rfl,ho,q2,q3 fl hf,by rw[hlen];exact hz,k σ G1 _ s1.st.gg ⟨?_,A.sl,_,b7,_,dx,_,g1',rfl,p1,p2⟩⟩;have e:∀w,bt p (upd H1 p w)=bt p H1:=fun w=>by
   funext b
   by_cases hb:b=p
   .subst hb;rw[jR,jR]
   .rw[dc hb,dc hb,aX hb]
  rw[e];exact A1.at'
 .cases h⟩
structure CalMR (Γ:Cn) (P:dD) (w:cS) (K:aR) (mg:ah->aq av) (base:Heap) (c m:ah) (n k:ag) (F:au->ab D->Fs->aq (D×Fs)):Prop where
 ex:∃C f fd ps,Γ.cls c=aa C/\Cls K C/\Meth K C m f/\FnOk P w K mg base CX0 k f fd ps (spR (rgO Γ K c) Γ K n F)/\e8 K fd ps []
noncomputable def bO (m:ah) (F:au->ab D->Fs->aq (D×Fs)) (i:ag) (fr:FRa Fs):FR Fs:=fun ρ r=>match ρ[i]? with
 |some (aa (.pin q))=>if r.lookup m=ac then (fr ρ r).bind fun x=>F q x.1 x.2 else ac
 |_=>ac
theorem dS {k:ag} {F:au->ab D->Fs->aq (D×Fs)} (C:CalMR Γ X.prog X.w K X.mg X.base c m 0 k F) (hr:Room j X.A) (hk:k<=j) (hK:X.K=K:=by rfl) (hN:X.N[i]?=aa x:=by rfl) (hv:Vis X.env.scope x:=by first|exact cz rfl|exact bT (cz rfl)|exact bT (bT rfl))
  (hd:(x==("__debug__":ah))=ao:=by decide) (hcd:(x==("__classdict__":ah))=ao:=by decide)
  (ht:eval (.Call (.Attribute (.Name x vp) m apos) [] [] pos) X.env=(do
   let ov ←eval (.Name x vp) X.env
   iQ apos.atName
   let (f,first) ←fD [ov] (kC ov m pl)
   lI pos f first (ca pos (aH [] X.env)) (gC pos (gD [] X.env))):=by rfl) :
  RE (rgO Γ K c) Γ X i (.Call (.Attribute (.Name x vp) m apos) [] [] pos) (bO m F i (rP af)):=⟨by
 subst hK;obtain⟨Ca,f,fd,ps,h0,h1,h2,h3,h4⟩:=C.ex;refine(Ce (dv hN hv hd hcd) h1 h2 h3 (hr.mono hk) h4 .nil gJ ht).imp fun σ H Q=>?_;rintro⟨G₀,H₀,G,ρ,p,r,d,r',A,h,k⟩;unfold bO at h;rw[A.sl] at h
 replace h:(if r.lookup m=ac then (rP af ρ r).bind fun x=>F p x.1 x.2 else ac)=aa (d,r'):=h
 split at h
 .rename_i hz;have h:F p [] r=aa (d,r'):=h;obtain⟨o,ho,C,dx,vs,g1,rfl,g2,g3⟩:=A.here;have g1':=g1;rw[h0] at g1;cases g1;have hl:dN m vs=ac:=by
   rcases ii (k:=m) g2 g3 with⟨_,z2⟩|⟨d',v',z1,_,_⟩
   .exact z2
   .rw[z1] at hz;cases hz
  refine⟨_,A.var,p,dx,vs,rfl,ho,hl,?_⟩;exact⟨G,p,r,[],[],d,r',rfl,A.at'.gh,⟨_,ho,Ca,dx,vs,g1',rfl,g2,g3⟩,.nil,rfl,h,fun v G' H' s rv=>k v G' H' s rv⟩
 .cases h⟩
theorem JD {k:ag} {F:au->ab D->Fs->aq (D×Fs)} (C:CalMR Γ X.prog X.w K X.mg X.base c m n k F) (hr:Room j X.A) (hk:k<=j) (ha:RA (rgO Γ K c) Γ X i (e::es) fr) (hn:∀ρ r ds r',fr ρ r=aa (ds,r')->ds.length=n)
  (hkeep:∀ρ r ds r',r.lookup m=ac->fr ρ r=aa (ds,r')->r'.lookup m=ac)
  (hK:X.K=K:=by rfl) (hN:X.N[i]?=aa x:=by rfl) (hv:Vis X.env.scope x:=by first|exact cz rfl|exact bT (cz rfl)|exact bT (bT rfl))
  (hd:(x==("__debug__":ah))=ao:=by decide) (hcd:(x==("__classdict__":ah))=ao:=by decide)
  (hst:aH (e::es) X.env=(ao,eval e X.env)::aH es X.env:=by rfl) (hpl:(ca pos (aH es X.env)).any (·.1)=ao:=by rfl)
  (ht:eval (.Call (.Attribute (.Name x vp) m apos) (e::es) [] pos) X.env=(do
   let ov ←eval (.Name x vp) X.env
   iQ apos.atName
   let (f,first) ←fD [ov] (kC ov m pl)
   lI pos f first (ca pos (aH (e::es) X.env)) (gC pos (gD [] X.env))):=by rfl) :
  RE (rgO Γ K c) Γ X i (.Call (.Attribute (.Name x vp) m apos) (e::es) [] pos) (bO m F i fr):=⟨by
 subst hK;obtain⟨Ca,f,fd,ps,h0,h1,h2,h3,h4⟩:=C.ex;refine(zA (dv hN hv hd hcd) h1 h2 h3 (hr.mono hk) h4 .nil gJ ha.1 hst hpl ht).imp fun σ H Q=>?_;rintro⟨G₀,H₀,G,ρ,p,r,d,r',A,h,k⟩;unfold bO at h;rw[A.sl] at h
 replace h:(if r.lookup m=ac then (fr ρ r).bind fun x=>F p x.1 x.2 else ac)=aa (d,r'):=h
 split at h
 .rename_i hz;obtain⟨⟨ds,r1⟩,hds,h⟩:=oBd h;obtain⟨o,ho,C,dx,vs,g1,rfl,g2,g3⟩:=A.here;have g1':=g1;rw[h0] at g1;cases g1;have hl:dN m vs=ac:=by
   rcases ii (k:=m) g2 g3 with⟨_,z2⟩|⟨d',v',z1,_,_⟩
   .exact z2
   .rw[z1] at hz;cases hz
  refine⟨_,A.var,p,dx,vs,rfl,ho,hl,?_⟩;refine⟨G₀,H₀,G,ρ,p,r,ds,r1,A,hds,fun ws G1 H1 s1 v1=>?_⟩;show spR _ Γ X.K n F (.ref p::(ws++[])) H1 Q E0;rw[eX];exact⟨G1,p,r1,ws,ds,d,r',rfl,(A.step s1).at'.gh,s1.here,v1,hn ρ r ds r1 hds,h,fun v G' H' s rv=>k v G' H' (s1.trans s) rv⟩
 .cases h⟩
theorem DfnM.calR {st:Stmt} {k:ag} {g:FRs Fs} (O:ClsOk Γ K mg c C) (F:DfnM K C c m qual st) (S:FnScope N (s0::ps) (aF st))
  (hb:∀(kV doc pm:av) (an:aq au) (cdv ct:av) (us:ab av),us.length=(s0::ps).length->fZ (eO m qual (eT st) (cO st) (aF st) .none kV doc pm an cdv ct) ⟨us,[]⟩=pure ((s0::ps).zip us))
  (hbody:∀(f:au) (cdv:av) (A:dj) (outer:ab cM) (s:aB) (H:Hp) (E:XK),Room k (A.deeper (dP qual (aF st) s.heap.objs.size f cdv))->
   RSs (rgO Γ K c) Γ (eN CX0 P w K mg base N qual (aF st) f cdv A outer s H E).nox 0 (cO st) g):CalMR Γ P w K mg base c m ps.length (k+1) (cC (N.length-(ps.length+1)) g):=by
 obtain⟨f,fd,h1,h2,h3⟩:=F.ex;exact⟨C,f,fd,s0::ps,O.cn,O.cl,⟨h2,h3,h1.kp⟩,h1.okR S (hbody f),h1.binds hb⟩
end
noncomputable def tj (n:ag) (c:ah) (g:FS):ab D->aq Fs:=fun ds=>(g (aa (.obj c [])::ds.map (fun d=>aa (Slot.sh d))++bY n ac)).bind fun r=>match r.1 with
 |.nx=>match r.2[0]? with
  |some (aa (Slot.obj c' fs))=>if c'=c then aa fs else ac
  |_=>ac
 |_=>ac
noncomputable def zH (Γ:Cn) (K:aR) (C:au) (c:ah) (n:ag) (F:ab D->aq Fs):Sp:=fun vs H Q _=>∃x dx H1 G ds fs us,vs=.ref x::us/\H=upd (upd H1 dx (.own x)) x (.ins C dx [])/\H1 x=ac/\H1 dx=ac/\dx≠x/\bp G H1/\Reps Γ K G us ds/\ds.length=n/\F ds=aa fs /\
 ∀G' H',Step G H1 G' (bt x H')->(∃o,H' x=aa o/\(rgO Γ K c).rc G' fs o)->Q .non H'
section
variable {c:ah}
theorem Fun.okIR {st:Stmt} {f:au} {k:ag} (F:Fun K x qual st f fd) (S:FnScope N (s0::ps) (aF st)) (hC:Γ.cls c=aa C)
  (hbody:∀(y:au) (cdv:av) (A:dj) (outer:ab cM) (s:aB) (H:Hp) (E:XK),Room k (A.deeper (dP qual (aF st) s.heap.objs.size f cdv))->
   DSs (Γ.mk1 y) (eN CX0 P w K mg base N qual (aF st) f cdv A outer s H E).nox (cO st) g):FnOk P w K mg base CX0 (k+1) f fd (s0::ps) (zH Γ K C c ps.length (tj (N.length-(ps.length+1)) c g)):=by
 refine F.ok S (fun vs H Q E h=>?_) (fun cdv A outer s H vs Q E hr h=>?_)
 .obtain⟨y,dx,H1,G,ds,d,us,rfl,_,_,_,_,_,r,hl,_⟩:=h;rw[qh,r.length,hl,qh]
 .obtain⟨y,dx,H1,G,ds,fs0,us,rfl,rfl,hx,hdx,hne,gh,r,hl,hd,k⟩:=h;refine⟨_,(hbody y cdv A outer s _ E hr).1,?_⟩;unfold tj at hd;obtain⟨⟨fl,ρ'⟩,hg,hd⟩:=oBd hd;have s1:=Step.newOwn (o:=.own y) gh hdx;have hx1:(upd H1 dx (.own y)) y=ac:=by rw[aX (em hne)];exact hx
  have s2:=s1.trans (Step.newOwn (o:=.ins C dx []) s1.gh hx1);have hlen:us.length=ds.length:=r.length;have A0:At (Γ.mk1 y) K G H1 G (upd (upd H1 dx (.own y)) y (.ins C dx [])) (aa (.obj c [])::ds.map (fun d=>aa (Slot.sh d))++bY (N.length-(ps.length+1)) ac) (ee N (.ref y::us)):=by
   refine⟨s2,by simp[ee,hlen,hl],fun i=>if i=0 then [y] else [],fun i t e=>?_,fun i j t u hij e1 e2 b hb=>?_⟩
   .cases i with
    |zero=>
     cases e;exact⟨.ref y,rfl,.obj (vs:=[]) (fs:=[]) hC hx (gh.free hx) b7 rfl .nil rfl⟩
    |succ i=>
     have e:(ds.map (fun d=>aa (Slot.sh d))++bY (N.length-(ps.length+1)) ac)[i]?=aa (aa t):=e;by_cases hi:i<ds.length
     .rw[qD (by simpa using hi),ql] at e;obtain⟨d',hd',e⟩:=oMd e;cases e;obtain⟨v,hv,rv⟩:=r.get hd';refine⟨v,?_,.sh (rv.to1 y)⟩;unfold ee;show((us.map aa)++_)[i]?=aa (aa v);rw[qD (by rw[qe,hlen];exact hi),ql,hv];rfl
     .rw[qN (by simpa using hi),u7] at e;split at e<;>cases e
   .have hb:b∈(if i=0 then [y] else []):=hb;show b∉(if j=0 then [y] else []);by_cases hi:i=0
    .subst hi;rw[qZ (em hij)];exact fun z=>by cases z
    .rw[qZ hi] at hb;cases hb
  refine⟨G,H1,G,_,fl,ρ',A0,hg,fun σ' G' H' sm A'=>?_⟩;cases fl with
  |nx=>
   simp only at hd;split at hd
   .rename_i c' fs hs;split at hd
    .rename_i hcc;cases hd;subst hcc;obtain⟨v,fp,h1,h2⟩:=A'.get hs;cases h2 with
     |obj g1 g2 g3 g4 g5 g6 g7=>
      cases g7;refine k G' H' ⟨fun b o e=>?_,A'.st.gg,fun b o e=>?_,A'.st.out⟩ ⟨_,g4,_,_,_,g1,rfl,g5,g6.of1⟩
      .rw[dc (ck e hx)];exact A'.st.hh b o e
      .rw[dc (ck e g3)];exact A'.gh b o e
    .cases hd
   .cases hd
  |rt d'=>cases hd
  |ow d'=>cases hd
  |nw d'=>cases hd
  |od d'=>cases hd
  |bk=>cases hd
  |ct=>cases hd
structure CalIR (Γ:Cn) (P:dD) (w:cS) (K:aR) (mg:ah->aq av) (base:Heap) (c:ah) (n k:ag) (F:ab D->aq Fs):Prop where
 ex:∃C f fd ps,Γ.cls c=aa C/\Mk K C f/\mg c=aa (.ref C)/\FnOk P w K mg base CX0 k f fd ps (zH Γ K C c n F)/\e8 K fd ps []
theorem DfnM.calIR {st:Stmt} {k:ag} (O:ClsOk Γ K mg c C) (F:DfnM K C c "__init__" qual st) (S:FnScope N (s0::ps) (aF st))
  (hb:∀(kV doc pm:av) (an:aq au) (cdv ct:av) (us:ab av),us.length=(s0::ps).length->fZ (eO "__init__" qual (eT st) (cO st) (aF st) .none kV doc pm an cdv ct) ⟨us,[]⟩=pure ((s0::ps).zip us))
  (hbody:∀(f y:au) (cdv:av) (A:dj) (outer:ab cM) (s:aB) (H:Hp) (E:XK),Room k (A.deeper (dP qual (aF st) s.heap.objs.size f cdv))->
   DSs (Γ.mk1 y) (eN CX0 P w K mg base N qual (aF st) f cdv A outer s H E).nox (cO st) g):CalIR Γ P w K mg base c ps.length (k+1) (tj (N.length-(ps.length+1)) c g):=by
 obtain⟨f,fd,h1,h2,h3⟩:=F.ex;exact⟨C,f,fd,s0::ps,O.cn,⟨O.makes,h2,h3,O.kp⟩,O.mgC,h1.okIR S O.cn (hbody f),h1.binds hb⟩
end
section
variable {c:ah} {bD:ab Stmt} {g:FRs Fs}
theorem At.setPin (A:At Γ K G₀ H₀ G H ρ σ) (i:ag) (a:au):At Γ K G₀ H₀ G H (ρ.set i (aa (.pin a))) (σ.set i (aa (.ref a))):=
 A.put (fp:=[]) (fp':=[]) (.inl rfl) (fun b o e _=>e) (.pin a) (fun b hb=>by cases hb) (.refl _) A.gh (fun _ _ _ _=>rfl) (fun b hb=>by cases hb)
open Classical in
noncomputable def pj (j:ag) (F:ab D->aq Fs) (fr:FA) (g:FRs Fs):FS:=fun ρ=>(fr ρ).bind fun ds=>(F ds).bind fun fs=>if j < ρ.length then
 if h:∃z:Fl×bd,∃r':Fs,∀q,g (ρ.set j (aa (.pin q))) fs=aa (z.1,z.2.set j (aa (.pin q)),r') then aa ((choose h).1,(choose h).2.set j ac) else ac else ac
theorem GK {k jj:ag} {F:ab D->aq Fs} (C:CalIR Γ X.prog X.w X.K X.mg X.base c n k F) (hr:Room jj X.A) (hk:k+1<=jj) (hg:Gl X c) (ha:DA Γ X (e::es) fr) (hn:∀ρ ds,fr ρ=aa ds->ds.length=n) (hN:X.N.Nodup) (h:RSs (rgO Γ X.K c) Γ X j bD g)
  (hdb:(c==("__debug__":ah))=ao:=by decide) (he:aH (e::es) X.env=(ao,eval e X.env)::aH es X.env:=by rfl) (hpl:(ca pos (aH es X.env)).any (·.1)=ao:=by rfl)
  (hi:X.N[j]?=aa y:=by rfl) (hx:Loc X.env.scope y:=by first|exact cz rfl|exact bT rfl) (hs:eE (.Call (.Name c p) (e::es) [] pos) (aa (.Name y py)) spos.line X.env=pure ao:=by rfl) (hf:X.fn y=ai\/X.env.scope.names.lookup y=aa .local:=by first|exact .inl rfl|exact .inr rfl|assumption) :
  DSs Γ X (.Assign [.Name y py] (.Call (.Name c p) (e::es) [] pos) spos::bD) (pj j F fr g):=⟨by
 obtain⟨Ca,f,fd,ps,h0,h1,h2,h3,h4⟩:=C.ex;refine(iJ (mm hN hi hx (zK h1 h3 (hr.mono hk) hg h2 h4 .nil gJ ha.1 hdb he hpl) hs hf) h.1).imp fun E σ H=>?_;rintro⟨G₀,H₀,G,ρ,fl,ρ',A,h,k⟩;unfold pj at h;obtain⟨ds,hds,h⟩:=oBd h;obtain⟨fs,hfs,h⟩:=oBd h;split at h
 .rename_i hj;split at h
  .rename_i hz;cases h;obtain⟨r',hz'⟩:=zk hz;refine⟨G₀,H₀,G,ρ,ds,A,hds,fun vs G1 H1 s1 r1 x dx hx hdx hne=>?_⟩;rw[eX];refine⟨x,dx,H1,G1,ds,fs,vs,rfl,rfl,hx,hdx,hne,s1.gh,r1,hn ρ ds hds,hfs,fun G' H' st ho=>⟨rfl,?_⟩⟩;have A1:=((A.step s1).step st).setPin j x;refine⟨G₀,H₀,G',_,x,fs,_,_,r',⟨A1,by rw[ik hj],ho⟩,hz' x,fun σ' G2 H2 sm A'=>k σ' G2 H2 ((s1.gg.trans st.gg).trans sm) ?_⟩;have:=A'.full.drop j
   rwa [vD] at this
  .cases h
 .cases h⟩
theorem N1 {F:ab D->aq Fs} {fs r':Fs} {fl:Fl} (h1:fr ρ=aa ds) (h2:F ds=aa fs) (h3:j < ρ.length) (h4:∀q,g (ρ.set j (aa (.pin q))) fs=aa (fl,ρ'.set j (aa (.pin q)),r')):pj j F fr g ρ=aa (fl,ρ'.set j ac):=by unfold pj;rw[h1];show(F ds).bind _=_;rw[h2];show(if j < ρ.length then _ else _)=_;rw[qY h3];have hz:∃z:Fl×bd,∃r':Fs,∀q,g (ρ.set j (aa (.pin q))) fs=aa (z.1,z.2.set j (aa (.pin q)),r'):=⟨(fl,ρ'),r',h4⟩;show(@dite _ _ (F1 _) _ _)=_;rw[dif_pos hz];obtain⟨r1,hc⟩:=zk hz;have e:=(hc 0).symm.trans (h4 0);have e1:=qK e;have e2:(zl hz).1=fl:=c7 (·.1) e1;have e3:(zl hz).2.set j (aa (.pin 0))=ρ'.set j (aa (.pin 0)):=c7 (·.2.1) e1;have e4:=c7 (fun l:bd=>l.set j ac) e3;simp only[vD] at e4;rw[e2,e4]
end
section
variable {fa fb f:FR R} {ft:FRt R} {g:FRs R}
noncomputable def ju (f:FR R):FRs R:=fun ρ r=>(f ρ r).map fun x=>(.nx,ρ,x.2)
theorem oB (h:RE rg Γ X i e f) (hs:eE e ac pos.line X.env=pure ao:=by rfl):RS rg Γ X i (.Expr e pos) (ju f):=⟨(jF h.1 hs).imp fun E σ H=>by rintro⟨G₀,H₀,G,ρ,p,r,fl,ρ',r',A,h,k⟩;obtain⟨⟨d,r1⟩,hd,h⟩:=oMd h;cases h;exact⟨G₀,H₀,G,ρ,p,r,d,r1,A,hd,fun v G1 H1 s1 v1=>k σ G1 H1 s1.st.gg (A.step s1)⟩⟩
noncomputable def mq (ft:FRt R) (fa fb:FR R):FR R:=fun ρ r=>(ft ρ r).bind fun c=>if c.1=ai then fa ρ c.2 else fb ρ c.2
theorem AZ (hc:RT rg Γ X i c ft) (ha:RE rg Γ X i a fa) (hb:RE rg Γ X i b fb):RE rg Γ X i (.IfExp c a b pos) (mq ft fa fb):=⟨(J' hc.1 ha.1 hb.1).imp fun σ H Q=>by
 rintro⟨G₀,H₀,G,ρ,p,r,d,r',A,h,k⟩;obtain⟨⟨z,r1⟩,hz,h⟩:=oBd h;refine⟨G₀,H₀,G,ρ,p,r,z,r1,A,hz,fun G1 H1 s1=>?_⟩;cases z with
 |false=>exact gr ⟨G₀,H₀,G1,ρ,p,r1,d,r',A.step s1,by rw[qZ qv] at h;exact h,fun v G' H' s rv=>k v G' H' (s1.trans s) rv⟩
 |true=>exact ig ⟨G₀,H₀,G1,ρ,p,r1,d,r',A.step s1,by rw[qY rfl] at h;exact h,fun v G' H' s rv=>k v G' H' (s1.trans s) rv⟩⟩
noncomputable def whR (ft:FRt R) (g:FRs R):ag->FRs R
 |0,_,_=>ac
 |n+1,ρ,r=>(ft ρ r).bind fun b=>if b.1=ai then (g ρ b.2).bind fun z=>match z.1 with
   |.nx=>whR ft g n z.2.1 z.2.2
   |.rt d=>aa (.rt d,z.2.1,z.2.2)
   |_=>ac
  else aa (.nx,ρ,b.2)
theorem Ep (n:ag) (hp:uX (aO X.prog X.w) X.A X.env X.xe) (hc:RT rg Γ X i c ft) (hb:RSs rg Γ X i body g):RS rg Γ X i (.While c body [] pos) (whR ft g n):=⟨(Mp hp hc.1 hb.1).imp fun E σ H=>by
 rintro⟨G₀,H₀,G,ρ,p,r,fl,ρ',r',A,h,k⟩;refine⟨fun m σ' H'=>∃G' ρ1 r1,bp G G'/\RAt rg Γ X.K G₀ H₀ G' H' ρ1 σ' i p r1/\whR ft g m ρ1 r1=aa (fl,ρ',r'),⟨n,G,ρ,r,.refl _,A,h⟩,?_⟩;rintro m σ' H' ⟨G',ρ1,r1,sm,A',hr⟩;cases m with
 |zero=>cases hr
 |succ m=>
  unfold whR at hr;obtain⟨⟨b,r2⟩,hb,hr⟩:=oBd hr;refine⟨G₀,H₀,G',ρ1,p,r1,b,r2,A',hb,fun G1 H1 s1=>?_⟩;cases b with
  |false=>
   rw[qZ qv] at hr;cases hr;exact gr (k σ' G1 H1 (sm.trans s1.st.gg) (A'.step s1))
  |true=>
   rw[qY rfl] at hr;obtain⟨⟨fl2,ρ2,r3⟩,h2,hr⟩:=oBd hr;refine ig ⟨fun σ3 H3=>fl2=.nx/\∃G3,bp G G3/\RAt rg Γ X.K G₀ H₀ G3 H3 ρ2 σ3 i p r3,fun σ3 H3 ⟨hfl,G3,sm3,A3⟩=>?_,G₀,H₀,G1,ρ1,p,r2,fl2,ρ2,r3,A'.step s1,h2,fun σ3 G3 H3 sm3 A3=>?_⟩
   .subst hfl;exact⟨m,u6 _,G3,ρ2,r3,sm3,A3,hr⟩
   .have smm:=(sm.trans s1.st.gg).trans sm3;cases fl2 with
    |nx=>exact⟨rfl,G3,smm,A3⟩
    |rt d=>cases hr;exact k σ3 G3 H3 smm A3
    |_=>cases hr⟩
theorem jW {st:Stmt} :RS rg Γ X i st (fun _ _=>ac):=⟨fun _ _ _ _ _ _ h=>by obtain⟨_,_,_,_,_,_,_,_,_,_,h,_⟩:=h;cases h⟩
end
section
variable {fa fb f:FR R} {fr:FRa R} {ft:FRt R} {g:FRs R}
theorem N5 {k:ag} (C:Cal Γ X.prog X.w X.K X.mg X.base x n k F) (hr:Room j X.A) (hk:k<=j) (hg:Gl X x) (ha:RA rg Γ X i (e::es) fr) (hn:∀ρ r ds r',fr ρ r=aa (ds,r')->ds.length=n)
  (hdb:(x==("__debug__":ah))=ao:=by decide) (he:aH (e::es) X.env=(ao,eval e X.env)::aH es X.env:=by rfl) (hpl:(ca pos (aH es X.env)).any (·.1)=ao:=by rfl) :
  RE rg Γ X i (.Call (.Name x p) (e::es) [] pos) (rM fr F):=by
 obtain⟨f,fd,ps,h1,h2,h3,h4⟩:=C.ex;refine⟨(mD h1 (hr.mono hk) hg h2 h3 h4 .nil gJ ha.1 hdb he hpl).imp fun σ H Q=>?_⟩;rintro⟨G₀,H₀,G,ρ,p,r,d,r',A,h,k⟩;obtain⟨ds,hd,hq⟩:=fK h;refine⟨G₀,H₀,G,ρ,p,r,ds,r',A,hd,fun vs G1 H1 s1 v1=>?_⟩;show spF Γ X.K n F (vs++[]) H1 Q E0;rw[eX];exact⟨G1,ds,d,(A.step s1).gh,v1,hn ρ r ds r' hd,hq,fun v G' H' s rv=>k v G' H' (s1.trans ((A.step s1).pure s)) rv⟩
theorem C2 {id:String} (hc:BltD Γ X id F) (hg:Gl X x) (hm:X.mg x=ac) (hv:ky x=aa (.builtin id)) (ha:RA rg Γ X i (e::es) fr) (hn:x≠"__name__":=by decide) (hdb:(x==("__debug__":ah))=ao:=by decide)
  (he:aH (e::es) X.env=(ao,eval e X.env)::aH es X.env:=by rfl) (hpl:(ca pos (aH es X.env)).any (·.1)=ao:=by rfl):RE rg Γ X i (.Call (.Name x p) (e::es) [] pos) (rM fr F):=⟨by
 obtain⟨r0,h1,h2⟩:=hc.ex;refine(wk h1 hg hm hv ha.1 hn hdb he hpl).imp fun σ H Q=>?_;rintro⟨G₀,H₀,G,ρ,p,r,d,r',A,h,k⟩;obtain⟨ds,hd,hq⟩:=fK h;exact⟨G₀,H₀,G,ρ,p,r,ds,r',A,hd,fun vs G1 H1 s1 v1=>h2 (A.step s1).gh v1 hq _ fun v G' H' s rv=>k v G' H' (s1.trans ((A.step s1).pure s)) rv⟩⟩
theorem xi (h:RE rg Γ X i e f) (he:∀whole,isTrue e X.env whole=(do let v ←whole;iQ e.pos;fD [v] (truthy v)):=by intro _;rfl):RT rg Γ X i e (rM f blD):=⟨(Dv h.1 he).imp j7.val⟩
theorem zY (h:RT rg Γ X i a ft):RT rg Γ X i (.UnaryOp .Not a pos) (rM ft fun b=>aa (!b)):=⟨(BI h.1).imp fun σ H Q=>by rintro⟨G₀,H₀,G,ρ,p,r,d,r',A,h,k⟩;obtain⟨b,hb,hq⟩:=fK h;cases hq;exact⟨G₀,H₀,G,ρ,p,r,b,r',A,hb,fun G' H' s=>k G' H' s⟩⟩
end
section
variable {fa:FA} {c m:ah}
theorem iG {k:ag} {F:au->ab D->Fs->aq (D×Fs)} (C:CalMR Γ X.prog X.w K X.mg X.base c m n k F) (hr:Room j X.A) (hk:k<=j) (ha:DA Γ X (e::es) fa) (hn:∀ρ ds,fa ρ=aa ds->ds.length=n)
  (hK:X.K=K:=by rfl) (hN:X.N[i]?=aa x:=by rfl) (hv:Vis X.env.scope x:=by first|exact cz rfl|exact bT (cz rfl)|exact bT (bT rfl))
  (hd:(x==("__debug__":ah))=ao:=by decide) (hcd:(x==("__classdict__":ah))=ao:=by decide)
  (hst:aH (e::es) X.env=(ao,eval e X.env)::aH es X.env:=by rfl) (hpl:(ca pos (aH es X.env)).any (·.1)=ao:=by rfl)
  (ht:eval (.Call (.Attribute (.Name x vp) m apos) (e::es) [] pos) X.env=(do
   let ov ←eval (.Name x vp) X.env
   iQ apos.atName
   let (f,first) ←fD [ov] (kC ov m pl)
   lI pos f first (ca pos (aH (e::es) X.env)) (gC pos (gD [] X.env))):=by rfl) :
  RE (rgO Γ K c) Γ X i (.Call (.Attribute (.Name x vp) m apos) (e::es) [] pos) (bO m F i (rP fa)):=
 JD C hr hk (aG ha) (fun ρ r ds r' h=>hn ρ ds (ko h).1) (fun ρ r ds r' h0 h=>by rw[(ko h).2];exact h0) hK hN hv hd hcd hst hpl ht
end
noncomputable def tz:D->FQ
 |.str x,[.str y]=>aa (.bl (mV x y))
 |_,_=>ac
theorem Ma:MtD Γ X "str" "str.startswith" tz:=by
 refine⟨⟨fun v vs H Q=>∃x y,v=.str x/\vs=[.str y]/\Q (.bl (mV x y)) H,?_,?_⟩,?_⟩
 .intro pins s σ H x xs v us Q I rx rs h;obtain⟨z,y,rfl,rfl,q⟩:=h;obtain⟨t,rfl⟩:=rx;obtain⟨u,rfl,ru⟩:=fU rs;obtain⟨t2,rfl⟩:=ru;exact call_gives QE (mM _ _ _) PySem.F.entry_str_startswith (PySem.F.args_str_startswith_2 _ _) (gives_str_startswith z y t t2) ⟨.bl _,H,I,rfl,q⟩
 .intro G H v x vs ds z gh r1 r2 h Q k;unfold tz at h;split at h
  .cases h;cases r1.str_inv;obtain⟨v,rfl,r3⟩:=r2.one;cases r3.str_inv;exact⟨_,_,rfl,rfl,k _ G H (.refl gh) (.bl _)⟩
  .cases h
 .intro G H v x ds z gh r h;unfold tz at h;split at h
  .cases r.str_inv;exact rfl
  .cases h
section
variable {fo:FR R} {fr:FRa R}
noncomputable def rBm (g:D->FQ) (fo:FR R) (fr:FRa R):FR R:=rb fo fun ρ d r=>rM fr (g d) ρ r
theorem Nn {T id:String} {g:D->FQ} (pa:Ff T) (slot:P3 T name id) (hty:typeOf (.builtin id)=pure (.type "method_descriptor")) (hm:MtD Γ X T id g) (ho:RE rg Γ X i o fo) (ha:RA rg Γ X i (e::es) fr)
  (hbase:iU o name X.env (eval o X.env)=eval o X.env:=by rfl)
  (hfew:((ca cpos (aH (e::es) X.env)).all (fun x=>!x.1) && (gC cpos (gD [] X.env)).all (fun x=>x.1.isSome)
   && decide ((e::es).length+([]:ab iV).length+(if ([]:ab iV).isEmpty then 0 else 1)<30))=ai:=by rfl)
  (hline:(apos.endLine==cpos.line)=ai:=by rfl) (hs:aH (e::es) X.env=(ao,eval e X.env)::aH es X.env:=by rfl) (hplain:(ca cpos (aH es X.env)).any (·.1)=ao:=by rfl) :
  RE rg Γ X i (.Call (.Attribute o name apos) (e::es) [] cpos) (rBm g fo fr):=⟨by
 obtain⟨r0,h1,h2⟩:=hm.ex;refine(lU pa slot hty h1 ho.1 ha.1 hbase hfew hline hs hplain).imp fun σ H Q=>?_;rintro⟨G₀,H₀,G,ρ,p,r,d,r',A,h,k⟩;obtain⟨x,r1,hx,h⟩:=jS h;obtain⟨ds,hd,h⟩:=fK h;exact⟨G₀,H₀,G,ρ,p,r,x,r1,A,hx,fun v G1 H1 s1 v1=>⟨hm.ty (A.step s1).gh v1 h,G₀,H₀,G1,ρ,p,r1,ds,r',A.step s1,hd,fun vs G2 H2 s2 v2=>
  h2 ((A.step s1).step s2).gh (v1.mono s2.st.gg) v2 h Q fun w G3 H3 s3 r3=>k w G3 H3 ((s1.trans s2).trans (((A.step s1).step s2).pure s3)) r3⟩⟩⟩
end
section
variable {fa fb:FR R}
noncomputable def xF:D->D->aq D
 |.str x,.int i=>if x.length<=aK then aa (.str (jq x (aa i) ac)) else ac
 |_,_=>ac
theorem Hk (he:RE rg Γ X i e fa) (hl:RE rg Γ X i a fb):RE rg Γ X i (.Subscript e (.Slice (aa a) ac ac p2) pos) (r2 xF fa fb):=⟨(xj Dy he.1 (ye hl.1) yh).imp fun σ H Q=>by
 rintro⟨G₀,H₀,G,ρ,p,r,d,r',A,h,k⟩;obtain⟨x,r1,ha,h⟩:=jS h;obtain⟨y,hb,h⟩:=fK h;unfold xF at h;split at h
 .split at h
  .cases h;refine⟨G₀,H₀,G,ρ,p,r,_,r1,A,ha,fun v G1 H1 s1 v1=>⟨G₀,H₀,G1,ρ,p,r1,_,r',A.step s1,hb,fun u G2 H2 s2 v2=>⟨_,v2.int_inv,?_⟩⟩⟩;cases(v1.mono s2.st.gg).str_inv;exact⟨_,rfl,by assumption,k _ _ _ (s1.trans s2) (.str _)⟩
  .cases h
 .cases h⟩
end
noncomputable def jH:ab ah:=["both","window","ring","stretch","together","stock","moved"]
noncomputable def jE:ag->D->Prop
 |0,_=>False
 |n+1,d=>∃rows k r,d=.tup [.lst rows,.tup (.str k::r)]/\rows.length<=2/\(∀x∈rows,∃k r,x=.tup (.str k::r)/\(k="not"->∃a b t,r=[a,b,t]/\jE n t)) /\
   k∈jH/\(k="both"->∃a t u,r=[a,t,u]/\jE n t/\jE n u)/\(k="ring"\/k="stretch"->∃l r',r=.lst l::r'/\l.length<=100)
noncomputable def cA:ag->ag
 |0=>0
 |n+1=>4*cA n+2
structure LI (G H:Hp) (m:ag):Prop where
 tp:∀a vs,G a=aa (.tup vs)->H a=aa (.tup vs)
 ls:∀a vs,G a=aa (.lst vs)->∃xs,H a=aa (.lst (vs++xs))/\xs.length<=m/\∀x∈xs,x=.non\/x=.str "z"
noncomputable def Kp (G H H':Hp):Prop:=∀a o,H a=aa o->G a=ac->H' a=aa o
theorem Kp.refl:Kp G H H:=fun _ _ h _=>h
theorem Kp.trans (a:Kp G H H') (b:Kp G H' H2):Kp G H H2:=fun c o h g=>b c o (a c o h g) g
theorem LI.le (h:LI G H m) (hm:m<=n):LI G H n:=⟨h.tp,fun a vs e=>by obtain⟨xs,h1,h2,h3⟩:=h.ls a vs e;exact⟨xs,h1,qP h2 hm,h3⟩⟩
theorem LI.of (h:bp G H):LI G H 0:=⟨fun a vs e=>h a _ e,fun a vs e=>⟨[],by rw[eX];exact h a _ e,qy _,fun _ z=>nomatch z⟩⟩
theorem LI.new (h:LI G H m) {p:au} {o:HO} (hp:H p=ac):LI G (upd H p o) m/\Kp G H (upd H p o):=by
 have ne:∀{a:au} {u:HO},H a=aa u->upd H p o a=aa u:=fun e=>by rw[aX (ck e hp)];exact e
 exact⟨⟨fun a vs e=>ne (h.tp a vs e),fun a vs e=>by obtain⟨xs,h1,h2⟩:=h.ls a vs e;exact⟨xs,ne h1,h2⟩⟩,fun a u e _=>ne e⟩
theorem LI.app (h:LI G H m) {a:au} {y:V} (e:G a=aa (.lst vs)) (hv:vs.length<=100) (hy:y=.non\/y=.str "z") (hz:m<=1000000) {Q:VK} (q:∀H',LI G H' (m+1)->Kp G H H'->Q .non H'):uf (.ref a) [y] H Q:=by
 obtain⟨xs,h1,h2,h3⟩:=h.ls a vs e;refine⟨a,_,y,rfl,rfl,h1,by rw[qk];unfold aK;omega,q _ ⟨fun b us eb=>?_,fun b us eb=>?_⟩ fun b o hb gb=>?_⟩
 .rw[aX (fun z=>by subst z;rw[e] at eb;cases eb)];exact h.tp b us eb
 .by_cases hb:b=a
  .subst hb;rw[e] at eb;cases eb;refine⟨xs++[y],by rw[b7,qA],by rw[qk,qX];omega,fun x hx=>?_⟩;rcases gz.mp hx with hx|hx
   .exact h3 x hx
   .rw[ce.mp hx];exact hy
  .rw[aX hb];obtain⟨ys,k1,k2,k3⟩:=h.ls b us eb;exact⟨ys,k1,Nat.le_succ_of_le k2,k3⟩
 .rw[aX (fun z=>by subst z;rw[e] at gb;cases gb)];exact hb
theorem LI.ty (h:LI G H m) {a:au} (e:G a=aa (.lst vs)):tyV K "list" (.ref a) H:=by obtain⟨xs,h1,_⟩:=h.ls a vs e;exact .inl ⟨rfl,_,.inl (.inl h1)⟩
theorem LI.ix (h:LI G H m) {a:au} {i:aj} {Q:VK} (e:G a=aa (.tup vs)) (hi:atI vs i=aa v) (q:Q v H):rIx K (.ref a) (.int i) H Q:=.inr (.inl ⟨a,vs,i,v,rfl,rfl,.inl (.inl (h.tp a vs e)),hi,q⟩)
noncomputable def spL (Γ:Cn) (K:aR) (n:ag):Sp:=fun vs H Q _=>∃G v d m,vs=[v]/\Rep Γ K G v d/\jE n d/\LI G H m/\m+cA n<=1000000/\∀H',LI G H' (m+cA n)->Kp G H H'->Q .non H'
abbrev tL0 (K:aR) (sp:Sp):TS:=Ak (Bj K (tOp (rIx K) (gO 0) (tC (.int 0)))) (jh 1) (oJ (DL (tB (Ei (gO 1))) (oU (tOp rEq (tOp (rIx K) (gO 1) (tC (.int 0))) (tC (.str "not"))))) (me (nN sp [] E0 (gm (tOp (rIx K) (gO 1) (tC (.int 3))) gu))) t0)
abbrev tL1 (K:aR) (sp:Sp):TS:=oJ (oU (tOp rEq (tOp (rIx K) (gO 2) (tC (.int 0))) (tC (.str "both")))) (kx (me (nN sp [] E0 (gm (tOp (rIx K) (gO 2) (tC (.int 2))) gu))) (me (nN sp [] E0 (gm (tOp (rIx K) (gO 2) (tC (.int 3))) gu)))) t0
abbrev GW (Γ:Cn) (K:aR):R2:=fun x y H Q=>∃G d e b,bp G H/\Rep Γ K G x d/\Rep Γ K G y e/\inT d e=aa b/\Q (.bl b) H
abbrev tL2 (Γ:Cn) (K:aR):TS:=oJ (oU (tOp (GW Γ K) (tOp (rIx K) (gO 2) (tC (.int 0))) (CI (gm (tC (.str "ring")) (gm (tC (.str "stretch")) gu))))) (me (tBM K "list" uf (tOp (rIx K) (gO 2) (tC (.int 1))) (gm (tC (.str "z")) gu))) t0
abbrev tL3 (K:aR):TS:=me (tBM K "list" uf (tOp (rIx K) (gO 0) (tC (.int 0))) (gm (tC .non) gu))
abbrev tL (Γ:Cn) (K:aR) (sp:Sp):TS:=kx (tL0 K sp) (kx (jV (tOp (rIx K) (gO 0) (tC (.int 1))) (jh 2)) (kx (tL1 K sp) (kx (tL2 Γ K) (tL3 K))))
theorem Lo {k:ah} (h:k∈jH):inT (.str k) (.tup [.str "ring",.str "stretch"])=aa (decide (k="ring"\/k="stretch")):=by unfold jH at h;simp only[qO,qM,or_false] at h;rcases h with rfl|rfl|rfl|rfl|rfl|rfl|rfl<;>decide +kernel
variable {rows:ab D}
theorem oZ {c:aU} {A:Prop} (h:c=ai) (a:A):if c=ai then A else B:=by rw[qY h];exact a
theorem pI {c:aU} {A:Prop} (h:c=ao) (b:B):if c=ai then A else B:=by rw[qZ (by rw[h];exact qv)];exact b
theorem Reps.hd {us:ab V} (r:Reps Γ K G us (d::ds)):∃v vs,us=v::vs/\Rep Γ K G v d/\Reps Γ K G vs ds:=by
 cases r with
 |cons h1 r=>exact⟨_,_,rfl,h1,r⟩
theorem Rep.s (r:Rep Γ K G v (.str x)):v=.str x:=by cases r;rfl
theorem xP {x:V} {l:ab V} :atI (x::l) 0=aa x:=by simp[atI,ixN]
theorem N3 {x y:V} {l:ab V} :atI (x::y::l) 1=aa y:=by unfold atI ixN;rw[qY (by decide),qY (by simp only[qh];omega)];rfl
theorem wz {w:V} {t:D} (r:Rep Γ K G w t) (hl:jE n t) (h:LI G H m) (hm:m+cA n<=1000000) {Q:VK} {E:XK} (q:∀H',LI G H' (m+cA n)->Kp G H H'->Q .non H'):spL Γ K n ([w]++[]) H Q E:=
 ⟨G,w,t,m,rfl,r,hl,h,hm,q⟩
theorem Im {t e:au} {E:Ends} (ht:G t=aa (.tup [.ref l,.ref e])) (hl:G l=aa (.lst vs)) (rv:Reps Γ K G vs rows) (h2:rows.length<=2)
  (hr:∀x∈rows,∃k r,x=.tup (.str k::r)/\(k="not"->∃a b t,r=[a,b,t]/\jE n t)) (h:LI G H m) (hm:m+2*cA n<=1000000) (hs:σ.length=3/\σ[0]?=aa (aa (.ref t)))
  (q:∀σ' H',(σ'.length=3/\σ'[0]?=aa (aa (.ref t)))->LI G H' (m+2*cA n)->Kp G H H'->E.nx σ' H'):tL0 K (spL Γ K n) E σ H:=by
 have lv:vs.length<=2:=by rw[rv.length];exact h2
 obtain⟨xs0,hx0,_⟩:=h.ls l vs hl;refine⟨.ref t,hs.2,h.ix ht (v:=.ref l) rfl ⟨l,rfl,⟨_,.inl (.inl hx0)⟩,?_⟩⟩;generalize hc:cA n=c at hm q;have top:∀i,min i vs.length*c<=2*c:=fun i=>F2 c (qP (u9 _ _) lv);refine⟨fun i k σ' H'=>k=(2+m+2*c)-i/\i<=2+m+2*c/\(σ'.length=3/\σ'[0]?=aa (aa (.ref t)))/\LI G H' (m+min i vs.length*c)/\Kp G H H',⟨_,rfl,fu _,hs,by simpa using h,.refl⟩,?_⟩;rintro i k σ' H' ⟨rfl,hi,hs',h',kp⟩;obtain⟨xs,hx,hxl,hxn⟩:=h'.ls l vs hl;have ti:=top i;by_cases hlt:i<(vs++xs).length
 .right
  have hB:i<2+m+2*c:=by rw[qk] at hlt;omega
  refine⟨⟨_,(vs++xs)[i],.inl (.inl hx),by simp[hlt]⟩,fun σ2 H2=>(σ2.length=3/\σ2[0]?=aa (aa (.ref t)))/\LI G H2 (m+min (i+1) vs.length*c)/\Kp G H H2,fun σ2 H2 h2=>⟨_,by omega,rfl,hB,h2⟩,?_⟩;rintro x H2 ⟨rfl,hx'⟩;have hx2:=hx' _ (.inl (.inl hx));have s2:(σ'.set 1 (aa x)).length=3/\(σ'.set 1 (aa x))[0]?=aa (aa (.ref t)):=⟨by rw[PD];exact hs'.1,by rw[qC (by decide)];exact hs'.2⟩;have s1:(σ'.set 1 (aa x))[1]?=aa (aa x):=by rw[ik (by rw[hs'.1];decide)]
  have up:min i vs.length*c<=min (i+1) vs.length*c:=F2 c (by omega);have skip:LI G H2 (m+min (i+1) vs.length*c):=h'.le (by omega);show oJ _ _ _ _ (σ'.set 1 (aa x)) H2;by_cases hiv:i<vs.length
  .rw[qD hiv] at hx2;obtain⟨d,hd,rx⟩:=rv.getV hx2;obtain⟨k,r,rfl,hk⟩:=hr d (qS hd);obtain⟨a,us,rfl,ha,ru⟩:=rx.tup_inv;obtain⟨u,us',rfl,r1,r2⟩:=ru.hd;cases r1.s;refine⟨.ref a,s1,_,rfl,?_⟩;refine oZ (by simp) ?_;refine⟨.ref a,s1,h'.ix ha (v:=.str k) xP ⟨rfl,_,rfl,?_⟩⟩;by_cases e:k="not"
   .subst e;refine oZ (by simp) ?_;obtain⟨a1,b1,t1,rfl,hl1⟩:=hk rfl;obtain⟨w1,z1,rfl,_,r3⟩:=r2.hd;obtain⟨w2,z2,rfl,_,r4⟩:=r3.hd;obtain⟨w3,z3,rfl,r5,r6⟩:=r4.hd;cases r6;have e1:min (i+1) vs.length*c=min i vs.length*c+c:=by rw[vo hiv,vo (n9 hiv),yK]
    have t1':=top (i+1);refine⟨.ref a,s1,h'.ix ha (v:=w3) rfl ?_⟩;dsimp only[gu,gm,tC];refine wz r5 hl1 h' (by omega) fun H3 h3 k3=>⟨s2,?_,kp.trans k3⟩;rw[hc] at h3;exact h3.le (by omega)
   .exact pI (by simp[e]) ⟨s2,skip,kp⟩
  .rw[qN (by omega)] at hx2;rcases hxn x (qS hx2) with rfl|rfl
   .refine⟨.non,s1,_,rfl,?_⟩;exact pI (by simp) (gr ⟨s2,skip,kp⟩)
   .refine⟨.str "z",s1,_,rfl,?_⟩;refine oZ (by simp) ?_;refine⟨.str "z",s1,.inr (.inr ⟨"z",0,122,rfl,rfl,by decide,by decide,rfl,_,rfl,?_⟩)⟩;exact pI (by decide) ⟨s2,skip,kp⟩
 .left
  exact⟨⟨_,.inl (.inl hx),by omega⟩,q σ' H' hs' (h'.le (by omega)) kp⟩
theorem H0 {Q:VK} {E E':XK} (h:spL Γ K (n+1) vs H Q E) (hN:N.length=3):tL Γ K (spL Γ K n) {nx:=fun _ H'=>Q .non H',rt:=Q} (ee N vs) H:=by
 obtain⟨G,v,d,m,rfl,r,hl,hI,hm,q⟩:=h;obtain⟨rows,k,rr,rfl,h2,hr,hk,hb,hg⟩:=hl;obtain⟨t,us,rfl,ht,ru⟩:=r.tup_inv;obtain⟨x1,x2,rfl,r1,r2⟩:=ru.two;obtain⟨l,ws,rfl,hl,rw'⟩:=r1.lst_inv;obtain⟨e,es,rfl,he,re⟩:=r2.tup_inv;obtain⟨y,ys,rfl,ry,rys⟩:=re.hd;cases ry.s;have hc:cA (n+1)=4*cA n+2:=rfl;rw[hc] at hm q;generalize hcn:cA n=c at hm q;refine Im ht hl rw' h2 hr hI (by omega) ⟨by simp[ee,hN],by simp[ee]⟩ fun σ1 H1 s1 I1 k1=>?_;rw[hcn] at I1;refine⟨.ref t,s1.2,I1.ix ht (v:=.ref e) rfl ?_⟩;have g0:(σ1.set 2 (aa (V.ref e)))[0]?=aa (aa (.ref t)):=by rw[qC (by decide)];exact s1.2
 have g2:(σ1.set 2 (aa (V.ref e)))[2]?=aa (aa (.ref e)):=by rw[ik (by rw[s1.1];decide)]
 show kx _ _ _ (σ1.set 2 (aa (V.ref e))) H1;generalize σ1.set 2 (aa (V.ref e))=σ2 at g0 g2 ⊢;have tail:∀H2,LI G H2 (m+4*c)->Kp G H H2->kx (tL2 Γ K) (tL3 K) {nx:=fun _ H'=>Q .non H',rt:=Q} σ2 H2:=fun H2 I2 k2=>by
  have last:∀H3,LI G H3 (m+4*c+1)->Kp G H H3->tL3 K {nx:=fun _ H'=>Q .non H',rt:=Q} σ2 H3:=fun H3 I3 k3=>
   ⟨.ref t,g0,I3.ix ht (v:=.ref l) rfl ⟨I3.ty hl,I3.app hl (by rw[rw'.length];omega) (.inl rfl) (by omega) fun H4 I4 k4=>q H4 (I4.le (by omega)) (k3.trans k4)⟩⟩
  refine⟨.ref e,g2,I2.ix he (v:=.str k) xP ⟨by show 2<=aK;decide,fun p hp=>?_⟩⟩;obtain⟨I3,k3⟩:=I2.new (o:=.tup [.str "ring",.str "stretch"]) hp;refine⟨upd (fun _=>ac) p (.tup [.str "ring",.str "stretch"]),.str k,.tup [.str "ring",.str "stretch"],_,fun b o eb=>?_,.str k,.tup b7 (.cons (.str _) (.cons (.str _) .nil)),Lo hk,_,rfl,?_⟩
  .by_cases hb:b=p
   .subst hb;rw[b7] at eb ⊢;exact eb
   .rw[aX hb] at eb;cases eb
  by_cases e3:k="ring"\/k="stretch"
  .refine oZ (qV e3) ?_;obtain⟨nl,r',rfl,nl1⟩:=hg e3;obtain⟨z1,z2,rfl,rz,_⟩:=rys.hd;obtain⟨qq,zs,rfl,hq,rq⟩:=rz.lst_inv;exact⟨.ref e,g2,I3.ix he (v:=.ref qq) N3 ⟨I3.ty hq,by dsimp only[gu,gm,tC];exact I3.app hq (by rw[rq.length];exact nl1) (.inr rfl) (by omega) fun H4 I4 k4=>last H4 I4 ((k2.trans k3).trans k4)⟩⟩
  .exact pI (qQ e3) (last _ (I3.le (by omega)) (k2.trans k3))
 refine⟨.ref e,g2,I1.ix he (v:=.str k) xP ⟨rfl,_,rfl,?_⟩⟩;by_cases e2:k="both"
 .refine oZ (by simp[e2]) ?_;obtain⟨a1,t1,u1,rfl,lt,lu⟩:=hb e2;obtain⟨w1,z1,rfl,_,r3⟩:=rys.hd;obtain⟨w2,z2,rfl,r4,r5⟩:=r3.hd;obtain⟨w3,z3,rfl,r6,r7⟩:=r5.hd;cases r7;have nxt:∀H2,LI G H2 (m+2*c+cA n)->Kp G H1 H2->me (nN (spL Γ K n) [] E0 (gm (tOp (rIx K) (gO 2) (tC (.int 3))) gu)) {nx:=kx (tL2 Γ K) (tL3 K) {nx:=fun _ H'=>Q .non H',rt:=Q},rt:=Q} σ2 H2:=fun H2 I2 k2=>by rw[hcn] at I2;refine⟨.ref e,g2,I2.ix he (v:=w3) rfl ?_⟩;dsimp only[gu,gm,tC];refine wz r6 lu I2 (by omega) fun H3 I3 k3=>?_;rw[hcn] at I3;exact tail H3 (I3.le (by omega)) ((k1.trans k2).trans k3)
  refine⟨.ref e,g2,I1.ix he (v:=w2) rfl (by dsimp only[gu,gm,tC];refine wz r4 lt I1 (by omega) fun H2 I2 k2=>?_;exact nxt H2 I2 k2)⟩
 .exact pI (by simp[e2]) (tail H1 (I1.le (by omega)) k1)
structure CalL (Γ:Cn) (P:dD) (w:cS) (K:aR) (mg:ah->aq av) (base:Heap) (x:ah) (k n:ag):Prop where
 ex:∃f fd ps,FnOk P w K mg base CX0 k f fd ps (spL Γ K n)/\mg x=aa (.ref f)/\fY K (.ref f)=ai/\e8 K fd ps []
theorem Dfn.noneL {st:Stmt} {k:ag} (F:Dfn K mg x st)
  (hb:∀(kV doc pm:av) (an:aq au) (cdv ct:av) (us:ab av),us.length=ps.length->fZ (eO x x (eT st) (cO st) (aF st) .none kV doc pm an cdv ct) ⟨us,[]⟩=pure (ps.zip us))
 : CalL Γ P w K mg base x k 0:=by
 obtain⟨f,fd,h1,h2⟩:=F.ex;refine⟨f,fd,ps,⟨fun vs H Q E h=>?_,fun A outer s H args us vs Q E hr I b v h=>?_⟩,h2,h1.kp,h1.binds hb⟩
 .obtain⟨_,_,_,_,_,_,z,_⟩:=h;exact z.elim
 .obtain⟨_,_,_,_,_,_,z,_⟩:=h;exact z.elim
theorem Dfn.calL {st:Stmt} {k:ag} (F:Dfn K mg x st) (S:FnScope N ps (aF st)) (hN:N.length=3) (hps:ps.length=1)
  (hb:∀(kV doc pm:av) (an:aq au) (cdv ct:av) (us:ab av),us.length=ps.length->fZ (eO x x (eT st) (cO st) (aF st) .none kV doc pm an cdv ct) ⟨us,[]⟩=pure (ps.zip us))
  (hbody:∀(f:au) (cdv:av) (A:dj) (outer:ab cM) (s:aB) (H:Hp) (E:XK),Room k (A.deeper (dP x (aF st) s.heap.objs.size f cdv))->
   PSs (eN CX0 P w K mg base N x (aF st) f cdv A outer s H E).nox (cO st) (tL Γ K (spL Γ K n))):CalL Γ P w K mg base x (k+1) (n+1):=by
 obtain⟨f,fd,h1,h2⟩:=F.ex;refine⟨f,fd,ps,h1.ok S (fun vs H Q E h=>?_) (fun cdv A outer s H vs Q E hr h=>⟨_,hbody f cdv A outer s H E hr,H0 (E':=E) h hN⟩),h2,h1.kp,h1.binds hb⟩;obtain⟨_,_,_,_,rfl,_⟩:=h;rw[hps];rfl
theorem Room.u66 {k:ag} (r:Room k A):A.units+66<dO:=by have:=r.un;omega
theorem xG {k:ag} (C:CalL Γ X.prog X.w X.K X.mg X.base x k n) (hr:Room j X.A) (hk:k<=j) (hg:Gl X x) (ha:PA X [e] t)
  (hdb:(x==("__debug__":ah))=ao:=by decide) (he:aH [e] X.env=(ao,eval e X.env)::aH [] X.env:=by rfl) (hpl:(ca pos (aH [] X.env)).any (·.1)=ao:=by rfl):PE X (.Call (.Name x p) [e] [] pos) (nN (spL Γ X.K n) [] E0 t):=by
 obtain⟨f,fd,ps,h1,h2,h3,h4⟩:=C.ex;exact mD h1 (hr.mono hk) hg h2 h3 h4 .nil gJ ha hdb he hpl
noncomputable def un (G G':Hp):Hp:=fun b=>match G b with
 |some o=>aa o
 |none=>G' b
theorem Gi (gh:bp G H) (s:Step (fun _=>ac) H G' H'):Step G H (un G G') H'/\bp G' (un G G'):=by
 have no:∀b o,G b=aa o->G' b=ac:=fun b o e=>s.out b o (gh b o e);refine⟨⟨s.hh,fun b o e=>?_,fun b o e=>?_,fun b o e=>?_⟩,fun b o e=>?_⟩
 .show(match G b with|some o=>aa o|none=>G' b)=aa o;rw[e]
 .replace e:(match G b with|some o=>aa o|none=>G' b)=aa o:=e
  split at e
  .rename_i o' e';cases e;exact s.hh b _ (gh b _ e')
  .exact s.gh b o e
 .show(match G b with|some o=>aa o|none=>G' b)=G b;cases hg:G b with
  |some o'=>rfl
  |none=>exact s.out b o e
 .show(match G b with|some o=>aa o|none=>G' b)=aa o;cases hg:G b with
  |some o'=>rw[no b o' hg] at e;cases e
  |none=>exact e
section
variable {rd lg:ah} {test:Expr} {thn bD:ab Stmt} {g:FRs R}
noncomputable def nX (j:ag) (F:FQ) (fr:FA) (ft:FT) (n:ag) (g:FRs R):FRs R:=fun ρ r=>(fr ρ).bind fun ds=>if ds.all pT=ai then (F ds).bind fun d=>(ft (ρ.set j (aa (.sh d)))).bind fun b=>@ite _ (b=ao/\jE n d/\j < ρ.length) (F1 _) (g (ρ.set j ac) r) ac else ac
theorem JN {k kl:ag} (j:ag) {p1 p5 p6 p7 p8 p9:fm} (hN:X.N.Nodup) (C:Cal Γ X.prog X.w X.K X.mg X.base rd 1 k F) (L:CalL Γ X.prog X.w X.K X.mg X.base lg kl n) (hc:cA n<=1000000) (hr:Room m X.A) (hk:k<=m) (hl:kl<=m) (hg:Gl X rd) (hg':Gl X lg)
  (ha:DA Γ X [a] fr) (ht:DT Γ X test ft) (hrest:RSs rg Γ X i bD g) (hji:j≠i:=by decide) (hi:X.N[j]?=aa x:=by rfl) (hx:Loc X.env.scope x:=by first|exact cz rfl|exact bT rfl) (hv:Vis X.env.scope x:=by first|exact cz rfl|exact bT (cz rfl)|exact bT (bT rfl)) (hd:(x==("__debug__":ah))=ao:=by decide) (hcd:(x==("__classdict__":ah))=ao:=by decide)
  (hs:eE (.Call (.Name rd p1) [a] [] p2) (aa (.Name x p3)) p4.line X.env=pure ao:=by rfl) (hf:X.fn x=ai\/X.env.scope.names.lookup x=aa .local:=by first|exact .inl rfl|exact .inr rfl|assumption) (hs':eE (.Call (.Name lg p6) [.Name x p7] [] p8) ac p9.line X.env=pure ao:=by rfl)
  (hdb:(rd==("__debug__":ah))=ao:=by decide) (hdb':(lg==("__debug__":ah))=ao:=by decide) (he:aH [a] X.env=(ao,eval a X.env)::aH [] X.env:=by rfl) (he':aH [QF x p7] X.env=(ao,eval (QF x p7) X.env)::aH [] X.env:=by rfl) (hpl:(ca p2 (aH [] X.env)).any (·.1)=ao:=by rfl) (hpl':(ca p8 (aH [] X.env)).any (·.1)=ao:=by rfl)
  (hn:∀ρ ds,fr ρ=aa ds->ds.length=1:=by first|exact ln1|assumption) :
  RSs rg Γ X i (.Assign [.Name x p3] (.Call (.Name rd p1) [a] [] p2) p4::.If test thn [] p5::.Expr (.Call (.Name lg p6) [.Name x p7] [] p8) p9::bD) (nX j F fr ft n g):=⟨by
 obtain⟨f1,fd1,ps1,c1,c2,c3,c4⟩:=C.ex;obtain⟨f2,fd2,ps2,l1,l2,l3,l4⟩:=L.ex;refine(iJ (mm hN hi hx (mD c1 (hr.mono hk) hg c2 c3 c4 .nil gJ ha.1 hdb he hpl) hs hf) (iJ (nQ ht.1 (Iw (sts:=thn)) nM) (iJ (jF (mD l1 (hr.mono hl) hg' l2 l3 l4 .nil gJ (eY (dv hi hv hd hcd) gc he') hdb' he' hpl') hs') hrest.1))).imp fun E σ H=>?_;rintro⟨G₀,H₀,G,ρ,p,r,fl,ρ',r',A,h,kk⟩;unfold nX at h;obtain⟨ds,hds,h⟩:=oBd h;split at h
 case isFalse=>cases h
 rename_i hall;obtain⟨d,hd',h⟩:=oBd h;obtain⟨b,hb,h⟩:=oBd h;split at h
 case isFalse=>cases h
 rename_i hz;obtain⟨rfl,hL,lj⟩:=hz;rw[A.at'.env.len] at lj;refine⟨G₀,H₀,G,ρ,ds,A.full,hds,fun vs G1 H1 s1 rv=>?_⟩;have A1:=A.step (A.pure s1);show spF Γ X.K 1 F (vs++[]) H1 _ E0;rw[eX];refine⟨fun _=>ac,ds,d,(fun _ _ z=>nomatch z),rv.flats hall,hn ρ ds hds,hd',fun v G' H2 s2 r2=>?_⟩;obtain⟨sU,gU⟩:=Gi s1.gh s2;have A2:=A1.step (A1.pure sU);have gv:(σ.set j (aa v))[j]?=aa (aa v):=by rw[ik lj]
 refine⟨G₀,H₀,_,ρ.set j (aa (.sh d)),ao,A2.full.setSh (r2.mono gU),hb,fun G3 H3 s3=>gr ⟨v,gv,?_⟩⟩;dsimp only[gu,gm,tC];refine⟨G',v,d,0,rfl,r2,hL,.of ((gU.trans s3.gg).trans s3.gh),by omega,fun H4 li kp=>?_⟩;have s4:Step G1 H1 G1 H4:=by have hh:bp H1 H4:=fun b o e=>kp b o (s3.hh b o (s2.hh b o e)) (s2.out b o e);exact⟨hh,.refl _,s1.gh.trans hh,fun _ _ _=>rfl⟩
 have A4:=A1.step (A1.pure s4);obtain⟨q,rfl⟩:∃q,v=.ref q:=by
  cases n with
  |zero=>exact hL.elim
  |succ n=>
   obtain⟨_,_,_,rfl,_⟩:=hL;obtain⟨t,_,e,_⟩:=r2.tup_inv;exact⟨t,e⟩
 have A5:RAt rg Γ X.K G₀ H₀ G1 H4 (ρ.set j ac) (σ.set j (aa (.ref q))) i p r:=by have h5:=(A4.at'.put (i:=j) (s':=.pin q) (v':=.ref q) (fp:=[]) (fp':=[]) (.inl rfl) (fun b o e _=>e) (.pin q) (fun b hb=>by cases hb) (.refl _) A4.at'.gh (fun _ _ _ _=>rfl) (fun b hb=>by cases hb)).drop j;rw[vD] at h5;exact⟨h5,(kJ hji).trans A4.sl,A4.here⟩
 exact⟨G₀,H₀,G1,_,p,r,fl,ρ',r',A5,h,fun σ' G5 H5 sm A'=>kk σ' G5 H5 (s1.gg.trans sm) A'⟩⟩
end
theorem Ld (us:ab av):us=(di us.length).map fun i=>us.getD i .none:=by
 apply List.ext_getElem
 .simp
 .intro i h1 h2;simp[List.getD_eq_getElem?_getD,vy h1]
theorem bn {F:av->av->av->aq au->av->av->mJ} (h:∀a b c d e f (v:ag->av),fZ (F a b c d e f) ⟨(di ps.length).map v,[]⟩=pure (ps.zip ((di ps.length).map v))) (a b c:av) (d:aq au) (e f:av) (us:ab av) (hl:us.length=ps.length) :
  fZ (F a b c d e f) ⟨us,[]⟩=pure (ps.zip us):=by
 have:=h a b c d e f fun i=>us.getD i .none;rw[←hl,←Ld us] at this;exact this
section
open PyProof
end
noncomputable def itN (b:aU):String:=if b then "list_iterator" else "tuple_iterator"
noncomputable def Sqn (h:Heap) (l:au) (xs:ab av):Prop:=∃o n,h.get? l=aa o/\o.data=.seq xs.toArray n
noncomputable def Izr (b:aU) (h:Heap) (i l:au) (k:ag):Prop:=∃o,h.get? i=aa o/\o.cls=.type (itN b)/\o.data=.fields #[.ref l,.int k 0]
theorem Sqn.at {xs:ab av} (z:Sqn h l xs) (k:∀o,h.get? l=aa o->h'.get? l=aa o):Sqn h' l xs:=by obtain⟨o,n,h1,h2⟩:=z;exact⟨o,n,k o h1,h2⟩
theorem Izr.at {b:aU} {i:au} (z:Izr b h i l n) (k:∀o,h.get? i=aa o->h'.get? i=aa o):Izr b h' i l n:=by obtain⟨o,h1,h2⟩:=z;exact⟨o,k o h1,h2⟩
section
variable {s:aB}
noncomputable def nxB (b:aU):Builtin:=if b then Builtin.«list_iterator.__next__» else Builtin.«tuple_iterator.__next__»
theorem C6 {b:aU} {i:au} (hi:Izr b s.heap i l n)
  (h:aE (aO P w) A.in1 (nxB b ⟨[.ref i],[]⟩) (fun fin s'=>∃v,fin=.done (.ret v)/\Q v s') E s):aE (aO P w) A (sk (.ref i)) Q E s:=by
 obtain⟨o,ho,hc,hd⟩:=hi;unfold sk;cases b with
 |true=>exact qB (yF (name:=rQ "__next__") ⟨o,ho,hc⟩ QG (yG QG ⟨o,ho,hc⟩ entry_listiter_next (im h (fun fin s' ⟨v,e,q⟩=>⟨v,e,qE q⟩) fun _ _ e=>e) (args_listiter_next _)))
 |false=>exact qB (yF (name:=rQ "__next__") ⟨o,ho,hc⟩ QH (yG QH ⟨o,ho,hc⟩ F.entry_tuple_iterator_next (im h (fun fin s' ⟨v,e,q⟩=>⟨v,e,qE q⟩) fun _ _ e=>e) (F.args_tuple_iterator_next_1 _)))
theorem BH {b:aU} {i:au} {xs:ab av} {x:av} (hi:Izr b s.heap i l n) (hl:Sqn s.heap l xs) (hx:xs[n]?=aa x)
  (q:∀h',Izr b h' i l (n+1)->iP i s.heap h'->Q x {s with heap:=h'}):aE (aO P w) A (sk (.ref i)) Q E s:=by
 refine C6 hi ?_;obtain⟨o,ho,hc,hd⟩:=hi;obtain⟨u,m,hu,hv⟩:=hl;have fin:aE (aO P w) A.in1 (do setField (.ref i) 1 (oe ((n:aj)+1));ret x) (fun fin s'=>∃v,fin=.done (.ret v)/\Q v s') E s:=qB (QI ho hd (by simp) (qE ⟨x,rfl,q _ ⟨_,Fd _ ho (Obj.isFreed_of_fields (QJ hd _)),(Obj.cls_mapFields ..).trans hc,by rw[QJ hd];simp[oe]⟩ (ze ..)⟩))
 cases b
 all_goals
  show aE _ _ (so (.ref i) 0 >>= _) _ _ s;refine qB (jM ho hd (x:=.ref l) rfl ?_);show aE _ _ (so (.ref i) 1 >>= _) _ _ s;refine qB (jM ho hd (x:=.int n 0) rfl ?_);show aE _ _ (seqItems? (.ref l) >>= _) _ _ s;refine qB (lP hu hv ?_);simp only[QK,QL,hx];exact fin
theorem Cd {b:aU} {i:au} {xs:ab av} (hh:A.handled=ac) (hi:Izr b s.heap i l n) (hl:Sqn s.heap l xs) (hx:xs[n]?=ac)
  (q:∀h' e,Heap.ExtBut i s.heap h'->(∃o,h'.get? e=aa o/\o.cls=.type "StopIteration")->E (.ref e) {s with heap:=h'}):aE (aO P w) A (sk (.ref i)) Q E s:=by
 refine C6 hi ?_;obtain⟨o,ho,hc,hd⟩:=hi;obtain⟨u,m,hu,hv⟩:=hl;cases b
 all_goals
  show aE _ _ (so (.ref i) 0 >>= _) _ _ s;refine qB (jM ho hd (x:=.ref l) rfl ?_);show aE _ _ (so (.ref i) 1 >>= _) _ _ s;refine qB (jM ho hd (x:=.int n 0) rfl ?_);show aE _ _ (seqItems? (.ref l) >>= _) _ _ s;refine qB (lP hu hv ?_);simp only[QK,QL,hx];refine qB (FX (qB (QI ho hd (by simp) ?_)));show aE _ _ (newExc (.type "StopIteration") [] >>= _) _ _ _;refine qB ?_;simp only[newExc,newTuple];refine qB (oj ?_ (by size_fits));refine qB (m:=QM _ _) (zh (a:=mE) (by first|rfl|(simp only[QM];rfl)) ?_);refine oj ?_ (by size_fits);simp only[raiseNew];refine qB (wpAny_handled ?_);rw[show A.in1.handled=ac from hh];refine qB (qE (wpAny_throw ?_));exact q _ _ (((ze ..).extBut.push _).push _) ⟨_,qJ _ rfl,rfl⟩
end
variable {ti:au}
section
variable {s:aB} {b:aU} {z to i j k:au} {xs ys:ab av}
structure Zst (b:aU) (z ti to i j k l:au) (n:ag) (h:Heap):Prop where
 z:lQ h z ti to .none
 ti:iY h ti (.ref i) (.ref j)
 to:∃u v,iY h to u v
 i:Izr b h i k n
 j:Izr b h j l n
theorem Zst.at {h h':Heap} (q:Zst b z ti to i j k l n h) (kp:∀c∈[z,ti,to,i,j],∀o,h.get? c=aa o->h'.get? c=aa o):Zst b z ti to i j k l n h':=by obtain⟨u,v,h3⟩:=q.to;exact⟨kp z (by simp) _ q.z,kp ti (by simp) _ q.ti,⟨u,v,kp to (by simp) _ h3⟩,q.i.at fun o e=>kp i (by simp) o e,q.j.at fun o e=>kp j (by simp) o e⟩
noncomputable def ZKp (z to i j:au) (h h':Heap):Prop:=∀c o,c≠z->c≠to->c≠i->c≠j->h.get? c=aa o->h'.get? c=aa o
theorem Od (hh:A.handled=ac) (D:F3 z ti to i j k l) (q:Zst b z ti to i j k l n s.heap) (hx:Sqn s.heap k xs) (hy:Sqn s.heap l ys)
  (gi:∀x y h',xs[n]?=aa x->ys[n]?=aa y->lQ h' z ti to (oe s.heap.objs.size)->iY h' to x y->Izr b h' i k (n+1)->Izr b h' j l (n+1)->iY h' s.heap.objs.size x y->ZKp z to i j s.heap h'->Q (.ref s.heap.objs.size) {s with heap:=h'})
  (ge:∀h' e,(xs[n]?=ac\/ys[n]?=ac)->ZKp z to i j s.heap h'->(∃o,h'.get? e=aa o/\o.cls=.type "StopIteration")->E (.ref e) {s with heap:=h'}) :
  aE (aO P w) A (Builtin.«zip.__next__» ⟨[.ref z],[]⟩) (fun fin s'=>∃v,fin=.done (.ret v)/\Q v s') E s:=by
 obtain⟨qz,qt,⟨u,v,qo⟩,qi,qj⟩:=q;show aE _ _ (so (.ref z) 2 >>= _) _ _ _;refine qB (jM qz rfl (x:=.bool ao) rfl ?_);show aE _ _ (so (.ref z) 3 >>= _) _ _ _;refine qB (jM qz rfl (x:=.ref ti) rfl (qB (lP qt rfl ?_)));show aE _ _ (QN (.ref z) >>= _) _ _ _;refine qB ?_;unfold QN;refine qB (jM qz rfl (x:=.none) rfl (qE ?_));rw[qY (by rfl)];refine qB (FX (qB (jM qz rfl (x:=.ref to) rfl (qB (zn qz (by simp) fun h1 z1 s1=>?_)))))
 replace z1:lQ h1 z ti to .ellipsis:=z1
 have e1:=s1.extBut;have i1:Izr b h1 i k n:=qi.at fun o e=>e1 _ _ D.i1z e;have x1:Sqn h1 k xs:=hx.at fun o e=>e1 _ _ D.l1z e;have o1:iY h1 to u v:=e1 _ _ D.TOz qo;have stop:∀(h2:Heap) (e:au),lQ h2 z ti to .ellipsis->(xs[n]?=ac\/ys[n]?=ac)->ZKp z to i j s.heap h2->(∃o,h2.get? e=aa o/\o.cls=.type "StopIteration")->
   aE (aO P w) A (setField (.ref z) 0 .none) (fun _ s'=>E (.ref e) s') E {s with heap:=h2}:=fun h2 e z2 no kp ⟨o,ho,hc⟩=>by
  have ne:e≠z:=fun y=>by subst y;rw[z2] at ho;cases ho;simp at hc
  exact zn z2 (by simp) fun h3 _ s3=>ge h3 e no (fun c o' c1 c2 c3 c4 y=>s3.extBut _ _ c1 (kp c o' c1 c2 c3 c4 y)) ⟨o,s3.extBut _ _ ne ho,hc⟩
 refine qB ?_;simp only[List.zipIdx_cons,List.zipIdx_nil,PZ,List.forIn_nil];refine qB (qB (wpAny_onRaise ?_));show aE _ _ (sk (.ref i) >>= _) _ _ _;cases cx:xs[n]? with
 |none=>
  exact qB (Cd hh i1 x1 cx fun h2 e s2 he=>stop h2 e (s2 _ _ D.i1z.symm z1) (.inl cx) (fun c o c1 _ c3 _ y=>s2 _ _ c3 (e1 _ _ c1 y)) he)
 |some x=>
  refine qB (BH i1 x1 cx fun h2 i2 s2=>qE ?_);have e2:=s2.extBut;have o2:iY h2 to u v:=e2 _ _ D.TOi1 o1;refine qB (lP o2 rfl (qB (QO o2 fun h3 o3 s3=>?_)))
  replace o3:iY h3 to x v:=o3
  have e3:=s3.extBut;refine qB (wpAny_letGo (qE (qB (qB (wpAny_onRaise ?_)))));show aE _ _ (sk (.ref j) >>= _) _ _ _;have j3:Izr b h3 j l n:=qj.at fun o e=>e3 _ _ D.TOi2.symm (e2 _ _ D.i12.symm (e1 _ _ D.i2z e));have y3:Sqn h3 l ys:=hy.at fun o e=>e3 _ _ D.l2TO (e2 _ _ D.l2i1 (e1 _ _ D.l2z e));have z3:lQ h3 z ti to .ellipsis:=e3 _ _ D.TOz.symm (e2 _ _ D.i1z.symm z1);have k3:ZKp z to i j s.heap h3:=fun c o c1 c2 c3 c4 y=>e3 _ _ c2 (e2 _ _ c3 (e1 _ _ c1 y));cases cy:ys[n]? with
  |none=>exact qB (Cd hh j3 y3 cy fun h4 e s4 he=>stop h4 e (s4 _ _ D.i2z.symm z3) (.inr cy) (fun c o c1 c2 c3 c4 y=>s4 _ _ c4 (k3 c o c1 c2 c3 c4 y)) he)
  |some y=>
   refine qB (BH j3 y3 cy fun h4 j4 s4=>qE ?_);have e4:=s4.extBut;have o4:iY h4 to x v:=e4 _ _ D.TOi2 o3;refine qB (lP o4 rfl (qB (QO o4 fun h5 o5 s5=>?_)))
   replace o5:iY h5 to x y:=o5
   have e5:=s5.extBut;refine qB (wpAny_letGo (qE (qE (qB (lP o5 rfl (qB (wpAny_newTuple ?_)))))));have sz:h5.objs.size=s.heap.objs.size:=by rw[s5.1,s4.1,s3.1,s2.1,s1.1]
   have z5:lQ h5 z ti to .ellipsis:=e5 _ _ D.TOz.symm (e4 _ _ D.i2z.symm z3);have lz:h5.objs.size≠z:=uY (qx z5);show aE _ _ (QP (.ref z) (.ref h5.objs.size) >>= _) _ _ _;refine qB ?_;unfold QP;have z6:lQ (h5.push {cls:=.type "tuple",data:=.seq #[x,y]}) z ti to .ellipsis:=qw _ z5;refine qB (zn z6 (by simp) fun h7 z7 s7=>zn z7 (by simp) fun h8 z8 s8=>qE ⟨_,rfl,?_⟩);have up:∀c o,c≠z->h5.get? c=aa o->h8.get? c=aa o:=fun c o c1 e=>s8.extBut _ _ c1 (s7.extBut _ _ c1 (qw _ e));have p8:iY h8 h5.objs.size x y:=s8.extBut _ _ lz (s7.extBut _ _ lz (qJ _ rfl))
   replace z8:lQ h8 z ti to (oe h5.objs.size):=z8
   show Q (.ref h5.objs.size) _;rw[sz] at z8 p8 ⊢;exact gi x y h8 cx cy z8 (up _ _ D.TOz o5) (i2.at fun o e=>up _ _ D.i1z (e5 _ _ D.TOi1.symm (e4 _ _ D.i12 (e3 _ _ D.TOi1.symm e)))) (j4.at fun o e=>up _ _ D.i2z (e5 _ _ D.TOi2.symm e)) p8
    fun c o c1 c2 c3 c4 e=>up c o c1 (e5 _ _ c2 (e4 _ _ c4 (k3 c o c1 c2 c3 c4 e)))
theorem DD {Q:aq av->aB->Prop} (hh:A.handled=ac) (D:F3 z ti to i j k l) (q:Zst b z ti to i j k l n s.heap) (hx:Sqn s.heap k xs) (hy:Sqn s.heap l ys)
  (gi:∀x y h',xs[n]?=aa x->ys[n]?=aa y->lQ h' z ti to (oe s.heap.objs.size)->iY h' to x y->Izr b h' i k (n+1)->Izr b h' j l (n+1)->iY h' s.heap.objs.size x y->ZKp z to i j s.heap h'->Q (aa (.ref s.heap.objs.size)) {s with heap:=h'})
  (ge:∀h',(xs[n]?=ac\/ys[n]?=ac)->ZKp z to i j s.heap h'->Q ac {s with heap:=h'}):aE (aO P w) A (lF (.ref z)) Q E s:=by
 have hT:s.TypeIs (.ref z) "zip":=⟨_,q.z,rfl⟩;unfold lF;refine qB (FV (yF (name:=rQ "__next__") hT QQ (yG QQ hT F.entry_zip_next (Od hh D q hx hy
  (fun x y h' a1 a2 a3 a4 a5 a6 a7 a8=>qE (gi x y h' a1 a2 a3 a4 a5 a6 a7 a8)) (fun h' e no kp he=>?_)) (F.args_zip_next_1 _))))
 obtain⟨o,ho,hc⟩:=he;exact qB (FW (T:="StopIteration") (b:=ai) ⟨o,ho,hc⟩ isSubtype_stop (qE (ge _ no kp)))
end
noncomputable def SqB (b:aU) (h:Heap) (l:au) (xs:ab av):Prop:=if b then h.IsList l xs.toArray else h.IsTuple l xs.toArray
theorem SqB.sqn {b:aU} {xs:ab av} (q:SqB b h l xs):Sqn h l xs:=by
 cases b with
 |true=>obtain⟨o,h1,_,n,h2⟩:h.IsList l xs.toArray:=q;exact⟨o,n,h1,h2⟩
 |false=>obtain⟨o,h1,_,n,h2⟩:h.IsTuple l xs.toArray:=q;exact⟨o,n,h1,h2⟩
abbrev tS (b:aU) (h:Heap) (k:au):Heap:=h.push {cls:=.type (itN b),data:=.fields #[.ref k,.int 0 0]}
abbrev xv (b:aU) (h:Heap) (k l:au):Heap:=tS b (tS b h k) l
abbrev uB (b:aU) (h:Heap) (k l:au):Heap:=((xv b h k l).push {cls:=.type "tuple",data:=.seq #[.ref h.objs.size,.ref (tS b h k).objs.size]}).push {cls:=.type "tuple",data:=.seq #[.none,.none]}
abbrev nY (b:aU) (h:Heap) (k l:au):Heap:=(uB b h k l).push {cls:=.type "zip",data:=.fields #[.none,.bool ao,.bool ao,.ref (xv b h k l).objs.size,.ref ((xv b h k l).push {cls:=.type "tuple",data:=.seq #[.ref h.objs.size,.ref (tS b h k).objs.size]}).objs.size]}
set_option maxHeartbeats 4000000 in
theorem NQ (b:aU) (k l:au) (xs ys:ab av):Meets (Builtin.«zip.__new__» ⟨[.type "zip",.ref k,.ref l],[]⟩) (fun _ R s=>SqB b s.heap k xs/\SqB b s.heap l ys /\
  R (.ok (.ret (.ref (uB b s.heap k l).objs.size))) {s with heap:=nY b s.heap k l}):=.of_wp fun prog w A R s h=>by
 obtain⟨hp,g,d,tk,os⟩:=s;obtain⟨q1,q2,h⟩:=h;have hsub:=sub_zip;cases b with
 |true=>
  have l1:QR (zo ⟨hp,g,d,tk,os⟩) k xs.toArray:=q1;have l2:QR (zo ⟨hp.push {cls:=.type "list_iterator",data:=.fields #[.ref k,.int 0 0]},g,d,tk,os⟩) l ys.toArray:=R' q2 _
  wp_walk using og l1,og l2
  exact⟨_,rfl,h⟩
 |false=>
  have l1:QS (zo ⟨hp,g,d,tk,os⟩) k xs.toArray:=q1;have l2:QS (zo ⟨hp.push {cls:=.type "tuple_iterator",data:=.fields #[.ref k,.int 0 0]},g,d,tk,os⟩) l ys.toArray:=Sa q2 _
  wp_walk using Fu l1,Fu l2
  exact⟨_,rfl,h⟩
section
variable {s:aB} {b:aU} {k:au} {xs ys:ab av}
theorem Jx (q1:SqB b s.heap k xs) (q2:SqB b s.heap l ys)
  (h:∀h',Zst b (s.heap.objs.size+4) (s.heap.objs.size+2) (s.heap.objs.size+3) s.heap.objs.size (s.heap.objs.size+1) k l 0 h'->(∀c o,s.heap.get? c=aa o->h'.get? c=aa o)->Q (.ref (s.heap.objs.size+4)) {s with heap:=h'}) :
  aE (aO P w) A (call (.type "zip") [.ref k,.ref l]) Q E s:=by
 refine callType_new F.called_zip (by decide) (F.typeCall_zip_2 _ _) (F.newCall_zip_2 _ _) (fun obj=>F.args_object_init_3 obj _ _) F.entry_zip_new (NQ b k l xs ys) ⟨q1,q2,?_⟩;have up:∀{h:Heap} {o:bf} {c:au} {u:bf},h.get? c=aa u->(h.push o).get? c=aa u:=fun e=>qw _ e;have g5:(nY b s.heap k l).get? (uB b s.heap k l).objs.size=aa _:=qJ _ rfl;have g4:(nY b s.heap k l).get? _=aa _:=up (qJ _ rfl);have g3:(nY b s.heap k l).get? _=aa _:=up (up (qJ _ rfl));have g2:(nY b s.heap k l).get? _=aa _:=up (up (up (qJ _ rfl)));have g1:(nY b s.heap k l).get? s.heap.objs.size=aa _:=up (up (up (up (qJ _ rfl))));show _/\_;refine⟨⟨_,g5,rfl⟩,?_⟩;have z4:(uB b s.heap k l).objs.size=s.heap.objs.size+4:=by simp only[iT]
 rw[z4];refine h _ ⟨?_,?_,⟨.none,.none,?_⟩,⟨_,g1,rfl,rfl⟩,?_⟩ fun c o x=>up (up (up (up (up x))))
 .simpa only[iT] using g5
 .simpa only[iT] using g3
 .simpa only[iT] using g4
 .exact⟨_,by simpa only[iT] using g2,rfl,rfl⟩
end
noncomputable def SqX (b:aU) (K:aR) (H:Hp) (a:au) (xs:ab V):Prop:=if b then SqL K H a xs else SqT K H a xs
theorem Inv.sqB {s:aB} {b:aU} {a:au} (I:Inv X pins σ H s) (h:SqX b X.K H a xs):∃its:ab av,bj xs its/\SqB b s.heap a its:=by
 cases b with
 |true=>obtain⟨its,h1,h2,_⟩:=I.list h;exact⟨its,h1,h2.isList⟩
 |false=>obtain⟨its,h1,h2,_⟩:=I.tuple h;exact⟨its,h1,h2⟩
theorem Inv.sqB_inj {s:aB} {b:aU} {a:au} (I:Inv X pins σ H s) (h:SqX b X.K H a xs) (h':SqX b X.K H a ys):xs=ys:=by
 cases b with
 |true=>exact I.list_inj h h'
 |false=>exact I.tuple_inj h h'
noncomputable def Itz (b:aU) (K:aR) (k l:au):It:=
 ⟨fun i H=>∃xs ys x y,SqX b K H k xs/\SqX b K H l ys/\xs[i]?=aa x/\ys[i]?=aa y,fun i H v H'=>∃T x y,v=.ref T/\H T=ac/\H'=upd H T (.tup [x,y])/\(∀xs,SqX b K H k xs->xs[i]?=aa x)/\∀ys,SqX b K H l ys->ys[i]?=aa y,
  fun i H=>∃xs ys,SqX b K H k xs/\SqX b K H l ys/\(xs.length<=i\/ys.length<=i)⟩
variable {elts:ab Expr}
theorem LR {k1:ag} {z to i j k:au} {b:aU} (D:F3 z ti to i j k l) :
  Turn P w K (.Tuple elts k1 pos) (Itz b K k l) [z,ti,to,i,j] z (fun n h=>Zst b z ti to i j k l n h) where
 mem:=by simp
 obj:=fun n h q c hc=>by
  obtain⟨hz,hi,⟨u,v,ho⟩,⟨o1,g1,_,d1⟩,⟨o2,g2,_,d2⟩⟩:=q;simp only[qO,qM,or_false] at hc;rcases hc with rfl|rfl|rfl|rfl|rfl
  .exact⟨_,hz,fun v z=>by cases z⟩
  .exact⟨_,hi,fun v z=>by cases z⟩
  .exact⟨_,ho,fun v z=>by cases z⟩
  .exact⟨o1,g1,fun v z=>by rw[d1] at z;cases z⟩
  .exact⟨o2,g2,fun v z=>by rw[d2] at z;cases z⟩
 keep:=fun n h h' q k=>q.at k
 item:=by
  intro X hP hw hK hc n pins s σ H E I hf st hg;subst hP hw hK;obtain⟨xs,ys,x,y,hq,hr,hx,hy⟩:=hg;obtain⟨its,rv,p⟩:=I.sqB hq;obtain⟨jts,rw',p'⟩:=I.sqB hr;obtain⟨u,hu,ru⟩:=rv.get hx;obtain⟨u',hu',ru'⟩:=rw'.get hy;have lt:∀c∈[z,ti,to,i,j],c<s.heap.objs.size:=fun c hc=>by
   obtain⟨hz,hi,⟨_,_,ho⟩,⟨_,q1,_⟩,⟨_,q2,_⟩⟩:=st;simp only[qO,qM,or_false] at hc;rcases hc with rfl|rfl|rfl|rfl|rfl
   .exact qx hz
   .exact qx hi
   .exact qx ho
   .exact qx q1
   .exact qx q2
  refine DD (I.ok.hd hc) D st p.sqn p'.sqn (fun a a' h' e1 e2 hz' hTO' h1' h2' hT hk=>?_) fun h' no _=>?_
  rotate_left
  .rcases no with no|no
   .rw[hu] at no;cases no
   .rw[hu'] at no;cases no
  rw[hu] at e1;rw[hu'] at e2;cases e1;cases e2;refine⟨_,rfl,wpAny_letOwnedTupleGo_zip hz' fun h3 hz3 hs3=>?_⟩;have hs3':iP z h' h3:=hs3;have kk:∀c o,c∉[z,ti,to,i,j]->s.heap.get? c=aa o->h3.get? c=aa o:=fun c o hc q=>by simp only[qO,qM,or_false,mT] at hc;exact(hs3'.2 c hc.1).trans (hk c o hc.1 hc.2.2.1 hc.2.2.2.1 hc.2.2.2.2 q)
  have hTz:s.heap.objs.size≠z:=uY (lt z (by simp));have hT2:h3.get? s.heap.objs.size=aa {cls:=.type "tuple",data:=.seq #[u,u']}:=(hs3'.2 _ hTz).trans hT;have nH:H s.heap.objs.size=ac:=I.fresh;have ne:∀c o,H c=aa o->c∉[z,ti,to,i,j]:=fun c o q hc=>by rw[(hf c hc).1] at q;cases q
  have I1:Inv X pins σ (upd H s.heap.objs.size (.tup [x,y])) {s with heap:=h3}:=by
   refine I.step (g':=s.gens) (d':=s.drawn) (ch:=[z,ti,to,i,j]) (fun c hc=>?_) (fun c o _ _ hc q _=>kk c o hc q) (fun c o _ _ hc q _=>⟨o.slots,kk c o hc q⟩) (fun c o _ q n=>?_)
    (fun c o hc q=>⟨o,kk c o hc q⟩) (fun c ws q=>?_) (fun c o ws q=>?_) (fun c ps q=>⟨#[],?_⟩) (fun m hm=>?_) (fun c v q=>?_) I.bare
   .obtain⟨_,e1,_,e3,e4,e5⟩:=hf c hc;exact⟨e3,e1,e4,e5⟩
   .rw[aX (qG (qx q))];exact n
   .rw[aX (ck q nH)];exact q
   .rw[aX (ck q nH)];exact q
   .rw[aX (ck q nH),q];simp
   .obtain⟨o,es,ep,q,r⟩:=hm;refine⟨o,es,ep,kk _ o (fun hc=>?_) q,r⟩;exact(hf _ hc).2.1 rfl
   .by_cases hb:c=s.heap.objs.size
    .subst hb;rw[b7] at q;cases q;exact⟨by show 2<=aK;decide,[u,u'],.cons ru (.cons ru' .nil),⟨_,hT2,rfl,_,rfl⟩⟩
    .rw[aX hb] at q;refine(I.hok c v q).stay (fun c' v' hc r=>?_) (fun c r=>by rw[aX (ck r nH)];exact r) fun c ys r=>by rw[aX (ck r nH)];exact r
     rcases hc with e|e
     .rw[e] at r ⊢;exact kk c v' (ne c _ q) r
     .exact kk c' v' (ne c' _ e) r
  refine⟨.ref s.heap.objs.size,_,I1,rfl,⟨_,x,y,rfl,nH,rfl,fun ws hw=>by rw[I.sqB_inj hw hq];exact hx,fun ws hw=>by rw[I.sqB_inj hw hr];exact hy⟩,
   ⟨hz3,(hs3'.2 ti D.TIz).trans (hk ti _ D.TIz D.TITO D.TIi1 D.TIi2 st.ti),⟨u,u',(hs3'.2 to D.TOz).trans hTO'⟩,h1'.at fun o q=>(hs3'.2 i D.i1z).trans q,h2'.at fun o q=>(hs3'.2 j D.i2z).trans q⟩,fun c hc=>?_⟩
  rw[aX (qG (lt c hc))];exact(hf c hc).1
 done:=by
  intro X hP hw hK hc n pins s σ H E I hf st hg;subst hP hw hK;obtain⟨xs,ys,hq,hr,he⟩:=hg;obtain⟨its,rv,p⟩:=I.sqB hq;obtain⟨jts,rw',p'⟩:=I.sqB hr;have l1:=rv.length;have l2:=rw'.length;refine DD (I.ok.hd hc) D st p.sqn p'.sqn (fun a a' h' e1 e2 _ _ _ _ _ _=>?_) fun h' _ hk=>⟨rfl,?_⟩
  .have y1:=(gA.mp e1).1;have y2:=(gA.mp e2).1;exact bx he (by omega)
  have ne:∀c o,H c=aa o->c∉[z,ti,to,i,j]:=fun c o q hc=>by rw[(hf c hc).1] at q;cases q
  have kk:∀c o,c∉[z,ti,to,i,j]->s.heap.get? c=aa o->h'.get? c=aa o:=fun c o hc q=>by simp only[qO,qM,or_false,mT] at hc;exact hk c o hc.1 hc.2.2.1 hc.2.2.2.1 hc.2.2.2.2 q
  refine I.step (g':=s.gens) (d':=s.drawn) (ch:=[z,ti,to,i,j]) (fun c hc=>?_) (fun c o _ _ hc q _=>kk c o hc q) (fun c o _ _ hc q _=>⟨o.slots,kk c o hc q⟩) (fun _ _ _ _ n=>n)
   (fun c o hc q=>⟨o,kk c o hc q⟩) (fun _ _ e=>e) (fun _ _ _ e=>e) (fun c ps e=>⟨#[],by rw[e];simp⟩) (fun m hm=>?_) (fun c v q=>?_) I.bare
  .obtain⟨_,e1,_,e3,e4,e5⟩:=hf c hc;exact⟨e3,e1,e4,e5⟩
  .obtain⟨o,es,ep,q,r⟩:=hm;exact⟨o,es,ep,kk _ o (fun hc=>(hf _ hc).2.1 rfl) q,r⟩
  .refine(I.hok c v q).stay (fun c' v' hc r=>?_) (fun _ r=>r) fun _ _ r=>r;rcases hc with e|e
   .rw[e] at r ⊢;exact kk c v' (ne c _ q) r
   .exact kk c' v' (ne c' _ e) r
 self:=fun A i s Q E st h=>QT st.1 h
noncomputable def Jg (K:aR) (ta:TA):TI:=fun σ H R=>ta σ H fun vs H1=>∃b k l,vs=[.ref k,.ref l]/\(∃xs,SqX b K H1 k xs)/\(∃ys,SqX b K H1 l ys)/\R (Itz b K k l) H1
theorem Hr {ta:TA} {k1:ag} (hg:Gl X "zip") (hm:X.mg "zip"=ac) (ha:PA X [a,b] ta) (hs:aH [a,b] X.env=(ao,eval a X.env)::aH [b] X.env:=by rfl) (hpl:(ca pos (aH [b] X.env)).any (·.1)=ao:=by rfl) :
  PI X (.Tuple elts k1 tpos) (.Call (.Name "zip" p) [a,b] [] pos) (Jg X.K ta):=by
 intro pins s σ H R I h;refine Call_ (na I hg hm Sb (yt (thn (ha pos pins s σ H _ I h) fun us s1 ⟨vs,H1,I1,r1,q1⟩=>?_) hs hpl));obtain⟨b,l,m,e,⟨xs,hq⟩,⟨ys,hr⟩,q⟩:=q1;subst e;cases r1 with
 |cons r2 r3=>
 obtain⟨u,rfl,r4⟩:=fU r3;cases r2;cases r4;obtain⟨its,rv,pl⟩:=I1.sqB hq;obtain⟨jts,rw',pm⟩:=I1.sqB hr;have ll:l<s1.heap.objs.size:=by obtain⟨o,_,h1,_⟩:=pl.sqn;exact qx h1
 have lm:m<s1.heap.objs.size:=by obtain⟨o,_,h1,_⟩:=pm.sqn;exact qx h1
 have nA:∀{x y:ag},x≠y->@Ne au x y:=fun h=>h;have ll':@LT.lt ag _ l s1.heap.objs.size:=ll;have lm':@LT.lt ag _ m s1.heap.objs.size:=lm;refine Jx pl pm fun h' hz hk=>?_;have I2:Inv X pins σ H1 {s1 with heap:=h'}:=I1.kept (t':=s1.toks) hk;refine QT hz.z ?_;refine⟨s1.heap.objs.size+4,[s1.heap.objs.size+4,s1.heap.objs.size+2,s1.heap.objs.size+3,s1.heap.objs.size,s1.heap.objs.size+1],_,_,H1,rfl,I2,LR (z:=s1.heap.objs.size+4) (ti:=s1.heap.objs.size+2) (to:=s1.heap.objs.size+3) (i:=s1.heap.objs.size) (j:=s1.heap.objs.size+1) (k:=l) (l:=m) ⟨nA (by omega),nA (by omega),nA (by omega),nA (by omega),nA (by omega),nA (by omega),nA (by omega),nA (by omega),nA (by omega),nA (by omega),nA (by omega),nA (by omega),nA (by omega),nA (by omega),nA (by omega),nA (by omega),nA (by omega),nA (by omega)⟩,hz,fun c hc=>?_,q⟩;have le:s1.heap.objs.size<=c:=by
  simp only[qO,qM,or_false] at hc;rcases hc with rfl|rfl|rfl|rfl|rfl
  .exact iX _ _
  .exact iX _ _
  .exact iX _ _
  .exact qy _
  .exact iX _ _
 exact I1.fpOk le (I1.hok.fresh le)
section
variable {g:FE}
theorem bp.sqX {c:aU} {a:au} (s:bp G G') (h:SqX c K G a vs):SqX c K G' a vs:=by
 cases c with
 |true=>exact s.seq h
 |false=>
  rcases h with(h|⟨o,h⟩)|h
  .exact .inl (.inl (s _ _ h))
  .exact .inl (.inr ⟨o,s _ _ h⟩)
  .exact .inr h
theorem DC {c:aU} {a b:au} {us:ab V} {es:ab D} (h:SqX c K G a vs) (h':SqX c K G b us) (r:Reps Γ K G vs ds) (r':Reps Γ K G us es):Yd Γ K (Itz c K a b) G ((ds.zip es).map fun z=>D.tup [z.1,z.2]):=by
 refine⟨fun i d G2 H2 hd g1 g2=>?_,fun G2 H2 g1 g2=>⟨vs,us,g2.sqX (g1.sqX h),g2.sqX (g1.sqX h'),?_⟩⟩
 .rw[ql] at hd;obtain⟨⟨d1,d2⟩,hz,rfl⟩:=oMd hd;obtain⟨hd1,hd2⟩:=P5.mp hz;obtain⟨v,hv,rv⟩:=r.get hd1;obtain⟨u,hu,ru⟩:=r'.get hd2;refine⟨⟨vs,us,v,u,g2.sqX (g1.sqX h),g2.sqX (g1.sqX h'),hv,hu⟩,fun x H3 ⟨T,y,y',e0,hT,e1,e2,e3⟩=>?_⟩;subst e0;have q1:=e2 vs (g2.sqX (g1.sqX h));rw[hv] at q1;cases q1;have q2:=e3 us (g2.sqX (g1.sqX h'));rw[hu] at q2;cases q2;subst e1;have s:=Step.new (o:=.tup [v,u]) g2 hT;exact⟨_,s,.tup b7 (.cons ((rv.mono g1).mono s.gg) (.cons ((ru.mono g1).mono s.gg) .nil))⟩
 .rw[qe,List.length_zip,r.length,r'.length];rcases Nat.le_total ds.length es.length with z|z
  .exact .inl (by rw[vo z];exact qy _)
  .exact .inr (by rw[Nat.min_eq_right z];exact qy _)
noncomputable def C5 (x y:D):aq (ab D):=match x,y with
 |.lst l,.lst m=>aa ((l.zip m).map fun z=>D.tup [z.1,z.2])
 |.tup l,.tup m=>aa ((l.zip m).map fun z=>D.tup [z.1,z.2])
 |_,_=>ac
noncomputable def itZ (f g:FE):FA:=fun ρ=>(f ρ).bind fun x=>(g ρ).bind fun y=>C5 x y
theorem Gb {k1:ag} (hg:Gl X "zip") (hm:X.mg "zip"=ac) (h:DE Γ X a f) (h':DE Γ X b g) (hs:aH [a,b] X.env=(ao,eval a X.env)::aH [b] X.env:=by rfl) (hs1:aH ([b]:ab Expr) X.env=(ao,eval b X.env)::aH [] X.env:=by rfl) (hpl:(ca pos (aH [b] X.env)).any (·.1)=ao:=by rfl) :
  DI Γ X (.Tuple elts k1 tpos) (.Call (.Name "zip" p) [a,b] [] pos) (itZ f g):=⟨(Hr hg hm (eY h.1 (eY h'.1 gc hs1) hs) hs hpl).imp fun σ H R=>by
 rintro⟨G₀,H₀,G,ρ,ds,A,h,k⟩;unfold itZ at h;obtain⟨x,hx,h⟩:=oBd h;obtain⟨y,hy,h⟩:=oBd h;refine⟨G₀,H₀,G,ρ,x,A,hx,fun v G1 H1 s1 r1=>⟨G₀,H₀,G1,ρ,y,A.step s1,hy,fun u G2 H2 s2 r2=>?_⟩⟩;unfold C5 at h;split at h
 .cases h;obtain⟨a,vs,rfl,ha,rv⟩:=(r1.mono s2.gg).lst_inv;obtain⟨b,us,rfl,hb,ru⟩:=r2.lst_inv;exact⟨ai,a,b,rfl,⟨vs,.inl (.inl (s2.gh _ _ ha))⟩,⟨us,.inl (.inl (s2.gh _ _ hb))⟩,k _ G2 H2 (s1.trans s2) (DC (c:=ai) (.inl (.inl ha)) (.inl (.inl hb)) rv ru)⟩
 .cases h;obtain⟨a,vs,rfl,ha,rv⟩:=(r1.mono s2.gg).tup_inv;obtain⟨b,us,rfl,hb,ru⟩:=r2.tup_inv;exact⟨ao,a,b,rfl,⟨vs,.inl (.inl (s2.gh _ _ ha))⟩,⟨us,.inl (.inl (s2.gh _ _ hb))⟩,k _ G2 H2 (s1.trans s2) (DC (c:=ao) (.inl (.inl ha)) (.inl (.inl hb)) rv ru)⟩
 .cases h⟩
end
namespace Law
abbrev cj (l:ab D):aq D:=(szD l).map .tup
abbrev ka (l:ab D):aq D:=aa (.lst l)
abbrev FQ':=au->ab D->aj->aq (D×aj)
noncomputable def top (i:ag):Stmt:=Sc.main.body.getD i (.Pass ⟨0,0,0,0⟩)
noncomputable def Ee:ab ah:=["benches","steps","jobs","setups","links","stocks","horizon","bench_by_name","step_by_name","setup_by_names","job_by_step"]
noncomputable def B0:ab ah:=["words","place","counted"]
noncomputable def Gam (C_Shop C_TreeWords:au):Cn:=⟨fun c=>if c="Shop" then aa C_Shop else if c="TreeWords" then aa C_TreeWords else ac,ac⟩
noncomputable def oI:FQ:=bJ 0
  (aS (sIf (toB (b2 eqD (b2 ixD (vSh 0) (vC (.int 0))) (vC (.str "ring")))) (aT (b2 bA (aL (szF (ae (vC (.str "ring")) af))) (b2 ixD (vSh 0) (vC (.int 1))))) bR) (aS (sIf (toB (b2 eqD (b2 ixD (vSh 0) (vC (.int 0))) (vC (.str "stretch")))) (aT (b2 bA (aL (szF (ae (vC (.str "stretch")) (ae (cF fJ (ae (b2 ixD (vSh 0) (vC (.int 2))) af)) (ae (cF fJ (ae (b2 ixD (vSh 0) (vC (.int 3))) af)) af))))) (b2 ixD (vSh 0) (vC (.int 1))))) bR) (aT (aL (bQ (itF (vSh 0)) (aM 0) tT (cF fJ (ae (vSh 0) af)) [ac])))))
noncomputable def kj (W:FQ):FQ:=bJ 0
  (aT (b2 bA (b2 bA (aL (szF (ae (vC (.str "[")) af))) (cF W (ae (vSh 0) af))) (aL (szF (ae (vC (.str "]")) af)))))
noncomputable def sV (W:FQ):FQ:=bJ 3
  (aS (jk 1 (szF af)) (aS (dZ (itF (b2 ixD (vSh 0) (vC (.int 0)))) (aM 2) (sIf (toB (b2 eqD (b2 ixD (vSh 2) (vC (.int 0))) (vC (.str "not")))) (fM 1 (b2 bA (b2 bA (b2 bA (aL (szF (ae (vC (.str "not")) af))) (aL (bQ (itF (b2 ixD (vSh 2) (vC (.int 1)))) (aM 0) tT (cF fJ (ae (vSh 0) af)) [ac]))) (aL (szF (ae (cF fJ (ae (b2 ixD (vSh 2) (vC (.int 2))) af)) af)))) (cF (kj W) (ae (b2 ixD (vSh 2) (vC (.int 3))) af)))) (fM 1 (cF uH (ae (vSh 2) af))))) (aS (rh 1 (vC (.str ";"))) (aS (eh 3 (b2 ixD (vSh 0) (vC (.int 1)))) (aS (sIf (toB (b2 eqD (b2 ixD (vSh 3) (vC (.int 0))) (vC (.str "both")))) (fM 1 (b2 bA (b2 bA (b2 bA (aL (szF (ae (vC (.str "both")) af))) (aL (bQ (itF (b2 ixD (vSh 3) (vC (.int 1)))) (aM 0) tT (cF fJ (ae (vSh 0) af)) [ac]))) (cF (kj W) (ae (b2 ixD (vSh 3) (vC (.int 2))) af))) (cF (kj W) (ae (b2 ixD (vSh 3) (vC (.int 3))) af)))) (fM 1 (cF oI (ae (vSh 3) af)))) (kO 1 (aT (vSh 1))))))))
noncomputable def rj:ag->FQ
 |0=>fun _=>ac
 |n+1=>sV (rj n)
noncomputable def D1:FQ:=rj 8
noncomputable def gx:FQ:=bJ 0
  (aS (sIf (orT (bh (toB (cF c6 (ae (vSh 0) (ae (vC (.ty "str")) af))))) (bh (toB (chD leD leD (vC (.int 1)) (cF bS (ae (vSh 0) af)) (vC (.int 8)))))) (aT (vC (.bl ao))) bR) (aT (cF e9 (ae (aL (bQ (itS (vSh 0)) (aM 0) tT (chD leD leD (vC (.str "a")) (vSh 0) (vC (.str "z"))) [ac])) af))))
noncomputable def ff:FQ:=bJ 0
  (aT (b2 eqD (b1 nW (vSh 0)) (cF bS (ae (vSh 0) af))))
noncomputable def jT:(au->ab D->Fs->aq (D×Fs)):=cC 0
  (bI (mq (rM (r2 ltD (eK "place") (rM (aw (eK "words") (rP af)) bS)) blD) (r2 ixD (eK "words") (eK "place")) (rP (vC (.str "")))))
noncomputable def kN:(au->ab D->Fs->aq (D×Fs)):=cC 0
  (aC (pH "counted" (r2 bA (eK "counted") (rP (vC (.int 1))))) (qIf (rM (r2 gtD (eK "counted") (rP (vC (.int 3000)))) blD) (fun _ _=>ac) bZ))
noncomputable def jx:(au->ab D->Fs->aq (D×Fs)):=cC 1
  (aC (aV 1 (bO "ahead_of_all" jT 0 (rP af))) (aC (pH "place" (r2 bA (eK "place") (rP (vC (.int 1))))) (bI (rP (vSh 1)))))
noncomputable def gl:(au->ab D->Fs->aq (D×Fs)):=cC 1
  (aC (aV 2 (bO "take" jx 0 (rP af))) (aC (qIf (rP (toB (b2 nI (vSh 2) (vSh 1)))) (fun _ _=>ac) bZ) (bI (rP (vSh 2)))))
noncomputable def gM:(au->ab D->Fs->aq (D×Fs)):=cC 1
  (aC (aV 1 (bO "take" jx 0 (rP af))) (aC (qIf (rP (bh (toB (cF gx (ae (vSh 1) af))))) (fun _ _=>ac) bZ) (bI (rP (vSh 1)))))
noncomputable def sZ:FQ:=bJ 0
  (aS (sIf (orT (toB (b2 eqD (vSh 0) (vC (.str "")))) (gk (toB (b2 eqD (b2 ixD (vSh 0) (vC (.int 0))) (vC (.str "0")))) (toB (b2 neD (vSh 0) (vC (.str "0")))))) (aT (vC (.bl ao))) bR) (aT (cF e9 (ae (aL (bQ (itS (vSh 0)) (aM 0) tT (b2 tG (vSh 0) (vC (.str "0123456789"))) [ac])) af))))
noncomputable def tm:FQ:=bJ 2
  (aS (eh 1 (vC (.int 0))) (aS (dZ (itS (vSh 0)) (aM 2) (eh 1 (b2 bA (b2 hV (vSh 1) (vC (.int 10))) (mF mo (vC (.str "0123456789")) (ae (vSh 2) af))))) (aT (vSh 1))))
noncomputable def lZ:(au->ab D->Fs->aq (D×Fs)):=cC 1
  (aC (aV 2 (bO "take" jx 0 (rP af))) (aC (qIf (rP (orT (toB (b2 gtD (cF bS (ae (vSh 2) af)) (vSh 1))) (bh (toB (cF sZ (ae (vSh 2) af)))))) (fun _ _=>ac) bZ) (bI (rP (cF tm (ae (vSh 2) af))))))
noncomputable def oQ:(au->ab D->Fs->aq (D×Fs)):=cC 1
  (aC (qIf (rM (rM (rBm tz (bO "ahead_of_all" jT 0 (rP af)) (aw (rP (vC (.str "-"))) (rP af))) blD) fun b=>aa (!b)) (bI (bO "take_number" lZ 0 (rP (ae (vC (.int 40)) af)))) bZ) (aC (aV 1 (r2 xF (bO "take" jx 0 (rP af)) (rP (vC (.int 1))))) (aC (qIf (rP (orT (toB (b2 gtD (cF bS (ae (vSh 1) af)) (vC (.int 40)))) (orT (bh (toB (cF sZ (ae (vSh 1) af)))) (toB (b2 eqD (vSh 1) (vC (.str "0"))))))) (fun _ _=>ac) bZ) (bI (rP (b1 oY (cF tm (ae (vSh 1) af))))))))
noncomputable def tF:(au->ab D->Fs->aq (D×Fs)):=cC 2
  (aC (aV 1 (bO "take_just" gl 0 (rP (ae (aL (szF (ae (vC (.str "start")) (ae (vC (.str "on")) (ae (vC (.str "order")) (ae (vC (.str "keep")) af)))))) af)))) (aC (aV 2 (bO "take_name" gM 0 (rP af))) (aC (qIf (rP (toB (b2 eqD (vSh 1) (vC (.str "keep"))))) (bI (rP (b5 (szF (ae (vSh 1) (ae (vSh 2) af)))))) bZ) (aC (qIf (rP (toB (b2 eqD (vSh 1) (vC (.str "start"))))) (bI (rM (aw (rP (vSh 1)) (aw (rP (vSh 2)) (aw (bO "take_start" oQ 0 (rP af)) (rP af)))) cj)) bZ) (bI (rM (aw (rP (vSh 1)) (aw (rP (vSh 2)) (aw (bO "take_name" gM 0 (rP af)) (rP af)))) cj))))))
noncomputable def uK:(au->ab D->Fs->aq (D×Fs)):=cC 1
  (aC (fP 1 (rM (aw (bO "take_name" gM 0 (rP af)) (rP af)) szD)) (aC (whR (rM (rM (aw (bO "ahead_of_all" jT 0 (rP af)) (rP af)) gx) blD) (eL 1 (bO "take" jx 0 (rP af))) 100000) (fS 1 (bI (rP (vSh 1))))))
noncomputable def sB:(au->ab D->Fs->aq (D×Fs)):=cC 2
  (aC (aV 1 (bO "take_number" lZ 0 (rP (ae (vC (.int 7)) af)))) (aC (aV 2 (bO "take_number" lZ 0 (rP (ae (vC (.int 7)) af)))) (aC (qIf (rP (toB (b2 geD (vSh 1) (vSh 2)))) (fun _ _=>ac) bZ) (bI (rP (b5 (szF (ae (vSh 1) (ae (vSh 2) af)))))))))
noncomputable def xM:(au->ab D->Fs->aq (D×Fs)):=cC 2
  (aC (aV 1 (aI sB 0 (rP af))) (aC (aV 2 (bO "take_names" uK 0 (rP af))) (aC (qIf (rP (bh (toB (cF ff (ae (vSh 2) af))))) (fun _ _=>ac) bZ) (bI (rP (b5 (szF (ae (vC (.str "stretch")) (ae (vSh 2) (ae (b2 ixD (vSh 1) (vC (.int 0))) (ae (b2 ixD (vSh 1) (vC (.int 1))) af)))))))))))
noncomputable def oH (W:(au->ab D->Fs->aq (D×Fs))):(au->ab D->Fs->aq (D×Fs)):=cC 4
  (aC (ju (bO "count_one" kN 0 (rP af))) (aC (aV 2 (bO "take_just" gl 0 (rP (ae (aL (szF (ae (vC (.str "low")) (ae (vC (.str "high")) (ae (vC (.str "fit")) (ae (vC (.str "not")) af)))))) af)))) (aC (qIf (rP (toB (b2 eqD (vSh 2) (vC (.str "not"))))) (aC (aV 3 (aI tF 0 (rP af))) (aC (aV 4 (mq (rM (r2 eqD (bO "take_just" gl 0 (rP (ae (aL (szF (ae (vC (.str "0")) (ae (vC (.str "1")) af)))) af))) (rP (vC (.str "0")))) blD) (rP (vC (.int 0))) (rP (vC (.int 1))))) (bI (rM (aw (rP (vSh 2)) (aw (rP (vSh 3)) (aw (rP (vSh 4)) (aw (aI W 0 (aw (rP (vSh 1)) (rP af))) (rP af))))) cj)))) bZ) (aC (qIf (rP (toB (b2 eqD (vSh 2) (vC (.str "fit"))))) (bI (rM (aw (rP (vSh 2)) (aw (bO "take_name" gM 0 (rP af)) (rP af))) cj)) bZ) (aC (aV 5 (bO "take_name" gM 0 (rP af))) (bI (rM (aw (rP (vSh 2)) (aw (rP (vSh 5)) (aw (bO "take_name" gM 0 (rP af)) (rP af)))) cj)))))))
noncomputable def wl (W:(au->ab D->Fs->aq (D×Fs))):(au->ab D->Fs->aq (D×Fs)):=cC 7
  (aC (ju (bO "count_one" kN 0 (rP af))) (aC (aV 2 (bO "take_just" gl 0 (rP (ae (aL (szF (ae (vC (.str "both")) (ae (vC (.str "window")) (ae (vC (.str "ring")) (ae (vC (.str "stretch")) (ae (vC (.str "together")) (ae (vC (.str "stock")) (ae (vC (.str "moved")) af))))))))) af)))) (aC (qIf (rP (toB (b2 eqD (vSh 2) (vC (.str "both"))))) (aC (aV 3 (aI tF 0 (rP af))) (aC (aV 4 (aI W 0 (aw (rP (vSh 1)) (rP af)))) (bI (rM (aw (rP (vSh 2)) (aw (rP (vSh 3)) (aw (rP (vSh 4)) (aw (aI W 0 (aw (rP (vSh 1)) (rP af))) (rP af))))) cj)))) bZ) (aC (qIf (rP (toB (b2 eqD (vSh 2) (vC (.str "window"))))) (bI (rM (aw (rP (vSh 2)) (aw (bO "take_name" gM 0 (rP af)) (rP af))) cj)) bZ) (aC (qIf (rP (toB (b2 eqD (vSh 2) (vC (.str "ring"))))) (bI (rM (aw (rP (vSh 2)) (aw (bO "take_names" uK 0 (rP af)) (rP af))) cj)) bZ) (aC (qIf (rP (toB (b2 eqD (vSh 2) (vC (.str "stretch"))))) (bI (aI xM 0 (rP af))) bZ) (aC (qIf (rP (toB (b2 eqD (vSh 2) (vC (.str "together"))))) (aC (aV 5 (bO "take_name" gM 0 (rP af))) (aC (aV 6 (aI sB 0 (rP af))) (bI (rP (b5 (szF (ae (vSh 2) (ae (vSh 5) (ae (b2 ixD (vSh 6) (vC (.int 0))) (ae (b2 ixD (vSh 6) (vC (.int 1))) af)))))))))) bZ) (aC (qIf (rP (toB (b2 eqD (vSh 2) (vC (.str "stock"))))) (aC (aV 7 (bO "take_name" gM 0 (rP af))) (aC (aV 8 (bO "take_number" lZ 0 (rP (ae (vC (.int 7)) af)))) (bI (rM (aw (rP (vSh 2)) (aw (rP (vSh 7)) (aw (rP (vSh 8)) (aw (bO "take_just" gl 0 (rP (ae (aL (szF (ae (vC (.str "less")) (ae (vC (.str "more")) af)))) af))) (rP af))))) cj)))) bZ) (bI (rP (b5 (szF (ae (vSh 2) af)))))))))))))
noncomputable def uP (W:(au->ab D->Fs->aq (D×Fs))):(au->ab D->Fs->aq (D×Fs)):=cC 1
  (aC (qIf (rP (toB (b2 gtD (vSh 1) (vC (.int 40))))) (fun _ _=>ac) bZ) (aC (fP 2 (rP (szF af))) (aC (whR (rM (r2 neD (bO "ahead_of_all" jT 0 (rP af)) (rP (vC (.str ";")))) blD) (eL 2 (aI (oH W) 0 (aw (rP (vSh 1)) (rP af)))) 100000) (aC (ju (bO "take" jx 0 (rP af))) (fS 2 (bI (rM (aw (rP (vSh 2)) (aw (aI (wl W) 0 (aw (rP (vSh 1)) (rP af))) (rP af))) cj)))))))
noncomputable def Dt (W:(au->ab D->Fs->aq (D×Fs))):(au->ab D->Fs->aq (D×Fs)):=cC 1
  (aC (ju (bO "take_just" gl 0 (rP (ae (aL (szF (ae (vC (.str "[")) af))) af)))) (aC (aV 2 (aI (uP W) 0 (aw (rP (b2 bA (vSh 1) (vC (.int 1)))) (rP af)))) (aC (ju (bO "take_just" gl 0 (rP (ae (aL (szF (ae (vC (.str "]")) af))) af)))) (bI (rP (vSh 2))))))
noncomputable def o6:ag->(au->ab D->Fs->aq (D×Fs))
 |0=>fun _ _ _=>ac
 |n+1=>Dt (o6 n)
noncomputable def wM:(au->ab D->Fs->aq (D×Fs)):=o6 8
noncomputable def wK:(au->ab D->Fs->aq (D×Fs)):=uP wM
noncomputable def ba:FQ':=cC 1
  (aC (aV 2 (r2 ib uq (rP (vSh 1)))) (aC (vK (r2 kZ uq (rP (vSh 1)))) (bI (rP (vSh 2)))))
noncomputable def je (fH:FQ):FQ:=bJ 0
  (aS (sIf (toB (cF c6 (ae (vSh 0) (ae (vC (.ty "list")) af)))) (aT (aL (bQ (itF (vSh 0)) (aM 0) tT (cF fH (ae (vSh 0) af)) [ac]))) bR) (aS (sIf (toB (cF c6 (ae (vSh 0) (ae (vC (.ty "tuple")) af)))) (aT (cF vW (ae (aL (bQ (itF (vSh 0)) (aM 0) tT (cF fH (ae (vSh 0) af)) [ac])) af))) bR) (aT (vSh 0))))
noncomputable def i7:ag->FQ
 |0=>fun _=>ac
 |n+1=>je (i7 n)
noncomputable def fH:FQ:=i7 8
noncomputable def nJ:FQ:=bJ 0
  (aT (aL (bQ (itF (jY "Shop" "steps" (vSh 0))) (aM 0) tT (b2 ixD (vSh 0) (vC (.int 0))) [ac])))
noncomputable def lx:FQ:=bJ 0
  (aT (jY "Shop" "horizon" (vSh 0)))
noncomputable def p0:FQ:=bJ 0
  (aT (aL (bQ (itF (jY "Shop" "benches" (vSh 0))) (aM 0) tT (b2 ixD (vSh 0) (vC (.int 0))) [ac])))
noncomputable def q0:FQ':=cC 4
  (aC (aV 2 (rP (dM "Shop" "step_names" nJ (vSh 1) af))) (aC (aV 3 (r2 ixD (rP (vSh 2)) (aI ba 0 (aw (rP (cF bS (ae (vSh 2) af))) (rP af))))) (aC (aV 4 (aI ba 0 (aw (rP (vC (.int 4))) (rP af)))) (aC (qIf (rP (toB (b2 eqD (vSh 4) (vC (.int 0))))) (bI (rM (aw (rP (vC (.str "start"))) (aw (rP (vSh 3)) (aw (aI ba 0 (aw (rP (b2 bA (dM "Shop" "last_moment" lx (vSh 1) af) (vC (.int 2)))) (rP af))) (rP af)))) cj)) bZ) (aC (qIf (rP (toB (b2 eqD (vSh 4) (vC (.int 1))))) (aC (aV 5 (rP (dM "Shop" "bench_names" p0 (vSh 1) af))) (bI (rM (aw (rP (vC (.str "on"))) (aw (rP (vSh 3)) (aw (r2 ixD (rP (vSh 5)) (aI ba 0 (aw (rP (cF bS (ae (vSh 5) af))) (rP af)))) (rP af)))) cj))) bZ) (aC (qIf (rP (toB (b2 eqD (vSh 4) (vC (.int 2))))) (bI (rM (aw (rP (vC (.str "order"))) (aw (rP (vSh 3)) (aw (r2 ixD (rP (vSh 2)) (aI ba 0 (aw (rP (cF bS (ae (vSh 2) af))) (rP af)))) (rP af)))) cj)) bZ) (bI (rP (b5 (szF (ae (vC (.str "keep")) (ae (vSh 3) af))))))))))))
noncomputable def oG:FQ':=cC 1
  (aC (aV 2 (aI ba 0 (aw (rP (dM "Shop" "last_moment" lx (vSh 1) af)) (rP af)))) (bI (rM (aw (rP (vSh 2)) (aw (r2 bA (rP (b2 bA (vSh 2) (vC (.int 1)))) (aI ba 0 (aw (rP (b2 eB (dM "Shop" "last_moment" lx (vSh 1) af) (vSh 2))) (rP af)))) (rP af))) cj)))
noncomputable def lT:FQ:=bJ 0
  (aT (cF fH (ae (jY "Shop" "jobs" (vSh 0)) af)))
noncomputable def pd:FQ:=bJ 0
  (aT (cF fH (ae (jY "Shop" "stocks" (vSh 0)) af)))
noncomputable def oP:FQ':=cC 6
  (aC (aV 2 (rP (dM "Shop" "step_names" nJ (vSh 1) af))) (aC (aV 3 (aI ba 0 (aw (rP (vC (.int 6))) (rP af)))) (aC (qIf (rP (toB (b2 eqD (vSh 3) (vC (.int 1))))) (bI (rM (aw (rP (vC (.str "ring"))) (aw (rM (iB (rM (aw (r2 bA (rP (vC (.int 1))) (aI ba 0 (aw (rP (vC (.int 3))) (rP af)))) (rP af)) gq) (aM 0) (rP tT) (r2 ixD (rP (vSh 1)) (aI ba 2 (aw (rP (cF bS (ae (vSh 1) af))) (rP af)))) [ac,aa 2,aa 0]) ka) (rP af))) cj)) bZ) (aC (qIf (rP (toB (b2 eqD (vSh 3) (vC (.int 2))))) (aC (pO (ie 2 (eU (aM 4) (eU (aM 5) ij))) (aI oG 0 (aw (rP (vSh 1)) (rP af)))) (aC (aV 6 (rP (dM "Shop" "bench_names" p0 (vSh 1) af))) (bI (rM (aw (rP (vC (.str "stretch"))) (aw (r2 xq (rP (vSh 6)) (aI ba 0 (aw (rP (cF bS (ae (vSh 6) af))) (rP af)))) (aw (rP (vSh 4)) (aw (rP (vSh 5)) (rP af))))) cj)))) bZ) (aC (qIf (rP (gk (toB (b2 eqD (vSh 3) (vC (.int 3)))) (toB (b2 neA (dM "Shop" "job_rows" lT (vSh 1) af) (aL (szF af)))))) (aC (pO (ie 2 (eU (aM 4) (eU (aM 5) ij))) (aI oG 0 (aw (rP (vSh 1)) (rP af)))) (bI (rM (aw (rP (vC (.str "together"))) (aw (r2 ixD (r2 ixD (rP (dM "Shop" "job_rows" lT (vSh 1) af)) (aI ba 0 (aw (rP (cF bS (ae (dM "Shop" "job_rows" lT (vSh 1) af) af))) (rP af)))) (rP (vC (.int 0)))) (aw (rP (vSh 4)) (aw (rP (vSh 5)) (rP af))))) cj))) bZ) (aC (qIf (rP (gk (toB (b2 eqD (vSh 3) (vC (.int 4)))) (toB (b2 neA (dM "Shop" "stock_rows" pd (vSh 1) af) (aL (szF af)))))) (aC (aV 7 (aI ba 0 (aw (rP (b2 bA (dM "Shop" "last_moment" lx (vSh 1) af) (vC (.int 1)))) (rP af)))) (bI (rM (aw (rP (vC (.str "stock"))) (aw (rP (b2 ixD (b2 ixD (dM "Shop" "stock_rows" pd (vSh 1) af) (vC (.int 0))) (vC (.int 0)))) (aw (rP (vSh 7)) (aw (r2 ixD (rP (aL (szF (ae (vC (.str "less")) (ae (vC (.str "more")) af))))) (aI ba 0 (aw (rP (vC (.int 2))) (rP af)))) (rP af))))) cj))) bZ) (aC (qIf (rP (toB (b2 eqD (vSh 3) (vC (.int 5))))) (bI (rP (b5 (szF (ae (vC (.str "moved")) af))))) bZ) (bI (rM (aw (rP (vC (.str "window"))) (aw (r2 ixD (rP (vSh 2)) (aI ba 0 (aw (rP (cF bS (ae (vSh 2) af))) (rP af)))) (rP af))) cj)))))))))
noncomputable def sG (W:FQ'):FQ':=cC 4
  (aC (aV 3 (rP (dM "Shop" "step_names" nJ (vSh 1) af))) (aC (aV 4 (aI ba 0 (aw (rP (vC (.int 4))) (rP af)))) (aC (qIf (rP (gk (toB (b2 eqD (vSh 4) (vC (.int 3)))) (toB (b2 gtD (vSh 2) (vC (.int 0)))))) (aC (aV 5 (aI q0 0 (aw (rP (vSh 1)) (rP af)))) (bI (rM (aw (rP (vC (.str "not"))) (aw (rP (vSh 5)) (aw (aI ba 0 (aw (rP (vC (.int 2))) (rP af))) (aw (aI W 0 (aw (rP (vSh 1)) (aw (rP (b2 eB (vSh 2) (vC (.int 1)))) (rP af)))) (rP af))))) cj))) bZ) (aC (qIf (rP (toB (b2 eqD (vSh 4) (vC (.int 2))))) (bI (rM (aw (rP (vC (.str "fit"))) (aw (r2 ixD (rP (vSh 3)) (aI ba 0 (aw (rP (cF bS (ae (vSh 3) af))) (rP af)))) (rP af))) cj)) bZ) (aC (aV 6 (r2 ixD (rP (vSh 3)) (aI ba 0 (aw (rP (cF bS (ae (vSh 3) af))) (rP af))))) (bI (rM (aw (rP (b2 ixD (aL (szF (ae (vC (.str "low")) (ae (vC (.str "high")) af)))) (b2 ib (vSh 4) (vC (.int 2))))) (aw (rP (vSh 6)) (aw (r2 ixD (rP (vSh 3)) (aI ba 0 (aw (rP (cF bS (ae (vSh 3) af))) (rP af)))) (rP af)))) cj)))))))
noncomputable def uI (W:FQ'):FQ':=cC 3
  (aC (aV 3 (rM (iB (rM (aw (aI ba 0 (aw (rP (vC (.int 3))) (rP af))) (rP af)) gq) (aM 0) (rP tT) (aI (sG W) 1 (aw (rP (vSh 2)) (aw (rP (vSh 3)) (rP af)))) [ac,aa 0,aa 1,aa 2]) ka)) (aC (qIf (kR (rP (toB (b2 gtD (vSh 2) (vC (.int 0))))) (rM (r2 eqD (aI ba 0 (aw (rP (vC (.int 2))) (rP af))) (rP (vC (.int 1)))) blD)) (aC (aV 4 (aI q0 0 (aw (rP (vSh 1)) (rP af)))) (aC (aV 5 (aI W 0 (aw (rP (vSh 1)) (aw (rP (b2 eB (vSh 2) (vC (.int 1)))) (rP af))))) (bI (rM (aw (rP (vSh 3)) (aw (rM (aw (rP (vC (.str "both"))) (aw (rP (vSh 4)) (aw (rP (vSh 5)) (aw (aI W 0 (aw (rP (vSh 1)) (aw (rP (b2 eB (vSh 2) (vC (.int 1)))) (rP af)))) (rP af))))) cj) (rP af))) cj)))) bZ) (bI (rM (aw (rP (vSh 3)) (aw (aI oP 0 (aw (rP (vSh 1)) (rP af))) (rP af))) cj))))
noncomputable def nt:ag->FQ'
 |0=>fun _ _ _=>ac
 |n+1=>uI (nt n)
noncomputable def tM:FQ':=nt 8
noncomputable def nc:ab D->aq (ab D):=nR 2
  (aS (eh 2 (vC (.int 0))) (aS (sIf (toB (b2 ltD (vSh 1) (cF bS (ae (vSh 0) af)))) (eh 2 (b2 ixD (vSh 0) (vSh 1))) bR) (aS (sIf (toB (b2 geD (vSh 2) (b2 gQ (vC (.int 10)) (vC (.int 18))))) (nZ (szF (ae (b2 ib (vSh 2) (b2 pv (b2 gQ (vC (.int 10)) (vC (.int 60))) (b2 gQ (vC (.int 10)) (vC (.int 60))))) af))) bR) (aS (eh 3 (b2 bA (b2 ib (b2 bA (b2 bA (vSh 2) (b2 hV (b2 hV (vC (.int 104729)) (vSh 1)) (vSh 1))) (b2 hV (vC (.int 15485863)) (cF bS (ae (vSh 0) af)))) (vC (.int 2147483629))) (vC (.int 48271)))) (nZ (szF (ae (b2 kZ (b2 gQ (b2 bA (b2 hV (vSh 3) (vC (.int 982451653))) (vC (.int 7))) (vC (.int 7))) (vC (.int 1000003))) af)))))))
noncomputable def rf:FQ':=cC 4
  (aC (fP 3 (rP (szF af))) (aC (iI (rM (aw (r2 bA (rP (vC (.int 1))) (aI ba 0 (aw (rP (vC (.int 2))) (rP af)))) (rP af)) gq) (aM 4) (aC (aV 5 (rP (aL (szF af)))) (aC (qIf (rM (r2 eqD (aI ba 0 (aw (rP (vC (.int 3))) (rP af))) (rP (vC (.int 1)))) blD) (aC (aV 6 (aI ba 0 (aw (rP (vSh 2)) (rP af)))) (aV 5 (rM (rM (aw (rM (aw (rP (vSh 6)) (aw (r2 bA (rP (b2 bA (vSh 6) (vC (.int 1)))) (aI ba 0 (aw (rP (b2 eB (vSh 2) (vSh 6))) (rP af)))) (rP af))) cj) (rP af)) szD) ka))) bZ) (eL 3 (rP (b5 (szF (ae (b2 bA (b2 ixD (vC (.str "ab")) (vSh 4)) (vSh 1)) (ae (vSh 5) af))))))))) (fS 3 (bI (rP (vSh 3))))))
noncomputable def oX:FQ':=cC 4
  (aC (fP 4 (rP (szF af))) (aC (iI (rM (aw (r2 bA (rP (vC (.int 1))) (aI ba 0 (aw (rP (vC (.int 3))) (rP af)))) (rP af)) gq) (aM 5) (aC (aV 6 (aI ba 0 (aw (rP (cF bS (ae (vSh 2) af))) (rP af)))) (aC (fP 7 (rM (aw (rM (aw (rP (b2 ixD (b2 ixD (vSh 2) (vSh 6)) (vC (.int 0)))) (aw (r2 bA (rP (vC (.int 1))) (aI ba 0 (aw (rP (cF lr (ae (vC (.int 3)) (ae (vSh 3) af)))) (rP af)))) (rP af))) cj) (rP af)) szD)) (aC (qIf (kR (rP (toB (b2 eqD (cF bS (ae (vSh 2) af)) (vC (.int 2))))) (kR (rM (r2 eqD (aI ba 0 (aw (rP (vC (.int 3))) (rP af))) (rP (vC (.int 1)))) blD) (rP (toB (b2 ltD (vSh 5) (vC (.int 2))))))) (eL 7 (rM (aw (rP (b2 ixD (b2 ixD (vSh 2) (b2 eB (vC (.int 1)) (vSh 6))) (vC (.int 0)))) (aw (r2 bA (rP (vC (.int 1))) (aI ba 0 (aw (rP (cF lr (ae (vC (.int 3)) (ae (vSh 3) af)))) (rP af)))) (rP af))) cj)) bZ) (fS 7 (eL 4 (rM (aw (rP (b2 bA (vSh 1) (b2 ixD (vC (.str "stu")) (vSh 5)))) (aw (r2 ixD (rP (vC (.str "km"))) (aI ba 0 (aw (rP (vC (.int 2))) (rP af)))) (aw (rP (vSh 7)) (rP af)))) cj))))))) (fS 4 (bI (rP (vSh 4))))))
noncomputable def oN:FQ':=cC 3
  (aC (qIf (rOr (rP (toB (b2 ltD (cF bS (ae (vSh 1) af)) (vC (.int 2))))) (rM (r2 neD (aI ba 0 (aw (rP (vC (.int 3))) (rP af))) (rP (vC (.int 1)))) blD)) (bI (rP (aL (szF af)))) bZ) (aC (aV 3 (aI ba 0 (aw (rP (cF bS (ae (vSh 1) af))) (rP af)))) (aC (aV 4 (r2 ib (r2 bA (rP (b2 bA (vSh 3) (vC (.int 1)))) (aI ba 0 (aw (rP (b2 eB (cF bS (ae (vSh 1) af)) (vC (.int 1)))) (rP af)))) (rP (cF bS (ae (vSh 1) af))))) (aC (fP 5 (rM (aw (rM (aw (rP (b2 ixD (vSh 1) (vSh 3))) (aw (rP (b2 ixD (vSh 1) (vSh 4))) (aw (aI ba 0 (aw (rP (cF lr (ae (vC (.int 3)) (ae (b2 bA (vSh 2) (vC (.int 1))) af)))) (rP af))) (rP af)))) cj) (rP af)) szD)) (aC (qIf (rM (r2 eqD (aI ba 0 (aw (rP (vC (.int 7))) (rP af))) (rP (vC (.int 1)))) blD) (eL 5 (rP (b5 (szF (ae (b2 ixD (vSh 1) (vSh 4)) (ae (b2 ixD (vSh 1) (vSh 3)) (ae (vC (.int 0)) af))))))) bZ) (fS 5 (bI (rP (vSh 5)))))))))
noncomputable def ub:FQ:=bJ 0
  (aT (cD (cF c6 (ae (vSh 0) (ae (vC (.ty "int")) af))) (l7 (cF c6 (ae (vSh 0) (ae (vC (.ty "bool")) af))))))
noncomputable def ga:FQ:=bJ 0
  (aT (cD (cF ub (ae (vSh 0) af)) (chD leD leD (vSh 1) (vSh 0) (vSh 2))))
noncomputable def fF:FQ:=bJ 0
  (aT (cD (cF c6 (ae (vSh 0) (ae (vC (.ty "tuple")) af))) (b2 eqD (cF bS (ae (vSh 0) af)) (vSh 1))))
noncomputable def sD:FQ:=bJ 0
  (aS (sIf (orT (bh (toB (cF fF (ae (vSh 0) (ae (vC (.int 2)) af))))) (orT (bh (toB (cF ga (ae (b2 ixD (vSh 0) (vC (.int 0))) (ae (vC (.int 0)) (ae (vSh 1) af)))))) (bh (toB (cF ga (ae (b2 ixD (vSh 0) (vC (.int 1))) (ae (vC (.int 0)) (ae (vSh 1) af)))))))) (aT (vC (.bl ao))) bR) (aT (b2 ltD (b2 ixD (vSh 0) (vC (.int 0))) (b2 ixD (vSh 0) (vC (.int 1))))))
noncomputable def gZ:FQ:=bJ 0
  (aT (cD (cF c6 (ae (vSh 0) (ae (vC (.ty "list")) af))) (chD leD leD (vSh 1) (cF bS (ae (vSh 0) af)) (vSh 2))))
noncomputable def wd:FQ:=bJ 0
  (aS (sIf (orT (bh (toB (cF gZ (ae (vSh 0) (ae (vC (.int 0)) (ae (vC (.int 10)) af)))))) (bh (toB (cF e9 (ae (aL (bQ (itF (vSh 0)) (aM 0) tT (cF sD (ae (vSh 0) (ae (vSh 1) af))) [ac,aa 1])) af))))) (aT (vC (.bl ao))) bR) (aT (cF e9 (ae (aL (bQ (itR mC (ae (vC (.int 1)) (ae (cF bS (ae (vSh 0) af)) af))) (aM 0) tT (b2 ltD (b2 ixD (b2 ixD (vSh 1) (b2 eB (vSh 0) (vC (.int 1)))) (vC (.int 1))) (b2 ixD (b2 ixD (vSh 1) (vSh 0)) (vC (.int 0)))) [ac,aa 0])) af))))
noncomputable def uN:FQ:=bJ 0
  (aT (cD (cF fF (ae (vSh 0) (ae (vC (.int 2)) af))) (cD (cF gx (ae (b2 ixD (vSh 0) (vC (.int 0))) af)) (cF wd (ae (b2 ixD (vSh 0) (vC (.int 1))) (ae (vSh 1) af))))))
noncomputable def wX:FQ:=bJ 0
  (aS (sIf (orT (bh (toB (cF gZ (ae (vSh 0) (ae (vC (.int 1)) (ae (vC (.int 8)) af)))))) (bh (toB (cF e9 (ae (aL (bQ (itF (vSh 0)) (aM 0) tT (cF uN (ae (vSh 0) (ae (vSh 1) af))) [ac,aa 1])) af))))) (aT (vC (.bl ao))) bR) (aT (cF ff (ae (aL (bQ (itF (vSh 0)) (aM 0) tT (b2 ixD (vSh 0) (vC (.int 0))) [ac])) af))))
noncomputable def jQ:FQ:=bJ 0
  (aT (cD (cF gx (ae (vSh 0) af)) (b2 pW (vSh 0) (vSh 1))))
noncomputable def ur:FQ:=bJ 0
  (aT (cD (cF fF (ae (vSh 0) (ae (vC (.int 2)) af))) (cD (cF jQ (ae (b2 ixD (vSh 0) (vC (.int 0))) (ae (vSh 1) af))) (cF ga (ae (b2 ixD (vSh 0) (vC (.int 1))) (ae (vC (.int 1)) (ae (vSh 2) af)))))))
noncomputable def xY:FQ:=bJ 0
  (aS (sIf (orT (bh (toB (cF gZ (ae (vSh 0) (ae (vC (.int 1)) (ae (vC (.int 4)) af)))))) (bh (toB (cF e9 (ae (aL (bQ (itF (vSh 0)) (aM 0) tT (cF ur (ae (vSh 0) (ae (vSh 1) (ae (vSh 2) af)))) [ac,aa 1,aa 2])) af))))) (aT (vC (.bl ao))) bR) (aT (cF ff (ae (aL (bQ (itF (vSh 0)) (aM 0) tT (b2 ixD (vSh 0) (vC (.int 0))) [ac])) af))))
noncomputable def tD:FQ:=bJ 0
  (aS (sIf (orT (bh (toB (cF fF (ae (vSh 0) (ae (vC (.int 3)) af))))) (orT (bh (toB (cF gx (ae (b2 ixD (vSh 0) (vC (.int 0))) af)))) (bh (toB (cF gx (ae (b2 ixD (vSh 0) (vC (.int 1))) af)))))) (aT (vC (.bl ao))) bR) (aT (cF xY (ae (b2 ixD (vSh 0) (vC (.int 2))) (ae (vSh 1) (ae (vSh 2) af))))))
noncomputable def x5:FQ:=bJ 0
  (aS (sIf (orT (bh (toB (cF gZ (ae (vSh 0) (ae (vC (.int 1)) (ae (vC (.int 40)) af)))))) (bh (toB (cF e9 (ae (aL (bQ (itF (vSh 0)) (aM 0) tT (cF tD (ae (vSh 0) (ae (vSh 1) (ae (vSh 2) af)))) [ac,aa 1,aa 2])) af))))) (aT (vC (.bl ao))) bR) (aT (cF ff (ae (aL (bQ (itF (vSh 0)) (aM 0) tT (b2 ixD (vSh 0) (vC (.int 0))) [ac])) af))))
noncomputable def wP:FQ:=bJ 0
  (aS (sIf (orT (bh (toB (cF fF (ae (vSh 0) (ae (vC (.int 5)) af))))) (orT (bh (toB (cF gx (ae (b2 ixD (vSh 0) (vC (.int 0))) af)))) (bh (toB (cF c6 (ae (b2 ixD (vSh 0) (vC (.int 3))) (ae (vC (.ty "bool")) af))))))) (aT (vC (.bl ao))) bR) (aS (sIf (orT (bh (toB (cF ga (ae (b2 ixD (vSh 0) (vC (.int 1))) (ae (vC (.int 0)) (ae (vSh 2) af)))))) (bh (toB (cF ga (ae (b2 ixD (vSh 0) (vC (.int 2))) (ae (vC (.int 0)) (ae (vSh 2) af))))))) (aT (vC (.bl ao))) bR) (aT (cD (cF gZ (ae (b2 ixD (vSh 0) (vC (.int 4))) (ae (vC (.int 1)) (ae (cF bS (ae (vSh 1) af)) af)))) (cF e9 (ae (aL (bQ (itF (b2 ixD (vSh 0) (vC (.int 4)))) (aM 0) tT (cF jQ (ae (vSh 0) (ae (vSh 1) af))) [ac,aa 1])) af))))))
noncomputable def vN:FQ:=bJ 2
  (aS (sIf (orT (bh (toB (cF gZ (ae (vSh 0) (ae (vC (.int 0)) (ae (vC (.int 40)) af)))))) (bh (toB (cF e9 (ae (aL (bQ (itF (vSh 0)) (aM 0) tT (cF wP (ae (vSh 0) (ae (vSh 1) (ae (vSh 2) af)))) [ac,aa 1,aa 2])) af))))) (aT (vC (.bl ao))) bR) (aS (jk 3 (szF af)) (aS (dZ (itF (vSh 0)) (aM 4) (fM 3 (b2 ixD (vSh 4) (vC (.int 4))))) (kO 3 (aT (cD (cF ff (ae (aL (bQ (itF (vSh 0)) (aM 0) tT (b2 ixD (vSh 0) (vC (.int 0))) [ac])) af)) (cF ff (ae (vSh 3) af))))))))
noncomputable def uM:FQ:=bJ 0
  (aS (sIf (orT (bh (toB (cF fF (ae (vSh 0) (ae (vC (.int 4)) af))))) (bh (toB (cF jQ (ae (b2 ixD (vSh 0) (vC (.int 0))) (ae (vSh 1) af)))))) (aT (vC (.bl ao))) bR) (aT (cD (cF gx (ae (b2 ixD (vSh 0) (vC (.int 1))) af)) (cD (cF gx (ae (b2 ixD (vSh 0) (vC (.int 2))) af)) (cF ga (ae (b2 ixD (vSh 0) (vC (.int 3))) (ae (vC (.int 1)) (ae (vSh 2) af))))))))
noncomputable def vX:FQ:=bJ 0
  (aS (sIf (orT (bh (toB (cF gZ (ae (vSh 0) (ae (vC (.int 0)) (ae (vC (.int 100)) af)))))) (bh (toB (cF e9 (ae (aL (bQ (itF (vSh 0)) (aM 0) tT (cF uM (ae (vSh 0) (ae (vSh 1) (ae (vSh 2) af)))) [ac,aa 1,aa 2])) af))))) (aT (vC (.bl ao))) bR) (aT (cF ff (ae (aL (bQ (itF (vSh 0)) (aM 0) tT (slF (vSh 0) pN (pS (vC (.int 3)))) [ac])) af))))
noncomputable def uL:FQ:=bJ 0
  (aS (sIf (orT (bh (toB (cF fF (ae (vSh 0) (ae (vC (.int 3)) af))))) (orT (bh (toB (cF jQ (ae (b2 ixD (vSh 0) (vC (.int 0))) (ae (vSh 1) af))))) (bh (toB (cF jQ (ae (b2 ixD (vSh 0) (vC (.int 1))) (ae (vSh 1) af))))))) (aT (vC (.bl ao))) bR) (aT (cD (b2 neA (b2 ixD (vSh 0) (vC (.int 0))) (b2 ixD (vSh 0) (vC (.int 1)))) (cF ga (ae (b2 ixD (vSh 0) (vC (.int 2))) (ae (vC (.int 0)) (ae (vSh 2) af)))))))
noncomputable def xN:FQ:=bJ 0
  (aS (sIf (orT (bh (toB (cF gZ (ae (vSh 0) (ae (vC (.int 0)) (ae (vC (.int 100)) af)))))) (bh (toB (cF e9 (ae (aL (bQ (itF (vSh 0)) (aM 0) tT (cF uL (ae (vSh 0) (ae (vSh 1) (ae (vSh 2) af)))) [ac,aa 1,aa 2])) af))))) (aT (vC (.bl ao))) bR) (aT (cF ff (ae (aL (bQ (itF (vSh 0)) (aM 0) tT (slF (vSh 0) pN (pS (vC (.int 2)))) [ac])) af))))
noncomputable def ui:FQ:=bJ 0
  (aT (cD (cF fF (ae (vSh 0) (ae (vC (.int 2)) af))) (cD (cF jQ (ae (b2 ixD (vSh 0) (vC (.int 0))) (ae (vSh 1) af))) (cF ga (ae (b2 ixD (vSh 0) (vC (.int 1))) (ae (vC (.int 1)) (ae (vC (.int 1000000)) af)))))))
noncomputable def uS:FQ:=bJ 0
  (aS (sIf (orT (bh (toB (cF gZ (ae (vSh 0) (ae (vC (.int 0)) (ae (cF bS (ae (vSh 1) af)) af)))))) (bh (toB (cF e9 (ae (aL (bQ (itF (vSh 0)) (aM 0) tT (cF ui (ae (vSh 0) (ae (vSh 1) af))) [ac,aa 1])) af))))) (aT (vC (.bl ao))) bR) (aT (cF ff (ae (aL (bQ (itF (vSh 0)) (aM 0) tT (b2 ixD (vSh 0) (vC (.int 0))) [ac])) af))))
noncomputable def uj:FQ:=bJ 0
  (aS (sIf (orT (bh (toB (cF fF (ae (vSh 0) (ae (vC (.int 5)) af))))) (bh (toB (cF gx (ae (b2 ixD (vSh 0) (vC (.int 0))) af))))) (aT (vC (.bl ao))) bR) (aS (sIf (orT (bh (toB (cF ga (ae (b2 ixD (vSh 0) (vC (.int 2))) (ae (vC (.int 0)) (ae (vC (.int 1000000)) af)))))) (bh (toB (cF ga (ae (b2 ixD (vSh 0) (vC (.int 1))) (ae (vC (.int 0)) (ae (b2 ixD (vSh 0) (vC (.int 2))) af))))))) (aT (vC (.bl ao))) bR) (aT (cD (cF uS (ae (b2 ixD (vSh 0) (vC (.int 3))) (ae (vSh 1) af))) (cF uS (ae (b2 ixD (vSh 0) (vC (.int 4))) (ae (vSh 1) af)))))))
noncomputable def wv:FQ:=bJ 0
  (aS (sIf (orT (bh (toB (cF gZ (ae (vSh 0) (ae (vC (.int 0)) (ae (vC (.int 6)) af)))))) (bh (toB (cF e9 (ae (aL (bQ (itF (vSh 0)) (aM 0) tT (cF uj (ae (vSh 0) (ae (vSh 1) af))) [ac,aa 1])) af))))) (aT (vC (.bl ao))) bR) (aT (cF ff (ae (aL (bQ (itF (vSh 0)) (aM 0) tT (b2 ixD (vSh 0) (vC (.int 0))) [ac])) af))))
noncomputable def wJ:FQ:=bJ 2
  (aS (sIf (bh (toB (cF ga (ae (vSh 6) (ae (vC (.int 1)) (ae (vC (.int 1000000)) af)))))) (aT (vC (.str "horizon"))) bR) (aS (sIf (bh (toB (cF wX (ae (vSh 0) (ae (vSh 6) af))))) (aT (vC (.str "benches"))) bR) (aS (eh 7 (aL (bQ (itF (vSh 0)) (aM 0) tT (b2 ixD (vSh 0) (vC (.int 0))) [ac]))) (aS (sIf (bh (toB (cF x5 (ae (vSh 1) (ae (vSh 7) (ae (vSh 6) af)))))) (aT (vC (.str "steps"))) bR) (aS (eh 8 (aL (bQ (itF (vSh 1)) (aM 0) tT (b2 ixD (vSh 0) (vC (.int 0))) [ac]))) (aS (sIf (bh (toB (cF vN (ae (vSh 2) (ae (vSh 8) (ae (vSh 6) af)))))) (aT (vC (.str "jobs"))) bR) (aS (sIf (bh (toB (cF vX (ae (vSh 3) (ae (vSh 7) (ae (vSh 6) af)))))) (aT (vC (.str "setups"))) bR) (aS (sIf (bh (toB (cF xN (ae (vSh 4) (ae (vSh 8) (ae (vSh 6) af)))))) (aT (vC (.str "links"))) bR) (aS (sIf (bh (toB (cF wv (ae (vSh 5) (ae (vSh 8) af))))) (aT (vC (.str "stocks"))) bR) (aT (vC .non)))))))))))
noncomputable def tP:FQ:=ny 3 "Shop"
  (aS (eh 8 (cF wJ (ae (vSh 1) (ae (vSh 2) (ae (vSh 3) (ae (vSh 4) (ae (vSh 5) (ae (vSh 6) (ae (vSh 7) af))))))))) (aS (sIf (toB (b2 xm (vSh 8) (vC .non))) sNo bR) (aS (fC "Shop" "benches" 0 (cF fH (ae (vSh 1) af))) (aS (fC "Shop" "steps" 0 (cF fH (ae (vSh 2) af))) (aS (fC "Shop" "jobs" 0 (cF fH (ae (vSh 3) af))) (aS (fC "Shop" "setups" 0 (cF fH (ae (vSh 4) af))) (aS (fC "Shop" "links" 0 (cF fH (ae (vSh 5) af))) (aS (fC "Shop" "stocks" 0 (cF fH (ae (vSh 6) af))) (aS (fC "Shop" "horizon" 0 (vSh 7)) (aS (fC "Shop" "bench_by_name" 0 (cF pe (ae (aL (bQ (itF (ja "Shop" "benches" 0)) (aM 0) tT (b5 (szF (ae (b2 ixD (vSh 0) (vC (.int 0))) (ae (vSh 0) af)))) [ac])) af))) (aS (fC "Shop" "step_by_name" 0 (cF pe (ae (aL (bQ (itF (ja "Shop" "steps" 0)) (aM 0) tT (b5 (szF (ae (b2 ixD (vSh 0) (vC (.int 0))) (ae (vSh 0) af)))) [ac])) af))) (aS (fC "Shop" "setup_by_names" 0 (cF t7 (ae (aL (bQ (itF (ja "Shop" "setups" 0)) (aM 0) tT (b5 (szF (ae (slF (vSh 0) pN (pS (vC (.int 3)))) (ae (b2 ixD (vSh 0) (vC (.int 3))) af)))) [ac])) af))) (aS (nT "Shop" "job_by_step" 0) (dZ (itF (ja "Shop" "jobs" 0)) (aM 9) (dZ (itF (b2 ixD (vSh 9) (vC (.int 4)))) (aM 10) (jc "Shop" "job_by_step" 0 (vSh 10) (vSh 9)))))))))))))))))
noncomputable def oV:FQ':=cC 4
  (aC (qIf (rM (r2 eqD (aI ba 0 (aw (rP (vC (.int 2))) (rP af))) (rP (vC (.int 0)))) blD) (bI (rP (aL (szF af)))) bZ) (aC (aV 2 (aI ba 0 (aw (rP (vC (.int 4))) (rP af)))) (aC (aV 3 (aI ba 0 (aw (rP (b2 bA (vSh 2) (vC (.int 1)))) (rP af)))) (aC (aV 4 (rM (iB (rP (itF (vSh 1))) (aM 0) (rM (r2 eqD (aI ba 1 (aw (rP (vC (.int 2))) (rP af))) (rP (vC (.int 1)))) blD) (rM (aw (rP (vSh 0)) (aw (r2 bA (rP (vC (.int 1))) (aI ba 1 (aw (rP (vC (.int 2))) (rP af)))) (rP af))) cj) [ac,aa 0]) ka)) (aC (aV 5 (rM (iB (rP (itF (vSh 1))) (aM 0) (rM (r2 eqD (aI ba 1 (aw (rP (vC (.int 3))) (rP af))) (rP (vC (.int 1)))) blD) (rM (aw (rP (vSh 0)) (aw (r2 bA (rP (vC (.int 1))) (aI ba 1 (aw (rP (vC (.int 2))) (rP af)))) (rP af))) cj) [ac,aa 0]) ka)) (bI (rP (aL (szF (ae (b5 (szF (ae (vC (.str "store")) (ae (vSh 3) (ae (vSh 2) (ae (vSh 4) (ae (vSh 5) af))))))) af))))))))))
noncomputable def pE:FQ':=cC 4
  (aC (qIf (rM (r2 eqD (aI ba 0 (aw (rP (vC (.int 2))) (rP af))) (rP (vC (.int 0)))) blD) (bI (rP (aL (szF af)))) bZ) (aC (aV 3 (r2 bA (rP (vC (.int 1))) (aI ba 0 (aw (rP (cF bS (ae (vSh 1) af))) (rP af))))) (aC (aV 4 (rP (slF (vSh 1) pN (pS (vSh 3))))) (aC (qIf (rM (r2 eqD (aI ba 0 (aw (rP (vC (.int 2))) (rP af))) (rP (vC (.int 1)))) blD) (aV 4 (rP (b1 sK (vSh 4)))) bZ) (aC (aV 5 (r2 ixD (rP (aL (szF (ae (vC (.int 0)) (ae (vC (.int 0)) (ae (vC (.int 1)) af)))))) (aI ba 0 (aw (rP (vC (.int 3))) (rP af))))) (aC (fP 6 (rM (aw (rM (aw (rP (vC (.str "job"))) (aw (rP (vSh 5)) (aw (r2 eB (rP (vSh 2)) (r2 ixD (rP (aL (szF (ae (vC (.int 0)) (ae (vC (.int 0)) (ae (vC (.int 1)) af)))))) (aI ba 0 (aw (rP (vC (.int 3))) (rP af))))) (aw (r2 eqD (aI ba 0 (aw (rP (vC (.int 2))) (rP af))) (rP (vC (.int 1)))) (aw (rP (vSh 4)) (rP af)))))) cj) (rP af)) szD)) (aC (qIf (kR (rP (toB (b2 ltD (vSh 3) (cF bS (ae (vSh 1) af))))) (rM (r2 eqD (aI ba 0 (aw (rP (vC (.int 2))) (rP af))) (rP (vC (.int 1)))) blD)) (eL 6 (rM (aw (rP (vC (.str "more"))) (aw (rP (vC (.int 0))) (aw (rP (vSh 2)) (aw (r2 eqD (aI ba 0 (aw (rP (vC (.int 2))) (rP af))) (rP (vC (.int 1)))) (aw (rP (slF (vSh 1) (pS (vSh 3)) pN)) (rP af)))))) cj)) bZ) (fS 6 (bI (rP (vSh 6)))))))))))
noncomputable def pU:FQ':=cC 9
  (aC (aV 1 (r2 bA (rP (vC (.int 2))) (aI ba 0 (aw (rP (vC (.int 4))) (rP af))))) (aC (aV 2 (r2 ixD (rP (aL (szF (ae (vC (.str "")) (ae (vC (.str "x")) (ae (vC (.str "low")) (ae (vC (.str "abcdef")) af))))))) (aI ba 0 (aw (rP (vC (.int 4))) (rP af))))) (aC (aV 3 (aI rf 0 (aw (rP (vSh 2)) (aw (rP (vSh 1)) (rP af))))) (aC (aV 4 (aI oX 0 (aw (rP (vSh 2)) (aw (rP (vSh 3)) (aw (rP (vSh 1)) (rP af)))))) (aC (aV 5 (rP (aL (bQ (itF (vSh 4)) (aM 0) tT (b2 ixD (vSh 0) (vC (.int 0))) [ac])))) (aC (fP 6 (rP (szF af))) (aC (iI (rP (itF (vSh 3))) (ie 2 (eU (aM 7) (eU (aM 8) ij))) (qIf (rM (r2 eqD (aI ba 0 (aw (rP (vC (.int 3))) (rP af))) (rP (vC (.int 1)))) blD) (eL 6 (rM (aw (rP (vSh 7)) (aw (rP (vC (.str "k"))) (aw (r2 ixD (rP (vC (.str "km"))) (aI ba 0 (aw (rP (vC (.int 2))) (rP af)))) (aw (r2 bA (rP (vC (.int 1))) (aI ba 0 (aw (rP (vC (.int 2))) (rP af)))) (rP af))))) cj)) bZ)) (aC (aV 9 (aI oN 0 (aw (rP (vSh 5)) (aw (rP (vSh 1)) (rP af))))) (fS 6 (bI (rM (aw (rP (vSh 3)) (aw (rP (vSh 4)) (aw (aI pE 0 (aw (rP (vSh 5)) (aw (rP (vSh 1)) (rP af)))) (aw (rP (vSh 6)) (aw (rP (vSh 9)) (aw (aI oV 0 (aw (rP (vSh 5)) (rP af))) (aw (rP (vSh 1)) (rP af)))))))) tP)))))))))))
noncomputable def lh:FQ:=bJ 0
  (aT (mF rC (vC (.str " ")) (ae (cF D1 (ae (vSh 0) af)) af)))
noncomputable def xb:ab D->aq Fs:=tj 0 "TreeWords"
  (aS (fC "TreeWords" "words" 0 (vSh 1)) (aS (fC "TreeWords" "place" 0 (vC (.int 0))) (fC "TreeWords" "counted" 0 (vC (.int 0)))))
noncomputable def wg:(au->ab D->Fs->aq (D×Fs)):=cC 0
  (bI (r2 eqD (eK "place") (rM (aw (eK "words") (rP af)) bS)))
noncomputable def jp:FQ:=bJ 2
  (aS (sIf (bh (toB (cF c6 (ae (vSh 0) (ae (vC (.ty "str")) af))))) sNo bR) (pj 1 xb (ae (mF nG (vSh 0) (ae (vC (.str " ")) af)) af) (aC (aV 2 (aI wK 1 (aw (rP (vC (.int 1))) (rP af)))) (aC (qIf (rM (rM (bO "is_behind_all" wg 1 (rP af)) blD) fun b=>aa (!b)) (fun _ _=>ac) bZ) (bI (rP (vSh 2)))))))
noncomputable def jC (gR:FQ):FQ:=bJ 2
  (aS (sIf (toB (cF c6 (ae (vSh 1) (ae (vC (.ty "str")) af)))) (aT (cD (cF c6 (ae (vSh 0) (ae (vC (.ty "str")) af))) (b2 eqA (vSh 0) (vSh 1)))) bR) (aS (sIf (toB (cF c6 (ae (vSh 1) (ae (vC (.ty "int")) af)))) (aT (cD (cF c6 (ae (vSh 0) (ae (vC (.ty "int")) af))) (cD (l7 (cF c6 (ae (vSh 0) (ae (vC (.ty "bool")) af)))) (b2 eqA (vSh 0) (vSh 1))))) bR) (aS (sIf (orT (toB (b2 neA (cF c6 (ae (vSh 1) (ae (vC (.ty "list")) af))) (cF c6 (ae (vSh 0) (ae (vC (.ty "list")) af))))) (toB (b2 neA (cF c6 (ae (vSh 1) (ae (vC (.ty "tuple")) af))) (cF c6 (ae (vSh 0) (ae (vC (.ty "tuple")) af)))))) (aT (vC (.bl ao))) bR) (aS (sIf (toB (b2 neD (cF bS (ae (vSh 0) af)) (cF bS (ae (vSh 1) af)))) (aT (vC (.bl ao))) bR) (aS (dZ (itZ (vSh 0) (vSh 1)) (ie 2 (eU (aM 2) (eU (aM 3) ij))) (sIf (bh (toB (cF gR (ae (vSh 2) (ae (vSh 3) af))))) (aT (vC (.bl ao))) bR)) (aT (vC (.bl ai))))))))
noncomputable def jo:ag->FQ
 |0=>fun _=>ac
 |n+1=>jC (jo n)
noncomputable def gR:FQ:=jo 24
abbrev Cv:FS:=
  (aS (dZ (itR gq (ae (cF lr (ae (vC (.int 8)) (ae (b2 bA (cF bS (ae (vSh 0) af)) (vC (.int 1))) af))) af)) (aM 1) (aS (jk 2 (cFO nc (ae (vSh 0) (ae (vSh 1) af)))) (nh 2 (aC (aV 3 (aI pU 2 (rP af))) (aC (aV 4 (r2 ixD (rP (aL (szF (ae (b2 eB (vC (.int 0)) (b2 gQ (vC (.int 10)) (vC (.int 39)))) (ae (b2 eB (b2 gQ (vC (.int 10)) (vC (.int 40))) (vC (.int 1))) (ae (vC (.int 0)) (ae (b1 oY (vC (.int 7))) af))))))) (aI ba 2 (aw (rP (vC (.int 4))) (rP af))))) (aC (aV 5 (aI tM 2 (aw (rP (vSh 3)) (aw (rP (vC (.int 4))) (rP af))))) (aC (aV 6 (rP (b5 (szF (ae (vC (.str "start")) (ae (vC (.str "nobody")) (ae (vSh 4) af))))))) (iI (rP (itF (aL (szF (ae (vSh 5) (ae (b5 (szF (ae (aL (szF (ae (b5 (szF (ae (vC (.str "not")) (ae (vSh 6) (ae (vC (.int 1)) (ae (vSh 5) af)))))) af))) (ae (b5 (szF (ae (vC (.str "both")) (ae (vSh 6) (ae (vSh 5) (ae (b5 (szF (ae (aL (szF af)) (ae (b5 (szF (ae (vC (.str "moved")) af))) af)))) af)))))) af)))) af)))))) (aM 7) (aC (aV 8 (rP (cF lh (ae (vSh 7) af)))) (nX 9 jp (ae (vSh 8) af) (orT (bh (toB (cF gR (ae (vSh 9) (ae (vSh 7) af))))) (toB (b2 neA (cF lh (ae (vSh 9) af)) (vSh 8)))) 6 (qIf (rP (bh (toB (cF gR (ae (cF jp (ae (vSh 8) af)) (ae (vSh 7) af)))))) (bI (rP (vC (.bl ao)))) bZ))))))))))) (aS (eh 10 (aL (szF (ae (b5 (szF (ae (aL (szF af)) (ae (b5 (szF (ae (vC (.str "stock")) (ae (vC (.str "x")) (ae (vC (.int 9999999)) (ae (vC (.str "less")) af)))))) af)))) (ae (b5 (szF (ae (aL (szF af)) (ae (b5 (szF (ae (vC (.str "stretch")) (ae (aL (szF (ae (vC (.str "zz")) (ae (vC (.str "y")) af)))) (ae (vC (.int 0)) (ae (vC (.int 9999999)) af)))))) af)))) af))))) (aS (eh 10 (b2 bA (vSh 10) (aL (szF (ae (b5 (szF (ae (aL (szF af)) (ae (b5 (szF (ae (vC (.str "together")) (ae (vC (.str "fit")) (ae (vC (.int 1234567)) (ae (vC (.int 7654321)) af)))))) af)))) (ae (b5 (szF (ae (aL (szF (ae (b5 (szF (ae (vC (.str "low")) (ae (vC (.str "low")) (ae (vC (.str "low")) af))))) af))) (ae (b5 (szF (ae (vC (.str "ring")) (ae (aL (szF (ae (vC (.str "ring")) (ae (vC (.str "both")) af)))) af)))) af)))) af)))))) (aS (dZ (itF (vSh 10)) (aM 7) (sIf (bh (toB (cF gR (ae (cF jp (ae (cF lh (ae (vSh 7) af)) af)) (ae (vSh 7) af))))) (aT (vC (.bl ao))) bR)) (aT (b2 eqA (cF jp (ae (vC (.str "; moved")) af)) (b5 (szF (ae (aL (szF af)) (ae (b5 (szF (ae (vC (.str "moved")) af))) af))))))))))
noncomputable def yg:FQ:=bJ 10 Cv
end Law
set_option maxHeartbeats 4000000
variable {C_Shop C_TreeWords:au} {W:FQ} {sn:ab ah} {br:ab (aj×aj)} {S:aq Slot}
namespace Law
theorem MX:FnScope ["leaf"] ["leaf"] (aF (top 23)):=bz
theorem IL:FnScope ["tree"] ["tree"] (aF (top 24)):=bz
theorem su:FnScope ["tree","words","row","end"] ["tree"] (aF (top 25)):=bz
theorem Hl:FnScope ["thing"] ["thing"] (aF (top 9)):=bz
theorem KM:FnScope ["things"] ["things"] (aF (top 17)):=bz
theorem OR:FnScope ["self"] ["self"] (aF (cX (top 27) 1)):=bz
theorem Lp:FnScope ["self"] ["self"] (aF (cX (top 27) 8)):=bz
theorem AG:FnScope ["self","word"] ["self"] (aF (cX (top 27) 2)):=bz
theorem zQ:FnScope ["self","asked","word"] ["self","asked"] (aF (cX (top 27) 3)):=bz
theorem AD:FnScope ["self","word"] ["self"] (aF (cX (top 27) 4)):=bz
theorem OO:FnScope ["word"] ["word"] (aF (top 10)):=bz
theorem uF:FnScope ["numeral","number","sign"] ["numeral"] (aF (top 11)):=bz
theorem DF:FnScope ["self","most_figures","word"] ["self","most_figures"] (aF (cX (top 27) 6)):=bz
theorem Aq:FnScope ["self","word"] ["self"] (aF (cX (top 27) 7)):=bz
theorem wR:FnScope ["words","word","step"] ["words"] (aF (top 28)):=bz
theorem Eu:FnScope ["self","names"] ["self"] (aF (cX (top 27) 5)):=bz
theorem yd:FnScope ["words","l","r"] ["words"] (aF (top 30)):=bz
theorem wW:FnScope ["words","ends","benches"] ["words"] (aF (top 31)):=bz
theorem rn:FnScope ["words","depth","word","choice","side","one"] ["words","depth"] (aF (top 29)):=bz
theorem kX:FnScope ["words","depth","word","choice","side_tree","job","ends","stock","t"] ["words","depth"] (aF (top 32)):=bz
theorem zF:FnScope ["words","depth","rows"] ["words","depth"] (aF (top 34)):=bz
theorem CO:FnScope ["words","depth","tree"] ["words","depth"] (aF (top 33)):=bz
theorem El:FnScope ["_law_left_here","_law_many","_law_found"] ["_law_left_here","_law_many"] (aF (top 71)):=bz
theorem Lc:FnScope ["thing"] ["thing"] (aF (top 67)):=bz
theorem KU:FnScope ["self"] ["self"] (aF (cX (top 68) 9)):=bz
theorem L8:FnScope ["self"] ["self"] (aF (cX (top 68) 7)):=bz
theorem KJ:FnScope ["self"] ["self"] (aF (cX (top 68) 8)):=bz
theorem rm:FnScope ["_law_left_here","_law_shop_here","_law_names","_law_step","_law_way","_law_benches_here"] ["_law_left_here","_law_shop_here"] (aF (top 78)):=bz
theorem Ao:FnScope ["_law_left_here","_law_shop_here","_law_low"] ["_law_left_here","_law_shop_here"] (aF (top 79)):=bz
theorem Ku:FnScope ["self"] ["self"] (aF (cX (top 68) 3)):=bz
theorem Ik:FnScope ["self"] ["self"] (aF (cX (top 68) 6)):=bz
theorem kf:FnScope ["_law_left_here","_law_shop_here","_law_names","_law_way","_law_low","_law_high","_law_benches_here","_law_t"] ["_law_left_here","_law_shop_here"] (aF (top 80)):=bz
theorem ph:FnScope ["_law_left_here","_law_shop_here","_law_deep","_law_names","_law_way","_law_choice_here","_law_one"] ["_law_left_here","_law_shop_here","_law_deep"] (aF (top 81)):=bz
theorem sR:FnScope ["_law_left_here","_law_shop_here","_law_deep","_law_rows","_law_choice_here","_law_one"] ["_law_left_here","_law_shop_here","_law_deep"] (aF (top 82)):=bz
theorem tK:FnScope ["_law_script","_law_k","_law_cell","_law_mixed"] ["_law_script","_law_k"] (aF (top 70)):=bz
theorem m8:FnScope ["_law_left_here","_law_pad","_law_horizon","_law_benches_here","_law_k","_law_breaks","_law_begin"] ["_law_left_here","_law_pad","_law_horizon"] (aF (top 72)):=bz
theorem pq:FnScope ["_law_left_here","_law_pad","_law_benches_here","_law_horizon","_law_steps_here","_law_k","_law_at","_law_ways"] ["_law_left_here","_law_pad","_law_benches_here","_law_horizon"] (aF (top 73)):=bz
theorem sE:FnScope ["_law_left_here","_law_names","_law_horizon","_law_at","_law_other","_law_links_here"] ["_law_left_here","_law_names","_law_horizon"] (aF (top 74)):=bz
theorem HY:FnScope ["thing"] ["thing"] (aF (top 8)):=bz
theorem JT:FnScope ["thing","least","most"] ["thing","least","most"] (aF (top 13)):=bz
theorem N9:FnScope ["thing","many"] ["thing","many"] (aF (top 15)):=bz
theorem ML:FnScope ["row","horizon"] ["row","horizon"] (aF (top 47)):=bz
theorem Mu:FnScope ["thing","least","most"] ["thing","least","most"] (aF (top 14)):=bz
theorem JP:FnScope ["breaks","horizon"] ["breaks","horizon"] (aF (top 48)):=bz
theorem Iy:FnScope ["row","horizon"] ["row","horizon"] (aF (top 49)):=bz
theorem IG:FnScope ["benches","horizon"] ["benches","horizon"] (aF (top 50)):=bz
theorem KQ:FnScope ["thing","names"] ["thing","names"] (aF (top 16)):=bz
theorem Oz:FnScope ["row","bench_names","horizon"] ["row","bench_names","horizon"] (aF (top 51)):=bz
theorem Mx:FnScope ["ways","bench_names","horizon"] ["ways","bench_names","horizon"] (aF (top 52)):=bz
theorem Me:FnScope ["row","bench_names","horizon"] ["row","bench_names","horizon"] (aF (top 53)):=bz
theorem Gr:FnScope ["steps","bench_names","horizon"] ["steps","bench_names","horizon"] (aF (top 54)):=bz
theorem N6:FnScope ["row","step_names","horizon"] ["row","step_names","horizon"] (aF (top 55)):=bz
theorem wD:FnScope ["jobs","step_names","horizon","members","row"] ["jobs","step_names","horizon"] (aF (top 56)):=bz
theorem Nh:FnScope ["row","bench_names","horizon"] ["row","bench_names","horizon"] (aF (top 57)):=bz
theorem Nc:FnScope ["setups","bench_names","horizon"] ["setups","bench_names","horizon"] (aF (top 58)):=bz
theorem MQ:FnScope ["row","step_names","horizon"] ["row","step_names","horizon"] (aF (top 59)):=bz
theorem HV:FnScope ["links","step_names","horizon"] ["links","step_names","horizon"] (aF (top 60)):=bz
theorem Gh:FnScope ["row","step_names"] ["row","step_names"] (aF (top 61)):=bz
theorem Hf:FnScope ["rows","step_names"] ["rows","step_names"] (aF (top 62)):=bz
theorem MF:FnScope ["row","step_names"] ["row","step_names"] (aF (top 63)):=bz
theorem Mc:FnScope ["stocks","step_names"] ["stocks","step_names"] (aF (top 64)):=bz
theorem xf:FnScope ["benches","steps","jobs","setups","links","stocks","horizon","bench_names","step_names"] ["benches","steps","jobs","setups","links","stocks","horizon"] (aF (top 65)):=bz
theorem uz:FnScope ["self","benches","steps","jobs","setups","links","stocks","horizon","part","row","step"] ["self","benches","steps","jobs","setups","links","stocks","horizon"] (aF (cX (top 68) 0)):=bz
theorem pP:FnScope ["_law_left_here","_law_names","_law_room","_law_first","_law_takes","_law_puts"] ["_law_left_here","_law_names"] (aF (top 76)):=bz
theorem nu:FnScope ["_law_left_here","_law_names","_law_horizon","_law_many","_law_some","_law_early","_law_jobs_here"] ["_law_left_here","_law_names","_law_horizon"] (aF (top 75)):=bz
theorem jB:FnScope ["_law_left_here","_law_horizon","_law_pad","_law_benches_here","_law_steps_here","_law_names","_law_setups","_law_bench","_law_breaks","_law_links_here"] ["_law_left_here"] (aF (top 77)):=bz
theorem OY:FnScope ["tree"] ["tree"] (aF (top 26)):=bz
theorem Jw:FnScope ["self","words"] ["self","words"] (aF (cX (top 27) 0)):=bz
theorem Kc:FnScope ["self"] ["self"] (aF (cX (top 27) 9)):=bz
theorem v8:FnScope ["text","words","tree"] ["text"] (aF (top 35)):=bz
theorem xu:FnScope ["_law_tree_here","_law_row_here","_law_end"] ["_law_tree_here"] (aF (top 84)):=bz
theorem yf:FnScope ["_law_found","_law_due","_law_one","_law_other"] ["_law_found","_law_due"] (aF (top 83)):=bz
theorem gN:FnScope ["_law_script","_law_k","_law_left_here","_law_shop_here","_law_far","_law_tree_here","_law_choice_here","_law_one","_law_text","_law_found","_law_some"] ["_law_script"] (aF (top 85)):=bz
noncomputable def tkI (mg:ah->aq av) (x:ah):Tok:=match mg x with|some (.int _ t)=>t|_=>0
theorem tkI_of {n:aj} {t:Tok} (X:K.In h) (G:h.Ns eW mg) (a:sd K eW x=aa (aa (.int n t))):mg x=aa (.int n (tkI mg x)):=by have q:=se X G a;rw[q];unfold tkI;rw[q]
noncomputable def tkS (mg:ah->aq av) (x:ah):Tok:=match mg x with|some (.str _ t)=>t|_=>0
theorem tkS_of {t:Tok} (X:K.In h) (G:h.Ns eW mg) (a:sd K eW x=aa (aa (.str y t))):mg x=aa (.str y (tkS mg x)):=by have q:=se X G a;rw[q];unfold tkS;rw[q]
structure Vd (K:aR) (mg:ah->aq av) (C_Shop C_TreeWords:au):Prop where
 z_all:mg "all"=ac
 z_bool:mg "bool"=ac
 z_dict:mg "dict"=ac
 z_int:mg "int"=ac
 z_isinstance:mg "isinstance"=ac
 z_len:mg "len"=ac
 z_list:mg "list"=ac
 z_min:mg "min"=ac
 z_range:mg "range"=ac
 z_set:mg "set"=ac
 z_str:mg "str"=ac
 z_tuple:mg "tuple"=ac
 z_zip:mg "zip"=ac
 k_FIGURES:mg "FIGURES"=aa (.str "0123456789" (tkS mg "FIGURES"))
 k_LONGEST_NAME:mg "LONGEST_NAME"=aa (.int 8 (tkI mg "LONGEST_NAME"))
 k_MOMENT_FIGURES:mg "MOMENT_FIGURES"=aa (.int 7 (tkI mg "MOMENT_FIGURES"))
 k_MOST_AMOUNT:mg "MOST_AMOUNT"=aa (.int 1000000 (tkI mg "MOST_AMOUNT"))
 k_MOST_BENCHES:mg "MOST_BENCHES"=aa (.int 8 (tkI mg "MOST_BENCHES"))
 k_MOST_BREAKS:mg "MOST_BREAKS"=aa (.int 10 (tkI mg "MOST_BREAKS"))
 k_MOST_COUNTED:mg "MOST_COUNTED"=aa (.int 3000 (tkI mg "MOST_COUNTED"))
 k_MOST_HORIZON:mg "MOST_HORIZON"=aa (.int 1000000 (tkI mg "MOST_HORIZON"))
 k_MOST_JOBS:mg "MOST_JOBS"=aa (.int 40 (tkI mg "MOST_JOBS"))
 k_MOST_LINKS:mg "MOST_LINKS"=aa (.int 100 (tkI mg "MOST_LINKS"))
 k_MOST_SETUPS:mg "MOST_SETUPS"=aa (.int 100 (tkI mg "MOST_SETUPS"))
 k_MOST_STEPS:mg "MOST_STEPS"=aa (.int 40 (tkI mg "MOST_STEPS"))
 k_MOST_STOCKS:mg "MOST_STOCKS"=aa (.int 6 (tkI mg "MOST_STOCKS"))
 k_MOST_WAYS:mg "MOST_WAYS"=aa (.int 4 (tkI mg "MOST_WAYS"))
 k_MOST_WITHIN:mg "MOST_WITHIN"=aa (.int 40 (tkI mg "MOST_WITHIN"))
 k_START_FIGURES:mg "START_FIGURES"=aa (.int 40 (tkI mg "START_FIGURES"))
 d0:Dfn K mg "words_of_leaf" (top 23)
 d1:Dfn K mg "words_within" (top 24)
 d2:Dfn K mg "words_of_tree" (top 25)
 d3:Dfn K mg "is_name" (top 9)
 d4:Dfn K mg "are_unlike" (top 17)
 d5:DfnM K C_TreeWords "TreeWords" "ahead_of_all" "TreeWords.ahead_of_all" (cX (top 27) 1)
 d6:DfnM K C_TreeWords "TreeWords" "count_one" "TreeWords.count_one" (cX (top 27) 8)
 d7:DfnM K C_TreeWords "TreeWords" "take" "TreeWords.take" (cX (top 27) 2)
 d8:DfnM K C_TreeWords "TreeWords" "take_just" "TreeWords.take_just" (cX (top 27) 3)
 d9:DfnM K C_TreeWords "TreeWords" "take_name" "TreeWords.take_name" (cX (top 27) 4)
 d10:Dfn K mg "is_numeral" (top 10)
 d11:Dfn K mg "number_of" (top 11)
 d12:DfnM K C_TreeWords "TreeWords" "take_number" "TreeWords.take_number" (cX (top 27) 6)
 d13:DfnM K C_TreeWords "TreeWords" "take_start" "TreeWords.take_start" (cX (top 27) 7)
 d14:Dfn K mg "read_choice" (top 28)
 d15:DfnM K C_TreeWords "TreeWords" "take_names" "TreeWords.take_names" (cX (top 27) 5)
 d16:Dfn K mg "read_ends" (top 30)
 d17:Dfn K mg "read_stretch" (top 31)
 d18:Dfn K mg "read_part" (top 29)
 d19:Dfn K mg "read_end" (top 32)
 d20:Dfn K mg "read_next_tree" (top 34)
 d21:Dfn K mg "read_within" (top 33)
 d22:Dfn K mg "_law_pick" (top 71)
 d23:Dfn K mg "fresh" (top 67)
 d24:DfnM K C_Shop "Shop" "step_names" "Shop.step_names" (cX (top 68) 9)
 d25:DfnM K C_Shop "Shop" "last_moment" "Shop.last_moment" (cX (top 68) 7)
 d26:DfnM K C_Shop "Shop" "bench_names" "Shop.bench_names" (cX (top 68) 8)
 d27:Dfn K mg "_law_choice" (top 78)
 d28:Dfn K mg "_law_stretch" (top 79)
 d29:DfnM K C_Shop "Shop" "job_rows" "Shop.job_rows" (cX (top 68) 3)
 d30:DfnM K C_Shop "Shop" "stock_rows" "Shop.stock_rows" (cX (top 68) 6)
 d31:Dfn K mg "_law_leaf" (top 80)
 d32:Dfn K mg "_law_row" (top 81)
 d33:Dfn K mg "_law_tree" (top 82)
 d34:Dfn K mg "_law_left" (top 70)
 d35:Dfn K mg "_law_benches" (top 72)
 d36:Dfn K mg "_law_steps" (top 73)
 d37:Dfn K mg "_law_links" (top 74)
 d38:Dfn K mg "is_whole" (top 8)
 d39:Dfn K mg "is_within" (top 13)
 d40:Dfn K mg "is_tuple" (top 15)
 d41:Dfn K mg "is_break" (top 47)
 d42:Dfn K mg "is_list" (top 14)
 d43:Dfn K mg "are_breaks" (top 48)
 d44:Dfn K mg "is_bench" (top 49)
 d45:Dfn K mg "are_benches" (top 50)
 d46:Dfn K mg "is_one_of" (top 16)
 d47:Dfn K mg "is_way" (top 51)
 d48:Dfn K mg "are_ways" (top 52)
 d49:Dfn K mg "is_step" (top 53)
 d50:Dfn K mg "are_steps" (top 54)
 d51:Dfn K mg "is_job" (top 55)
 d52:Dfn K mg "are_jobs" (top 56)
 d53:Dfn K mg "is_setup" (top 57)
 d54:Dfn K mg "are_setups" (top 58)
 d55:Dfn K mg "is_link" (top 59)
 d56:Dfn K mg "are_links" (top 60)
 d57:Dfn K mg "is_amount" (top 61)
 d58:Dfn K mg "are_amounts" (top 62)
 d59:Dfn K mg "is_stock" (top 63)
 d60:Dfn K mg "are_stocks" (top 64)
 d61:Dfn K mg "first_bad_part" (top 65)
 d62:DfnM K C_Shop "Shop" "__init__" "Shop.__init__" (cX (top 68) 0)
 d63:Dfn K mg "_law_stocks" (top 76)
 d64:Dfn K mg "_law_jobs" (top 75)
 d65:Dfn K mg "_law_shop" (top 77)
 d66:Dfn K mg "show_tree" (top 26)
 d67:DfnM K C_TreeWords "TreeWords" "__init__" "TreeWords.__init__" (cX (top 27) 0)
 d68:DfnM K C_TreeWords "TreeWords" "is_behind_all" "TreeWords.is_behind_all" (cX (top 27) 9)
 d69:Dfn K mg "read_tree" (top 35)
 d70:Dfn K mg "_law_lengthened" (top 84)
 d71:Dfn K mg "_law_same" (top 83)
structure Vw (K:aR) (mg:ah->aq av) (C_Shop C_TreeWords:au):Prop extends Vd K mg C_Shop C_TreeWords where
 O_Shop:ClsOk (Gam C_Shop C_TreeWords) K mg "Shop" C_Shop
 cf_Shop:CF (Gam C_Shop C_TreeWords) K "Shop" Ee
 O_TreeWords:ClsOk (Gam C_Shop C_TreeWords) K mg "TreeWords" C_TreeWords
 cf_TreeWords:CF (Gam C_Shop C_TreeWords) K "TreeWords" B0
section
variable (V:Vw K mg C_Shop C_TreeWords)
include V
theorem LL:Cal (Gam C_Shop C_TreeWords) P w K mg base "words_of_leaf" 1 1 oI:=
 V.d0.cal (k:=0) MX (bn fun _ _ _ _ _ _ _=>rfl) fun f cdv A outer s H E hr=>
  (bC (cp (cb ci (aZ (ak 0) ay) aN (bq _)) (aW (bu (dB (DO.de (cg (al aN ar))) (aZ (ak 0) ay)))) cv) (bC (cp (cb ci (aZ (ak 0) ay) aN (bq _)) (aW (bu (dB (DO.de (cg (al aN (al (iC nO rfl V.z_str (by rfl) (al (aZ (ak 0) ay) ar)) (al (iC nO rfl V.z_str (by rfl) (al (aZ (ak 0) ay) ar)) ar))))) (aZ (ak 0) ay)))) cv) (aW (bu (DO.de (cZ rfl (CompScope.of rfl rfl) (FvOk.of (N':=["part"]) (fv:=[ac]) rfl) (cu (ak 0)) ⟨fun _ _ _ _ _=>⟨(bV 0 (show(["part"]:ab ah).Nodup by decide +kernel)),cQ,(iC nO rfl V.z_str (by rfl) (al (ak 0) ar))⟩⟩))))))
theorem vO {k:ag} (cW:Cal (Gam C_Shop C_TreeWords) P w K mg base "words_of_tree" 1 k W) (hk:12<=k):Cal (Gam C_Shop C_TreeWords) P w K mg base "words_within" 1 (k+1) (kj W):=
 V.d1.cal (k:=k+0) IL (bn fun _ _ _ _ _ _ _=>rfl) fun f cdv A outer s H E hr=>
  (aW (bu (dB (dB (DO.de (cg (al aN ar))) (fG cW hr (by omega) rfl (al (ak 0) ar) ln1)) (DO.de (cg (al aN ar))))))
theorem Hn {k:ag} (cW:Cal (Gam C_Shop C_TreeWords) P w K mg base "words_of_tree" 1 k W) (hk:12<=k):Cal (Gam C_Shop C_TreeWords) P w K mg base "words_of_tree" 1 (k+2) (sV W):=
 V.d2.cal (k:=k+1) su (bn fun _ _ _ _ _ _ _=>rfl) fun f cdv A outer s H E hr=>
  (bC (vZ 1 su.nd (cg ar)) (bC (kW gH rfl (cu (aZ (ak 0) ay)) (bV 2 su.nd) (aW (cp (cb ci (aZ (ak 2) ay) aN (bq _)) (aW (pr 1 (dB (dB (dB (DO.de (cg (al aN ar))) (DO.de (cZ rfl (CompScope.of rfl rfl) (FvOk.of (N':=["part"]) (fv:=[ac]) rfl) (cu (aZ (ak 2) ay)) ⟨fun _ _ _ _ _=>⟨(bV 0 (show(["part"]:ab ah).Nodup by decide +kernel)),cQ,(iC nO rfl V.z_str (by rfl) (al (ak 0) ar))⟩⟩))) (DO.de (cg (al (iC nO rfl V.z_str (by rfl) (al (aZ (ak 2) ay) ar)) ar)))) (fG (vO V cW hk) hr (by omega) rfl (al (aZ (ak 2) ay) ar) ln1)))) (aW (pr 1 (iC Np rfl V.z_list (by rfl) (al (ak 2) ar))))))) (bC (LC 1 aN) (bC (kc 3 su.nd (aZ (ak 0) ay)) (bC (cp (cb ci (aZ (ak 3) ay) aN (bq _)) (aW (pr 1 (dB (dB (dB (DO.de (cg (al aN ar))) (DO.de (cZ rfl (CompScope.of rfl rfl) (FvOk.of (N':=["part"]) (fv:=[ac]) rfl) (cu (aZ (ak 3) ay)) ⟨fun _ _ _ _ _=>⟨(bV 0 (show(["part"]:ab ah).Nodup by decide +kernel)),cQ,(iC nO rfl V.z_str (by rfl) (al (ak 0) ar))⟩⟩))) (fG (vO V cW hk) hr (by omega) rfl (al (aZ (ak 3) ay) ar) ln1)) (fG (vO V cW hk) hr (by omega) rfl (al (aZ (ak 3) ay) ar) ln1)))) (aW (pr 1 (fG (LL V) hr (by omega) rfl (al (ak 3) ar) ln1)))) (Cq 1 (aW (bu (ak 1)))))))))
theorem Oi:Cal (Gam C_Shop C_TreeWords) P w K mg base "words_of_tree" 1 28 D1:=by
 have h:∀n,Cal (Gam C_Shop C_TreeWords) P w K mg base "words_of_tree" 1 (12+2*n) (rj n):=fun n=>by
  induction n with
  |zero=>exact Dfn.none (ps:=["tree"]) V.d2 (bn fun _ _ _ _ _ _ _=>rfl)
  |succ n ih=>exact Hn V ih (iX _ _)
 exact h 8
theorem jd:Cal (Gam C_Shop C_TreeWords) P w K mg base "is_name" 1 1 gx:=
 V.d3.cal (k:=0) Hl (bn fun _ _ _ _ _ _ _=>rfl) fun f cdv A outer s H E hr=>
  (bC (cp (DW.dt (dh (bU (bM (bE fg rfl V.z_isinstance (by rfl) (al (ak 0) (al (e6 rfl V.z_str (by rfl)) ar))))) (et (bU (M4 kU kU ay (bE cP rfl V.z_len (by rfl) (al (ak 0) ar)) (eP rfl V.k_LONGEST_NAME)))))) (aW (bu dX)) cv) (aW (bu (bE (gP rfl) rfl V.z_all (by rfl) (al (DO.de (cZ rfl (CompScope.of rfl rfl) (FvOk.of (N':=["sign"]) (fv:=[ac]) rfl) (xB (ak 0)) ⟨fun _ _ _ _ _=>⟨(bV 0 (show(["sign"]:ab ah).Nodup by decide +kernel)),cQ,(wb kU kU aN (ak 0) aN)⟩⟩)) ar)))))
theorem jG:Cal (Gam C_Shop C_TreeWords) P w K mg base "are_unlike" 1 1 ff:=
 V.d4.cal (k:=0) KM (bn fun _ _ _ _ _ _ _=>rfl) fun f cdv A outer s H E hr=>
  (aW (bu (jA ci (MB rfl (lX hr) rfl V.z_len rfl V.z_set (ak 0)) (bE cP rfl V.z_len (by rfl) (al (ak 0) ar)) (bq _))))
theorem ut:CalMR (Gam C_Shop C_TreeWords) P w K mg base "TreeWords" "ahead_of_all" 0 1 jT:=
 DfnM.calR (k:=0) V.O_TreeWords V.d5 OR (bn fun _ _ _ _ _ _ _=>rfl) fun f cdv A outer s H E hr=>
  (bi (bX (AZ (fL mi (j8 V.cf_TreeWords (.tail _ (.head _))) (C2 cP rfl V.z_len (by rfl) (aA (j8 V.cf_TreeWords (.head _)) (aG ar))) (bq _)) (eZ (j8 V.cf_TreeWords (.head _)) (j8 V.cf_TreeWords (.tail _ (.head _)))) (ax aN))))
theorem A8:CalMR (Gam C_Shop C_TreeWords) P w K mg base "TreeWords" "count_one" 0 1 kN:=
 DfnM.calR (k:=0) V.O_TreeWords V.d6 Lp (bn fun _ _ _ _ _ _ _=>rfl) fun f cdv A outer s H E hr=>
  (aJ (Ae V.cf_TreeWords (.tail _ (.tail _ (.head _))) (fR (j8 V.cf_TreeWords (.tail _ (.tail _ (.head _)))) (ax ay))) (bi (cr (fL nC (j8 V.cf_TreeWords (.tail _ (.tail _ (.head _)))) (ax (eP rfl V.k_MOST_COUNTED)) (bq _)) (bi jW) cq)))
theorem nU:CalMR (Gam C_Shop C_TreeWords) P w K mg base "TreeWords" "take" 0 2 jx:=
 DfnM.calR (k:=1) V.O_TreeWords V.d7 AG (bn fun _ _ _ _ _ _ _=>rfl) fun f cdv A outer s H E hr=>
  (aJ (bL 1 AG.nd (dS (ut V) hr (by decide))) (aJ (Ae V.cf_TreeWords (.tail _ (.head _)) (fR (j8 V.cf_TreeWords (.tail _ (.head _))) (ax ay))) (bi (bX (ax (ak 1))))))
theorem mx:CalMR (Gam C_Shop C_TreeWords) P w K mg base "TreeWords" "take_just" 1 3 gl:=
 DfnM.calR (k:=2) V.O_TreeWords V.d8 zQ (bn fun _ _ _ _ _ _ _=>rfl) fun f cdv A outer s H E hr=>
  (aJ (bL 2 zQ.nd (dS (nU V) hr (by decide))) (aJ (cr (cU (cb (Nt (lX hr)) (ak 2) (ak 1) (by rfl))) (bi jW) cq) (bi (bX (ax (ak 2))))))
theorem ki:CalMR (Gam C_Shop C_TreeWords) P w K mg base "TreeWords" "take_name" 0 3 gM:=
 DfnM.calR (k:=2) V.O_TreeWords V.d9 AD (bn fun _ _ _ _ _ _ _=>rfl) fun f cdv A outer s H E hr=>
  (aJ (bL 1 AD.nd (dS (nU V) hr (by decide))) (aJ (cr (cU (bU (bM (dC (jd V) hr (al (ak 1) ar) ln1)))) (bi jW) cq) (bi (bX (ax (ak 1))))))
theorem EC:Cal (Gam C_Shop C_TreeWords) P w K mg base "is_numeral" 1 1 sZ:=
 V.d10.cal (k:=0) OO (bn fun _ _ _ _ _ _ _=>rfl) fun f cdv A outer s H E hr=>
  (bC (cp (DW.dt (dh (cb ci (ak 0) aN (bq _)) (et (DW.dt (sX (cb ci (aZ (ak 0) ay) aN (bq _)) (uh (cb oK (ak 0) aN (bq _)))))))) (aW (bu dX)) cv) (aW (bu (bE (gP rfl) rfl V.z_all (by rfl) (al (DO.de (cZ rfl (CompScope.of rfl rfl) (FvOk.of (N':=["sign"]) (fv:=[ac]) rfl) (xB (ak 0)) ⟨fun _ _ _ _ _=>⟨(bV 0 (show(["sign"]:ab ah).Nodup by decide +kernel)),cQ,(jA Nq (ak 0) (Bs rfl V.k_FIGURES) (by rfl))⟩⟩)) ar)))))
theorem DX:Cal (Gam C_Shop C_TreeWords) P w K mg base "number_of" 1 1 tm:=
 V.d11.cal (k:=0) uF (bn fun _ _ _ _ _ _ _=>rfl) fun f cdv A outer s H E hr=>
  (bC (kc 1 uF.nd ay) (bC (kW gH rfl (xB (ak 0)) (bV 2 uF.nd) (aW (kc 1 uF.nd (dB (pJ (ak 1) ay) (xp zp QB PySem.F.type_str_index Lv (Bs rfl V.k_FIGURES) (al (ak 2) ar)))))) (aW (bu (ak 1)))))
theorem sA:CalMR (Gam C_Shop C_TreeWords) P w K mg base "TreeWords" "take_number" 1 3 lZ:=
 DfnM.calR (k:=2) V.O_TreeWords V.d12 DF (bn fun _ _ _ _ _ _ _=>rfl) fun f cdv A outer s H E hr=>
  (aJ (bL 2 DF.nd (dS (nU V) hr (by decide))) (aJ (cr (cU (DW.dt (dh (cb nC (bE cP rfl V.z_len (by rfl) (al (ak 2) ar)) (ak 1) (bq _)) (et (bU (bM (dC (EC V) hr (al (ak 2) ar) ln1))))))) (bi jW) cq) (bi (bX (ax (dC (DX V) hr (al (ak 2) ar) ln1))))))
theorem HG:CalMR (Gam C_Shop C_TreeWords) P w K mg base "TreeWords" "take_start" 0 4 oQ:=
 DfnM.calR (k:=3) V.O_TreeWords V.d13 Aq (bn fun _ _ _ _ _ _ _=>rfl) fun f cdv A outer s H E hr=>
  (aJ (cr (zY (xi (Nn zp QE PySem.F.type_str_startswith Ma (dS (ut V) hr (by decide)) (aA (ax aN) (aG ar))))) (bi (bX (iG (sA V) hr (by decide) (al (eP rfl V.k_START_FIGURES) ar) ln1))) cq) (aJ (bL 1 Aq.nd (Hk (dS (nU V) hr (by decide)) (ax ay))) (aJ (cr (cU (DW.dt (dh (cb nC (bE cP rfl V.z_len (by rfl) (al (ak 1) ar)) (eP rfl V.k_START_FIGURES) (bq _)) (dh (bU (bM (dC (EC V) hr (al (ak 1) ar) ln1))) (et (cb ci (ak 1) aN (bq _))))))) (bi jW) cq) (bi (bX (ax (C1 (dC (DX V) hr (al (ak 1) ar) ln1))))))))
theorem B2:CalR (rgO (Gam C_Shop C_TreeWords) K "TreeWords") (Gam C_Shop C_TreeWords) P w K mg base "read_choice" 0 5 tF:=
 V.d14.calR (k:=4) wR (bn fun _ _ _ _ _ _ _=>rfl) fun f cdv A outer s H E hr=>
  (aJ (bL 1 wR.nd (iG (mx V) hr (by decide) (al (DO.de (cg (al aN (al aN (al aN (al aN ar)))))) ar) ln1)) (aJ (bL 2 wR.nd (dS (ki V) hr (by decide))) (aJ (cr (cU (cb ci (ak 1) aN (bq _))) (bi (bX (ax (c9 (al (ak 1) (al (ak 2) ar)))))) cq) (aJ (cr (cU (cb ci (ak 1) aN (bq _))) (bi (bX (cJ (aA (ax (ak 1)) (aA (ax (ak 2)) (aA (dS (HG V) hr (by decide)) (aG ar))))))) cq) (bi (bX (cJ (aA (ax (ak 1)) (aA (ax (ak 2)) (aA (dS (ki V) hr (by decide)) (aG ar)))))))))))
theorem zX:CalMR (Gam C_Shop C_TreeWords) P w K mg base "TreeWords" "take_names" 0 4 uK:=
 DfnM.calR (k:=3) V.O_TreeWords V.d15 Eu (bn fun _ _ _ _ _ _ _=>rfl) fun f cdv A outer s H E hr=>
  (aJ (lc 1 Eu.nd (oO (aA (dS (ki V) hr (by decide)) (aG ar)))) (aJ (Ep 100000 gH (xi (N5 (jd V) hr (by decide) rfl (aA (dS (ut V) hr (by decide)) (aG ar)) lr1)) (bi (kM 1 (dS (nU V) hr (by decide))))) (kK 1 (bi (bX (ax (ak 1)))))))
theorem Du:CalR (rgO (Gam C_Shop C_TreeWords) K "TreeWords") (Gam C_Shop C_TreeWords) P w K mg base "read_ends" 0 4 sB:=
 V.d16.calR (k:=3) yd (bn fun _ _ _ _ _ _ _=>rfl) fun f cdv A outer s H E hr=>
  (aJ (bL 1 yd.nd (iG (sA V) hr (by decide) (al (eP rfl V.k_MOMENT_FIGURES) ar) ln1)) (aJ (bL 2 yd.nd (iG (sA V) hr (by decide) (al (eP rfl V.k_MOMENT_FIGURES) ar) ln1)) (aJ (cr (cU (cb DN (ak 1) (ak 2) (bq _))) (bi jW) cq) (bi (bX (ax (c9 (al (ak 1) (al (ak 2) ar)))))))))
theorem LU:CalR (rgO (Gam C_Shop C_TreeWords) K "TreeWords") (Gam C_Shop C_TreeWords) P w K mg base "read_stretch" 0 5 xM:=
 V.d17.calR (k:=4) wW (bn fun _ _ _ _ _ _ _=>rfl) fun f cdv A outer s H E hr=>
  (aJ (bL 1 wW.nd (a9 (Du V) hr (by decide) rfl (aG ar) lr0)) (aJ (bL 2 wW.nd (dS (zX V) hr (by decide))) (aJ (cr (cU (bU (bM (dC (jG V) hr (al (ak 2) ar) ln1)))) (bi jW) cq) (bi (bX (ax (c9 (al aN (al (ak 2) (al (aZ (ak 1) ay) (al (aZ (ak 1) ay) ar)))))))))))
theorem HA {k:ag} {W:(au->ab D->Fs->aq (D×Fs))} (cW:CalR (rgO (Gam C_Shop C_TreeWords) K "TreeWords") (Gam C_Shop C_TreeWords) P w K mg base "read_within" 1 k W) (hk:12<=k):CalR (rgO (Gam C_Shop C_TreeWords) K "TreeWords") (Gam C_Shop C_TreeWords) P w K mg base "read_part" 1 (k+1) (oH W):=
 V.d18.calR (k:=k+0) rn (bn fun _ _ _ _ _ _ _=>rfl) fun f cdv A outer s H E hr=>
  (aJ (oB (dS (A8 V) hr (by omega))) (aJ (bL 2 rn.nd (iG (mx V) hr (by omega) (al (DO.de (cg (al aN (al aN (al aN (al aN ar)))))) ar) ln1)) (aJ (cr (cU (cb ci (ak 2) aN (bq _))) (aJ (bL 3 rn.nd (a9 (B2 V) hr (by omega) rfl (aG ar) lr0)) (aJ (bL 4 rn.nd (AZ (fL ci (iG (mx V) hr (by omega) (al (DO.de (cg (al aN (al aN ar)))) ar) ln1) (ax aN) (bq _)) (ax ay) (ax ay))) (bi (bX (cJ (aA (ax (ak 2)) (aA (ax (ak 3)) (aA (ax (ak 4)) (aA (a9 cW hr (by omega) rfl (aA (ax (ak 1)) (aG ar)) lr1) (aG ar)))))))))) cq) (aJ (cr (cU (cb ci (ak 2) aN (bq _))) (bi (bX (cJ (aA (ax (ak 2)) (aA (dS (ki V) hr (by omega)) (aG ar)))))) cq) (aJ (bL 5 rn.nd (dS (ki V) hr (by omega))) (bi (bX (cJ (aA (ax (ak 2)) (aA (ax (ak 5)) (aA (dS (ki V) hr (by omega)) (aG ar))))))))))))
theorem HM {k:ag} {W:(au->ab D->Fs->aq (D×Fs))} (cW:CalR (rgO (Gam C_Shop C_TreeWords) K "TreeWords") (Gam C_Shop C_TreeWords) P w K mg base "read_within" 1 k W) (hk:12<=k):CalR (rgO (Gam C_Shop C_TreeWords) K "TreeWords") (Gam C_Shop C_TreeWords) P w K mg base "read_end" 1 (k+1) (wl W):=
 V.d19.calR (k:=k+0) kX (bn fun _ _ _ _ _ _ _=>rfl) fun f cdv A outer s H E hr=>
  (aJ (oB (dS (A8 V) hr (by omega))) (aJ (bL 2 kX.nd (iG (mx V) hr (by omega) (al (DO.de (cg (al aN (al aN (al aN (al aN (al aN (al aN (al aN ar))))))))) ar) ln1)) (aJ (cr (cU (cb ci (ak 2) aN (bq _))) (aJ (bL 3 kX.nd (a9 (B2 V) hr (by omega) rfl (aG ar) lr0)) (aJ (bL 4 kX.nd (a9 cW hr (by omega) rfl (aA (ax (ak 1)) (aG ar)) lr1)) (bi (bX (cJ (aA (ax (ak 2)) (aA (ax (ak 3)) (aA (ax (ak 4)) (aA (a9 cW hr (by omega) rfl (aA (ax (ak 1)) (aG ar)) lr1) (aG ar)))))))))) cq) (aJ (cr (cU (cb ci (ak 2) aN (bq _))) (bi (bX (cJ (aA (ax (ak 2)) (aA (dS (ki V) hr (by omega)) (aG ar)))))) cq) (aJ (cr (cU (cb ci (ak 2) aN (bq _))) (bi (bX (cJ (aA (ax (ak 2)) (aA (dS (zX V) hr (by omega)) (aG ar)))))) cq) (aJ (cr (cU (cb ci (ak 2) aN (bq _))) (bi (bX (a9 (LU V) hr (by omega) rfl (aG ar) lr0))) cq) (aJ (cr (cU (cb ci (ak 2) aN (bq _))) (aJ (bL 5 kX.nd (dS (ki V) hr (by omega))) (aJ (bL 6 kX.nd (a9 (Du V) hr (by omega) rfl (aG ar) lr0)) (bi (bX (ax (c9 (al (ak 2) (al (ak 5) (al (aZ (ak 6) ay) (al (aZ (ak 6) ay) ar)))))))))) cq) (aJ (cr (cU (cb ci (ak 2) aN (bq _))) (aJ (bL 7 kX.nd (dS (ki V) hr (by omega))) (aJ (bL 8 kX.nd (iG (sA V) hr (by omega) (al (eP rfl V.k_MOMENT_FIGURES) ar) ln1)) (bi (bX (cJ (aA (ax (ak 2)) (aA (ax (ak 7)) (aA (ax (ak 8)) (aA (iG (mx V) hr (by omega) (al (DO.de (cg (al aN (al aN ar)))) ar) ln1) (aG ar)))))))))) cq) (bi (bX (ax (c9 (al (ak 2) ar)))))))))))))
theorem Bv {k:ag} {W:(au->ab D->Fs->aq (D×Fs))} (cW:CalR (rgO (Gam C_Shop C_TreeWords) K "TreeWords") (Gam C_Shop C_TreeWords) P w K mg base "read_within" 1 k W) (hk:12<=k):CalR (rgO (Gam C_Shop C_TreeWords) K "TreeWords") (Gam C_Shop C_TreeWords) P w K mg base "read_next_tree" 1 (k+2) (uP W):=
 V.d20.calR (k:=k+1) zF (bn fun _ _ _ _ _ _ _=>rfl) fun f cdv A outer s H E hr=>
  (aJ (cr (cU (cb nC (ak 1) (eP rfl V.k_MOST_WITHIN) (bq _))) (bi jW) cq) (aJ (lc 2 zF.nd (sY (cg ar))) (aJ (Ep 100000 gH (fL oK (dS (ut V) hr (by omega)) (ax aN) (bq _)) (bi (kM 2 (a9 (HA V cW hk) hr (by omega) rfl (aA (ax (ak 1)) (aG ar)) lr1)))) (aJ (oB (dS (nU V) hr (by omega))) (kK 2 (bi (bX (cJ (aA (ax (ak 2)) (aA (a9 (HM V cW hk) hr (by omega) rfl (aA (ax (ak 1)) (aG ar)) lr1) (aG ar)))))))))))
theorem Hq {k:ag} {W:(au->ab D->Fs->aq (D×Fs))} (cW:CalR (rgO (Gam C_Shop C_TreeWords) K "TreeWords") (Gam C_Shop C_TreeWords) P w K mg base "read_within" 1 k W) (hk:12<=k):CalR (rgO (Gam C_Shop C_TreeWords) K "TreeWords") (Gam C_Shop C_TreeWords) P w K mg base "read_within" 1 (k+3) (Dt W):=
 V.d21.calR (k:=k+2) CO (bn fun _ _ _ _ _ _ _=>rfl) fun f cdv A outer s H E hr=>
  (aJ (oB (iG (mx V) hr (by omega) (al (DO.de (cg (al aN ar))) ar) ln1)) (aJ (bL 2 CO.nd (a9 (Bv V cW hk) hr (by omega) rfl (aA (ax (dB (ak 1) ay)) (aG ar)) lr1)) (aJ (oB (iG (mx V) hr (by omega) (al (DO.de (cg (al aN ar))) ar) ln1)) (bi (bX (ax (ak 2)))))))
theorem Mt:CalR (rgO (Gam C_Shop C_TreeWords) K "TreeWords") (Gam C_Shop C_TreeWords) P w K mg base "read_within" 1 36 wM:=by
 have h:∀n,CalR (rgO (Gam C_Shop C_TreeWords) K "TreeWords") (Gam C_Shop C_TreeWords) P w K mg base "read_within" 1 (12+3*n) (o6 n):=fun n=>by
  induction n with
  |zero=>exact Dfn.noneR (ps:=["words","depth"]) V.d21 (bn fun _ _ _ _ _ _ _=>rfl)
  |succ n ih=>exact Hq V ih (iX _ _)
 exact h 8
theorem O5:CalR (rgO (Gam C_Shop C_TreeWords) K "TreeWords") (Gam C_Shop C_TreeWords) P w K mg base "read_next_tree" 1 38 wK:=Bv V (Mt V) (by decide)
theorem bP:CalR rgI (Gam C_Shop C_TreeWords) P w K mg base "_law_pick" 1 1 ba:=
 V.d22.calR (k:=0) El (bn fun _ _ _ _ _ _ _=>rfl) fun f cdv A outer s H E hr=>
  (aJ (bL 2 El.nd (zU AQ (ax (ak 1)))) (aJ (Ka (OF AQ (ax (ak 1)))) (bi (bX (ax (ak 2))))))
theorem M1 {k:ag} {fH:FQ} (iE:Cal (Gam C_Shop C_TreeWords) P w K mg base "fresh" 1 k fH):Cal (Gam C_Shop C_TreeWords) P w K mg base "fresh" 1 (k+1) (je fH):=
 V.d23.cal (k:=k) Lc (bn fun _ _ _ _ _ _ _=>rfl) fun f cdv A outer s H E hr=>
  (bC (cp (bM (bE fg rfl V.z_isinstance (by rfl) (al (ak 0) (al (e6 rfl V.z_list (by rfl)) ar)))) (aW (bu (DO.de (cZ rfl (CompScope.of rfl rfl) (FvOk.of (N':=["part"]) (fv:=[ac]) rfl) (cu (ak 0)) ⟨fun _ _ _ _ _=>⟨(bV 0 (show(["part"]:ab ah).Nodup by decide +kernel)),cQ,(fG iE hr (qy _) rfl (al (ak 0) ar) ln1)⟩⟩)))) cv) (bC (cp (bM (bE fg rfl V.z_isinstance (by rfl) (al (ak 0) (al (e6 rfl V.z_tuple (by rfl)) ar)))) (aW (bu (iC GA rfl V.z_tuple (by rfl) (al (DO.de (cZ rfl (CompScope.of rfl rfl) (FvOk.of (N':=["part"]) (fv:=[ac]) rfl) (cu (ak 0)) ⟨fun _ _ _ _ _=>⟨(bV 0 (show(["part"]:ab ah).Nodup by decide +kernel)),cQ,(fG iE hr (qy _) rfl (al (ak 0) ar) ln1)⟩⟩)) ar)))) cv) (aW (bu (ak 0)))))
theorem iE:Cal (Gam C_Shop C_TreeWords) P w K mg base "fresh" 1 8 fH:=by
 have h:∀n,Cal (Gam C_Shop C_TreeWords) P w K mg base "fresh" 1 n (i7 n):=fun n=>by
  induction n with
  |zero=>exact Dfn.none (ps:=["thing"]) V.d23 (bn fun _ _ _ _ _ _ _=>rfl)
  |succ n ih=>exact M1 V ih
 exact h 8
theorem we:CalM (Gam C_Shop C_TreeWords) P w K mg base "Shop" "step_names" 1 1 nJ:=
 DfnM.cal (k:=0) V.O_Shop V.d24 KU (bn fun _ _ _ _ _ _ _=>rfl) fun f cdv A outer s H E hr=>
  (aW (bu (DO.de (cZ rfl (CompScope.of rfl rfl) (FvOk.of (N':=["row"]) (fv:=[ac]) rfl) (cu (pk V.cf_Shop (.tail _ (.head _)) (ak 0))) ⟨fun _ _ _ _ _=>⟨(bV 0 (show(["row"]:ab ah).Nodup by decide +kernel)),cQ,(aZ (ak 0) ay)⟩⟩))))
theorem tH:CalM (Gam C_Shop C_TreeWords) P w K mg base "Shop" "last_moment" 1 1 lx:=
 DfnM.cal (k:=0) V.O_Shop V.d25 L8 (bn fun _ _ _ _ _ _ _=>rfl) fun f cdv A outer s H E hr=>
  (aW (bu (pk V.cf_Shop (.tail _ (.tail _ (.tail _ (.tail _ (.tail _ (.tail _ (.head _))))))) (ak 0))))
theorem Dw:CalM (Gam C_Shop C_TreeWords) P w K mg base "Shop" "bench_names" 1 1 p0:=
 DfnM.cal (k:=0) V.O_Shop V.d26 KJ (bn fun _ _ _ _ _ _ _=>rfl) fun f cdv A outer s H E hr=>
  (aW (bu (DO.de (cZ rfl (CompScope.of rfl rfl) (FvOk.of (N':=["row"]) (fv:=[ac]) rfl) (cu (pk V.cf_Shop (.head _) (ak 0))) ⟨fun _ _ _ _ _=>⟨(bV 0 (show(["row"]:ab ah).Nodup by decide +kernel)),cQ,(aZ (ak 0) ay)⟩⟩))))
theorem Dp:CalR rgI (Gam C_Shop C_TreeWords) P w K mg base "_law_choice" 1 2 q0:=
 V.d27.calR (k:=1) rm (bn fun _ _ _ _ _ _ _=>rfl) fun f cdv A outer s H E hr=>
  (aJ (bL 2 rm.nd (ax (gw (we V) hr (by decide) (ak 1)))) (aJ (bL 3 rm.nd (eZ (ax (ak 2)) (a9 (bP V) hr (by decide) rfl (aA (ax (bE cP rfl V.z_len (by rfl) (al (ak 2) ar))) (aG ar)) lr1))) (aJ (bL 4 rm.nd (a9 (bP V) hr (by decide) rfl (aA (ax ay) (aG ar)) lr1)) (aJ (cr (cU (cb ci (ak 4) ay (bq _))) (bi (bX (cJ (aA (ax aN) (aA (ax (ak 3)) (aA (a9 (bP V) hr (by decide) rfl (aA (ax (dB (gw (tH V) hr (by decide) (ak 1)) ay)) (aG ar)) lr1) (aG ar))))))) cq) (aJ (cr (cU (cb ci (ak 4) ay (bq _))) (aJ (bL 5 rm.nd (ax (gw (Dw V) hr (by decide) (ak 1)))) (bi (bX (cJ (aA (ax aN) (aA (ax (ak 3)) (aA (eZ (ax (ak 5)) (a9 (bP V) hr (by decide) rfl (aA (ax (bE cP rfl V.z_len (by rfl) (al (ak 5) ar))) (aG ar)) lr1)) (aG ar)))))))) cq) (aJ (cr (cU (cb ci (ak 4) ay (bq _))) (bi (bX (cJ (aA (ax aN) (aA (ax (ak 3)) (aA (eZ (ax (ak 2)) (a9 (bP V) hr (by decide) rfl (aA (ax (bE cP rfl V.z_len (by rfl) (al (ak 2) ar))) (aG ar)) lr1)) (aG ar))))))) cq) (bi (bX (ax (c9 (al aN (al (ak 3) ar))))))))))))
theorem BY:CalR rgI (Gam C_Shop C_TreeWords) P w K mg base "_law_stretch" 1 2 oG:=
 V.d28.calR (k:=1) Ao (bn fun _ _ _ _ _ _ _=>rfl) fun f cdv A outer s H E hr=>
  (aJ (bL 2 Ao.nd (a9 (bP V) hr (by decide) rfl (aA (ax (gw (tH V) hr (by decide) (ak 1))) (aG ar)) lr1)) (bi (bX (cJ (aA (ax (ak 2)) (aA (fR (ax (dB (ak 2) ay)) (a9 (bP V) hr (by decide) rfl (aA (ax (jt (gw (tH V) hr (by decide) (ak 1)) (ak 2))) (aG ar)) lr1)) (aG ar)))))))
theorem vT:CalM (Gam C_Shop C_TreeWords) P w K mg base "Shop" "job_rows" 1 9 lT:=
 DfnM.cal (k:=8) V.O_Shop V.d29 Ku (bn fun _ _ _ _ _ _ _=>rfl) fun f cdv A outer s H E hr=>
  (aW (bu (dC (iE V) hr (al (pk V.cf_Shop (.tail _ (.tail _ (.head _))) (ak 0)) ar) ln1)))
theorem zP:CalM (Gam C_Shop C_TreeWords) P w K mg base "Shop" "stock_rows" 1 9 pd:=
 DfnM.cal (k:=8) V.O_Shop V.d30 Ik (bn fun _ _ _ _ _ _ _=>rfl) fun f cdv A outer s H E hr=>
  (aW (bu (dC (iE V) hr (al (pk V.cf_Shop (.tail _ (.tail _ (.tail _ (.tail _ (.tail _ (.head _)))))) (ak 0)) ar) ln1)))
theorem NY:CalR rgI (Gam C_Shop C_TreeWords) P w K mg base "_law_leaf" 1 10 oP:=
 V.d31.calR (k:=9) kf (bn fun _ _ _ _ _ _ _=>rfl) fun f cdv A outer s H E hr=>
  (aJ (bL 2 kf.nd (ax (gw (we V) hr (by decide) (ak 1)))) (aJ (bL 3 kf.nd (a9 (bP V) hr (by decide) rfl (aA (ax ay) (aG ar)) lr1)) (aJ (cr (cU (cb ci (ak 3) ay (bq _))) (bi (bX (cJ (aA (ax aN) (aA (RO.re (Ko (by decide) rfl rfl (CompScope.of rfl rfl) (FvOk.of (N':=["_law_k","_law_names","_law_left_here"]) (fv:=[ac,aa 2,aa 0]) rfl) (sJ rfl V.z_range (aA (fR (ax ay) (a9 (bP V) hr (by decide) rfl (aA (ax ay) (aG ar)) lr1)) (aG ar))) ⟨fun _ _ _ _ _=>⟨(bV 0 (show(["_law_k","_law_names","_law_left_here"]:ab ah).Nodup by decide +kernel)),AI,(eZ (ax (ak 1)) (a9 (bP V) hr (by decide) rfl (aA (ax (bE cP rfl V.z_len (by rfl) (al (ak 1) ar))) (aG ar)) lr1))⟩⟩)) (aG ar)))))) cq) (aJ (cr (cU (cb ci (ak 3) ay (bq _))) (aJ (Ad (vL (nz (i8 (by decide)) (nz (i8 (by decide)) wI))) (a9 (BY V) hr (by decide) rfl (aA (ax (ak 1)) (aG ar)) lr1) (tR (n:=2) rfl (kQ (bV 4 kf.nd) (kQ (bV 5 kf.nd) uy)))) (aJ (bL 6 kf.nd (ax (gw (Dw V) hr (by decide) (ak 1)))) (bi (bX (cJ (aA (ax aN) (aA (HE (ax (ak 6)) (a9 (bP V) hr (by decide) rfl (aA (ax (bE cP rfl V.z_len (by rfl) (al (ak 6) ar))) (aG ar)) lr1)) (aA (ax (ak 4)) (aA (ax (ak 5)) (aG ar)))))))))) cq) (aJ (cr (cU (DW.dt (sX (cb ci (ak 3) ay (bq _)) (uh (cb (nL (j5 hr)) (gw (vT V) hr (by decide) (ak 1)) (DO.de (cg ar)) (bq _)))))) (aJ (Ad (vL (nz (i8 (by decide)) (nz (i8 (by decide)) wI))) (a9 (BY V) hr (by decide) rfl (aA (ax (ak 1)) (aG ar)) lr1) (tR (n:=2) rfl (kQ (bV 4 kf.nd) (kQ (bV 5 kf.nd) uy)))) (bi (bX (cJ (aA (ax aN) (aA (eZ (eZ (ax (gw (vT V) hr (by decide) (ak 1))) (a9 (bP V) hr (by decide) rfl (aA (ax (bE cP rfl V.z_len (by rfl) (al (gw (vT V) hr (by decide) (ak 1)) ar))) (aG ar)) lr1)) (ax ay)) (aA (ax (ak 4)) (aA (ax (ak 5)) (aG ar))))))))) cq) (aJ (cr (cU (DW.dt (sX (cb ci (ak 3) ay (bq _)) (uh (cb (nL (j5 hr)) (gw (zP V) hr (by decide) (ak 1)) (DO.de (cg ar)) (bq _)))))) (aJ (bL 7 kf.nd (a9 (bP V) hr (by decide) rfl (aA (ax (dB (gw (tH V) hr (by decide) (ak 1)) ay)) (aG ar)) lr1)) (bi (bX (cJ (aA (ax aN) (aA (ax (aZ (aZ (gw (zP V) hr (by decide) (ak 1)) ay) ay)) (aA (ax (ak 7)) (aA (eZ (ax (DO.de (cg (al aN (al aN ar))))) (a9 (bP V) hr (by decide) rfl (aA (ax ay) (aG ar)) lr1)) (aG ar))))))))) cq) (aJ (cr (cU (cb ci (ak 3) ay (bq _))) (bi (bX (ax (c9 (al aN ar))))) cq) (bi (bX (cJ (aA (ax aN) (aA (eZ (ax (ak 2)) (a9 (bP V) hr (by decide) rfl (aA (ax (bE cP rfl V.z_len (by rfl) (al (ak 2) ar))) (aG ar)) lr1)) (aG ar)))))))))))))
theorem Mb {k:ag} {W:FQ'} (cW:CalR rgI (Gam C_Shop C_TreeWords) P w K mg base "_law_tree" 2 k W) (hk:12<=k):CalR rgI (Gam C_Shop C_TreeWords) P w K mg base "_law_row" 2 (k+1) (sG W):=
 V.d32.calR (k:=k+0) ph (bn fun _ _ _ _ _ _ _=>rfl) fun f cdv A outer s H E hr=>
  (aJ (bL 3 ph.nd (ax (gw (we V) hr (by omega) (ak 1)))) (aJ (bL 4 ph.nd (a9 (bP V) hr (by omega) rfl (aA (ax ay) (aG ar)) lr1)) (aJ (cr (cU (DW.dt (sX (cb ci (ak 4) ay (bq _)) (uh (cb nC (ak 2) ay (bq _)))))) (aJ (bL 5 ph.nd (a9 (Dp V) hr (by omega) rfl (aA (ax (ak 1)) (aG ar)) lr1)) (bi (bX (cJ (aA (ax aN) (aA (ax (ak 5)) (aA (a9 (bP V) hr (by omega) rfl (aA (ax ay) (aG ar)) lr1) (aA (a9 cW hr (by omega) rfl (aA (ax (ak 1)) (aA (ax (jt (ak 2) ay)) (aG ar))) lr2) (aG ar))))))))) cq) (aJ (cr (cU (cb ci (ak 4) ay (bq _))) (bi (bX (cJ (aA (ax aN) (aA (eZ (ax (ak 3)) (a9 (bP V) hr (by omega) rfl (aA (ax (bE cP rfl V.z_len (by rfl) (al (ak 3) ar))) (aG ar)) lr1)) (aG ar)))))) cq) (aJ (bL 6 ph.nd (eZ (ax (ak 3)) (a9 (bP V) hr (by omega) rfl (aA (ax (bE cP rfl V.z_len (by rfl) (al (ak 3) ar))) (aG ar)) lr1))) (bi (bX (cJ (aA (ax (aZ (DO.de (cg (al aN (al aN ar)))) (vS (ak 4) ay))) (aA (ax (ak 6)) (aA (eZ (ax (ak 3)) (a9 (bP V) hr (by omega) rfl (aA (ax (bE cP rfl V.z_len (by rfl) (al (ak 3) ar))) (aG ar)) lr1)) (aG ar))))))))))))
theorem Nk {k:ag} {W:FQ'} (cW:CalR rgI (Gam C_Shop C_TreeWords) P w K mg base "_law_tree" 2 k W) (hk:12<=k):CalR rgI (Gam C_Shop C_TreeWords) P w K mg base "_law_tree" 2 (k+2) (uI W):=
 V.d33.calR (k:=k+1) sR (bn fun _ _ _ _ _ _ _=>rfl) fun f cdv A outer s H E hr=>
  (aJ (wp 3 sR.nd (by decide) (by decide) rfl rfl (CompScope.of rfl rfl) (FvOk.of (N':=["_law_k","_law_left_here","_law_shop_here","_law_deep"]) (fv:=[ac,aa 0,aa 1,aa 2]) rfl) (sJ rfl V.z_range (aA (a9 (bP V) hr (by omega) rfl (aA (ax ay) (aG ar)) lr1) (aG ar))) ⟨fun _ _ _ _ _=>⟨(bV 0 (show(["_law_k","_law_left_here","_law_shop_here","_law_deep"]:ab ah).Nodup by decide +kernel)),AI,(a9 (Mb V cW hk) hr (by omega) rfl (aA (ax (ak 2)) (aA (ax (ak 3)) (aG ar))) lr2)⟩⟩) (aJ (cr (RW.rt (t9 (cU (cb nC (ak 2) ay (bq _))) (wE (fL ci (a9 (bP V) hr (by omega) rfl (aA (ax ay) (aG ar)) lr1) (ax ay) (bq _))))) (aJ (bL 4 sR.nd (a9 (Dp V) hr (by omega) rfl (aA (ax (ak 1)) (aG ar)) lr1)) (aJ (bL 5 sR.nd (a9 cW hr (by omega) rfl (aA (ax (ak 1)) (aA (ax (jt (ak 2) ay)) (aG ar))) lr2)) (bi (bX (cJ (aA (ax (ak 3)) (aA (cJ (aA (ax aN) (aA (ax (ak 4)) (aA (ax (ak 5)) (aA (a9 cW hr (by omega) rfl (aA (ax (ak 1)) (aA (ax (jt (ak 2) ay)) (aG ar))) lr2) (aG ar)))))) (aG ar)))))))) cq) (bi (bX (cJ (aA (ax (ak 3)) (aA (a9 (NY V) hr (by omega) rfl (aA (ax (ak 1)) (aG ar)) lr1) (aG ar))))))))
theorem K9:CalR rgI (Gam C_Shop C_TreeWords) P w K mg base "_law_tree" 2 28 tM:=by
 have h:∀n,CalR rgI (Gam C_Shop C_TreeWords) P w K mg base "_law_tree" 2 (12+2*n) (nt n):=fun n=>by
  induction n with
  |zero=>exact Dfn.noneR (ps:=["_law_left_here","_law_shop_here","_law_deep"]) V.d33 (bn fun _ _ _ _ _ _ _=>rfl)
  |succ n ih=>exact Nk V ih (iX _ _)
 exact h 8
theorem Ny:CalO (Gam C_Shop C_TreeWords) P w K mg base "_law_left" 2 1 nc:=
 V.d34.calO (k:=0) tK (bn fun _ _ _ _ _ _ _=>rfl) fun f cdv A outer s H E hr=>
  (bC (kc 2 tK.nd ay) (bC (cp (cb mi (ak 1) (bE cP rfl V.z_len (by rfl) (al (ak 0) ar)) (bq _)) (aW (kc 2 tK.nd (aZ (ak 0) (ak 1)))) cv) (bC (cp (cb DN (ak 2) (nS ay ay) (bq _)) (aW (Ds (cg (al (vS (ak 2) (HK (nS ay ay) (nS ay ay))) ar)))) cv) (bC (kc 3 tK.nd (dB (vS (dB (dB (ak 2) (pJ (pJ ay (ak 1)) (ak 1))) (pJ ay (bE cP rfl V.z_len (by rfl) (al (ak 0) ar)))) ay) ay)) (aW (Ds (cg (al (Ks (nS (dB (pJ (ak 3) ay) ay) ay) ay) ar))))))))
theorem NP:CalR rgI (Gam C_Shop C_TreeWords) P w K mg base "_law_benches" 2 2 rf:=
 V.d35.calR (k:=1) m8 (bn fun _ _ _ _ _ _ _=>rfl) fun f cdv A outer s H E hr=>
  (aJ (lc 3 m8.nd (sY (cg ar))) (aJ (tW (i8 (by decide)) gH rfl (sJ rfl V.z_range (aA (fR (ax ay) (a9 (bP V) hr (by decide) rfl (aA (ax ay) (aG ar)) lr1)) (aG ar))) (bV 4 m8.nd) (aJ (bL 5 m8.nd (ax (DO.de (cg ar)))) (aJ (cr (fL ci (a9 (bP V) hr (by decide) rfl (aA (ax ay) (aG ar)) lr1) (ax ay) (bq _)) (aJ (bL 6 m8.nd (a9 (bP V) hr (by decide) rfl (aA (ax (ak 2)) (aG ar)) lr1)) (bi (bL 5 m8.nd (RO.re (oO (aA (cJ (aA (ax (ak 6)) (aA (fR (ax (dB (ak 6) ay)) (a9 (bP V) hr (by decide) rfl (aA (ax (jt (ak 2) (ak 6))) (aG ar)) lr1)) (aG ar)))) (aG ar))))))) cq) (bi (kM 3 (ax (c9 (al (dB (aZ aN (ak 4)) (ak 1)) (al (ak 5) ar))))))))) (kK 3 (bi (bX (ax (ak 3)))))))
theorem Jb:CalR rgI (Gam C_Shop C_TreeWords) P w K mg base "_law_steps" 3 2 oX:=
 V.d36.calR (k:=1) pq (bn fun _ _ _ _ _ _ _=>rfl) fun f cdv A outer s H E hr=>
  (aJ (lc 4 pq.nd (sY (cg ar))) (aJ (tW (i8 (by decide)) gH rfl (sJ rfl V.z_range (aA (fR (ax ay) (a9 (bP V) hr (by decide) rfl (aA (ax ay) (aG ar)) lr1)) (aG ar))) (bV 5 pq.nd) (aJ (bL 6 pq.nd (a9 (bP V) hr (by decide) rfl (aA (ax (bE cP rfl V.z_len (by rfl) (al (ak 2) ar))) (aG ar)) lr1)) (aJ (lc 7 pq.nd (oO (aA (cJ (aA (ax (aZ (aZ (ak 2) (ak 6)) ay)) (aA (fR (ax ay) (a9 (bP V) hr (by decide) rfl (aA (ax (bE (t5 rfl) rfl V.z_min (by rfl) (al ay (al (ak 3) ar)))) (aG ar)) lr1)) (aG ar)))) (aG ar)))) (aJ (cr (RW.rt (t9 (cU (cb ci (bE cP rfl V.z_len (by rfl) (al (ak 2) ar)) ay (bq _))) (t9 (fL ci (a9 (bP V) hr (by decide) rfl (aA (ax ay) (aG ar)) lr1) (ax ay) (bq _)) (wE (cU (cb mi (ak 5) ay (bq _))))))) (bi (kM 7 (cJ (aA (ax (aZ (aZ (ak 2) (jt ay (ak 6))) ay)) (aA (fR (ax ay) (a9 (bP V) hr (by decide) rfl (aA (ax (bE (t5 rfl) rfl V.z_min (by rfl) (al ay (al (ak 3) ar)))) (aG ar)) lr1)) (aG ar)))))) cq) (kK 7 (bi (kM 4 (cJ (aA (ax (dB (ak 1) (aZ aN (ak 5)))) (aA (eZ (ax aN) (a9 (bP V) hr (by decide) rfl (aA (ax ay) (aG ar)) lr1)) (aA (ax (ak 7)) (aG ar)))))))))))) (kK 4 (bi (bX (ax (ak 4)))))))
theorem No:CalR rgI (Gam C_Shop C_TreeWords) P w K mg base "_law_links" 2 2 oN:=
 V.d37.calR (k:=1) sE (bn fun _ _ _ _ _ _ _=>rfl) fun f cdv A outer s H E hr=>
  (aJ (cr (RW.rt (KA (cU (cb mi (bE cP rfl V.z_len (by rfl) (al (ak 1) ar)) ay (bq _))) (Mj (fL oK (a9 (bP V) hr (by decide) rfl (aA (ax ay) (aG ar)) lr1) (ax ay) (bq _))))) (bi (bX (ax (DO.de (cg ar))))) cq) (aJ (bL 3 sE.nd (a9 (bP V) hr (by decide) rfl (aA (ax (bE cP rfl V.z_len (by rfl) (al (ak 1) ar))) (aG ar)) lr1)) (aJ (bL 4 sE.nd (zU (fR (ax (dB (ak 3) ay)) (a9 (bP V) hr (by decide) rfl (aA (ax (jt (bE cP rfl V.z_len (by rfl) (al (ak 1) ar)) ay)) (aG ar)) lr1)) (ax (bE cP rfl V.z_len (by rfl) (al (ak 1) ar))))) (aJ (lc 5 sE.nd (oO (aA (cJ (aA (ax (aZ (ak 1) (ak 3))) (aA (ax (aZ (ak 1) (ak 4))) (aA (a9 (bP V) hr (by decide) rfl (aA (ax (bE (t5 rfl) rfl V.z_min (by rfl) (al ay (al (dB (ak 2) ay) ar)))) (aG ar)) lr1) (aG ar))))) (aG ar)))) (aJ (cr (fL ci (a9 (bP V) hr (by decide) rfl (aA (ax ay) (aG ar)) lr1) (ax ay) (bq _)) (bi (kM 5 (ax (c9 (al (aZ (ak 1) (ak 4)) (al (aZ (ak 1) (ak 3)) (al ay ar))))))) cq) (kK 5 (bi (bX (ax (ak 5))))))))))
theorem MU:Cal (Gam C_Shop C_TreeWords) P w K mg base "is_whole" 1 1 ub:=
 V.d38.cal (k:=0) HY (bn fun _ _ _ _ _ _ _=>rfl) fun f cdv A outer s H E hr=>
  (aW (bu (eM (bE fg rfl V.z_isinstance (by rfl) (al (ak 0) (al (e6 rfl V.z_int (by rfl)) ar))) (fT (Ah (bE fg rfl V.z_isinstance (by rfl) (al (ak 0) (al (e6 rfl V.z_bool (by rfl)) ar))))))))
theorem iO:Cal (Gam C_Shop C_TreeWords) P w K mg base "is_within" 3 2 ga:=
 V.d39.cal (k:=1) JT (bn fun _ _ _ _ _ _ _=>rfl) fun f cdv A outer s H E hr=>
  (aW (bu (eM (dC (MU V) hr (al (ak 0) ar) ln1) (fT (wb kU kU (ak 1) (ak 0) (ak 2))))))
theorem jP:Cal (Gam C_Shop C_TreeWords) P w K mg base "is_tuple" 2 1 fF:=
 V.d40.cal (k:=0) N9 (bn fun _ _ _ _ _ _ _=>rfl) fun f cdv A outer s H E hr=>
  (aW (bu (eM (bE fg rfl V.z_isinstance (by rfl) (al (ak 0) (al (e6 rfl V.z_tuple (by rfl)) ar))) (fT (jA ci (bE cP rfl V.z_len (by rfl) (al (ak 0) ar)) (ak 1) (bq _))))))
theorem LQ:Cal (Gam C_Shop C_TreeWords) P w K mg base "is_break" 2 3 sD:=
 V.d41.cal (k:=2) ML (bn fun _ _ _ _ _ _ _=>rfl) fun f cdv A outer s H E hr=>
  (bC (cp (DW.dt (dh (bU (bM (dC (jP V) hr (al (ak 0) (al ay ar)) ln2))) (dh (bU (bM (dC (iO V) hr (al (aZ (ak 0) ay) (al ay (al (ak 1) ar))) ln3))) (et (bU (bM (dC (iO V) hr (al (aZ (ak 0) ay) (al ay (al (ak 1) ar))) ln3))))))) (aW (bu dX)) cv) (aW (bu (jA mi (aZ (ak 0) ay) (aZ (ak 0) ay) (bq _)))))
theorem jr:Cal (Gam C_Shop C_TreeWords) P w K mg base "is_list" 3 1 gZ:=
 V.d42.cal (k:=0) Mu (bn fun _ _ _ _ _ _ _=>rfl) fun f cdv A outer s H E hr=>
  (aW (bu (eM (bE fg rfl V.z_isinstance (by rfl) (al (ak 0) (al (e6 rfl V.z_list (by rfl)) ar))) (fT (wb kU kU (ak 1) (bE cP rfl V.z_len (by rfl) (al (ak 0) ar)) (ak 2))))))
theorem K3:Cal (Gam C_Shop C_TreeWords) P w K mg base "are_breaks" 2 4 wd:=
 V.d43.cal (k:=3) JP (bn fun _ _ _ _ _ _ _=>rfl) fun f cdv A outer s H E hr=>
  (bC (cp (DW.dt (dh (bU (bM (dC (jr V) hr (al (ak 0) (al ay (al (eP rfl V.k_MOST_BREAKS) ar))) ln3))) (et (bU (bM (bE (gP rfl) rfl V.z_all (by rfl) (al (DO.de (cZ rfl (CompScope.of rfl rfl) (FvOk.of (N':=["row","horizon"]) (fv:=[ac,aa 1]) rfl) (cu (ak 0)) ⟨fun _ _ _ _ _=>⟨(bV 0 (show(["row","horizon"]:ab ah).Nodup by decide +kernel)),cQ,(dC (LQ V) hr (al (ak 0) (al (ak 1) ar)) ln2)⟩⟩)) ar))))))) (aW (bu dX)) cv) (aW (bu (bE (gP rfl) rfl V.z_all (by rfl) (al (DO.de (cZ rfl (CompScope.of rfl rfl) (FvOk.of (N':=["place","breaks"]) (fv:=[ac,aa 0]) rfl) (Jm rfl V.z_range (al ay (al (bE cP rfl V.z_len (by rfl) (al (ak 0) ar)) ar))) ⟨fun _ _ _ _ _=>⟨(bV 0 (show(["place","breaks"]:ab ah).Nodup by decide +kernel)),cQ,(jA mi (aZ (aZ (ak 1) (jt (ak 0) ay)) ay) (aZ (aZ (ak 1) (ak 0)) ay) (bq _))⟩⟩)) ar)))))
theorem M9:Cal (Gam C_Shop C_TreeWords) P w K mg base "is_bench" 2 5 uN:=
 V.d44.cal (k:=4) Iy (bn fun _ _ _ _ _ _ _=>rfl) fun f cdv A outer s H E hr=>
  (aW (bu (eM (dC (jP V) hr (al (ak 0) (al ay ar)) ln2) (eM (dC (jd V) hr (al (aZ (ak 0) ay) ar) ln1) (fT (dC (K3 V) hr (al (aZ (ak 0) ay) (al (ak 1) ar)) ln2))))))
theorem IZ:Cal (Gam C_Shop C_TreeWords) P w K mg base "are_benches" 2 6 wX:=
 V.d45.cal (k:=5) IG (bn fun _ _ _ _ _ _ _=>rfl) fun f cdv A outer s H E hr=>
  (bC (cp (DW.dt (dh (bU (bM (dC (jr V) hr (al (ak 0) (al ay (al (eP rfl V.k_MOST_BENCHES) ar))) ln3))) (et (bU (bM (bE (gP rfl) rfl V.z_all (by rfl) (al (DO.de (cZ rfl (CompScope.of rfl rfl) (FvOk.of (N':=["row","horizon"]) (fv:=[ac,aa 1]) rfl) (cu (ak 0)) ⟨fun _ _ _ _ _=>⟨(bV 0 (show(["row","horizon"]:ab ah).Nodup by decide +kernel)),cQ,(dC (M9 V) hr (al (ak 0) (al (ak 1) ar)) ln2)⟩⟩)) ar))))))) (aW (bu dX)) cv) (aW (bu (dC (jG V) hr (al (DO.de (cZ rfl (CompScope.of rfl rfl) (FvOk.of (N':=["row"]) (fv:=[ac]) rfl) (cu (ak 0)) ⟨fun _ _ _ _ _=>⟨(bV 0 (show(["row"]:ab ah).Nodup by decide +kernel)),cQ,(aZ (ak 0) ay)⟩⟩)) ar) ln1))))
theorem ng:Cal (Gam C_Shop C_TreeWords) P w K mg base "is_one_of" 2 2 jQ:=
 V.d46.cal (k:=1) KQ (bn fun _ _ _ _ _ _ _=>rfl) fun f cdv A outer s H E hr=>
  (aW (bu (eM (dC (jd V) hr (al (ak 0) ar) ln1) (fT (jA (Kj (lX hr)) (ak 0) (ak 1) (by rfl))))))
theorem Kf:Cal (Gam C_Shop C_TreeWords) P w K mg base "is_way" 3 3 ur:=
 V.d47.cal (k:=2) Oz (bn fun _ _ _ _ _ _ _=>rfl) fun f cdv A outer s H E hr=>
  (aW (bu (eM (dC (jP V) hr (al (ak 0) (al ay ar)) ln2) (eM (dC (ng V) hr (al (aZ (ak 0) ay) (al (ak 1) ar)) ln2) (fT (dC (iO V) hr (al (aZ (ak 0) ay) (al ay (al (ak 2) ar))) ln3))))))
theorem KZ:Cal (Gam C_Shop C_TreeWords) P w K mg base "are_ways" 3 4 xY:=
 V.d48.cal (k:=3) Mx (bn fun _ _ _ _ _ _ _=>rfl) fun f cdv A outer s H E hr=>
  (bC (cp (DW.dt (dh (bU (bM (dC (jr V) hr (al (ak 0) (al ay (al (eP rfl V.k_MOST_WAYS) ar))) ln3))) (et (bU (bM (bE (gP rfl) rfl V.z_all (by rfl) (al (DO.de (cZ rfl (CompScope.of rfl rfl) (FvOk.of (N':=["row","bench_names","horizon"]) (fv:=[ac,aa 1,aa 2]) rfl) (cu (ak 0)) ⟨fun _ _ _ _ _=>⟨(bV 0 (show(["row","bench_names","horizon"]:ab ah).Nodup by decide +kernel)),cQ,(dC (Kf V) hr (al (ak 0) (al (ak 1) (al (ak 2) ar))) ln3)⟩⟩)) ar))))))) (aW (bu dX)) cv) (aW (bu (dC (jG V) hr (al (DO.de (cZ rfl (CompScope.of rfl rfl) (FvOk.of (N':=["row"]) (fv:=[ac]) rfl) (cu (ak 0)) ⟨fun _ _ _ _ _=>⟨(bV 0 (show(["row"]:ab ah).Nodup by decide +kernel)),cQ,(aZ (ak 0) ay)⟩⟩)) ar) ln1))))
theorem GI:Cal (Gam C_Shop C_TreeWords) P w K mg base "is_step" 3 5 tD:=
 V.d49.cal (k:=4) Me (bn fun _ _ _ _ _ _ _=>rfl) fun f cdv A outer s H E hr=>
  (bC (cp (DW.dt (dh (bU (bM (dC (jP V) hr (al (ak 0) (al ay ar)) ln2))) (dh (bU (bM (dC (jd V) hr (al (aZ (ak 0) ay) ar) ln1))) (et (bU (bM (dC (jd V) hr (al (aZ (ak 0) ay) ar) ln1))))))) (aW (bu dX)) cv) (aW (bu (dC (KZ V) hr (al (aZ (ak 0) ay) (al (ak 1) (al (ak 2) ar))) ln3))))
theorem Ml:Cal (Gam C_Shop C_TreeWords) P w K mg base "are_steps" 3 6 x5:=
 V.d50.cal (k:=5) Gr (bn fun _ _ _ _ _ _ _=>rfl) fun f cdv A outer s H E hr=>
  (bC (cp (DW.dt (dh (bU (bM (dC (jr V) hr (al (ak 0) (al ay (al (eP rfl V.k_MOST_STEPS) ar))) ln3))) (et (bU (bM (bE (gP rfl) rfl V.z_all (by rfl) (al (DO.de (cZ rfl (CompScope.of rfl rfl) (FvOk.of (N':=["row","bench_names","horizon"]) (fv:=[ac,aa 1,aa 2]) rfl) (cu (ak 0)) ⟨fun _ _ _ _ _=>⟨(bV 0 (show(["row","bench_names","horizon"]:ab ah).Nodup by decide +kernel)),cQ,(dC (GI V) hr (al (ak 0) (al (ak 1) (al (ak 2) ar))) ln3)⟩⟩)) ar))))))) (aW (bu dX)) cv) (aW (bu (dC (jG V) hr (al (DO.de (cZ rfl (CompScope.of rfl rfl) (FvOk.of (N':=["row"]) (fv:=[ac]) rfl) (cu (ak 0)) ⟨fun _ _ _ _ _=>⟨(bV 0 (show(["row"]:ab ah).Nodup by decide +kernel)),cQ,(aZ (ak 0) ay)⟩⟩)) ar) ln1))))
theorem Oa:Cal (Gam C_Shop C_TreeWords) P w K mg base "is_job" 3 3 wP:=
 V.d51.cal (k:=2) N6 (bn fun _ _ _ _ _ _ _=>rfl) fun f cdv A outer s H E hr=>
  (bC (cp (DW.dt (dh (bU (bM (dC (jP V) hr (al (ak 0) (al ay ar)) ln2))) (dh (bU (bM (dC (jd V) hr (al (aZ (ak 0) ay) ar) ln1))) (et (bU (bM (bE fg rfl V.z_isinstance (by rfl) (al (aZ (ak 0) ay) (al (e6 rfl V.z_bool (by rfl)) ar))))))))) (aW (bu dX)) cv) (bC (cp (DW.dt (dh (bU (bM (dC (iO V) hr (al (aZ (ak 0) ay) (al ay (al (ak 2) ar))) ln3))) (et (bU (bM (dC (iO V) hr (al (aZ (ak 0) ay) (al ay (al (ak 2) ar))) ln3)))))) (aW (bu dX)) cv) (aW (bu (eM (dC (jr V) hr (al (aZ (ak 0) ay) (al ay (al (bE cP rfl V.z_len (by rfl) (al (ak 1) ar)) ar))) ln3) (fT (bE (gP rfl) rfl V.z_all (by rfl) (al (DO.de (cZ rfl (CompScope.of rfl rfl) (FvOk.of (N':=["name","step_names"]) (fv:=[ac,aa 1]) rfl) (cu (aZ (ak 0) ay)) ⟨fun _ _ _ _ _=>⟨(bV 0 (show(["name","step_names"]:ab ah).Nodup by decide +kernel)),cQ,(dC (ng V) hr (al (ak 0) (al (ak 1) ar)) ln2)⟩⟩)) ar))))))))
theorem Ie:Cal (Gam C_Shop C_TreeWords) P w K mg base "are_jobs" 3 4 vN:=
 V.d52.cal (k:=3) wD (bn fun _ _ _ _ _ _ _=>rfl) fun f cdv A outer s H E hr=>
  (bC (cp (DW.dt (dh (bU (bM (dC (jr V) hr (al (ak 0) (al ay (al (eP rfl V.k_MOST_JOBS) ar))) ln3))) (et (bU (bM (bE (gP rfl) rfl V.z_all (by rfl) (al (DO.de (cZ rfl (CompScope.of rfl rfl) (FvOk.of (N':=["row","step_names","horizon"]) (fv:=[ac,aa 1,aa 2]) rfl) (cu (ak 0)) ⟨fun _ _ _ _ _=>⟨(bV 0 (show(["row","step_names","horizon"]:ab ah).Nodup by decide +kernel)),cQ,(dC (Oa V) hr (al (ak 0) (al (ak 1) (al (ak 2) ar))) ln3)⟩⟩)) ar))))))) (aW (bu dX)) cv) (bC (vZ 3 wD.nd (cg ar)) (bC (kW gH rfl (cu (ak 0)) (bV 4 wD.nd) (aW (pr 3 (aZ (ak 4) ay)))) (Cq 3 (aW (bu (eM (dC (jG V) hr (al (DO.de (cZ rfl (CompScope.of rfl rfl) (FvOk.of (N':=["row"]) (fv:=[ac]) rfl) (cu (ak 0)) ⟨fun _ _ _ _ _=>⟨(bV 0 (show(["row"]:ab ah).Nodup by decide +kernel)),cQ,(aZ (ak 0) ay)⟩⟩)) ar) ln1) (fT (dC (jG V) hr (al (ak 3) ar) ln1)))))))))
theorem Oq:Cal (Gam C_Shop C_TreeWords) P w K mg base "is_setup" 3 3 uM:=
 V.d53.cal (k:=2) Nh (bn fun _ _ _ _ _ _ _=>rfl) fun f cdv A outer s H E hr=>
  (bC (cp (DW.dt (dh (bU (bM (dC (jP V) hr (al (ak 0) (al ay ar)) ln2))) (et (bU (bM (dC (ng V) hr (al (aZ (ak 0) ay) (al (ak 1) ar)) ln2)))))) (aW (bu dX)) cv) (aW (bu (eM (dC (jd V) hr (al (aZ (ak 0) ay) ar) ln1) (eM (dC (jd V) hr (al (aZ (ak 0) ay) ar) ln1) (fT (dC (iO V) hr (al (aZ (ak 0) ay) (al ay (al (ak 2) ar))) ln3)))))))
theorem NX:Cal (Gam C_Shop C_TreeWords) P w K mg base "are_setups" 3 4 vX:=
 V.d54.cal (k:=3) Nc (bn fun _ _ _ _ _ _ _=>rfl) fun f cdv A outer s H E hr=>
  (bC (cp (DW.dt (dh (bU (bM (dC (jr V) hr (al (ak 0) (al ay (al (eP rfl V.k_MOST_SETUPS) ar))) ln3))) (et (bU (bM (bE (gP rfl) rfl V.z_all (by rfl) (al (DO.de (cZ rfl (CompScope.of rfl rfl) (FvOk.of (N':=["row","bench_names","horizon"]) (fv:=[ac,aa 1,aa 2]) rfl) (cu (ak 0)) ⟨fun _ _ _ _ _=>⟨(bV 0 (show(["row","bench_names","horizon"]:ab ah).Nodup by decide +kernel)),cQ,(dC (Oq V) hr (al (ak 0) (al (ak 1) (al (ak 2) ar))) ln3)⟩⟩)) ar))))))) (aW (bu dX)) cv) (aW (bu (dC (jG V) hr (al (DO.de (cZ rfl (CompScope.of rfl rfl) (FvOk.of (N':=["row"]) (fv:=[ac]) rfl) (cu (ak 0)) ⟨fun _ _ _ _ _=>⟨(bV 0 (show(["row"]:ab ah).Nodup by decide +kernel)),cQ,(pZ (ak 0) pD (pB ay))⟩⟩)) ar) ln1))))
theorem Gd:Cal (Gam C_Shop C_TreeWords) P w K mg base "is_link" 3 3 uL:=
 V.d55.cal (k:=2) MQ (bn fun _ _ _ _ _ _ _=>rfl) fun f cdv A outer s H E hr=>
  (bC (cp (DW.dt (dh (bU (bM (dC (jP V) hr (al (ak 0) (al ay ar)) ln2))) (dh (bU (bM (dC (ng V) hr (al (aZ (ak 0) ay) (al (ak 1) ar)) ln2))) (et (bU (bM (dC (ng V) hr (al (aZ (ak 0) ay) (al (ak 1) ar)) ln2))))))) (aW (bu dX)) cv) (aW (bu (eM (jA (nL (j5 hr)) (aZ (ak 0) ay) (aZ (ak 0) ay) (bq _)) (fT (dC (iO V) hr (al (aZ (ak 0) ay) (al ay (al (ak 2) ar))) ln3))))))
theorem Gp:Cal (Gam C_Shop C_TreeWords) P w K mg base "are_links" 3 4 xN:=
 V.d56.cal (k:=3) HV (bn fun _ _ _ _ _ _ _=>rfl) fun f cdv A outer s H E hr=>
  (bC (cp (DW.dt (dh (bU (bM (dC (jr V) hr (al (ak 0) (al ay (al (eP rfl V.k_MOST_LINKS) ar))) ln3))) (et (bU (bM (bE (gP rfl) rfl V.z_all (by rfl) (al (DO.de (cZ rfl (CompScope.of rfl rfl) (FvOk.of (N':=["row","step_names","horizon"]) (fv:=[ac,aa 1,aa 2]) rfl) (cu (ak 0)) ⟨fun _ _ _ _ _=>⟨(bV 0 (show(["row","step_names","horizon"]:ab ah).Nodup by decide +kernel)),cQ,(dC (Gd V) hr (al (ak 0) (al (ak 1) (al (ak 2) ar))) ln3)⟩⟩)) ar))))))) (aW (bu dX)) cv) (aW (bu (dC (jG V) hr (al (DO.de (cZ rfl (CompScope.of rfl rfl) (FvOk.of (N':=["row"]) (fv:=[ac]) rfl) (cu (ak 0)) ⟨fun _ _ _ _ _=>⟨(bV 0 (show(["row"]:ab ah).Nodup by decide +kernel)),cQ,(pZ (ak 0) pD (pB ay))⟩⟩)) ar) ln1))))
theorem Js:Cal (Gam C_Shop C_TreeWords) P w K mg base "is_amount" 2 3 ui:=
 V.d57.cal (k:=2) Gh (bn fun _ _ _ _ _ _ _=>rfl) fun f cdv A outer s H E hr=>
  (aW (bu (eM (dC (jP V) hr (al (ak 0) (al ay ar)) ln2) (eM (dC (ng V) hr (al (aZ (ak 0) ay) (al (ak 1) ar)) ln2) (fT (dC (iO V) hr (al (aZ (ak 0) ay) (al ay (al (eP rfl V.k_MOST_AMOUNT) ar))) ln3))))))
theorem CC:Cal (Gam C_Shop C_TreeWords) P w K mg base "are_amounts" 2 4 uS:=
 V.d58.cal (k:=3) Hf (bn fun _ _ _ _ _ _ _=>rfl) fun f cdv A outer s H E hr=>
  (bC (cp (DW.dt (dh (bU (bM (dC (jr V) hr (al (ak 0) (al ay (al (bE cP rfl V.z_len (by rfl) (al (ak 1) ar)) ar))) ln3))) (et (bU (bM (bE (gP rfl) rfl V.z_all (by rfl) (al (DO.de (cZ rfl (CompScope.of rfl rfl) (FvOk.of (N':=["row","step_names"]) (fv:=[ac,aa 1]) rfl) (cu (ak 0)) ⟨fun _ _ _ _ _=>⟨(bV 0 (show(["row","step_names"]:ab ah).Nodup by decide +kernel)),cQ,(dC (Js V) hr (al (ak 0) (al (ak 1) ar)) ln2)⟩⟩)) ar))))))) (aW (bu dX)) cv) (aW (bu (dC (jG V) hr (al (DO.de (cZ rfl (CompScope.of rfl rfl) (FvOk.of (N':=["row"]) (fv:=[ac]) rfl) (cu (ak 0)) ⟨fun _ _ _ _ _=>⟨(bV 0 (show(["row"]:ab ah).Nodup by decide +kernel)),cQ,(aZ (ak 0) ay)⟩⟩)) ar) ln1))))
theorem GG:Cal (Gam C_Shop C_TreeWords) P w K mg base "is_stock" 2 5 uj:=
 V.d59.cal (k:=4) MF (bn fun _ _ _ _ _ _ _=>rfl) fun f cdv A outer s H E hr=>
  (bC (cp (DW.dt (dh (bU (bM (dC (jP V) hr (al (ak 0) (al ay ar)) ln2))) (et (bU (bM (dC (jd V) hr (al (aZ (ak 0) ay) ar) ln1)))))) (aW (bu dX)) cv) (bC (cp (DW.dt (dh (bU (bM (dC (iO V) hr (al (aZ (ak 0) ay) (al ay (al (eP rfl V.k_MOST_AMOUNT) ar))) ln3))) (et (bU (bM (dC (iO V) hr (al (aZ (ak 0) ay) (al ay (al (aZ (ak 0) ay) ar))) ln3)))))) (aW (bu dX)) cv) (aW (bu (eM (dC (CC V) hr (al (aZ (ak 0) ay) (al (ak 1) ar)) ln2) (fT (dC (CC V) hr (al (aZ (ak 0) ay) (al (ak 1) ar)) ln2)))))))
theorem Mo:Cal (Gam C_Shop C_TreeWords) P w K mg base "are_stocks" 2 6 wv:=
 V.d60.cal (k:=5) Mc (bn fun _ _ _ _ _ _ _=>rfl) fun f cdv A outer s H E hr=>
  (bC (cp (DW.dt (dh (bU (bM (dC (jr V) hr (al (ak 0) (al ay (al (eP rfl V.k_MOST_STOCKS) ar))) ln3))) (et (bU (bM (bE (gP rfl) rfl V.z_all (by rfl) (al (DO.de (cZ rfl (CompScope.of rfl rfl) (FvOk.of (N':=["row","step_names"]) (fv:=[ac,aa 1]) rfl) (cu (ak 0)) ⟨fun _ _ _ _ _=>⟨(bV 0 (show(["row","step_names"]:ab ah).Nodup by decide +kernel)),cQ,(dC (GG V) hr (al (ak 0) (al (ak 1) ar)) ln2)⟩⟩)) ar))))))) (aW (bu dX)) cv) (aW (bu (dC (jG V) hr (al (DO.de (cZ rfl (CompScope.of rfl rfl) (FvOk.of (N':=["row"]) (fv:=[ac]) rfl) (cu (ak 0)) ⟨fun _ _ _ _ _=>⟨(bV 0 (show(["row"]:ab ah).Nodup by decide +kernel)),cQ,(aZ (ak 0) ay)⟩⟩)) ar) ln1))))
theorem He:Cal (Gam C_Shop C_TreeWords) P w K mg base "first_bad_part" 7 7 wJ:=
 V.d61.cal (k:=6) xf (bn fun _ _ _ _ _ _ _=>rfl) fun f cdv A outer s H E hr=>
  (bC (cp (bU (bM (dC (iO V) hr (al (ak 6) (al ay (al (eP rfl V.k_MOST_HORIZON) ar))) ln3))) (aW (bu aN)) cv) (bC (cp (bU (bM (dC (IZ V) hr (al (ak 0) (al (ak 6) ar)) ln2))) (aW (bu aN)) cv) (bC (Aa 7 xf.nd rfl (CompScope.of rfl rfl) (FvOk.of (N':=["row"]) (fv:=[ac]) rfl) (cu (ak 0)) ⟨fun _ _ _ _ _=>⟨(bV 0 (show(["row"]:ab ah).Nodup by decide +kernel)),cQ,(aZ (ak 0) ay)⟩⟩) (bC (cp (bU (bM (dC (Ml V) hr (al (ak 1) (al (ak 7) (al (ak 6) ar))) ln3))) (aW (bu aN)) cv) (bC (Aa 8 xf.nd rfl (CompScope.of rfl rfl) (FvOk.of (N':=["row"]) (fv:=[ac]) rfl) (cu (ak 1)) ⟨fun _ _ _ _ _=>⟨(bV 0 (show(["row"]:ab ah).Nodup by decide +kernel)),cQ,(aZ (ak 0) ay)⟩⟩) (bC (cp (bU (bM (dC (Ie V) hr (al (ak 2) (al (ak 8) (al (ak 6) ar))) ln3))) (aW (bu aN)) cv) (bC (cp (bU (bM (dC (NX V) hr (al (ak 3) (al (ak 7) (al (ak 6) ar))) ln3))) (aW (bu aN)) cv) (bC (cp (bU (bM (dC (Gp V) hr (al (ak 4) (al (ak 8) (al (ak 6) ar))) ln3))) (aW (bu aN)) cv) (bC (cp (bU (bM (dC (Mo V) hr (al (ak 5) (al (ak 8) ar)) ln2))) (aW (bu aN)) cv) (aW (bu Ef)))))))))))
theorem HF:CalI (Gam C_Shop C_TreeWords) P w K mg base "Shop" 7 9 tP:=
 DfnM.calI (k:=8) V.O_Shop V.d62 uz (bn fun _ _ _ _ _ _ _=>rfl) fun f y cdv A outer s H E hr=>
  (bC (kc 8 uz.nd (fG ((He V).re y) hr (by decide) rfl (al (ak 1) (al (ak 2) (al (ak 3) (al (ak 4) (al (ak 5) (al (ak 6) (al (ak 7) ar))))))) ln7)) (bC (cp (cb JH (ak 8) Ef (bq _)) (aW CM) cv) (bC (gS 0 (V.cf_Shop.re y) (.head _) (fG ((iE V).re y) hr (by decide) rfl (al (ak 1) ar) ln1)) (bC (gS 0 (V.cf_Shop.re y) (.tail _ (.head _)) (fG ((iE V).re y) hr (by decide) rfl (al (ak 2) ar) ln1)) (bC (gS 0 (V.cf_Shop.re y) (.tail _ (.tail _ (.head _))) (fG ((iE V).re y) hr (by decide) rfl (al (ak 3) ar) ln1)) (bC (gS 0 (V.cf_Shop.re y) (.tail _ (.tail _ (.tail _ (.head _)))) (fG ((iE V).re y) hr (by decide) rfl (al (ak 4) ar) ln1)) (bC (gS 0 (V.cf_Shop.re y) (.tail _ (.tail _ (.tail _ (.tail _ (.head _))))) (fG ((iE V).re y) hr (by decide) rfl (al (ak 5) ar) ln1)) (bC (gS 0 (V.cf_Shop.re y) (.tail _ (.tail _ (.tail _ (.tail _ (.tail _ (.head _)))))) (fG ((iE V).re y) hr (by decide) rfl (al (ak 6) ar) ln1)) (bC (gS 0 (V.cf_Shop.re y) (.tail _ (.tail _ (.tail _ (.tail _ (.tail _ (.tail _ (.head _))))))) (ak 7)) (bC (gS 0 (V.cf_Shop.re y) (.tail _ (.tail _ (.tail _ (.tail _ (.tail _ (.tail _ (.tail _ (.head _)))))))) (iC (zJ rfl (lX hr)) rfl V.z_dict (by rfl) (al (DO.de (cZ rfl (CompScope.of rfl rfl) (FvOk.of (N':=["row"]) (fv:=[ac]) rfl) (cu (uc 0 (V.cf_Shop.re y) (.head _))) ⟨fun _ _ _ _ _=>⟨(bV 0 (show(["row"]:ab ah).Nodup by decide +kernel)),cQ,(c9 (al (aZ (ak 0) ay) (al (ak 0) ar)))⟩⟩)) ar))) (bC (gS 0 (V.cf_Shop.re y) (.tail _ (.tail _ (.tail _ (.tail _ (.tail _ (.tail _ (.tail _ (.tail _ (.head _))))))))) (iC (zJ rfl (lX hr)) rfl V.z_dict (by rfl) (al (DO.de (cZ rfl (CompScope.of rfl rfl) (FvOk.of (N':=["row"]) (fv:=[ac]) rfl) (cu (uc 0 (V.cf_Shop.re y) (.tail _ (.head _)))) ⟨fun _ _ _ _ _=>⟨(bV 0 (show(["row"]:ab ah).Nodup by decide +kernel)),cQ,(c9 (al (aZ (ak 0) ay) (al (ak 0) ar)))⟩⟩)) ar))) (bC (gS 0 (V.cf_Shop.re y) (.tail _ (.tail _ (.tail _ (.tail _ (.tail _ (.tail _ (.tail _ (.tail _ (.tail _ (.head _)))))))))) (iC (Ii rfl (lX hr)) rfl V.z_dict (by rfl) (al (DO.de (cZ rfl (CompScope.of rfl rfl) (FvOk.of (N':=["row"]) (fv:=[ac]) rfl) (cu (uc 0 (V.cf_Shop.re y) (.tail _ (.tail _ (.tail _ (.head _)))))) ⟨fun _ _ _ _ _=>⟨(bV 0 (show(["row"]:ab ah).Nodup by decide +kernel)),cQ,(c9 (al (pZ (ak 0) pD (pB ay)) (al (aZ (ak 0) ay) ar)))⟩⟩)) ar))) (bC (KY 0 (V.cf_Shop.re y) (.tail _ (.tail _ (.tail _ (.tail _ (.tail _ (.tail _ (.tail _ (.tail _ (.tail _ (.tail _ (.head _)))))))))))) (aW (kW gH rfl (cu (uc 0 (V.cf_Shop.re y) (.tail _ (.tail _ (.head _))))) (bV 9 uz.nd) (aW (kW gH rfl (cu (aZ (ak 9) ay)) (bV 10 uz.nd) (aW (Mg 0 (lX hr) (V.cf_Shop.re y) (.tail _ (.tail _ (.tail _ (.tail _ (.tail _ (.tail _ (.tail _ (.tail _ (.tail _ (.tail _ (.head _))))))))))) (ak 10) (ak 9))))))))))))))))))))
theorem Ia:CalR rgI (Gam C_Shop C_TreeWords) P w K mg base "_law_stocks" 1 2 oV:=
 V.d63.calR (k:=1) pP (bn fun _ _ _ _ _ _ _=>rfl) fun f cdv A outer s H E hr=>
  (aJ (cr (fL ci (a9 (bP V) hr (by decide) rfl (aA (ax ay) (aG ar)) lr1) (ax ay) (bq _)) (bi (bX (ax (DO.de (cg ar))))) cq) (aJ (bL 2 pP.nd (a9 (bP V) hr (by decide) rfl (aA (ax ay) (aG ar)) lr1)) (aJ (bL 3 pP.nd (a9 (bP V) hr (by decide) rfl (aA (ax (dB (ak 2) ay)) (aG ar)) lr1)) (aJ (wp 4 pP.nd (by decide) (by decide) rfl rfl (CompScope.of rfl rfl) (FvOk.of (N':=["_law_name","_law_left_here"]) (fv:=[ac,aa 0]) rfl) (ud (cu (ak 1))) ⟨fun _ _ _ _ _=>⟨(bV 0 (show(["_law_name","_law_left_here"]:ab ah).Nodup by decide +kernel)),(Dk (fL ci (a9 (bP V) hr (by decide) rfl (aA (ax ay) (aG ar)) lr1) (ax ay) (bq _))),(cJ (aA (ax (ak 0)) (aA (fR (ax ay) (a9 (bP V) hr (by decide) rfl (aA (ax ay) (aG ar)) lr1)) (aG ar))))⟩⟩) (aJ (wp 5 pP.nd (by decide) (by decide) rfl rfl (CompScope.of rfl rfl) (FvOk.of (N':=["_law_name","_law_left_here"]) (fv:=[ac,aa 0]) rfl) (ud (cu (ak 1))) ⟨fun _ _ _ _ _=>⟨(bV 0 (show(["_law_name","_law_left_here"]:ab ah).Nodup by decide +kernel)),(Dk (fL ci (a9 (bP V) hr (by decide) rfl (aA (ax ay) (aG ar)) lr1) (ax ay) (bq _))),(cJ (aA (ax (ak 0)) (aA (fR (ax ay) (a9 (bP V) hr (by decide) rfl (aA (ax ay) (aG ar)) lr1)) (aG ar))))⟩⟩) (bi (bX (ax (DO.de (cg (al (c9 (al aN (al (ak 3) (al (ak 2) (al (ak 4) (al (ak 5) ar)))))) ar)))))))))))
theorem Ol:CalR rgI (Gam C_Shop C_TreeWords) P w K mg base "_law_jobs" 2 2 pE:=
 V.d64.calR (k:=1) nu (bn fun _ _ _ _ _ _ _=>rfl) fun f cdv A outer s H E hr=>
  (aJ (cr (fL ci (a9 (bP V) hr (by decide) rfl (aA (ax ay) (aG ar)) lr1) (ax ay) (bq _)) (bi (bX (ax (DO.de (cg ar))))) cq) (aJ (bL 3 nu.nd (fR (ax ay) (a9 (bP V) hr (by decide) rfl (aA (ax (bE cP rfl V.z_len (by rfl) (al (ak 1) ar))) (aG ar)) lr1))) (aJ (bL 4 nu.nd (ax (pZ (ak 1) pD (pB (ak 3))))) (aJ (cr (fL ci (a9 (bP V) hr (by decide) rfl (aA (ax ay) (aG ar)) lr1) (ax ay) (bq _)) (bi (bL 4 nu.nd (ax (OC (ak 4))))) cq) (aJ (bL 5 nu.nd (eZ (ax (DO.de (cg (al ay (al ay (al ay ar)))))) (a9 (bP V) hr (by decide) rfl (aA (ax ay) (aG ar)) lr1))) (aJ (lc 6 nu.nd (oO (aA (cJ (aA (ax aN) (aA (ax (ak 5)) (aA (Kw (ax (ak 2)) (eZ (ax (DO.de (cg (al ay (al ay (al ay ar)))))) (a9 (bP V) hr (by decide) rfl (aA (ax ay) (aG ar)) lr1))) (aA (xZ ci (a9 (bP V) hr (by decide) rfl (aA (ax ay) (aG ar)) lr1) (ax ay) (bq _)) (aA (ax (ak 4)) (aG ar))))))) (aG ar)))) (aJ (cr (RW.rt (t9 (cU (cb mi (ak 3) (bE cP rfl V.z_len (by rfl) (al (ak 1) ar)) (bq _))) (wE (fL ci (a9 (bP V) hr (by decide) rfl (aA (ax ay) (aG ar)) lr1) (ax ay) (bq _))))) (bi (kM 6 (cJ (aA (ax aN) (aA (ax ay) (aA (ax (ak 2)) (aA (xZ ci (a9 (bP V) hr (by decide) rfl (aA (ax ay) (aG ar)) lr1) (ax ay) (bq _)) (aA (ax (pZ (ak 1) (pB (ak 3)) pD)) (aG ar))))))))) cq) (kK 6 (bi (bX (ax (ak 6))))))))))))
theorem Kn:CalR rgI (Gam C_Shop C_TreeWords) P w K mg base "_law_shop" 0 11 pU:=
 V.d65.calR (k:=10) jB (bn fun _ _ _ _ _ _ _=>rfl) fun f cdv A outer s H E hr=>
  (aJ (bL 1 jB.nd (fR (ax ay) (a9 (bP V) hr (by decide) rfl (aA (ax ay) (aG ar)) lr1))) (aJ (bL 2 jB.nd (eZ (ax (DO.de (cg (al aN (al aN (al aN (al aN ar))))))) (a9 (bP V) hr (by decide) rfl (aA (ax ay) (aG ar)) lr1))) (aJ (bL 3 jB.nd (a9 (NP V) hr (by decide) rfl (aA (ax (ak 2)) (aA (ax (ak 1)) (aG ar))) lr2)) (aJ (bL 4 jB.nd (a9 (Jb V) hr (by decide) rfl (aA (ax (ak 2)) (aA (ax (ak 3)) (aA (ax (ak 1)) (aG ar)))) lr3)) (aJ (LV 5 jB.nd (by decide) rfl (CompScope.of rfl rfl) (FvOk.of (N':=["_law_step"]) (fv:=[ac]) rfl) (cu (ak 4)) ⟨fun _ _ _ _ _=>⟨(bV 0 (show(["_law_step"]:ab ah).Nodup by decide +kernel)),cQ,(aZ (ak 0) ay)⟩⟩) (aJ (lc 6 jB.nd (sY (cg ar))) (aJ (tW (vL (nz (i8 (by decide)) (nz (i8 (by decide)) wI))) gH rfl (ud (cu (ak 3))) (tR (n:=2) rfl (kQ (bV 7 jB.nd) (kQ (bV 8 jB.nd) uy))) (bi (cr (fL ci (a9 (bP V) hr (by decide) rfl (aA (ax ay) (aG ar)) lr1) (ax ay) (bq _)) (bi (kM 6 (cJ (aA (ax (ak 7)) (aA (ax aN) (aA (eZ (ax aN) (a9 (bP V) hr (by decide) rfl (aA (ax ay) (aG ar)) lr1)) (aA (fR (ax ay) (a9 (bP V) hr (by decide) rfl (aA (ax ay) (aG ar)) lr1)) (aG ar)))))))) cq))) (aJ (bL 9 jB.nd (a9 (No V) hr (by decide) rfl (aA (ax (ak 5)) (aA (ax (ak 1)) (aG ar))) lr2)) (kK 6 (bi (bX (GM (HF V) hr (by decide) rfl (aA (ax (ak 3)) (aA (ax (ak 4)) (aA (a9 (Ol V) hr (by decide) rfl (aA (ax (ak 5)) (aA (ax (ak 1)) (aG ar))) lr2) (aA (ax (ak 6)) (aA (ax (ak 9)) (aA (a9 (Ia V) hr (by decide) rfl (aA (ax (ak 5)) (aG ar)) lr1) (aA (ax (ak 1)) (aG ar)))))))) lr7))))))))))))
theorem vI:Cal (Gam C_Shop C_TreeWords) P w K mg base "show_tree" 1 29 lh:=
 V.d66.cal (k:=28) OY (bn fun _ _ _ _ _ _ _=>rfl) fun f cdv A outer s H E hr=>
  (aW (bu (xp zp PySem.F.slot_str_join PySem.F.type_str_join KG aN (al (dC (Oi V) hr (al (ak 0) ar) ln1) ar))))
theorem O3:CalIR (Gam C_Shop C_TreeWords) P w K mg base "TreeWords" 1 1 xb:=
 DfnM.calIR (k:=0) V.O_TreeWords V.d67 Jw (bn fun _ _ _ _ _ _ _=>rfl) fun f y cdv A outer s H E hr=>
  (bC (gS 0 (V.cf_TreeWords.re y) (.head _) (ak 1)) (bC (gS 0 (V.cf_TreeWords.re y) (.tail _ (.head _)) ay) (aW (gS 0 (V.cf_TreeWords.re y) (.tail _ (.tail _ (.head _))) ay))))
theorem JI:CalMR (Gam C_Shop C_TreeWords) P w K mg base "TreeWords" "is_behind_all" 0 1 wg:=
 DfnM.calR (k:=0) V.O_TreeWords V.d68 Kc (bn fun _ _ _ _ _ _ _=>rfl) fun f cdv A outer s H E hr=>
  (bi (bX (xZ ci (j8 V.cf_TreeWords (.tail _ (.head _))) (C2 cP rfl V.z_len (by rfl) (aA (j8 V.cf_TreeWords (.head _)) (aG ar))) (bq _))))
theorem uk:Cal (Gam C_Shop C_TreeWords) P w K mg base "read_tree" 1 39 jp:=
 V.d69.cal (k:=38) v8 (bn fun _ _ _ _ _ _ _=>rfl) fun f cdv A outer s H E hr=>
  (bC (cp (bU (bM (bE fg rfl V.z_isinstance (by rfl) (al (ak 0) (al (e6 rfl V.z_str (by rfl)) ar))))) (aW CM) cv) (GK (j:=1) (O3 V) hr (by decide) rfl (al (xp zp zj PySem.F.type_str_split GE (ak 0) (al aN ar)) ar) ln1 v8.nd (aJ (bL 2 v8.nd (a9 (O5 V) hr (by decide) rfl (aA (ax ay) (aG ar)) lr1)) (aJ (cr (zY (xi (dS (JI V) hr (by decide)))) (bi jW) cq) (bi (bX (ax (ak 2))))))))
theorem IR {k:ag} (cL:CalL (Gam C_Shop C_TreeWords) P w K mg base "_law_lengthened" k n):CalL (Gam C_Shop C_TreeWords) P w K mg base "_law_lengthened" (k+1) (n+1):=
 V.d70.calL (k:=k) xu rfl rfl (bn fun _ _ _ _ _ _ _=>rfl) fun f cdv A outer s H E hr=>
  (iJ (wV gH rfl (IM (gK gY (dv (i:=0) rfl (.inl rfl)) gf (by intro _ _;rfl))) (zB xu.nd (i:=1) rfl (.inl rfl)) (l' (nQ (PW.pt (xn (G9 (Gv (dv (i:=1) rfl (.inl rfl)))) (yn (oW wx (gK gY (dv (i:=1) rfl (.inl rfl)) gf (by intro _ _;rfl)) mZ (bq _))))) (l' (jF (xG cL hr (qy _) rfl (eY (gK gY (dv (i:=1) rfl (.inl rfl)) gf (by intro _ _;rfl)) gc)))) nM))) (iJ (mm xu.nd rfl (.inl rfl) (gK gY (dv (i:=0) rfl (.inl rfl)) gf (by intro _ _;rfl))) (iJ (nQ (oW wx (gK gY (dv (i:=2) rfl (.inl rfl)) gf (by intro _ _;rfl)) mZ (bq _)) (iJ (jF (xG cL hr (qy _) rfl (eY (gK gY (dv (i:=2) rfl (.inl rfl)) gf (by intro _ _;rfl)) gc))) (l' (jF (xG cL hr (qy _) rfl (eY (gK gY (dv (i:=2) rfl (.inl rfl)) gf (by intro _ _;rfl)) gc))))) nM) (iJ (nQ (oW (Ni (Room.u66 hr)) (gK gY (dv (i:=2) rfl (.inl rfl)) gf (by intro _ _;rfl)) (xL (eY mZ (eY mZ gc))) (by rfl)) (l' (jF (lU vi vf yT pA (gK gY (dv (i:=2) rfl (.inl rfl)) gf (by intro _ _;rfl)) (eY mZ gc)))) nM) (l' (jF (lU vi vf yT pA (gK gY (dv (i:=0) rfl (.inl rfl)) gf (by intro _ _;rfl)) (eY Ea gc))))))))
theorem GD:CalL (Gam C_Shop C_TreeWords) P w K mg base "_law_lengthened" 6 6:=by
 have h:∀n,CalL (Gam C_Shop C_TreeWords) P w K mg base "_law_lengthened" n n:=fun n=>by
  induction n with
  |zero=>exact Dfn.noneL (ps:=["_law_tree_here"]) V.d70 (bn fun _ _ _ _ _ _ _=>rfl)
  |succ n ih=>exact IR V ih
 exact h 6
theorem Om {k:ag} {gR:FQ} (pY:Cal (Gam C_Shop C_TreeWords) P w K mg base "_law_same" 2 k gR):Cal (Gam C_Shop C_TreeWords) P w K mg base "_law_same" 2 (k+1) (jC gR):=
 V.d71.cal (k:=k) yf (bn fun _ _ _ _ _ _ _=>rfl) fun f cdv A outer s H E hr=>
  (bC (cp (bM (bE fg rfl V.z_isinstance (by rfl) (al (ak 1) (al (e6 rfl V.z_str (by rfl)) ar)))) (aW (bu (eM (bE fg rfl V.z_isinstance (by rfl) (al (ak 0) (al (e6 rfl V.z_str (by rfl)) ar))) (fT (jA (wZ (j5 hr)) (ak 0) (ak 1) (bq _)))))) cv) (bC (cp (bM (bE fg rfl V.z_isinstance (by rfl) (al (ak 1) (al (e6 rfl V.z_int (by rfl)) ar)))) (aW (bu (eM (bE fg rfl V.z_isinstance (by rfl) (al (ak 0) (al (e6 rfl V.z_int (by rfl)) ar))) (eM (Ah (bE fg rfl V.z_isinstance (by rfl) (al (ak 0) (al (e6 rfl V.z_bool (by rfl)) ar)))) (fT (jA (wZ (j5 hr)) (ak 0) (ak 1) (bq _))))))) cv) (bC (cp (DW.dt (dh (cb (nL (j5 hr)) (bE fg rfl V.z_isinstance (by rfl) (al (ak 1) (al (e6 rfl V.z_list (by rfl)) ar))) (bE fg rfl V.z_isinstance (by rfl) (al (ak 0) (al (e6 rfl V.z_list (by rfl)) ar))) (bq _)) (et (cb (nL (j5 hr)) (bE fg rfl V.z_isinstance (by rfl) (al (ak 1) (al (e6 rfl V.z_tuple (by rfl)) ar))) (bE fg rfl V.z_isinstance (by rfl) (al (ak 0) (al (e6 rfl V.z_tuple (by rfl)) ar))) (bq _))))) (aW (bu dX)) cv) (bC (cp (cb oK (bE cP rfl V.z_len (by rfl) (al (ak 0) ar)) (bE cP rfl V.z_len (by rfl) (al (ak 1) ar)) (bq _)) (aW (bu dX)) cv) (bC (kW gH rfl (Gb rfl V.z_zip (ak 0) (ak 1)) (tR (n:=2) rfl (kQ (bV 2 yf.nd) (kQ (bV 3 yf.nd) uy))) (aW (cp (bU (bM (fG pY hr (qy _) rfl (al (ak 2) (al (ak 3) ar)) ln2))) (aW (bu dX)) cv))) (aW (bu dX)))))))
theorem pY:Cal (Gam C_Shop C_TreeWords) P w K mg base "_law_same" 2 24 gR:=by
 have h:∀n,Cal (Gam C_Shop C_TreeWords) P w K mg base "_law_same" 2 n (jo n):=fun n=>by
  induction n with
  |zero=>exact Dfn.none (ps:=["_law_found","_law_due"]) V.d71 (bn fun _ _ _ _ _ _ _=>rfl)
  |succ n ih=>exact Om V ih
 exact h 24
theorem Ou  (f:au) (cdv:av) (A:dj) (outer:ab cM) (s:aB) (H:Hp) (E:XK) (hr:Room 39 (A.deeper (dP "law" (aF (top 85)) s.heap.objs.size f cdv))):DSs (Gam C_Shop C_TreeWords) (eN CX0 P w K mg base ["_law_script","_law_k","_law_left_here","_law_shop_here","_law_far","_law_tree_here","_law_choice_here","_law_one","_law_text","_law_found","_law_some"] "law" (aF (top 85)) f cdv A outer s H E).nox (cO (top 85)) Cv:=
  (bC (kW gH rfl (Na rfl V.z_range (al (bE (t5 rfl) rfl V.z_min (by rfl) (al ay (al (dB (bE cP rfl V.z_len (by rfl) (al (ak 0) ar)) ay) ar))) ar)) (bV 1 gN.nd) (bC (vZ 2 gN.nd (Oe (Ny V) hr (by decide) rfl (al (ak 0) (al (ak 1) ar)) ln2)) (I0 (aJ (bL 3 gN.nd (a9 (Kn V) hr (by decide) rfl (aG ar) lr0)) (aJ (bL 4 gN.nd (eZ (ax (DO.de (cg (al (jt ay (nS ay ay)) (al (jt (nS ay ay) ay) (al ay (al (C1 ay) ar))))))) (a9 (bP V) hr (by decide) rfl (aA (ax ay) (aG ar)) lr1))) (aJ (bL 5 gN.nd (a9 (K9 V) hr (by decide) rfl (aA (ax (ak 3)) (aA (ax ay) (aG ar))) lr2)) (aJ (bL 6 gN.nd (ax (c9 (al aN (al aN (al (ak 4) ar)))))) (bi (tW (i8 (by decide)) gH rfl (ud (cu (DO.de (cg (al (ak 5) (al (c9 (al (DO.de (cg (al (c9 (al aN (al (ak 6) (al ay (al (ak 5) ar))))) ar))) (al (c9 (al aN (al (ak 6) (al (ak 5) (al (c9 (al (DO.de (cg ar)) (al (c9 (al aN ar)) ar))) ar))))) ar))) ar)))))) (bV 7 gN.nd) (aJ (bL 8 gN.nd (ax (dC (vI V) hr (al (ak 7) ar) ln1))) (JN 9 gN.nd (uk V) (GD V) (by decide) hr (by decide) (by decide) rfl rfl (al (ak 8) ar) (DW.dt (dh (bU (bM (dC (pY V) hr (al (ak 9) (al (ak 7) ar)) ln2))) (et (cb (nL (j5 hr)) (dC (vI V) hr (al (ak 9) ar) ln1) (ak 8) (bq _))))) (bi (cr (cU (bU (bM (dC (pY V) hr (al (dC (uk V) hr (al (ak 8) ar) ln1) (al (ak 7) ar)) ln2)))) (bi (bX (ax dX))) cq))))))))))))) (bC (kc 10 gN.nd (DO.de (cg (al (c9 (al (DO.de (cg ar)) (al (c9 (al aN (al aN (al ay (al aN ar))))) ar))) (al (c9 (al (DO.de (cg ar)) (al (c9 (al aN (al (DO.de (cg (al aN (al aN ar)))) (al ay (al ay ar))))) ar))) ar))))) (bC (kc 10 gN.nd (dB (ak 10) (DO.de (cg (al (c9 (al (DO.de (cg ar)) (al (c9 (al aN (al aN (al ay (al ay ar))))) ar))) (al (c9 (al (DO.de (cg (al (c9 (al aN (al aN (al aN ar)))) ar))) (al (c9 (al aN (al (DO.de (cg (al aN (al aN ar)))) ar))) ar))) ar)))))) (bC (kW gH rfl (cu (ak 10)) (bV 7 gN.nd) (aW (cp (bU (bM (dC (pY V) hr (al (dC (uk V) hr (al (dC (vI V) hr (al (ak 7) ar) ln1) ar) ln1) (al (ak 7) ar)) ln2))) (aW (bu dX)) cv))) (aW (bu (jA (wZ (j5 hr)) (dC (uk V) hr (al aN ar) ln1) (c9 (al (DO.de (cg ar)) (al (c9 (al aN ar)) ar))) (bq _))))))))
end
theorem i2:fO "int" "int"=aa ai:=rfl
theorem i3:fO "int" "bool"=aa ao:=rfl
theorem i5:fO "bool" "bool"=aa ai:=rfl
theorem k1:fO "list" "list"=aa ai:=rfl
theorem k2:fO "tuple" "list"=aa ao:=rfl
theorem k3:fO "tuple" "tuple"=aa ai:=rfl
theorem k4:fO "str" "list"=aa ao:=rfl
theorem k5:fO "str" "tuple"=aa ao:=rfl
theorem k6:fO "int" "list"=aa ao:=rfl
theorem k7:fO "int" "tuple"=aa ao:=rfl
theorem k8:fO "bool" "list"=aa ao:=rfl
theorem k9:fO "bool" "tuple"=aa ao:=rfl
theorem k10:fO "NoneType" "list"=aa ao:=rfl
theorem k11:fO "NoneType" "tuple"=aa ao:=rfl
theorem sz2:(1+1<=aK)=True:=by simp[aK]
theorem sz3:(1+1+1<=aK)=True:=by simp[aK]
section
variable {x0 x1 x2 x3 x4:D} {r:ab D}
theorem km (l:ab α) (n:ag):atI l (n:aj)=l[n]?:=by
 unfold atI ixN;rw[qY (by omega)];by_cases h:n<l.length
 .rw[qY (by omega)];simp
 .rw[qZ (by omega)];simp;omega
theorem eQ:ixD (.tup (x0::r)) (.int 0)=aa x0:=km _ 0
theorem fN:ixD (.tup (x0::x1::r)) (.int 1)=aa x1:=km _ 1
theorem kS:ixD (.tup (x0::x1::x2::r)) (.int 2)=aa x2:=km _ 2
theorem lY:ixD (.tup (x0::x1::x2::x3::r)) (.int 3)=aa x3:=km _ 3
theorem rl:ixD (.tup (x0::x1::x2::x3::x4::r)) (.int 4)=aa x4:=km _ 4
end
theorem wn {fe:FE} {r:bd} {f:D->D}:∀{xs:ab D} {a:aq Slot},(∀x∈xs,fe (oS x::r)=aa (f x))->mv (aM 0) tT fe xs (a::r)=aa (xs.map f)
 |[],_,_=>rfl
 |x::xs,a,h=>by have h1:=h x qf;have ih:=wn (xs:=xs) (a:=oS x) fun y hy=>h y (qg _ hy);simp only[mv,aM,mW,qa,tT,dn,h1,ih,qd,qp]
theorem C4:∀{l:ab D},(∀x∈l,x=.bl ai)->∃bs:ab aU,nv l=aa bs/\bs.all id=ai
 |[],_=>⟨[],rfl,rfl⟩
 |x::r,h=>by obtain⟨bs,h1,h2⟩:=C4 (l:=r) fun y hy=>h y (qg _ hy);have hx:=h x qf;subst hx;exact⟨ai::bs,by simp[nv,h1],by simpa using h2⟩
theorem gT {r:bd} {a:aq Slot} {xs:ab D} (h1:fi ρ=aa xs) (h2:xs.length<=aK) (h3:ia fv ρ=a::r) (h:∀x∈xs,fe (oS x::r)=aa (.bl ai)) :
  cF e9 (ae (aL (bQ fi (aM 0) tT fe fv)) af) ρ=aa (.bl ai):=by
 have c:=wn (a:=a) (f:=fun _=>.bl ai) h;obtain⟨bs,e1,e2⟩:=C4 (l:=xs.map fun _=>D.bl ai) (by simp);simp only[cF,ae,af,aL,bQ,h1,qa,qY h2,h3,c,qd,e9,e1];simpa using e2
theorem jU {r:bd} {a:aq Slot} {xs:ab D} {f:D->D} (h1:fi ρ=aa xs) (h2:xs.length<=aK) (h3:ia fv ρ=a::r) (h:∀x∈xs,fe (oS x::r)=aa (f x)) :
  aL (bQ fi (aM 0) tT fe fv) ρ=aa (.lst (xs.map f)):=by
 simp only[aL,bQ,h1,qa,qY h2,h3,wn (a:=a) h,qd]
theorem o9 {body:FS} {xs:ab D} (I:ag->bd->Prop) (h0:I 0 ρ) (hs:∀i x ρ,xs[i]?=aa x->I i ρ->∃ρ1 ρ2,gg x ρ=aa ρ1/\body ρ1=aa (.nx,ρ2)/\I (i+1) ρ2) :
  ∃ρ',eS gg body xs ρ=aa (.nx,ρ')/\I xs.length ρ':=by
 have key:∀(ys:ab D) (k:ag) (ρ:bd),xs.drop k=ys->I k ρ->∃ρ',eS gg body ys ρ=aa (.nx,ρ')/\I (k+ys.length) ρ':=by
  intro ys
  induction ys with
  |nil=>intro k ρ _ hk;exact⟨ρ,rfl,hk⟩
  |cons y r ih=>
   intro k ρ hd hk;have hy:xs[k]?=aa y:=by
    have:(xs.drop k)[0]?=aa y:=by rw[hd];rfl
    simpa using this
   obtain⟨ρ1,ρ2,h1,h2,h3⟩:=hs k y ρ hy hk;have hd':xs.drop (k+1)=r:=by rw[←vE,hd];rfl
   obtain⟨ρ',h4,h5⟩:=ih (k+1) ρ2 hd' h3;refine⟨ρ',?_,by rw[qh];rwa [show k+1+r.length=k+(r.length+1) by omega] at h5⟩;simp only[eS,h1,qa,h2,h4]
 obtain⟨ρ',h1,h2⟩:=key xs 0 ρ rfl h0;exact⟨ρ',h1,by rwa [vF] at h2⟩
theorem z9:(2:aj) ^ 62=4611686018427387904:=by decide +kernel
theorem OQ {i j:aj} (h:0<=i/\i<=1000000/\0<=j/\j<=1000000):mC [.int i,.int j]=aa ((di (j-i).toNat).map fun k:ag=>D.int (i+k)):=by unfold mC;rw[z9];exact qY ⟨by omega,by omega,by omega,by omega⟩
theorem Cz {j:aj} (h:0<=j/\j<=1000000):gq [.int j]=aa ((di j.toNat).map fun i:ag=>D.int (0+i)):=by unfold gq;rw[z9];exact qY ⟨by omega,by omega⟩
theorem Bp {g:ab D->aq (ab D)} {r:ab D} (h1:fr ρ=aa ds) (h2:g ds=aa r):itR g fr ρ=aa r:=by unfold itR;rw[h1];exact h2
theorem aY {g:D->D->aq D} {x y:D} (h1:fa ρ=aa x) (h2:fb ρ=aa y) (h3:g x y=aa z):b2 g fa fb ρ=aa z:=by unfold b2;rw[h1,qa,h2,qa];exact h3
theorem bw {g:FQ} (h1:fr ρ=aa ds) (h2:g ds=aa z):cF g fr ρ=aa z:=by unfold cF;rw[h1];exact h2
theorem aQ (h1:f ρ=aa d) (h2:fr ρ=aa ds):ae f fr ρ=aa (d::ds):=by unfold ae;rw[h1,qa,h2];rfl
theorem bc :af ρ=aa []:=rfl
theorem wO (h:g (ds.map (fun d=>aa (Slot.sh d))++bY n ac)=aa (.rt d,ρ')):bJ n g ds=aa d:=by unfold bJ;rw[h];rfl
theorem cK (ρ:bd) (e:ds.map (fun d=>aa (Slot.sh d))++bY n ac=ρ) (h:g ρ=aa (.rt d,ρ')):bJ n g ds=aa d:=by subst e;exact wO h
theorem cH (h:f ρ=aa d):aT f ρ=aa (.rt d,ρ):=by unfold aT;rw[h];rfl
theorem bW {b:aU} (h:f ρ=aa (.bl b)):toB f ρ=aa b:=by unfold toB;rw[h];rfl
theorem l9 {A:FE} {X E:FS} (hA:A ρ=aa (.bl ai)):aS (sIf (bh (toB A)) X bR) E ρ=E ρ:=by simp only[aS,sIf,bh,bW hA,qd,qa,iy,qu,dF,bR]
theorem iD {A B:FE} {X E:FS} (hA:A ρ=aa (.bl ai)) (hB:B ρ=aa (.bl ai)):aS (sIf (orT (bh (toB A)) (bh (toB B))) X bR) E ρ=E ρ:=by simp only[aS,sIf,orT,bh,bW hA,bW hB,qd,qa,iy,qu,dF,bR]
theorem J1 {A B C:FE} {X E:FS} (hA:A ρ=aa (.bl ai)) (hB:B ρ=aa (.bl ai)) (hC:C ρ=aa (.bl ai)):aS (sIf (orT (bh (toB A)) (orT (bh (toB B)) (bh (toB C)))) X bR) E ρ=E ρ:=by simp only[aS,sIf,orT,bh,bW hA,bW hB,bW hC,qd,qa,iy,qu,dF,bR]
theorem zC {A B:FE} (hA:A ρ=aa (.bl ai)) (hB:B ρ=aa (.bl ai)):cD A B ρ=aa (.bl ai):=by simp only[cD,hA,hB,qa]
theorem jD (h:f ρ=aa d):aS (eh i f) g ρ=g (ρ.set i (oS d)):=by simp only[aS,eh,h,qd,qa]
theorem L0 (i:aj):ub [.int i]=aa (.bl ai):=by simp only[ub,bJ,aT,cD,l7,cF,ae,af,vSh,vC,c6,tyD,qp,qR,qr,qU,bY,qb,qa,qd,oz,i2,i3]
theorem iN (i a b:aj) (h:a<=i/\i<=b):ga [.int i,.int a,.int b]=aa (.bl ai):=by simp only[ga,L0,bJ,aT,cD,cF,ae,af,vSh,chD,leD,qp,qR,qr,qU,bY,qb,qc,qa,qd,qV h.1,qV h.2]
theorem jw (l:ab D) (a b:aj) (h:a<=l.length/\(l.length:aj)<=b):gZ [.lst l,.int a,.int b]=aa (.bl ai):=by simp only[gZ,bJ,aT,cD,cF,ae,af,vSh,vC,chD,c6,tyD,bS,leD,qp,qR,qr,qU,bY,qb,qc,qa,qd,k1,qV h.1,qV h.2]
theorem tE (l:ab D) (n:aj) (h:(l.length:aj)=n):fF [.tup l,.int n]=aa (.bl ai):=by simp only[fF,bJ,aT,cD,cF,ae,af,vSh,vC,b2,c6,tyD,bS,eqD,eqS,qp,qR,qr,qU,bY,qb,qc,qa,qd,k3,qV h]
section
variable {a b c e:D}
theorem uE:fF [.tup [a,b],.int 2]=aa (.bl ai):=tE _ _ rfl
theorem Cu:fF [.tup [a,b,c],.int 3]=aa (.bl ai):=tE _ _ rfl
theorem Mr:fF [.tup [a,b,c,d],.int 4]=aa (.bl ai):=tE _ _ rfl
theorem AV:fF [.tup [a,b,c,d,e],.int 5]=aa (.bl ai):=tE _ _ rfl
end
noncomputable def dIv (p:aj×aj):D:=.tup [.int p.1,.int p.2]
theorem HP (p:aj×aj) (h:aj) (h1:0<=p.1) (h2:p.1<p.2) (h3:p.2<=h):sD [dIv p,.int h]=aa (.bl ai):=by simp only[sD,dIv,bJ,aS,sIf,aT,bR,orT,bh,toB,cF,ae,af,vSh,vC,b2,ltD,eQ,fN,qp,qR,qr,qU,bY,qb,qc,qa,qd,dF,iy,qu,uE,iN p.1 0 h ⟨h1,by omega⟩,iN p.2 0 h ⟨by omega,h3⟩,qV h2]
noncomputable def az (c:ag):aU:=!ltS ⟨#[c]⟩ "a" && !ltS "z" ⟨#[c]⟩
theorem MP {c:ag} (h:az c=ai):c<=122:=by
 have z:("z":ah)=⟨#[122]⟩:=by decide +kernel
 unfold az ltS at h;rw[z] at h;simp only[hG,QU,QV] at h;have h2:=h.2;rcases iu 122 c with q|q
 .exact bx (show([122]:ab ag) < [c] from QW q) h2
 .exact q
theorem NS (c:ag) (r:bd):chD leD leD (vC (.str "a")) (vSh 0) (vC (.str "z")) (oS (.str ⟨#[c]⟩)::r)=aa (.bl (az c)):=by simp only[chD,vC,vSh,qb,qa,leD,az];cases ltS ⟨#[c]⟩ "a"<;>simp
noncomputable def bB (x:ah):aU:=decide (1<=x.length) && decide (x.length<=8) && x.cps.toList.all az
theorem B4 (h:bB x=ai):1<=x.length/\x.length<=8:=by unfold bB at h;simp only[hG,vn] at h;exact h.1
theorem vJ (h:bB x=ai):∀c∈x.cps.toList,az c=ai:=by unfold bB at h;simp only[hG,rY] at h;exact h.2
theorem jb (h:bB x=ai):gx [.str x]=aa (.bl ai):=by
 obtain⟨h1,h2⟩:=B4 h;have hz:x.length<=aK:=by unfold aK;omega
 have hl:(x.cps.toList.map fun c=>D.str ⟨#[c]⟩).length<=aK:=by simpa[gF] using hz
 have e1:decide ((1:aj)<=(x.length:ag))=ai:=qV (by omega);have e2:decide (((x.length:ag):aj)<=8)=ai:=qV (by omega);have ha:=gT (fi:=itS (vSh 0)) (fe:=chD leD leD (vC (.str "a")) (vSh 0) (vC (.str "z"))) (fv:=[ac]) (ρ:=[oS (.str x)]) (r:=[]) (a:=ac) (xs:=x.cps.toList.map fun c=>D.str ⟨#[c]⟩)
  (by simp[itS,vSh,uQ]) hl rfl (fun y hy=>by obtain⟨c,hc,rfl⟩:=cY.mp hy;rw[NS,vJ h c hc])
 refine wO (ρ':=[oS (.str x)]) ((iD ?_ ?_).trans (cH ha))
 .rfl
 .show chD leD leD (vC (.int 1)) (cF bS (ae (vSh 0) af)) (vC (.int 8)) [oS (.str x)]=_;simp only[cF,ae,af,vSh,vC,chD,bS,leD,qb,qa,qd,qY hz,e1,e2]
theorem sM (h:bB x=ai):F4 x=ai:=by unfold F4;rw[Array.all_eq_true'];intro c hc;have:=MP (vJ h c (by simpa using hc));exact qV (by omega)
theorem CH:∀(ns:ab ah),fV (ns.map D.str)=aa (ns.map F5)
 |[]=>by simp[fV]
 |x::r=>by simp[fV,pdD,CH r]
theorem zw:∀{ns:ab ah},(∀x∈ns,bB x=ai)->kF (ns.map F5)=ai
 |[],_=>by simp[kF]
 |x::r,h=>by simp only[qp,kF,jN,sM (h x qf),FO];exact zw fun y hy=>h y (qg _ hy)
theorem AS (x:ah):∀(ns:ab ah),((ns.map F5).any fun z=>f8 z (.str x))=decide (x∈ns)
 |[]=>by simp
 |y::r=>by
  have ih:=AS x r;rw[qp,rS,ih];simp only[f8];by_cases e:y=x
  .subst e;simp
  .have:x≠y:=fun z=>e z.symm;simp[e,this]
theorem NI (hx:bB x=ai) (hn:∀y∈ns,bB y=ai):pW (.str x) (.lst (ns.map D.str))=aa (.bl (decide (x∈ns))):=by
 have sh:gG (.str x)=ai:=by simp[gG,jN,sM hx,lR]
 simp only[pW,inX,pdD,CH,qd,qa,sh,zw hn,zq,dn,AS]
theorem nD (hx:x∈ns) (hn:∀y∈ns,bB y=ai):jQ [.str x,.lst (ns.map D.str)]=aa (.bl ai):=by simp only[jQ,bJ,aT,cD,cF,ae,af,vSh,b2,qp,qR,qr,qU,bY,qb,qc,qa,qd,jb (hn x hx),NI (hn x hx) hn,qV hx]
theorem Dc [fj κ] {l:ab κ} (h:l.Nodup):ST.dd l=l:=by
 have key:∀(l a:ab κ),(a++l).Nodup->l.foldl (fun a k=>if k∈a then a else a++[k]) a=a++l:=by
  intro l
  induction l with
  |nil=>intro a _;simp
  |cons x r ih=>
   intro a hn;have hx:x∉a:=by intro z;rw[QX] at hn;exact hn.2.2 x z x qf rfl
   rw[lM,qZ hx,ih (a++[x]) (by simpa using hn)];simp
 simpa[ST.dd] using key l [] (by simpa using h)
theorem tO:∀(ns:ab ah),h9 (ns.map D.str)=aa (ns.map eI)
 |[]=>by simp[h9]
 |x::r=>by simp[h9,j6,tO r]
theorem kI (h:ns.Nodup) (hl:ns.length<=300):ff [.lst (ns.map D.str)]=aa (.bl ai):=by have hd:(ns.map (eI:ah->Key)).Nodup:=zr _ (fun a b hab z=>hab (uV z)) h;simp only[ff,bJ,aT,cF,ae,af,vSh,b1,b2,bS,eqD,eqS,qp,qR,qr,qU,bY,qb,qa,qd,nW,qe,qY hl,tO,Dc hd];simp
theorem Cg:∀(ts:ab (ab ah)),l6 (ts.map fun t=>.tup (t.map D.str))=aa (ts.map fun t=>t.map eI)
 |[]=>by simp[l6]
 |t::r=>by simp[l6,tO,Cg r]
theorem DY {ts:ab (ab ah)} (h:ts.Nodup) (hl:ts.length<=300):ff [.lst (ts.map fun t=>.tup (t.map D.str))]=aa (.bl ai):=by
 have inj:∀a b:ab ah,a.map (eI:ah->Key)=b.map eI->a=b:=fun a b z=>(QY (fun x y q=>uV q)).mp z;have hd:(ts.map fun t=>t.map (eI:ah->Key)).Nodup:=zr _ (fun a b hab z=>hab (inj a b z)) h;cases ts with
 |nil=>simp only[ff,bJ,aT,cF,ae,af,vSh,b1,b2,bS,eqD,eqS,qp,qR,qr,qU,bY,qb,qa,qd,qm,nW,h9,ST.dd];simp
 |cons t r=>
  have e:h9 ((t::r).map fun t=>D.tup (t.map D.str))=ac:=by simp[h9,j6]
  simp only[ff,bJ,aT,b2,b1,vSh,qp,qR,qr,qU,bY,qb,qa,nW,cF,ae,af,bS,qd];rw[qY (by simpa using hl)];have e':=e;rw[qp] at e';rw[e'];have t':=Cg (t::r);rw[qp] at t';rw[t'];rw[qd,Dc hd];simp[eqD,eqS]
structure BenchT where
 nm:ah
 br:ab (aj×aj)
structure StepT where
 nm:ah
 kd:ah
 ws:ab (ah×aj)
structure JobT where
 nm:ah
 ea:aj
 du:aj
 od:aU
 ms:ab ah
structure SetT where
 b:ah
 p:ah
 q:ah
 n:aj
structure LinkT where
 a:ah
 b:ah
 g:aj
structure StockT where
 nm:ah
 lo:aj
 hi:aj
 tk:ab (ah×aj)
 pt:ab (ah×aj)
noncomputable def dW (w:ah×aj):D:=.tup [.str w.1,.int w.2]
noncomputable def cV (b:BenchT):D:=.tup [.str b.nm,.lst (b.br.map dIv)]
noncomputable def c8 (s:StepT):D:=.tup [.str s.nm,.str s.kd,.lst (s.ws.map dW)]
noncomputable def bF (j:JobT):D:=.tup [.str j.nm,.int j.ea,.int j.du,.bl j.od,.lst (j.ms.map D.str)]
noncomputable def dw (u:SetT):D:=.tup [.str u.b,.str u.p,.str u.q,.int u.n]
noncomputable def ef (l:LinkT):D:=.tup [.str l.a,.str l.b,.int l.g]
noncomputable def dR (k:StockT):D:=.tup [.str k.nm,.int k.lo,.int k.hi,.lst (k.tk.map dW),.lst (k.pt.map dW)]
structure GoodB (h:aj) (b:BenchT):Prop where
 nm:bB b.nm=ai
 len:b.br.length<=10
 iv:∀p∈b.br,0<=p.1/\p.1<p.2/\p.2<=h
 gap:∀(i:ag) p q,b.br[i]?=aa p->b.br[i+1]?=aa q->p.2<q.1
structure GoodS (bn:ab ah) (h:aj) (s:StepT):Prop where
 nm:bB s.nm=ai
 kd:bB s.kd=ai
 l1:1<=s.ws.length
 l4:s.ws.length<=4
 ws:∀w∈s.ws,w.1∈bn/\1<=w.2/\w.2<=h
 nd:(s.ws.map (·.1)).Nodup
structure GoodJ (sn:ab ah) (h:aj) (j:JobT):Prop where
 nm:bB j.nm=ai
 ea:0<=j.ea/\j.ea<=h
 du:0<=j.du/\j.du<=h
 l1:1<=j.ms.length
 ln:j.ms.length<=sn.length
 ms:∀m∈j.ms,m∈sn
structure GoodU (bn:ab ah) (h:aj) (u:SetT):Prop where
 b:u.b∈bn
 p:bB u.p=ai
 q:bB u.q=ai
 n:1<=u.n/\u.n<=h
structure GoodL (sn:ab ah) (h:aj) (l:LinkT):Prop where
 a:l.a∈sn
 b:l.b∈sn
 ne:l.a≠l.b
 g:0<=l.g/\l.g<=h
structure GoodA (sn:ab ah) (am:ab (ah×aj)):Prop where
 ln:am.length<=sn.length
 ws:∀w∈am,w.1∈sn/\1<=w.2/\w.2<=1000000
 nd:(am.map (·.1)).Nodup
structure GoodK (sn:ab ah) (k:StockT):Prop where
 nm:bB k.nm=ai
 lo:0<=k.lo/\k.lo<=k.hi
 hi:0<=k.hi/\k.hi<=1000000
 tk:GoodA sn k.tk
 pt:GoodA sn k.pt
structure Good (bs:ab BenchT) (ss:ab StepT) (js:ab JobT) (us:ab SetT) (ls:ab LinkT) (ks:ab StockT) (hz:aj):Prop where
 hh:1<=hz/\hz<=1000000
 bl:1<=bs.length/\bs.length<=8
 b:∀x∈bs,GoodB hz x
 bn:(bs.map (·.nm)).Nodup
 sl:1<=ss.length/\ss.length<=40
 s:∀x∈ss,GoodS (bs.map (·.nm)) hz x
 sn:(ss.map (·.nm)).Nodup
 jl:js.length<=40
 j:∀x∈js,GoodJ (ss.map (·.nm)) hz x
 jn:(js.map (·.nm)).Nodup
 jm:(js.flatMap (·.ms)).Nodup
 ul:us.length<=100
 u:∀x∈us,GoodU (bs.map (·.nm)) hz x
 un:(us.map fun u=>[u.b,u.p,u.q]).Nodup
 ll:ls.length<=100
 l:∀x∈ls,GoodL (ss.map (·.nm)) hz x
 ln:(ls.map fun l=>[l.a,l.b]).Nodup
 kl:ks.length<=6
 k:∀x∈ks,GoodK (ss.map (·.nm)) x
 kn:(ks.map (·.nm)).Nodup
theorem ixL (l:ab D) (n:ag):ixD (.lst l) (.int (n:aj))=l[n]?:=km l n
theorem szN {k:ag} (h:n<=k) (hk:k<=1000):n<=aK:=by unfold aK;omega
variable {ss:ab StepT}
section
variable {h:aj} {bn:ab ah}
theorem Lu (len:br.length<=10) (gap:∀(i:ag) p q,br[i]?=aa p->br[i+1]?=aa q->p.2<q.1) :
  cF e9 (ae (aL (bQ (itR mC (ae (vC (.int 1)) (ae (cF bS (ae (vSh 0) af)) af))) (aM 0) tT (b2 ltD (b2 ixD (b2 ixD (vSh 1) (b2 eB (vSh 0) (vC (.int 1)))) (vC (.int 1))) (b2 ixD (b2 ixD (vSh 1) (vSh 0)) (vC (.int 0)))) [ac,aa 0])) af) [oS (.lst (br.map dIv)),oS (.int h)]=aa (.bl ai):=by
 have e0:itR mC (ae (vC (.int 1)) (ae (cF bS (ae (vSh 0) af)) af)) [oS (.lst (br.map dIv)),oS (.int h)]=aa ((di (((br.map dIv).length:aj)-1).toNat).map fun k:ag=>D.int (1+k)):=by exact Bp rfl (OQ (i:=1) (j:=((br.map dIv).length:ag)) (by rw[qe];omega))
 refine gT (r:=[oS (.lst (br.map dIv))]) (a:=ac) e0 ?_ rfl fun x hx=>?_
 .simp only[qe,qW];exact szN (k:=10) (by omega) (by decide)
 .obtain⟨k,hk,rfl⟩:=cY.mp hx;rw[fX,qe] at hk;have hk1:k<br.length:=by omega
  have hk2:k+1<br.length:=by omega
  have e1:br[k]?=aa br[k]:=by simp[hk1]
  have e2:br[k+1]?=aa br[k+1]:=by simp[hk2]
  have g:=gap k _ _ e1 e2;have a1:ixD (.lst (br.map dIv)) (.int (1+(k:aj)-1))=aa (dIv br[k]):=by
   have:(1+(k:aj)-1)=((k:ag):aj):=by omega
   rw[this,ixL,ql,e1];rfl
  have a2:ixD (.lst (br.map dIv)) (.int (1+(k:aj)))=aa (dIv br[k+1]):=by
   have:(1+(k:aj))=((k+1:ag):aj):=by omega
   rw[this,ixL,ql,e2];rfl
  simp only[vSh,vC,b2,ltD,eB,qb,qc,qa,a1,a2];simp only[dIv,eQ,fN,qa,qV g]
theorem MW (len:br.length<=10) (iv:∀p∈br,0<=p.1/\p.1<p.2/\p.2<=h) (gap:∀(i:ag) p q,br[i]?=aa p->br[i+1]?=aa q->p.2<q.1) :
  wd [.lst (br.map dIv),.int h]=aa (.bl ai):=by
 refine cK [oS (.lst (br.map dIv)),oS (.int h)] rfl ((iD ?_ (gT (r:=[oS (.int h)]) (a:=ac) (xs:=br.map dIv) rfl (by rw[qe];exact szN len (by decide)) rfl fun x hx=>?_)).trans (cH (Lu len gap)))
 .exact jw _ 0 10 ⟨by omega,by rw[qe];omega⟩
 .obtain⟨p,hp,rfl⟩:=cY.mp hx;obtain⟨h1,h2,h3⟩:=iv p hp;exact HP p h h1 h2 h3
theorem Le {b:BenchT} (g:GoodB h b):uN [cV b,.int h]=aa (.bl ai):=by simp only[uN,cV,bJ,aT,cD,cF,ae,af,vSh,vC,b2,eQ,fN,qp,qR,qr,qU,bY,qb,qc,qa,qd,uE,jb g.nm,MW g.len g.iv g.gap]
theorem jO {f:α->D} {nm:α->ah} {xs:ab α} (hf:∀x,∃r,f x=.tup (.str (nm x)::r)) (h1:vSh i ρ=aa (.lst (xs.map f))) (h2:xs.length<=aK) (h3:ia fv ρ=[ac]) :
  aL (bQ (itF (vSh i)) (aM 0) tT (b2 ixD (vSh 0) (vC (.int 0))) fv) ρ=aa (.lst ((xs.map nm).map D.str)):=by
 have hc:=jU (fi:=itF (vSh i)) (fe:=b2 ixD (vSh 0) (vC (.int 0))) (fv:=fv) (ρ:=ρ) (r:=[]) (a:=ac) (xs:=xs.map f) (f:=fun d=>match d with|.tup (x::_)=>x|_=>.non) (by unfold itF;rw[h1];rfl) (by rw[qe];exact h2) h3 (fun x hx=>by obtain⟨y,_,rfl⟩:=cY.mp hx;obtain⟨r,e⟩:=hf y;simp only[b2,vSh,vC,qb,qa,e,eQ])
 rw[hc]
 congr 2
 rw[iz,iz];refine F6 fun x _=>?_;obtain⟨r,e⟩:=hf x;simp[e]
theorem IQ {bs:ab BenchT} (l1:1<=bs.length) (l8:bs.length<=8) (g:∀x∈bs,GoodB h x) (nd:(bs.map (·.nm)).Nodup):wX [.lst (bs.map cV),.int h]=aa (.bl ai):=by
 refine cK [oS (.lst (bs.map cV)),oS (.int h)] rfl ((iD ?_ (gT (r:=[oS (.int h)]) (a:=ac) (xs:=bs.map cV) rfl (by rw[qe];exact szN l8 (by decide)) rfl fun x hx=>?_)).trans (cH ?_))
 .exact jw _ 1 8 ⟨by rw[qe];omega,by rw[qe];omega⟩
 .obtain⟨p,hp,rfl⟩:=cY.mp hx;exact Le (g p hp)
 .have:=jO (i:=0) (fv:=[ac]) (ρ:=[oS (.lst (bs.map cV)),oS (.int h)]) (f:=cV) (nm:=(·.nm)) (xs:=bs) (fun x=>⟨_,rfl⟩) rfl (szN l8 (by decide)) rfl;simp only[cF,ae,af,this,qa,qd];exact kI nd (by rw[qe];omega)
theorem Ot {w:ah×aj} (hb:∀y∈bn,bB y=ai) (g:w.1∈bn/\1<=w.2/\w.2<=h):ur [dW w,.lst (bn.map D.str),.int h]=aa (.bl ai):=by simp only[ur,dW,bJ,aT,cD,cF,ae,af,vSh,vC,b2,eQ,fN,qp,qR,qr,qU,bY,qb,qc,qa,qd,uE,nD g.1 hb,iN w.2 1 h g.2]
theorem Ij {ws:ab (ah×aj)} (hb:∀y∈bn,bB y=ai) (l1:1<=ws.length) (l4:ws.length<=4) (g:∀w∈ws,w.1∈bn/\1<=w.2/\w.2<=h) (nd:(ws.map (·.1)).Nodup):xY [.lst (ws.map dW),.lst (bn.map D.str),.int h]=aa (.bl ai):=by
 refine cK [oS (.lst (ws.map dW)),oS (.lst (bn.map D.str)),oS (.int h)] rfl ((iD ?_ (gT (r:=[oS (.lst (bn.map D.str)),oS (.int h)]) (a:=ac) (xs:=ws.map dW) rfl (by rw[qe];exact szN l4 (by decide)) rfl fun x hx=>?_)).trans (cH ?_))
 .exact jw _ 1 4 ⟨by rw[qe];omega,by rw[qe];omega⟩
 .obtain⟨p,hp,rfl⟩:=cY.mp hx;exact Ot hb (g p hp)
 .have:=jO (i:=0) (fv:=[ac]) (ρ:=[oS (.lst (ws.map dW)),oS (.lst (bn.map D.str)),oS (.int h)]) (f:=dW) (nm:=(·.1)) (xs:=ws) (fun x=>⟨_,rfl⟩) rfl (szN l4 (by decide)) rfl;simp only[cF,ae,af,this,qa,qd];exact kI nd (by rw[qe];omega)
theorem L9 {s:StepT} (hb:∀y∈bn,bB y=ai) (g:GoodS bn h s):tD [c8 s,.lst (bn.map D.str),.int h]=aa (.bl ai):=by simp only[tD,c8,bJ,aS,sIf,aT,bR,orT,bh,toB,cF,ae,af,vSh,vC,b2,eQ,fN,kS,qp,qR,qr,qU,bY,qb,qc,qa,qd,dF,iy,qu,Cu,jb g.nm,jb g.kd,Ij hb g.l1 g.l4 g.ws g.nd]
theorem OG (hb:∀y∈bn,bB y=ai) (l1:1<=ss.length) (l4:ss.length<=40) (g:∀s∈ss,GoodS bn h s) (nd:(ss.map (·.nm)).Nodup):x5 [.lst (ss.map c8),.lst (bn.map D.str),.int h]=aa (.bl ai):=by
 refine cK [oS (.lst (ss.map c8)),oS (.lst (bn.map D.str)),oS (.int h)] rfl ((iD ?_ (gT (r:=[oS (.lst (bn.map D.str)),oS (.int h)]) (a:=ac) (xs:=ss.map c8) rfl (by rw[qe];exact szN l4 (by decide)) rfl fun x hx=>?_)).trans (cH ?_))
 .exact jw _ 1 40 ⟨by rw[qe];omega,by rw[qe];omega⟩
 .obtain⟨p,hp,rfl⟩:=cY.mp hx;exact L9 hb (g p hp)
 .have:=jO (i:=0) (fv:=[ac]) (ρ:=[oS (.lst (ss.map c8)),oS (.lst (bn.map D.str)),oS (.int h)]) (f:=c8) (nm:=(·.nm)) (xs:=ss) (fun x=>⟨_,rfl⟩) rfl (szN l4 (by decide)) rfl;simp only[cF,ae,af,this,qa,qd];exact kI nd (by rw[qe];omega)
end
theorem Bb (a b:ah):neA (.str a) (.str b)=aa (.bl (!decide (a=b))):=rfl
theorem CB {a b c:D} :nr ac (aa 3) (.tup [a,b,c,d])=aa (.tup [a,b,c]):=rfl
theorem Ji {a b c:D} :nr ac (aa 2) (.tup [a,b,c])=aa (.tup [a,b]):=rfl
theorem wj {α β:Type} {f:α->ab β} {m:ag}:∀{l:ab α},(∀x∈l,(f x).length<=m)->(l.flatMap f).length<=l.length*m
 |[],_=>by simp
 |x::r,h=>by have h1:=h x qf;have h2:=wj (l:=r) fun y hy=>h y (qg _ hy);rw[List.flatMap_cons,qk,qh,yK];omega
variable {js:ab JobT} {ls:ab LinkT} {ks:ab StockT}
section
variable {h:aj} {bn:ab ah}
theorem O4 {j:JobT} (hs:∀y∈sn,bB y=ai) (hl:sn.length<=40) (g:GoodJ sn h j):wP [bF j,.lst (sn.map D.str),.int h]=aa (.bl ai):=by
 refine cK [oS (bF j),oS (.lst (sn.map D.str)),oS (.int h)] rfl ((J1 ?_ ?_ ?_).trans ((iD ?_ ?_).trans (cH (zC ?_ (gT (r:=[oS (.lst (sn.map D.str))]) (a:=ac) (xs:=j.ms.map D.str) ?_ ?_ rfl fun x hx=>?_)))))
 .exact AV
 .simp only[bF,cF,ae,af,vSh,vC,b2,eQ,qb,qa,qd,jb g.nm]
 .simp only[bF,cF,ae,af,vSh,vC,b2,c6,tyD,lY,qb,qa,qd,i5]
 .simp only[bF,cF,ae,af,vSh,vC,b2,fN,qb,qc,qa,qd,iN _ 0 h g.ea]
 .simp only[bF,cF,ae,af,vSh,vC,b2,kS,qb,qc,qa,qd,iN _ 0 h g.du]
 .simp only[bF,cF,ae,af,vSh,vC,b2,bS,rl,qb,qc,qa,qd];exact jw _ _ _ ⟨by rw[qe];have:=g.l1;omega,by rw[qe,qe];have:=g.ln;omega⟩
 .simp only[bF,vSh,vC,b2,itF,pF,rl,qb,qa]
 .rw[qe];exact szN (qP g.ln hl) (by decide)
 .obtain⟨m,hm,rfl⟩:=cY.mp hx;simp only[cF,ae,af,vSh,qb,qc,qa,qd,nD (g.ms m hm) hs]
theorem Nj {H:aq Slot} (hl:js.length<=40) (g:∀j∈js,j.ms.length<=40) :
  ∃z,eS (aM 4) (fM 3 (b2 ixD (vSh 4) (vC (.int 4)))) (js.map bF) [oS (.lst (js.map bF)),S,H,aa (.own []),ac]=aa (.nx,[oS (.lst (js.map bF)),S,H,aa (.own ((js.flatMap (·.ms)).map D.str)),z]):=by
 obtain⟨ρ',h1,z,h2⟩:=o9 (gg:=aM 4) (body:=fM 3 (b2 ixD (vSh 4) (vC (.int 4)))) (xs:=js.map bF) (ρ:=[oS (.lst (js.map bF)),S,H,aa (.own []),ac])
  (fun i ρ=>∃z,ρ=[oS (.lst (js.map bF)),S,H,aa (.own (((js.take i).flatMap (·.ms)).map D.str)),z]) ⟨ac,by simp⟩ (fun i x ρ hx hI=>by
   obtain⟨z,rfl⟩:=hI;rw[ql] at hx;obtain⟨j,hj,rfl⟩:=oMd hx;have hm:j∈js:=qS hj;have t1:((js.take i).flatMap (·.ms)).length<=(js.take i).length*40:=wj fun y hy=>g y (y6 hy);have t2:(js.take i).length<=40:=by rw[qH];omega
   have t3:=g j hm;have tk:js.take (i+1)=js.take i++[j]:=by rw[oA,hj];rfl
   have sz:(((js.take i).flatMap (·.ms)).map D.str).length+(j.ms.map D.str).length<=aK:=by rw[qe,qe];unfold aK;omega
   refine⟨_,[oS (.lst (js.map bF)),S,H,aa (.own (((js.take (i+1)).flatMap (·.ms)).map D.str)),oS (bF j)],rfl,?_,_,rfl⟩;have e:b2 ixD (vSh 4) (vC (.int 4)) [oS (.lst (js.map bF)),S,H,aa (.own (((js.take i).flatMap (·.ms)).map D.str)),oS (bF j)]=aa (.lst (j.ms.map D.str)):=by simp only[bF,vSh,vC,b2,rl,qb,qc,qa]
   simp only[fM,mW,zt,qb,qc,e,qa,qY sz,tk];simp)
 refine⟨z,?_⟩;rw[h1,h2,qe,mU]
theorem MC (hs:∀y∈sn,bB y=ai) (hl:sn.length<=40) (l4:js.length<=40) (g:∀j∈js,GoodJ sn h j) (nd:(js.map (·.nm)).Nodup) (nm:(js.flatMap (·.ms)).Nodup) (ml:(js.flatMap (·.ms)).length<=300):vN [.lst (js.map bF),.lst (sn.map D.str),.int h]=aa (.bl ai):=by
 obtain⟨z,hz⟩:=Nj (js:=js) (S:=oS (.lst (sn.map D.str))) (H:=oS (.int h)) l4 fun j hj=>qP (g j hj).ln hl;refine cK [oS (.lst (js.map bF)),oS (.lst (sn.map D.str)),oS (.int h),ac,ac] (ρ':=[oS (.lst (js.map bF)),oS (.lst (sn.map D.str)),oS (.int h),oS (.lst ((js.flatMap (·.ms)).map D.str)),z]) rfl ((iD ?_ (gT (r:=[oS (.lst (sn.map D.str)),oS (.int h)]) (a:=ac) (xs:=js.map bF) rfl (by rw[qe];exact szN l4 (by decide)) rfl fun x hx=>?_)).trans ?_)
 .exact jw _ 0 40 ⟨by omega,by rw[qe];omega⟩
 .obtain⟨p,hp,rfl⟩:=cY.mp hx;simp only[cF,ae,af,vSh,qb,qc,qa,qd,O4 hs hl (g p hp)]
 .have nn:=jO (i:=0) (fv:=[ac]) (ρ:=[oS (.lst (js.map bF)),oS (.lst (sn.map D.str)),oS (.int h),oS (.lst ((js.flatMap (·.ms)).map D.str)),z]) (f:=bF) (nm:=(·.nm)) (xs:=js) (fun x=>⟨_,rfl⟩) rfl (szN l4 (by decide)) rfl;have u1:cF ff (ae (aL (bQ (itF (vSh 0)) (aM 0) tT (b2 ixD (vSh 0) (vC (.int 0))) [ac])) af) [oS (.lst (js.map bF)),oS (.lst (sn.map D.str)),oS (.int h),oS (.lst ((js.flatMap (·.ms)).map D.str)),z]=aa (.bl ai):=
   bw (aQ nn bc) (kI nd (by rw[qe];omega))
  have u2:cF ff (ae (vSh 3) af) [oS (.lst (js.map bF)),oS (.lst (sn.map D.str)),oS (.int h),oS (.lst ((js.flatMap (·.ms)).map D.str)),z]=aa (.bl ai):=
   bw (aQ rfl bc) (kI nm ml)
  have r:=cH (zC u1 u2);have z0:(0<=aK)=True:=by simp
  simp only[aS,jk,szF,af,qa,qd,qm,z0,dn,mW,zt,dZ,itF,vSh,qb,pF];rw[hz];simp only[qa,kO,qb,qc,mW,zt];exact r
theorem HB {u:SetT} (hb:∀y∈bn,bB y=ai) (g:GoodU bn h u):uM [dw u,.lst (bn.map D.str),.int h]=aa (.bl ai):=by simp only[uM,dw,bJ,aS,sIf,aT,bR,cD,orT,bh,toB,cF,ae,af,vSh,vC,b2,eQ,fN,kS,lY,qp,qR,qr,qU,bY,qb,qc,qa,qd,dF,iy,qu,Mr,nD g.b hb,jb g.p,jb g.q,iN _ 1 h g.n]
theorem NT {us:ab SetT} (hb:∀y∈bn,bB y=ai) (l4:us.length<=100) (g:∀u∈us,GoodU bn h u) (nd:(us.map fun u=>[u.b,u.p,u.q]).Nodup):vX [.lst (us.map dw),.lst (bn.map D.str),.int h]=aa (.bl ai):=by
 refine cK [oS (.lst (us.map dw)),oS (.lst (bn.map D.str)),oS (.int h)] rfl ((iD ?_ (gT (r:=[oS (.lst (bn.map D.str)),oS (.int h)]) (a:=ac) (xs:=us.map dw) rfl (by rw[qe];exact szN l4 (by decide)) rfl fun x hx=>?_)).trans (cH (bw (aQ (jU (r:=[]) (a:=ac) (xs:=us.map dw) (f:=fun d=>match d with|.tup [a,b,c,d]=>.tup [a,b,c]|_=>.non) rfl (by rw[qe];exact szN l4 (by decide)) rfl fun x hx=>?_) bc) ?_)))
 .exact jw _ 0 100 ⟨by omega,by rw[qe];omega⟩
 .obtain⟨p,hp,rfl⟩:=cY.mp hx;simp only[cF,ae,af,vSh,qb,qc,qa,qd,HB hb (g p hp)]
 .obtain⟨p,hp,rfl⟩:=cY.mp hx;simp only[vSh,vC,slF,pN,pS,qb,qa,dw,CB]
 .have:=DY nd (by rw[qe];omega);rw[iz] at this ⊢;exact this
theorem Ln {l:LinkT} (hs:∀y∈sn,bB y=ai) (g:GoodL sn h l):uL [ef l,.lst (sn.map D.str),.int h]=aa (.bl ai):=by have:=g.ne;simp only[uL,ef,bJ,aS,sIf,aT,bR,cD,orT,bh,toB,cF,ae,af,vSh,vC,b2,eQ,fN,kS,qp,qR,qr,qU,bY,qb,qc,qa,qd,dF,iy,oz,qu,Cu,nD g.a hs,nD g.b hs,Bb,qQ g.ne,iN _ 0 h g.g]
theorem My (hs:∀y∈sn,bB y=ai) (l4:ls.length<=100) (g:∀l∈ls,GoodL sn h l) (nd:(ls.map fun l=>[l.a,l.b]).Nodup):xN [.lst (ls.map ef),.lst (sn.map D.str),.int h]=aa (.bl ai):=by
 refine cK [oS (.lst (ls.map ef)),oS (.lst (sn.map D.str)),oS (.int h)] rfl ((iD ?_ (gT (r:=[oS (.lst (sn.map D.str)),oS (.int h)]) (a:=ac) (xs:=ls.map ef) rfl (by rw[qe];exact szN l4 (by decide)) rfl fun x hx=>?_)).trans (cH (bw (aQ (jU (r:=[]) (a:=ac) (xs:=ls.map ef) (f:=fun d=>match d with|.tup [a,b,c]=>.tup [a,b]|_=>.non) rfl (by rw[qe];exact szN l4 (by decide)) rfl fun x hx=>?_) bc) ?_)))
 .exact jw _ 0 100 ⟨by omega,by rw[qe];omega⟩
 .obtain⟨p,hp,rfl⟩:=cY.mp hx;simp only[cF,ae,af,vSh,qb,qc,qa,qd,Ln hs (g p hp)]
 .obtain⟨p,hp,rfl⟩:=cY.mp hx;simp only[vSh,vC,slF,pN,pS,qb,qa,ef,Ji]
 .have:=DY nd (by rw[qe];omega);rw[iz] at this ⊢;exact this
theorem NH {w:ah×aj} (hs:∀y∈sn,bB y=ai) (g:w.1∈sn/\1<=w.2/\w.2<=1000000):ui [dW w,.lst (sn.map D.str)]=aa (.bl ai):=by simp only[ui,dW,bJ,aT,cD,cF,ae,af,vSh,vC,b2,eQ,fN,qp,qR,qr,qU,bY,qb,qc,qa,qd,uE,nD g.1 hs,iN w.2 1 1000000 g.2]
theorem AT {ws:ab (ah×aj)} (hs:∀y∈sn,bB y=ai) (hl:sn.length<=40) (g:GoodA sn ws):uS [.lst (ws.map dW),.lst (sn.map D.str)]=aa (.bl ai):=by
 have l4:ws.length<=40:=qP g.ln hl;refine cK [oS (.lst (ws.map dW)),oS (.lst (sn.map D.str))] rfl ((iD ?_ (gT (r:=[oS (.lst (sn.map D.str))]) (a:=ac) (xs:=ws.map dW) rfl (by rw[qe];exact szN l4 (by decide)) rfl fun x hx=>?_)).trans (cH ?_))
 .have e:=jw (ws.map dW) 0 ((sn.map D.str).length:ag) ⟨by omega,by rw[qe,qe];have:=g.ln;omega⟩;simp only[cF,ae,af,vSh,vC,bS,qb,qc,qa,qd];exact e
 .obtain⟨p,hp,rfl⟩:=cY.mp hx;simp only[cF,ae,af,vSh,qb,qc,qa,qd,NH hs (g.ws p hp)]
 .have:=jO (i:=0) (fv:=[ac]) (ρ:=[oS (.lst (ws.map dW)),oS (.lst (sn.map D.str))]) (f:=dW) (nm:=(·.1)) (xs:=ws) (fun x=>⟨_,rfl⟩) rfl (szN l4 (by decide)) rfl;exact bw (aQ this bc) (kI g.nd (by rw[qe];omega))
theorem Gx {k:StockT} (hs:∀y∈sn,bB y=ai) (hl:sn.length<=40) (g:GoodK sn k):uj [dR k,.lst (sn.map D.str)]=aa (.bl ai):=by simp only[uj,dR,bJ,aS,sIf,aT,bR,cD,orT,bh,toB,cF,ae,af,vSh,vC,b2,eQ,fN,kS,lY,rl,qp,qR,qr,qU,bY,qb,qc,qa,qd,dF,iy,qu,AV,jb g.nm,iN _ 0 1000000 g.hi,iN _ 0 _ g.lo,AT hs hl g.tk,AT hs hl g.pt]
theorem Nf (hs:∀y∈sn,bB y=ai) (hl:sn.length<=40) (l4:ks.length<=6) (g:∀k∈ks,GoodK sn k) (nd:(ks.map (·.nm)).Nodup):wv [.lst (ks.map dR),.lst (sn.map D.str)]=aa (.bl ai):=by
 refine cK [oS (.lst (ks.map dR)),oS (.lst (sn.map D.str))] rfl ((iD ?_ (gT (r:=[oS (.lst (sn.map D.str))]) (a:=ac) (xs:=ks.map dR) rfl (by rw[qe];exact szN l4 (by decide)) rfl fun x hx=>?_)).trans (cH ?_))
 .exact jw _ 0 6 ⟨by omega,by rw[qe];omega⟩
 .obtain⟨p,hp,rfl⟩:=cY.mp hx;simp only[cF,ae,af,vSh,qb,qc,qa,qd,Gx hs hl (g p hp)]
 .have:=jO (i:=0) (fv:=[ac]) (ρ:=[oS (.lst (ks.map dR)),oS (.lst (sn.map D.str))]) (f:=dR) (nm:=(·.nm)) (xs:=ks) (fun x=>⟨_,rfl⟩) rfl (szN l4 (by decide)) rfl;exact bw (aQ this bc) (kI nd (by rw[qe];omega))
end
section
variable {bs:ab BenchT} {us:ab SetT} {h:aj}
theorem Good.bnn (g:Good bs ss js us ls ks h):∀y∈bs.map (·.nm),bB y=ai:=fun y hy=>by obtain⟨b,hb,rfl⟩:=cY.mp hy;exact(g.b b hb).nm
theorem Good.snn (g:Good bs ss js us ls ks h):∀y∈ss.map (·.nm),bB y=ai:=fun y hy=>by obtain⟨b,hb,rfl⟩:=cY.mp hy;exact(g.s b hb).nm
theorem MM (g:Good bs ss js us ls ks h) (ml:(js.flatMap (·.ms)).length<=300):wJ [.lst (bs.map cV),.lst (ss.map c8),.lst (js.map bF),.lst (us.map dw),.lst (ls.map ef),.lst (ks.map dR),.int h]=aa .non:=by
 have hb:=g.bnn;have hs:=g.snn;have hl:(ss.map (·.nm)).length<=40:=by rw[qe];exact g.sl.2
 have n1:∀z:aq Slot,aL (bQ (itF (vSh 0)) (aM 0) tT (b2 ixD (vSh 0) (vC (.int 0))) [ac]) [oS (.lst (bs.map cV)),oS (.lst (ss.map c8)),oS (.lst (js.map bF)),oS (.lst (us.map dw)),oS (.lst (ls.map ef)),oS (.lst (ks.map dR)),oS (.int h),ac,ac]=aa (.lst ((bs.map (·.nm)).map D.str)):=fun z=>
  jO (f:=cV) (nm:=(·.nm)) (xs:=bs) (fun x=>⟨_,rfl⟩) rfl (szN g.bl.2 (by decide)) rfl
 have n2:aL (bQ (itF (vSh 1)) (aM 0) tT (b2 ixD (vSh 0) (vC (.int 0))) [ac]) [oS (.lst (bs.map cV)),oS (.lst (ss.map c8)),oS (.lst (js.map bF)),oS (.lst (us.map dw)),oS (.lst (ls.map ef)),oS (.lst (ks.map dR)),oS (.int h),oS (.lst ((bs.map (·.nm)).map D.str)),ac]=aa (.lst ((ss.map (·.nm)).map D.str)):=
  jO (f:=c8) (nm:=(·.nm)) (xs:=ss) (fun x=>⟨_,rfl⟩) rfl (szN g.sl.2 (by decide)) rfl
 refine cK [oS (.lst (bs.map cV)),oS (.lst (ss.map c8)),oS (.lst (js.map bF)),oS (.lst (us.map dw)),oS (.lst (ls.map ef)),oS (.lst (ks.map dR)),oS (.int h),ac,ac] rfl ((l9 ?_).trans ((l9 ?_).trans ((jD (n1 ac)).trans ((l9 ?_).trans ((jD n2).trans ((l9 ?_).trans ((l9 ?_).trans ((l9 ?_).trans ((l9 ?_).trans (cH rfl))))))))))
 .exact iN h 1 1000000 g.hh
 .exact IQ g.bl.1 g.bl.2 g.b g.bn
 .exact OG hb g.sl.1 g.sl.2 g.s g.sn
 .exact MC hs hl g.jl g.j g.jn g.jm ml
 .exact NT hb g.ul g.u g.un
 .exact My hs g.ll g.l g.ln
 .exact Nf hs hl g.kl g.k g.kn
end
noncomputable def Pl:ag->D->Prop
 |0,_=>False
 |n+1,.lst l=>l.length<=aK/\∀x∈l,Pl n x
 |n+1,.tup l=>l.length<=aK/\∀x∈l,Pl n x
 |_+1,.non=>True
 |_+1,.bl _=>True
 |_+1,.int _=>True
 |_+1,.str _=>True
 |_+1,_=>False
theorem dU {X E:FS} (h:ft ρ=aa ao):aS (sIf ft X bR) E ρ=E ρ:=by simp only[aS,sIf,h,qa,qu,dF,bR]
theorem m4 {A B E:FS} (h:ft ρ=aa ai) (h2:A ρ=aa (.rt d,ρ')):aS (sIf ft A B) E ρ=aa (.rt d,ρ'):=by simp only[aS,sIf,h,qa,dn,h2]
theorem xT:∀(n:ag) (d:D),Pl n d->i7 n [d]=aa d
 |0,_,h=>h.elim
 |n+1,.lst l,h=>by
  refine cK [oS (.lst l)] rfl (m4 (bW (b:=ai) ?_) (cH ?_))
  .simp only[cF,ae,af,vSh,vC,c6,tyD,qb,qa,qd,k1]
  .have:=jU (fi:=itF (vSh 0)) (fe:=cF (i7 n) (ae (vSh 0) af)) (fv:=[ac]) (ρ:=[oS (.lst l)]) (r:=[]) (a:=ac) (xs:=l) (f:=fun x=>x) rfl h.1 rfl (fun x hx=>by simp only[cF,ae,af,vSh,qb,qa,qd,xT n x (h.2 x hx)]);rw[QZ] at this;exact this
 |n+1,.tup l,h=>by
  refine cK [oS (.tup l)] rfl ((dU (bW (b:=ao) ?_)).trans (m4 (bW (b:=ai) ?_) (cH (bw (aQ (d:=.lst l) ?_ bc) rfl))))
  .simp only[cF,ae,af,vSh,vC,c6,tyD,qb,qa,qd,k2]
  .simp only[cF,ae,af,vSh,vC,c6,tyD,qb,qa,qd,k3]
  .have:=jU (fi:=itF (vSh 0)) (fe:=cF (i7 n) (ae (vSh 0) af)) (fv:=[ac]) (ρ:=[oS (.tup l)]) (r:=[]) (a:=ac) (xs:=l) (f:=fun x=>x) rfl h.1 rfl (fun x hx=>by simp only[cF,ae,af,vSh,qb,qa,qd,xT n x (h.2 x hx)]);rw[QZ] at this;exact this
 |n+1,.non,h=>by
  show je (i7 n) [.non]=aa .non;unfold je;refine cK [oS .non] rfl ((dU (bW (b:=ao) ?_)).trans ((dU (bW (b:=ao) ?_)).trans (cH (f:=vSh 0) rfl)))<;>simp only[cF,ae,af,vSh,vC,c6,tyD,qb,qa,qd,k10,k11]
 |n+1,.bl b,h=>by
  show je (i7 n) [.bl b]=aa (.bl b);unfold je;refine cK [oS (.bl b)] rfl ((dU (bW (b:=ao) ?_)).trans ((dU (bW (b:=ao) ?_)).trans (cH (f:=vSh 0) rfl)))<;>simp only[cF,ae,af,vSh,vC,c6,tyD,qb,qa,qd,k8,k9]
 |n+1,.int b,h=>by
  show je (i7 n) [.int b]=aa (.int b);unfold je;refine cK [oS (.int b)] rfl ((dU (bW (b:=ao) ?_)).trans ((dU (bW (b:=ao) ?_)).trans (cH (f:=vSh 0) rfl)))<;>simp only[cF,ae,af,vSh,vC,c6,tyD,qb,qa,qd,k6,k7]
 |n+1,.str b,h=>by show je (i7 n) [.str b]=aa (.str b);unfold je;refine cK [oS (.str b)] rfl ((dU (bW (b:=ao) ?_)).trans ((dU (bW (b:=ao) ?_)).trans (cH (f:=vSh 0) rfl)))<;>simp only[cF,ae,af,vSh,vC,c6,tyD,qb,qa,qd,k4,k4,k5]
theorem kT (h:Pl 8 d):fH [d]=aa d:=xT 8 d h
theorem iF {f:α->D} {xs:ab α} (hl:xs.length<=1000) (h:∀x∈xs,Pl n (f x)):Pl (n+1) (.lst (xs.map f)):=
 ⟨by rw[qe];exact szN hl (by decide),fun x hx=>by obtain⟨y,hy,rfl⟩:=cY.mp hx;exact h y hy⟩
theorem Oj {xs:ab ah} (hl:xs.length<=1000):Pl (n+2) (.lst (xs.map D.str)):=iF hl fun x _=>(trivial:Pl (n+1) (.str x))
theorem xS {xs:ab (ah×aj)} (hl:xs.length<=1000):Pl (n+3) (.lst (xs.map dW)):=iF hl fun x _=>⟨by simp[aK],by intro y hy;simp only[qO,qM,or_false] at hy;rcases hy with rfl|rfl<;>trivial⟩
theorem NO {h:aj} {b:BenchT} (g:GoodB h b):Pl (n+4) (cV b):=⟨by simp[aK],by
 intro y hy;simp only[qO,qM,or_false] at hy;rcases hy with rfl|rfl
 .trivial
 .exact iF (by have:=g.len;omega) fun x _=>⟨by simp[aK],by intro y hy;simp only[qO,qM,or_false] at hy;rcases hy with rfl|rfl<;>trivial⟩⟩
theorem GN {bn:ab ah} {h:aj} {s:StepT} (g:GoodS bn h s):Pl (n+4) (c8 s):=⟨by simp[aK],by
 intro y hy;simp only[qO,qM,or_false] at hy;rcases hy with rfl|rfl|rfl
 .trivial
 .trivial
 .exact xS (by have:=g.l4;omega)⟩
theorem Ek {h:aj} {j:JobT} (hl:sn.length<=40) (g:GoodJ sn h j):Pl (n+3) (bF j):=⟨by simp[aK],by
 intro y hy;simp only[qO,qM,or_false] at hy;rcases hy with rfl|rfl|rfl|rfl|rfl
 .trivial
 .trivial
 .trivial
 .trivial
 .exact Oj (by have:=g.ln;omega)⟩
theorem JW {u:SetT} :Pl (n+2) (dw u):=⟨by simp[aK],by intro y hy;simp only[qO,qM,or_false] at hy;rcases hy with rfl|rfl|rfl|rfl<;>trivial⟩
theorem Kz {u:LinkT} :Pl (n+2) (ef u):=⟨by simp[aK],by intro y hy;simp only[qO,qM,or_false] at hy;rcases hy with rfl|rfl|rfl<;>trivial⟩
theorem Da {k:StockT} (hl:sn.length<=40) (g:GoodK sn k):Pl (n+4) (dR k):=⟨by simp[aK],by
 intro y hy;simp only[qO,qM,or_false] at hy;rcases hy with rfl|rfl|rfl|rfl|rfl
 .trivial
 .trivial
 .trivial
 .exact xS (by have:=g.tk.ln;omega)
 .exact xS (by have:=g.pt.ln;omega)⟩
theorem Al {α:Type} {nm:α->ah} {f:α->D}:∀(xs:ab α),m5 (xs.map fun x=>.tup [.str (nm x),f x])=aa (xs.map fun x=>(.inr (nm x),f x))
 |[]=>rfl
 |x::r=>by simp only[qp,m5,j6,qa,Al r,qd]
theorem CN {α:Type} {t:α->ab ah} {f:α->D}:∀(xs:ab α),mj (xs.map fun x=>.tup [.tup ((t x).map D.str),f x])=aa (xs.map fun x=>((t x).map eI,f x))
 |[]=>rfl
 |x::r=>by simp only[qp,mj,tO,qa,CN r,qd]
theorem Dm [fj κ] {ps:ab (κ×D)} (h:(ps.map (·.1)).Nodup):t6 ps=ps:=by
 have key:∀(l a:ab (κ×D)),((a++l).map (·.1)).Nodup->l.foldl (fun acc kv=>gV acc kv.1 kv.2) a=a++l:=by
  intro l
  induction l with
  |nil=>intro a _;simp
  |cons x r ih=>
   intro a hn;have hx:(a.any fun kv=>decide (kv.1=x.1))=ao:=by rw[Pk];intro y hy z;rw[f9,QX] at hn;exact hn.2.2 y.1 (sq hy) x.1 (by simp) (Fv z)
   rw[lM];have e:gV a x.1 x.2=a++[x]:=by unfold gV;rw[hx];rfl
   rw[e,ih (a++[x]) (by simpa using hn)];simp
 simpa[t6] using key ps [] (by simpa using h)
theorem tu {β:Type}:∀{fs:ab (ah×β)} {i:ag} {k:ah} {d:β},(fs.map (·.1)).Nodup->fs[i]?=aa (k,d)->fs.lookup k=aa d
 |[],i,k,d,_,h=>by simp at h
 |(a,b)::r,0,k,d,_,h=>by
  simp only[qb,Sd,Prod.mk.injEq] at h;obtain⟨rfl,rfl⟩:=h;simp[dN]
 |(a,b)::r,i+1,k,d,nd,h=>by
  rw[qc] at h;rw[qp,rN] at nd;have ne:k≠a:=by intro z;subst z;exact nd.1 (sq (f:=(·.1)) (qS h))
  have hb:(k==a)=ao:=by simpa using ne
  simp only[dN,hb];exact tu nd.2 h
theorem oE {β:Type}:∀{fs:ab (ah×β)} {k:ah},k∉fs.map (·.1)->fs.lookup k=ac
 |[],_,_=>rfl
 |(a,b)::r,k,h=>by
  rw[qp,qO,mT] at h;have hb:(k==a)=ao:=by simpa using h.1
  simp only[dN,hb];exact oE h.2
noncomputable def jy (j:JobT) (acc:ab (Key×D)) (m:ah):ab (Key×D):=gV acc (.inr m) (bF j)
noncomputable def jkv (js:ab JobT):ab (Key×D):=js.foldl (fun acc j=>j.ms.foldl (jy j) acc) []
theorem M5 [fj κ] (kvs:ab (κ×D)) (k:κ) (v:D):(gV kvs k v).length<=kvs.length+1:=by
 unfold gV;split
 .rw[qe];omega
 .rw[qk];simp
theorem yq (j:JobT):∀(ms:ab ah) (acc:ab (Key×D)),(ms.foldl (jy j) acc).length<=acc.length+ms.length
 |[],acc=>by simp
 |m::r,acc=>by rw[lM];have h1:=yq j r (jy j acc m);have h2:(jy j acc m).length<=acc.length+1:=M5 _ _ _;rw[qh];omega
theorem CJ {m:ag}:∀{js:ab JobT} (acc:ab (Key×D)),(∀j∈js,j.ms.length<=m)->(js.foldl (fun acc j=>j.ms.foldl (jy j) acc) acc).length<=acc.length+js.length*m
 |[],acc,_=>by simp
 |j::r,acc,h=>by rw[lM];have h1:=CJ (js:=r) (j.ms.foldl (jy j) acc) fun y hy=>h y (qg _ hy);have h2:=yq j j.ms acc;have h3:=h j qf;rw[qh,yK];omega
noncomputable def iL (bs:ab BenchT) (ss:ab StepT) (js:ab JobT) (us:ab SetT) (ls:ab LinkT) (ks:ab StockT) (h:aj):ab (ah×D):=
 [("benches",.lst (bs.map cV)),("steps",.lst (ss.map c8)),("jobs",.lst (js.map bF)),("setups",.lst (us.map dw)),("links",.lst (ls.map ef)),("stocks",.lst (ks.map dR)),("horizon",.int h),
 ("bench_by_name",.dk (bs.map fun b=>(.inr b.nm,cV b))),("step_by_name",.dk (ss.map fun s=>(.inr s.nm,c8 s))),("setup_by_names",.dt (us.map fun u=>([u.b,u.p,u.q].map eI,.int u.n)))]
noncomputable def nq (bs:ab BenchT) (ss:ab StepT) (js:ab JobT) (us:ab SetT) (ls:ab LinkT) (ks:ab StockT) (h:aj):ab (ah×D):=iL bs ss js us ls ks h++[(("job_by_step":ah),D.dk (jkv js))]
noncomputable def c5 (bs:ab BenchT) (ss:ab StepT) (js:ab JobT) (us:ab SetT) (ls:ab LinkT) (ks:ab StockT) (h:aj):D:=.ins "Shop" (nq bs ss js us ls ks h)
noncomputable def kP:ab ah:=["benches","steps","jobs","setups","links","stocks","horizon","bench_by_name","step_by_name","setup_by_names","job_by_step"]
theorem sy:kP.Nodup:=by decide +kernel
theorem CA {l:ab α} (h:l.Nodup) (n:ag):(l.take n).Nodup:=Se (oi n l) h
section
variable {fs:ab (ah×D)} {f:ah} {fv:FE} {r:bd}
theorem jz (n:ag) (hk:kP[n]?=aa f) (hf:fs.map (·.1)=kP.take n) (h:fv (aa (.obj "Shop" fs)::r)=aa d):aS (fC "Shop" f 0 fv) g (aa (.obj "Shop" fs)::r)=g (aa (.obj "Shop" (fs++[(f,d)]))::r):=by
 have hno:fs.lookup f=ac:=oE (by
  rw[hf];intro z;obtain⟨i,hi⟩:=List.getElem?_of_mem z;have hin:i<n:=by
   rcases iu i n with q|q
   .exact q
   .rw[yQ (by rw[qH];omega)] at hi;cases hi
  rw[u8 hin] at hi;have:=(F7 (gA.mp hi).1 sy).mp (hi.trans hk.symm);omega)
 have hlen:fs.length<100:=by have:=c7 gE hf;rw[qe,qH] at this;have k:kP.length=11:=rfl;omega
 simp only[aS,fC,h,qa,qb,hno,hlen,zq,dn,mW]
theorem wf (n i:ag) (hf:fs.map (·.1)=kP.take n) (h:fs[i]?=aa (f,d)):ja "Shop" f 0 (aa (.obj "Shop" fs)::r)=aa d:=by have e:fs.lookup f=aa d:=tu (by rw[hf];exact CA sy n) h;show(if aa ("Shop":ah)=aa ("Shop":ah) then fs.lookup f else ac)=aa d;rw[qY rfl,e]
end
theorem Bl {f:α->D} {nm:α->ah} {xs:ab α} (hf:∀x,∃r,f x=.tup (.str (nm x)::r)) (h1:fo ρ=aa (.lst (xs.map f))) (h2:xs.length<=1000) (nd:(xs.map nm).Nodup) :
  cF pe (ae (aL (bQ (itF fo) (aM 0) tT (b5 (szF (ae (b2 ixD (vSh 0) (vC (.int 0))) (ae (vSh 0) af)))) [ac])) af) ρ=aa (.dk (xs.map fun x=>(.inr (nm x),f x))):=by
 have hc:=jU (fi:=itF fo) (fe:=b5 (szF (ae (b2 ixD (vSh 0) (vC (.int 0))) (ae (vSh 0) af)))) (fv:=[ac]) (ρ:=ρ) (r:=[]) (a:=ac) (xs:=xs.map f) (f:=fun d=>.tup [match d with|.tup (x::_)=>x|_=>.non,d]) (by unfold itF;rw[h1];rfl) (by rw[qe];exact szN h2 (by decide)) rfl (fun x hx=>by obtain⟨y,_,rfl⟩:=cY.mp hx;obtain⟨r,e⟩:=hf y;simp only[ae,af,vSh,vC,b2,b5,szF,eQ,qb,qa,qd,dn,qh,qm,vF,sz2,e])
 have e:(xs.map f).map (fun d=>D.tup [match d with|.tup (x::_)=>x|_=>.non,d])=xs.map fun x=>.tup [.str (nm x),f x]:=by rw[iz];refine F6 fun x _=>?_;obtain⟨r,e⟩:=hf x;simp[e]
 rw[e] at hc;have kn:((xs.map fun x=>((.inr (nm x):Key),f x)).map (·.1)).Nodup:=by rw[iz];have:=zr (S:=fun a b:Key=>a≠b) (eI:ah->Key) (fun a b hab z=>hab (uV z)) nd;rw[iz] at this;exact this
 refine bw (aQ hc bc) ?_;show(if _ then _ else _)=_;rw[qY (by rw[qe];exact h2),Al,qd,Dm kn]
theorem GB {us:ab SetT} (h1:fo ρ=aa (.lst (us.map dw))) (h2:us.length<=1000) (nd:(us.map fun u=>[u.b,u.p,u.q]).Nodup) :
  cF t7 (ae (aL (bQ (itF fo) (aM 0) tT (b5 (szF (ae (slF (vSh 0) pN (pS (vC (.int 3)))) (ae (b2 ixD (vSh 0) (vC (.int 3))) af)))) [ac])) af) ρ=aa (.dt (us.map fun u=>([u.b,u.p,u.q].map eI,.int u.n))):=by
 have hc:=jU (fi:=itF fo) (fe:=b5 (szF (ae (slF (vSh 0) pN (pS (vC (.int 3)))) (ae (b2 ixD (vSh 0) (vC (.int 3))) af)))) (fv:=[ac]) (ρ:=ρ) (r:=[]) (a:=ac) (xs:=us.map dw) (f:=fun d=>match d with|.tup [a,b,c,d]=>.tup [.tup [a,b,c],d]|_=>.non) (by unfold itF;rw[h1];rfl) (by rw[qe];exact szN h2 (by decide)) rfl (fun x hx=>by obtain⟨y,_,rfl⟩:=cY.mp hx;simp only[ae,af,vSh,vC,b2,b5,szF,slF,pN,pS,lY,qb,qa,qd,dn,qh,qm,vF,sz2,dw,CB])
 rw[iz] at hc;have kn:((us.map fun u=>([u.b,u.p,u.q].map (eI:ah->Key),D.int u.n)).map (·.1)).Nodup:=by rw[iz];have inj:∀a b:ab ah,a.map (eI:ah->Key)=b.map eI->a=b:=fun a b z=>(QY (fun x y q=>uV q)).mp z;have:=zr (S:=fun a b:ab Key=>a≠b) (List.map (eI:ah->Key)) (fun a b hab z=>hab (inj a b z)) nd;rw[iz] at this;exact this
 refine bw (aQ hc bc) ?_;show(if _ then _ else _)=_;have e:=CN (t:=fun u:SetT=>[u.b,u.p,u.q]) (f:=fun u=>.int u.n) us;rw[qY (by rw[qe];exact h2)];have e2:mj (us.map ((fun d=>match d with|.tup [a,b,c,d]=>D.tup [.tup [a,b,c],d]|_=>.non) ∘ dw))=aa (us.map fun u=>([u.b,u.p,u.q].map eI,.int u.n)):=e;rw[e2,qd,Dm kn]
section
variable {bs:ab BenchT} {us:ab SetT} {h:aj}
theorem yj:(iL bs ss js us ls ks h).map (·.1)=kP.take 10:=rfl
theorem Ec:(nq bs ss js us ls ks h).map (·.1)=kP:=rfl
abbrev r9 (bs:ab BenchT) (ss:ab StepT) (js:ab JobT) (us:ab SetT) (ls:ab LinkT) (ks:ab StockT) (h:aj) (a b:aq Slot):bd:=[oS (.lst (bs.map cV)),oS (.lst (ss.map c8)),oS (.lst (js.map bF)),oS (.lst (us.map dw)),oS (.lst (ls.map ef)),oS (.lst (ks.map dR)),oS (.int h),oS .non,a,b]
abbrev ob (bs:ab BenchT) (ss:ab StepT) (js:ab JobT) (us:ab SetT) (ls:ab LinkT) (ks:ab StockT) (h:aj) (kvs:ab (Key×D)):aq Slot:=aa (.objd "Shop" (iL bs ss js us ls ks h) "job_by_step" kvs)
theorem GV {j:JobT} {m:ah} {kvs:ab (Key×D)} (hl:kvs.length<100000):jc "Shop" "job_by_step" 0 (vSh 10) (vSh 9) (ob bs ss js us ls ks h kvs::r9 bs ss js us ls ks h (oS (bF j)) (oS (.str m)))=aa (.nx,ob bs ss js us ls ks h (jy j kvs m)::r9 bs ss js us ls ks h (oS (bF j)) (oS (.str m))):=by have hno:(iL bs ss js us ls ks h).lookup ("job_by_step":ah)=ac:=oE (by rw[yj];decide +kernel);simp only[jc,vSh,qb,qc,qa,j6,hno,hl,zq,dn,mW,jy]
theorem Ms {j:JobT} {acc:ab (Key×D)} {z:aq Slot} (hl:acc.length+j.ms.length<100000):∃z',dZ (itF (b2 ixD (vSh 9) (vC (.int 4)))) (aM 10) (jc "Shop" "job_by_step" 0 (vSh 10) (vSh 9)) (ob bs ss js us ls ks h acc::r9 bs ss js us ls ks h (oS (bF j)) z)=aa (.nx,ob bs ss js us ls ks h (j.ms.foldl (jy j) acc)::r9 bs ss js us ls ks h (oS (bF j)) z'):=by
 obtain⟨ρ',h1,z',h2⟩:=o9 (gg:=aM 10) (body:=jc "Shop" "job_by_step" 0 (vSh 10) (vSh 9)) (xs:=j.ms.map D.str) (ρ:=ob bs ss js us ls ks h acc::r9 bs ss js us ls ks h (oS (bF j)) z)
  (fun i ρ=>∃z,ρ=ob bs ss js us ls ks h ((j.ms.take i).foldl (jy j) acc)::r9 bs ss js us ls ks h (oS (bF j)) z) ⟨z,by simp⟩ (fun i x ρ hx hI=>by
   obtain⟨z,rfl⟩:=hI;rw[ql] at hx;obtain⟨m,hm,rfl⟩:=oMd hx;have tk:j.ms.take (i+1)=j.ms.take i++[m]:=by rw[oA,hm];rfl
   have hlen:=yq j (j.ms.take i) acc;rw[qH] at hlen;refine⟨_,_,rfl,GV (by omega),oS (.str m),?_⟩;rw[tk,zc];rfl)
 refine⟨z',?_⟩;have e:itF (b2 ixD (vSh 9) (vC (.int 4))) (ob bs ss js us ls ks h acc::r9 bs ss js us ls ks h (oS (bF j)) z)=aa (j.ms.map D.str):=by simp only[vSh,vC,b2,itF,pF,rl,qb,qc,qa,bF]
 unfold dZ;rw[e,qa,h1,h2,qe,mU]
theorem HL (hj:js.length<=40) (hm:∀j∈js,j.ms.length<=40):∃z z',eS (aM 9) (dZ (itF (b2 ixD (vSh 9) (vC (.int 4)))) (aM 10) (jc "Shop" "job_by_step" 0 (vSh 10) (vSh 9))) (js.map bF) (ob bs ss js us ls ks h []::r9 bs ss js us ls ks h ac ac)=aa (.nx,ob bs ss js us ls ks h (jkv js)::r9 bs ss js us ls ks h z z'):=by
 obtain⟨ρ',h1,z,z',h2⟩:=o9 (gg:=aM 9) (body:=dZ (itF (b2 ixD (vSh 9) (vC (.int 4)))) (aM 10) (jc "Shop" "job_by_step" 0 (vSh 10) (vSh 9))) (xs:=js.map bF) (ρ:=ob bs ss js us ls ks h []::r9 bs ss js us ls ks h ac ac)
  (fun i ρ=>∃z z',ρ=ob bs ss js us ls ks h (jkv (js.take i))::r9 bs ss js us ls ks h z z') ⟨ac,ac,by simp[jkv]⟩ (fun i x ρ hx hI=>by
   obtain⟨z,z',rfl⟩:=hI;rw[ql] at hx;obtain⟨j,hjm,rfl⟩:=oMd hx;have tk:js.take (i+1)=js.take i++[j]:=by rw[oA,hjm];rfl
   have hlen:=CJ (m:=40) (js:=js.take i) [] fun y hy=>hm y (y6 hy);rw[qH,qm] at hlen;have h4:=hm j (qS hjm);obtain⟨w,hw⟩:=Ms (bs:=bs) (ss:=ss) (js:=js) (us:=us) (ls:=ls) (ks:=ks) (h:=h) (j:=j) (acc:=jkv (js.take i)) (z:=z') (by unfold jkv;omega);refine⟨_,_,rfl,hw,oS (bF j),w,?_⟩;rw[tk];unfold jkv;rw[zc];rfl)
 refine⟨z,z',?_⟩;rw[h1,h2,qe,mU]
theorem Gy (g:Good bs ss js us ls ks h) (ml:(js.flatMap (·.ms)).length<=300):tP [.lst (bs.map cV),.lst (ss.map c8),.lst (js.map bF),.lst (us.map dw),.lst (ls.map ef),.lst (ks.map dR),.int h]=aa (c5 bs ss js us ls ks h):=by
 have hl:(ss.map (·.nm)).length<=40:=by rw[qe];exact g.sl.2
 have f1:=kT (d:=.lst (bs.map cV)) (iF (by have:=g.bl.2;omega) fun x hx=>NO (g.b x hx));have f2:=kT (d:=.lst (ss.map c8)) (iF (by have:=g.sl.2;omega) fun x hx=>GN (g.s x hx));have f3:=kT (d:=.lst (js.map bF)) (iF (by have:=g.jl;omega) fun x hx=>Ek hl (g.j x hx));have f4:=kT (d:=.lst (us.map dw)) (iF (by have:=g.ul;omega) fun x hx=>JW);have f5:=kT (d:=.lst (ls.map ef)) (iF (by have:=g.ll;omega) fun x hx=>Kz);have f6:=kT (d:=.lst (ks.map dR)) (iF (by have:=g.kl;omega) fun x hx=>Da hl (g.k x hx));obtain⟨z,z',ho⟩:=HL (bs:=bs) (ss:=ss) (us:=us) (ls:=ls) (ks:=ks) (h:=h) g.jl fun j hj=>qP (g.j j hj).ln hl;have key:∀(G:FS) (ρ':bd),G (aa (.obj "Shop" [])::[oS (.lst (bs.map cV)),oS (.lst (ss.map c8)),oS (.lst (js.map bF)),oS (.lst (us.map dw)),oS (.lst (ls.map ef)),oS (.lst (ks.map dR)),oS (.int h),ac,ac,ac])=aa (.nx,ob bs ss js us ls ks h (jkv js)::ρ')->
   ny 3 "Shop" G [.lst (bs.map cV),.lst (ss.map c8),.lst (js.map bF),.lst (us.map dw),.lst (ls.map ef),.lst (ks.map dR),.int h]=aa (c5 bs ss js us ls ks h):=fun G ρ' e=>by
  unfold ny;show(G (aa (.obj "Shop" [])::[oS (.lst (bs.map cV)),oS (.lst (ss.map c8)),oS (.lst (js.map bF)),oS (.lst (us.map dw)),oS (.lst (ls.map ef)),oS (.lst (ks.map dR)),oS (.int h),ac,ac,ac])).bind _=_;rw[e];rfl
 refine key _ (r9 bs ss js us ls ks h z z') ((jD (bw rfl (MM g ml))).trans ?_);show aS _ _ (aa (.obj "Shop" [])::r9 bs ss js us ls ks h ac ac)=_;refine(dU (bW (b:=ao) rfl)).trans ?_;refine(jz 0 rfl rfl (bw rfl f1)).trans ?_;refine(jz 1 rfl rfl (bw rfl f2)).trans ?_;refine(jz 2 rfl rfl (bw rfl f3)).trans ?_;refine(jz 3 rfl rfl (bw rfl f4)).trans ?_;refine(jz 4 rfl rfl (bw rfl f5)).trans ?_;refine(jz 5 rfl rfl (bw rfl f6)).trans ?_;refine(jz 6 rfl rfl (d:=.int h) rfl).trans ?_;refine(jz 7 rfl rfl (Bl (f:=cV) (nm:=(·.nm)) (xs:=bs) (fun x=>⟨_,rfl⟩) (wf 7 0 rfl rfl) (by have:=g.bl.2;omega) g.bn)).trans ?_;refine(jz 8 rfl rfl (Bl (f:=c8) (nm:=(·.nm)) (xs:=ss) (fun x=>⟨_,rfl⟩) (wf 8 1 rfl rfl) (by have:=g.sl.2;omega) g.sn)).trans ?_;refine(jz 9 rfl rfl (GB (us:=us) (wf 9 3 rfl rfl) (by have:=g.ul;omega) g.un)).trans ?_;have hno:(iL bs ss js us ls ks h).lookup ("job_by_step":ah)=ac:=oE (by rw[yj];decide +kernel);have hle:(iL bs ss js us ls ks h).length<100:=by simp[iL]
 have e1:nT "Shop" "job_by_step" 0 (aa (.obj "Shop" (iL bs ss js us ls ks h))::r9 bs ss js us ls ks h ac ac)=aa (.nx,ob bs ss js us ls ks h []::r9 bs ss js us ls ks h ac ac):=by simp only[nT,qb,hno,hle,zq,dn,mW]
 have e2:itF (ja "Shop" "jobs" 0) (ob bs ss js us ls ks h []::r9 bs ss js us ls ks h ac ac)=aa (js.map bF):=by
  have lk:(iL bs ss js us ls ks h).lookup ("jobs":ah)=aa (.lst (js.map bF)):=tu (i:=2) (by rw[yj];exact CA sy 10) rfl;have n1:("jobs":ah)≠"job_by_step":=by decide +kernel
  have e:ja "Shop" "jobs" 0 (ob bs ss js us ls ks h []::r9 bs ss js us ls ks h ac ac)=aa (.lst (js.map bF)):=by show(if aa ("Shop":ah)=aa ("Shop":ah) then (if ("jobs":ah)="job_by_step" then ac else (iL bs ss js us ls ks h).lookup ("jobs":ah)) else ac)=_;rw[qY rfl,qZ n1,lk]
  unfold itF;rw[e];rfl
 show aS (nT "Shop" "job_by_step" 0) (dZ (itF (ja "Shop" "jobs" 0)) (aM 9) (dZ (itF (b2 ixD (vSh 9) (vC (.int 4)))) (aM 10) (jc "Shop" "job_by_step" 0 (vSh 10) (vSh 9)))) (aa (.obj "Shop" (iL bs ss js us ls ks h))::r9 bs ss js us ls ks h ac ac)=_;unfold aS;rw[e1,qa];show dZ _ _ _ _=_;unfold dZ;rw[e2,qa];exact ho
end
abbrev dy:=au->bd
noncomputable def Ev (f:bd->aj->aq (α×aj)) (ρ:dy) (P:α->Prop):Prop:=∀r,∃a r',(∀q,f (ρ q) r=aa (a,r'))/\P a
noncomputable def Es (g:(FRs aj)) (ρ:dy) (P:Fl->dy->Prop):Prop:=∀r,∃fl ρ' r',(∀q,g (ρ q) r=aa (fl,ρ' q,r'))/\P fl ρ'
noncomputable def EvF (F:FQ') (ds:ab D) (P:D->Prop):Prop:=∀r,∃d r',(∀q,F q ds r=aa (d,r'))/\P d
section
variable {ρ:dy} {f fa fb:(FR aj)} {fr:(FRa aj)} {P:D->Prop} {g g':(FRs aj)} {R:Fl->dy->Prop}
theorem Ev.imp {f:bd->aj->aq (α×aj)} {P Q:α->Prop} (h:Ev f ρ P) (k:∀a,P a->Q a):Ev f ρ Q:=fun r=>by obtain⟨a,r',h1,h2⟩:=h r;exact⟨a,r',h1,k a h2⟩
theorem EvF.imp {F:FQ'} {Q:D->Prop} (h:EvF F ds P) (k:∀a,P a->Q a):EvF F ds Q:=fun r=>by obtain⟨a,r',h1,h2⟩:=h r;exact⟨a,r',h1,k a h2⟩
theorem Es.imp {S:Fl->dy->Prop} (h:Es g ρ R) (k:∀a b,R a b->S a b):Es g ρ S:=fun r=>by obtain⟨a,b,r',h1,h2⟩:=h r;exact⟨a,b,r',h1,k a b h2⟩
theorem aD {f:bd->aq α} {a:α} {P:α->Prop} (h:∀q,f (ρ q)=aa a) (k:P a):Ev (rP f) ρ P:=fun r=>⟨a,r,fun q=>by unfold rP;rw[h];rfl,k⟩
theorem tq {f:bd->aj->aq (α×aj)} {g:bd->α->aj->aq (β×aj)} {P:β->Prop} (h:Ev f ρ fun a=>Ev (fun ρ r=>g ρ a r) ρ P):Ev (rb f g) ρ P:=fun r=>by obtain⟨a,r1,h1,h2⟩:=h r;obtain⟨b,r2,h3,h4⟩:=h2 r1;exact⟨b,r2,fun q=>by unfold rb;rw[h1];exact h3 q,h4⟩
theorem kq {f:bd->aj->aq (α×aj)} {g:α->aq β} {P:β->Prop} (h:Ev f ρ fun a=>∃b,g a=aa b/\P b):Ev (rM f g) ρ P:=fun r=>by obtain⟨a,r1,h1,b,h2,h3⟩:=h r;exact⟨b,r1,fun q=>by unfold rM;rw[h1];show(g a).map _=_;rw[h2];rfl,h3⟩
theorem dJ {g:D->D->aq D} (h:Ev fa ρ fun x=>Ev fb ρ fun y=>∃z,g x y=aa z/\P z):Ev (r2 g fa fb) ρ P:=tq (h.imp fun _ k=>kq k)
theorem aP {P:ab D->Prop} (h:Ev fa ρ fun x=>Ev fr ρ fun l=>P (x::l)):Ev (aw fa fr) ρ P:=tq (h.imp fun _ k=>kq (k.imp fun _ z=>⟨_,rfl,z⟩))
theorem b6 {P:ab D->Prop} (h:P []):Ev (rP af) ρ P:=aD (fun _=>rfl) h
theorem er (h:Ev fr ρ fun l=>l.length<=10/\P (.tup l)):Ev (rM fr cj) ρ P:=kq (h.imp fun l k=>⟨.tup l,by unfold cj szD;rw[qY (by unfold aK;omega)];rfl,k.2⟩)
theorem ua (h:Ev fr ρ fun l=>P (.lst l)):Ev (rM fr ka) ρ P:=kq (h.imp fun l k=>⟨.lst l,rfl,k⟩)
theorem sI {P:ab D->Prop} (h:Ev fr ρ fun l=>l.length<=10/\P l):Ev (rM fr szD) ρ P:=kq (h.imp fun l k=>⟨l,by unfold szD;rw[qY (by unfold aK;omega)],k.2⟩)
theorem fz {F:FQ'} (hs:∀q,(ρ q)[i]?=aa (aa (.pin q))) (h:Ev fr ρ fun ds=>EvF F ds P):Ev (aI F i fr) ρ P:=fun r=>by obtain⟨ds,r1,h1,h2⟩:=h r;obtain⟨d,r2,h3,h4⟩:=h2 r1;exact⟨d,r2,fun q=>by unfold aI;rw[hs,h1];exact h3 q,h4⟩
theorem iK (h:Es g (fun q=>aa (.pin q)::(ds.map (fun d=>aa (Slot.sh d))++bY n ac)) fun fl _=>∃d,fl=.rt d/\P d):EvF (cC n g) ds P:=fun r=>by obtain⟨fl,ρ',r1,h1,d,rfl,h2⟩:=h r;exact⟨d,r1,fun q=>by unfold cC;rw[h1];rfl,h2⟩
theorem MJ {m:aj} (h0:0<m) (h1:m<1000000000):EvF ba [.int m] fun d=>∃k,d=.int k/\0<=k/\k<m:=fun r=>
 ⟨.int (r%m),r / m,fun q=>by
  have e1:ib (.int r) (.int m)=aa (.int (r%m)):=by show(if 0<m then _ else _)=_;rw[qY h0]
  have e2:kZ (.int r) (.int m)=aa (.int (r / m)):=by show(if 0<m/\m<1073741824 then _ else _)=_;rw[qY ⟨h0,by omega⟩]
  simp only[ba,cC,aC,aV,r2,rb,rM,uq,rP,vSh,qp,qR,qr,qU,bY,qc,qb,qa,qd,e1,e2,vK,bI,zt,mW],
 _,rfl,yU _ (by omega),yV _ h0⟩
theorem cE {F:FE} {m:aj} (hs:∀q,(ρ q)[i]?=aa (aa (.pin q))) (hm:∀q,F (ρ q)=aa (.int m)) (h0:0<m) (h1:m<1000000000) (k:∀n:aj,0<=n->n<m->P (.int n)):Ev (aI ba i (aw (rP F) (rP af))) ρ P:=
 fz hs (aP (aD hm (b6 ((MJ h0 h1).imp fun d ⟨n,e,h2,h3⟩=>by rw[e];exact k n h2 h3))))
theorem i4 {F:FE} {m c:aj} {P:aU->Prop} (hs:∀q,(ρ q)[i]?=aa (aa (.pin q))) (hm:∀q,F (ρ q)=aa (.int m)) (h0:0<m) (h1:m<1000000000) (k:∀b,P b):Ev (rM (r2 eqD (aI ba i (aw (rP F) (rP af))) (rP (vC (.int c)))) blD) ρ P:=
 kq (dJ (cE hs hm h0 h1 fun n _ _=>aD (fun _=>rfl) ⟨_,rfl,_,rfl,k _⟩))
theorem M0 {F:FE} {m c:aj} {P:aU->Prop} (hs:∀q,(ρ q)[i]?=aa (aa (.pin q))) (hm:∀q,F (ρ q)=aa (.int m)) (h0:0<m) (h1:m<1000000000) (k:∀b,P b):Ev (rM (r2 neD (aI ba i (aw (rP F) (rP af))) (rP (vC (.int c)))) blD) ρ P:=
 kq (dJ (cE hs hm h0 h1 fun n _ _=>aD (fun _=>rfl) ⟨_,rfl,_,rfl,k _⟩))
theorem BW {F:FE} {m c:aj} (hs:∀q,(ρ q)[i]?=aa (aa (.pin q))) (hm:∀q,F (ρ q)=aa (.int m)) (h0:0<m) (h1:m<1000000000) (k:∀b,P (.bl b)):Ev (r2 eqD (aI ba i (aw (rP F) (rP af))) (rP (vC (.int c)))) ρ P:=
 dJ (cE hs hm h0 h1 fun n _ _=>aD (fun _=>rfl) ⟨_,rfl,k _⟩)
theorem tt {ft gt:(FRt aj)} {P:aU->Prop} (h:Ev ft ρ fun b=>if b=ai then Ev gt ρ P else P ao):Ev (kR ft gt) ρ P:=tq (h.imp fun b k=>by
 cases b with
 |true=>exact k
 |false=>exact fun r=>⟨ao,r,fun _=>rfl,k⟩)
theorem Ll {ft gt:(FRt aj)} {P:aU->Prop} (h:Ev ft ρ fun b=>if b=ai then P ai else Ev gt ρ P):Ev (rOr ft gt) ρ P:=tq (h.imp fun b k=>by
 cases b with
 |false=>exact k
 |true=>exact fun r=>⟨ai,r,fun _=>rfl,k⟩)
theorem cB (h:Ev f ρ fun d=>Es g (fun q=>(ρ q).set j (oS d)) R):Es (aC (aV j f) g) ρ R:=fun r=>by obtain⟨d,r1,h1,h2⟩:=h r;obtain⟨fl,ρ',r2,h3,h4⟩:=h2 r1;exact⟨fl,ρ',r2,fun q=>by unfold aC aV;rw[h1];exact h3 q,h4⟩
theorem Em (h:Ev f ρ fun d=>R .nx fun q=>(ρ q).set j (oS d)):Es (aV j f) ρ R:=fun r=>by obtain⟨d,r1,h1,h2⟩:=h r;exact⟨_,_,r1,fun q=>by unfold aV;rw[h1];rfl,h2⟩
theorem n4 (h:Ev fr ρ fun d=>Es g (fun q=>(ρ q).set j (aa (.own d))) R):Es (aC (fP j fr) g) ρ R:=fun r=>by obtain⟨d,r1,h1,h2⟩:=h r;obtain⟨fl,ρ',r2,h3,h4⟩:=h2 r1;exact⟨fl,ρ',r2,fun q=>by unfold aC fP;rw[h1];exact h3 q,h4⟩
theorem mY (hs:∀q,(ρ q)[j]?=aa (aa (.own ds))) (hl:ds.length<=1000) (h:Ev f ρ fun d=>R .nx fun q=>(ρ q).set j (aa (.own (ds++[d])))):Es (eL j f) ρ R:=fun r=>by obtain⟨d,r1,h1,h2⟩:=h r;exact⟨_,_,r1,fun q=>by unfold eL;rw[hs];show(f (ρ q) r).bind _=_;rw[h1];show(if _ then _ else _)=_;rw[qY (by unfold aK;omega)],h2⟩
theorem lb (hs:∀q,(ρ q)[j]?=aa (aa (.own ds))) (h:Es g (fun q=>(ρ q).set j (oS (.lst ds))) R):Es (fS j g) ρ R:=fun r=>by obtain⟨fl,ρ',r2,h3,h4⟩:=h r;exact⟨fl,ρ',r2,fun q=>by unfold fS;rw[hs];exact h3 q,h4⟩
theorem df (h:Ev f ρ fun d=>R (.rt d) ρ):Es (bI f) ρ R:=fun r=>by obtain⟨d,r1,h1,h2⟩:=h r;exact⟨_,ρ,r1,fun q=>by unfold bI;rw[h1];rfl,h2⟩
theorem eG {ft:(FRt aj)} (h:Ev ft ρ fun b=>Es (if b=ai then g else g') ρ R):Es (qIf ft g g') ρ R:=fun r=>by obtain⟨b,r1,h1,h2⟩:=h r;obtain⟨fl,ρ',r2,h3,h4⟩:=h2 r1;refine⟨fl,ρ',r2,fun q=>?_,h4⟩;unfold qIf;rw[h1];have:=h3 q;cases b<;>exact this
theorem eA (h:R .nx ρ):Es bZ ρ R:=fun r=>⟨.nx,ρ,r,fun _=>rfl,h⟩
theorem fQ (h:Es g ρ fun fl ρ'=>match fl with|.nx=>Es g' ρ' R|fl=>R fl ρ'):Es (aC g g') ρ R:=fun r=>by
 obtain⟨fl,ρ',r1,h1,h2⟩:=h r;cases fl with
 |nx=>
  obtain⟨fl,ρ2,r2,h3,h4⟩:=h2 r1;exact⟨fl,ρ2,r2,fun q=>by unfold aC;rw[h1];exact h3 q,h4⟩
 |_=>exact⟨_,ρ',r1,fun q=>by unfold aC;rw[h1];rfl,h2⟩
theorem uR {fi:(FRa aj)} (I:ag->dy->Prop) (h:Ev fi ρ fun xs=>I 0 ρ/\(∀i x ρ,xs[i]?=aa x->I i ρ->∃ρ1,(∀q,gg x (ρ q)=aa (ρ1 q))/\Es g ρ1 fun fl ρ2=>fl=.nx/\I (i+1) ρ2)/\∀ρ,I xs.length ρ->R .nx ρ):Es (iI fi gg g) ρ R:=fun r=>by
 obtain⟨xs,r1,h1,h0,hs,he⟩:=h r;have key:∀(n i:ag) (ρ:dy) (r:aj),i+n=xs.length->I i ρ->∃ρ' r',(∀q,nF gg g (xs.drop i) (ρ q) r=aa (.nx,ρ' q,r'))/\I xs.length ρ':=by
  intro n
  induction n with
  |zero=>
   intro i ρ r hi hI;have e:i=xs.length:=by omega
   subst e;exact⟨ρ,r,fun q=>by rw[rZ];rfl,hI⟩
  |succ n ih=>
   intro i ρ r hi hI;have hlt:i<xs.length:=by omega
   obtain⟨ρ1,h2,h3⟩:=hs i xs[i] ρ (by simp[hlt]) hI;obtain⟨fl,ρ2,r2,h4,rfl,h5⟩:=h3 r;obtain⟨ρ3,r3,h6,h7⟩:=ih (i+1) ρ2 r2 (by omega) h5;refine⟨ρ3,r3,fun q=>?_,h7⟩;rw[ou hlt];unfold nF;rw[h2,qa,h4,qa];exact h6 q
 obtain⟨ρ',r',h2,h3⟩:=key xs.length 0 ρ r1 (by omega) h0;exact⟨.nx,ρ',r',fun q=>by unfold iI;rw[h1];have:=h2 q;rwa [lN] at this,he ρ' h3⟩
theorem tN {P:ab D->Prop} (h:Ev fr ρ fun l=>∃n:aj,l=[.int n]/\0<=n/\n<=1000/\P ((di n.toNat).map fun i:ag=>D.int (0+i))):Ev (rM fr gq) ρ P:=kq (h.imp fun l ⟨n,e,h0,h1,k⟩=>⟨_,by rw[e];exact Cz ⟨h0,by omega⟩,k⟩)
theorem xI {fi:(FRa aj)} {ft:(FRt aj)} {fe:(FR aj)} {σ:D->dy} {Q:ab D->Prop} (h:Ev fi ρ fun xs=>xs.length<=1000/\∃(S:ag->ab D->Prop),S 0 []/\(∀i x l,xs[i]?=aa x->S i l->Ev ft (σ x) fun b=>if b=ai then Ev fe (σ x) fun d=>S (i+1) (l++[d]) else S (i+1) l)/\∀l,S xs.length l->Q l)
  (hσ:∀x q,(fvR fv (ρ q)).set 0 (oS x)=σ x q) (hσ2:∀x y q,(σ x q).set 0 (oS y)=σ y q):Ev (iB fi (aM 0) ft fe fv) ρ Q:=fun r=>by
 obtain⟨xs,r1,h1,hl,S,h0,hs,he⟩:=h r;have key:∀(n i:ag) (l:ab D) (τ:dy) (r:aj),i+n=xs.length->(∀x q,(τ q).set 0 (oS x)=σ x q)->S i l->∃m r',(∀q,j1 (aM 0) ft fe (xs.drop i) (τ q) r=aa (m,r'))/\S xs.length (l++m):=by
  intro n
  induction n with
  |zero=>
   intro i l τ r hi _ hI;have e:i=xs.length:=by omega
   subst e;exact⟨[],r,fun q=>by rw[rZ];rfl,by rw[eX];exact hI⟩
  |succ n ih=>
   intro i l τ r hi hτ hI;have hlt:i<xs.length:=by omega
   obtain⟨b,r2,h2,h3⟩:=hs i xs[i] l (by simp[hlt]) hI r;cases b with
   |false=>
    obtain⟨m,r3,h4,h5⟩:=ih (i+1) l (σ xs[i]) r2 (by omega) (fun y q=>hσ2 _ _ _) h3;refine⟨m,r3,fun q=>?_,h5⟩;rw[ou hlt];unfold j1 aM;rw[hτ,qa,h2,qa];exact h4 q
   |true=>
    obtain⟨d,r3,h4,h5⟩:=h3 r2;obtain⟨m,r4,h6,h7⟩:=ih (i+1) (l++[d]) (σ xs[i]) r3 (by omega) (fun y q=>hσ2 _ _ _) h5;refine⟨d::m,r4,fun q=>?_,by rw[qA] at h7;exact h7⟩;rw[ou hlt];unfold j1 aM;rw[hτ,qa,h2,qa];show(if ai=ai then _ else _)=_;rw[qY rfl,h4,qa];have:=h6 q;unfold aM at this;show(j1 _ ft fe (xs.drop (i+1)) (σ xs[i] q) r3).map _=_;rw[this];rfl
 obtain⟨m,r',h2,h3⟩:=key xs.length 0 [] (fun q=>fvR fv (ρ q)) r1 (by omega) hσ h0;refine⟨m,r',fun q=>?_,he _ h3⟩;unfold iB rb;rw[h1,qa];show(if xs.length<=aK then _ else _)=_;rw[qY (by unfold aK;omega)];have:=h2 q
 rwa [lN] at this
end
theorem kL {g g':(FRs aj)} {ρ:dy} {R:Fl->dy->Prop} (h:Es g ρ fun fl ρ'=>fl=.nx/\Es g' ρ' R):Es (aC g g') ρ R:=fQ (h.imp fun fl ρ' ⟨e,k⟩=>by subst e;exact k)
noncomputable def nK:ab ah:=["","x","low","abcdef"]
noncomputable def bN (p:ah):ab ah:=["a"++p,"b"++p]
noncomputable def sN (p:ah):ab ah:=[p++"s",p++"t",p++"u"]
theorem zx:∀p∈nK,(bN p).Nodup/\(∀x∈bN p,bB x=ai):=by decide +kernel
theorem EA:∀p∈nK,(sN p).Nodup/\(∀x∈sN p,bB x=ai):=by decide +kernel
theorem Af:∀p∈nK,p.length<=6:=by decide +kernel
theorem px {i j:ah} (h:i.length+j.length<=100):bA (.str i) (.str j)=aa (.str (i++j)):=by show(if i.length+j.length<=aK then _ else _)=_;rw[qY (by unfold aK;omega)]
theorem yp {k:aj} (h0:0<=k) (h1:k<2):k=0\/k=1:=by omega
theorem G7 {k:aj} (h0:0<=k) (h1:k<3):k=0\/k=1\/k=2:=by omega
abbrev beE (p:ah) (h:aj) (bs:ab BenchT) (a b c:aq Slot):dy:=fun q=>[aa (.pin q),oS (.str p),oS (.int h),aa (.own (bs.map cV)),a,b,c]
theorem M6 {p:ah} (hp:p∈nK) {h:aj} (h2:2<=h) (h5:h<=5):EvF rf [.str p,.int h] fun d=>∃bs:ab BenchT,d=.lst (bs.map cV)/\1<=bs.length/\bs.length<=2/\(∀b∈bs,GoodB h b)/\bs.map (·.nm)=(bN p).take bs.length:=by
 unfold rf;refine iK (n4 (aD (fun _=>rfl) (kL ?_)));refine uR (fun i ρ=>i<=2/\∃(bs:ab BenchT) (a b c:aq Slot),ρ=beE p h bs a b c/\bs.length=i/\(∀b∈bs,GoodB h b)/\bs.map (·.nm)=(bN p).take i) (tN (aP (dJ (aD (fun _=>rfl) (cE (fun _=>rfl) (fun _=>rfl) (by decide) (by decide) fun n h0 h1=>⟨.int (1+n),rfl,b6 ⟨1+n,rfl,by omega,by omega,⟨fu _,[],ac,ac,ac,rfl,rfl,(fun _ z=>nomatch z),rfl⟩,?_,?_⟩⟩)))))
 .rintro i x ρ hx ⟨hi,bs,a,b,c,rfl,hl,hg,hn⟩;rw[ql] at hx;obtain⟨k,hk,rfl⟩:=oMd hx;have hk':=gA.mp hk;obtain⟨hlt,hk2⟩:=hk';rw[Q0] at hk2;subst hk2;rw[qW] at hlt;have hi2:i<2:=by omega
  refine⟨_,fun _=>rfl,cB (aD (fun _=>rfl) (kL ?_))⟩;have step:Es (qIf (rM (r2 eqD (aI ba 0 (aw (rP (vC (.int 3))) (rP af))) (rP (vC (.int 1)))) blD) (aC (aV 6 (aI ba 0 (aw (rP (vSh 2)) (rP af)))) (aV 5 (rM (rM (aw (rM (aw (rP (vSh 6)) (aw (r2 bA (rP (b2 bA (vSh 6) (vC (.int 1)))) (aI ba 0 (aw (rP (b2 eB (vSh 2) (vSh 6))) (rP af)))) (rP af))) cj) (rP af)) szD) ka))) bZ) (beE p h bs (oS (.int (0+(i:aj)))) (oS (.lst [])) c) fun fl ρ'=>fl=.nx/\∃(br:ab (aj×aj)) (c:aq Slot),ρ'=beE p h bs (oS (.int (0+(i:aj)))) (oS (.lst (br.map dIv))) c/\br.length<=1/\∀p∈br,0<=p.1/\p.1<p.2/\p.2<=h:=by
   refine eG (i4 (fun _=>rfl) (fun _=>rfl) (by decide) (by decide) fun b=>?_);cases b with
   |false=>exact eA ⟨rfl,[],c,rfl,by decide,fun _ z=>nomatch z⟩
   |true=>
    refine cB (cE (m:=h) (fun _=>rfl) (fun _=>rfl) (by omega) (by omega) fun n h0 h1=>?_);refine Em (ua (sI (aP (er (aP (aD (fun _=>rfl) ?_))))));refine aP (dJ (aD (fun _=>rfl) (cE (m:=h-n) (fun _=>rfl) (fun _=>rfl) (by omega) (by omega) fun k k0 k1=>?_)));refine⟨_,rfl,b6 ⟨by simp,b6 ⟨by simp,rfl,[(n,n+1+k)],_,rfl,by simp,fun p hp=>?_⟩⟩⟩;rw[ce.mp hp];exact⟨h0,by show n<n+1+k;omega,by show n+1+k<=h;omega⟩
  refine step.imp ?_;rintro _ _ ⟨rfl,br,c,rfl,hbl,hbr⟩;refine⟨rfl,?_⟩;have hpl:=Af p hp;have nm:∃x,(bN p)[i]?=aa x/\b2 bA (b2 ixD (vC (.str "ab")) (vSh 4)) (vSh 1)=b2 bA (b2 ixD (vC (.str "ab")) (vSh 4)) (vSh 1)/\∀q,b2 bA (b2 ixD (vC (.str "ab")) (vSh 4)) (vSh 1) (beE p h bs (oS (.int (0+(i:aj)))) (oS (.lst (br.map dIv))) c q)=aa (.str x):=by
   have:i=0\/i=1:=by omega
   rcases this with rfl|rfl
   .exact⟨"a"++p,rfl,rfl,fun q=>aY (x:=.str "a") rfl rfl (px (by show 1+p.length<=100;omega))⟩
   .exact⟨"b"++p,rfl,rfl,fun q=>aY (x:=.str "b") rfl rfl (px (by show 1+p.length<=100;omega))⟩
  obtain⟨x,hx1,_,hx2⟩:=nm;refine mY (ds:=bs.map cV) (fun _=>rfl) (by rw[qe];omega) (aD (a:=cV ⟨x,br⟩) (fun q=>?_) ⟨rfl,by omega,bs++[⟨x,br⟩],(oS (.int (0+(i:aj)))),(oS (.lst (br.map dIv))),c,by unfold beE;rw[f9];rfl,by rw[qk,qX];omega,fun b hb=>?_,?_⟩)
  .unfold b5 szF;rw[aQ (hx2 q) (aQ (show vSh 5 _=aa (.lst (br.map dIv)) from rfl) bc)];rfl
  .rcases gz.mp hb with hb|hb
   .exact hg b hb
   .rw[ce.mp hb];refine⟨(zx p hp).2 x (qS hx1),by show br.length<=10;omega,hbr,fun i p q e1 e2=>?_⟩;have:=(gA.mp e2).1;simp only at this;omega
  .rw[f9,hn,oA,hx1];rfl
 .rintro ρ ⟨hi,bs,a,b,c,rfl,hl,hg,hn⟩;rw[qe,qW] at hl hn;refine⟨rfl,lb (ds:=bs.map cV) (fun _=>rfl) (df (aD (fun _=>rfl) ⟨_,rfl,bs,rfl,by omega,by omega,hg,by rw[hl];exact hn⟩))⟩
theorem l5 {f:α->D} {xs:ab α} {n:aj} (h0:0<=n) (h1:n<xs.length):∃x,xs[n.toNat]?=aa x/\x∈xs/\ixD (.lst (xs.map f)) (.int n)=aa (f x):=by
 have hl:n.toNat<xs.length:=by omega
 refine⟨xs[n.toNat],by simp[hl],P4 hl,?_⟩;have e:ixD (.lst (xs.map f)) (.int n)=ixD (.lst (xs.map f)) (.int (n.toNat:aj)):=by rw[show(n.toNat:aj)=n by omega]
 rw[e,ixL,ql];simp[hl]
theorem jv {f:α->D} {xs:ab α} (h:vSh i ρ=aa (.lst (xs.map f))):cF bS (ae (vSh i) af) ρ=aa (.int xs.length):=by refine bw (aQ h bc) ?_;show aa (D.int ((xs.map f).length:ag))=_;rw[qe]
theorem Dl {n:aj} {x:D} (hx:((di n.toNat).map fun i:ag=>D.int (0+i))[i]?=aa x):x=.int (0+(i:aj))/\(i:aj)<n:=by rw[ql] at hx;obtain⟨k,hk,rfl⟩:=oMd hx;obtain⟨hlt,hk2⟩:=gA.mp hk;rw[Q0] at hk2;subst hk2;rw[qW] at hlt;exact⟨rfl,by omega⟩
abbrev stE (p:ah) (bs:ab BenchT) (h:aj) (ss:ab StepT) (a b c:aq Slot):dy:=fun q=>[aa (.pin q),oS (.str p),oS (.lst (bs.map cV)),oS (.int h),aa (.own (ss.map c8)),a,b,c]
abbrev xE (f:FE):(FR aj):=rM (aw (rP f) (aw (r2 bA (rP (vC (.int 1))) (aI ba 0 (aw (rP (cF lr (ae (vC (.int 3)) (ae (vSh 3) af)))) (rP af)))) (rP af))) cj
theorem CK {p:ah} {bs:ab BenchT} {h:aj} {a b c:aq Slot} {P:D->Prop} (h2:2<=h) (hf:∀q,f (stE p bs h ss a b c q)=aa (.str x)) (k:∀n,1<=n->n<=h->P (dW (x,n))):Ev (xE f) (stE p bs h ss a b c) P:=by refine er (aP (aD hf (aP (dJ (aD (fun _=>rfl) (cE (m:=if h<3 then h else 3) (fun _=>rfl) (fun _=>rfl) (by split<;>omega) (by split<;>omega) fun n h0 h1=>⟨_,rfl,b6 ⟨by simp,k _ (by omega) ?_⟩⟩))))));split at h1<;>omega
theorem OS {p:ah} (hp:p∈nK) {bs:ab BenchT} {h:aj} (h2:2<=h) (b1:1<=bs.length) (b2':bs.length<=2) (nd:(bs.map (·.nm)).Nodup):EvF oX [.str p,.lst (bs.map cV),.int h] fun d=>∃ss:ab StepT,d=.lst (ss.map c8)/\1<=ss.length/\ss.length<=3/\(∀s∈ss,GoodS (bs.map (·.nm)) h s)/\ss.map (·.nm)=(sN p).take ss.length:=by
 unfold oX;refine iK (n4 (aD (fun _=>rfl) (kL ?_)));refine uR (fun i ρ=>i<=3/\∃(ss:ab StepT) (a b c:aq Slot),ρ=stE p bs h ss a b c/\ss.length=i/\(∀s∈ss,GoodS (bs.map (·.nm)) h s)/\ss.map (·.nm)=(sN p).take i) (tN (aP (dJ (aD (fun _=>rfl) (cE (fun _=>rfl) (fun _=>rfl) (by decide) (by decide) fun n h0 h1=>⟨.int (1+n),rfl,b6 ⟨1+n,rfl,by omega,by omega,⟨fu _,[],ac,ac,ac,rfl,rfl,(fun _ z=>nomatch z),rfl⟩,?_,?_⟩⟩)))))
 .rintro i x ρ hx ⟨hi,ss,a,b,c,rfl,hl,hg,hn⟩;obtain⟨rfl,hlt⟩:=Dl hx;have hi3:i<3:=by omega
  refine⟨stE p bs h ss (oS (.int (0+(i:aj)))) b c,fun _=>rfl,?_⟩;refine cB (cE (m:=(bs.length:aj)) (fun _=>rfl) (fun _=>jv rfl) (by omega) (by omega) fun at' a0 a1=>?_);obtain⟨bn,e1,e2,e3⟩:=l5 (f:=cV) (xs:=bs) a0 a1;have ix1:∀(c:aq Slot) q,L2.b2 ixD (L2.b2 ixD (vSh 2) (vSh 6)) (vC (.int 0)) (stE p bs h ss (oS (.int (0+(i:aj)))) (oS (.int at')) c q)=aa (.str bn.nm):=fun c q=>aY (aY rfl rfl e3) rfl eQ;refine n4 (sI (aP (CK (a:=oS (.int (0+(i:aj)))) (b:=oS (.int at')) (c:=c) (x:=bn.nm) h2 (ix1 c) fun n n0 n1=>b6 ⟨by simp,kL ?_⟩)));have step:Es (qIf (kR (rP (toB (L2.b2 eqD (cF bS (ae (vSh 2) af)) (vC (.int 2))))) (kR (rM (r2 eqD (aI ba 0 (aw (rP (vC (.int 3))) (rP af))) (rP (vC (.int 1)))) blD) (rP (toB (L2.b2 ltD (vSh 5) (vC (.int 2))))))) (eL 7 (xE (L2.b2 ixD (L2.b2 ixD (vSh 2) (L2.b2 eB (vC (.int 1)) (vSh 6))) (vC (.int 0))))) bZ) (stE p bs h ss (oS (.int (0+(i:aj)))) (oS (.int at')) (aa (.own ([(bn.nm,n)].map dW)))) fun fl ρ'=>fl=.nx/\∃ws:ab (ah×aj),ρ'=stE p bs h ss (oS (.int (0+(i:aj)))) (oS (.int at')) (aa (.own (ws.map dW)))/\1<=ws.length/\ws.length<=4/\(∀w∈ws,w.1∈bs.map (·.nm)/\1<=w.2/\w.2<=h)/\(ws.map (·.1)).Nodup:=by
   have one:∀w∈[(bn.nm,n)],w.1∈bs.map (·.nm)/\1<=w.2/\w.2<=h:=fun w hw=>by rw[ce.mp hw];exact⟨sq e2,n0,n1⟩
   refine eG (tt (aD (a:=decide ((bs.length:aj)=2)) (fun _=>bW (aY (jv rfl) rfl rfl)) ?_));by_cases hb:(bs.length:aj)=2
   .rw[qV hb,qY rfl];refine tt (i4 (fun _=>rfl) (fun _=>rfl) (by decide) (by decide) fun b=>?_);have no:∀b:aU,b=ao->Es (if b=ai then eL 7 (xE (L2.b2 ixD (L2.b2 ixD (vSh 2) (L2.b2 eB (vC (.int 1)) (vSh 6))) (vC (.int 0)))) else bZ) (stE p bs h ss (oS (.int (0+(i:aj)))) (oS (.int at')) (aa (.own ([(bn.nm,n)].map dW)))) fun fl ρ'=>fl=.nx/\∃ws:ab (ah×aj),ρ'=stE p bs h ss (oS (.int (0+(i:aj)))) (oS (.int at')) (aa (.own (ws.map dW)))/\1<=ws.length/\ws.length<=4/\(∀w∈ws,w.1∈bs.map (·.nm)/\1<=w.2/\w.2<=h)/\(ws.map (·.1)).Nodup:=fun b hb=>by subst hb;exact eA ⟨rfl,[(bn.nm,n)],rfl,by simp,by simp,one,by simp⟩
    cases b with
    |false=>exact no ao rfl
    |true=>
     refine aD (a:=decide ((0+(i:aj))<2)) (fun _=>rfl) ?_;by_cases h2':(0+(i:aj))<2
     .rw[qV h2',qY rfl];obtain⟨bm,f1,f2,f3⟩:=l5 (f:=cV) (xs:=bs) (n:=1-at') (by omega) (by omega);refine mY (ds:=[(bn.nm,n)].map dW) (fun _=>rfl) (by simp) (CK (c:=aa (.own ([(bn.nm,n)].map dW))) (x:=bm.nm) h2 (fun q=>aY (aY rfl (aY rfl rfl rfl) f3) rfl eQ) fun m m0 m1=>⟨rfl,[(bn.nm,n),(bm.nm,m)],rfl,by simp,by simp,fun w hw=>?_,?_⟩)
      .rcases eC.mp hw with rfl|hw
       .exact one _ qf
       .rw[ce.mp hw];exact⟨sq f2,m0,m1⟩
      .have ne:bn.nm≠bm.nm:=fun e=>by
        have g1:(bs.map (·.nm))[at'.toNat]?=aa bn.nm:=by rw[ql,e1];rfl
        have g2:(bs.map (·.nm))[(1-at').toNat]?=aa bn.nm:=by rw[ql,f1,e];rfl
        have:=(F7 (i:=at'.toNat) (j:=(1-at').toNat) (by rw[qe];omega) nd).mp (g1.trans g2.symm);omega
       simp[ne]
     .rw[qQ h2'];exact no ao rfl
   .rw[qQ hb,qZ (by decide)];exact eA ⟨rfl,[(bn.nm,n)],rfl,by simp,by simp,one,by simp⟩
  refine step.imp ?_;rintro _ _ ⟨rfl,ws,rfl,w1,w4,hw,wnd⟩;refine⟨rfl,lb (ds:=ws.map dW) (fun _=>rfl) ?_⟩;have hpl:=Af p hp;have nm:∃x,(sN p)[i]?=aa x/\∀(c:aq Slot) q,L2.b2 bA (vSh 1) (L2.b2 ixD (vC (.str "stu")) (vSh 5)) (stE p bs h ss (oS (.int (0+(i:aj)))) (oS (.int at')) c q)=aa (.str x):=by
   have:i=0\/i=1\/i=2:=by omega
   rcases this with rfl|rfl|rfl
   .exact⟨p++"s",rfl,fun c q=>aY (y:=.str "s") rfl rfl (px (by show p.length+1<=100;omega))⟩
   .exact⟨p++"t",rfl,fun c q=>aY (y:=.str "t") rfl rfl (px (by show p.length+1<=100;omega))⟩
   .exact⟨p++"u",rfl,fun c q=>aY (y:=.str "u") rfl rfl (px (by show p.length+1<=100;omega))⟩
  obtain⟨x,hx1,hx2⟩:=nm;refine mY (ds:=ss.map c8) (fun _=>rfl) (by rw[qe];omega) (er (aP (aD (hx2 _) (aP (dJ (aD (fun _=>rfl) (cE (fun _=>rfl) (fun _=>rfl) (by decide) (by decide) fun n k0 k1=>?_)))))));have fin:∀kd:ah,bB kd=ai->Ev (aw (rP (vSh 7)) (rP af)) (stE p bs h ss (oS (.int (0+(i:aj)))) (oS (.int at')) (oS (.lst (ws.map dW)))) fun l=>([D.str x,D.str kd]++l).length<=10/\(fun d=>((Fl.nx:Fl)=.nx/\i+1<=3/\∃(ss':ab StepT) (a b c:aq Slot),(fun q=>(stE p bs h ss (oS (.int (0+(i:aj)))) (oS (.int at')) (oS (.lst (ws.map dW))) q).set 4 (aa (.own (ss.map c8++[d]))))=stE p bs h ss' a b c/\ss'.length=i+1/\(∀s∈ss',GoodS (bs.map (·.nm)) h s)/\ss'.map (·.nm)=(sN p).take (i+1))) (.tup ([D.str x,D.str kd]++l)):=fun kd hk=>by
   refine aP (aD (fun _=>rfl) (b6 ⟨by simp,rfl,by omega,ss++[⟨x,kd,ws⟩],_,_,_,by unfold stE;rw[f9];rfl,by rw[qk,qX];omega,fun s hs=>?_,by rw[f9,hn,oA,hx1];rfl⟩));rcases gz.mp hs with hs|hs
   .exact hg s hs
   .rw[ce.mp hs];exact⟨(EA p hp).2 x (qS hx1),hk,w1,w4,hw,wnd⟩
  rcases yp k0 k1 with rfl|rfl
  .exact⟨.str "k",rfl,fin "k" (by decide +kernel)⟩
  .exact⟨.str "m",rfl,fin "m" (by decide +kernel)⟩
 .rintro ρ ⟨hi,ss,a,b,c,rfl,hl,hg,hn⟩;rw[qe,qW] at hl hn;refine⟨rfl,lb (ds:=ss.map c8) (fun _=>rfl) (df (aD (fun _=>rfl) ⟨_,rfl,ss,rfl,by omega,by omega,hg,by rw[hl];exact hn⟩))⟩
theorem IH {xs:ab D} {d:aj} (h:0<=d):nr ac (aa d) (.lst xs)=aa (.lst (xs.take d.toNat)):=by
 show aa (D.lst (fB xs ac (aa d)))=_;unfold fB HT.sIx;simp only;rw[qZ (by omega),lN,Nat.sub_zero]
 congr 2
 rw[Q1];split
 .rfl
 .rw[vh (qy _),vh (by omega)]
theorem Ci {xs:ab D} {d:aj} (h:0<=d):nr (aa d) ac (.lst xs)=aa (.lst (xs.drop d.toNat)):=by
 show aa (D.lst (fB xs (aa d) ac))=_;unfold fB HT.sIx;simp only;rw[qZ (by omega)]
 congr 2
 rw[Q1];split
 .rw[vh (by rw[iq];omega)]
 .rw[Q2 (qy _),Q2 (by omega)];simp
theorem Lm {g:FE} {xs:ab D} {d:aj} (h1:f ρ=aa (.lst xs)) (h2:g ρ=aa (.int d)) (h:0<=d):slF f pN (pS g) ρ=aa (.lst (xs.take d.toNat)):=by unfold slF pN pS;rw[h1,h2];exact IH h
theorem Hj {g:FE} {xs:ab D} {d:aj} (h1:f ρ=aa (.lst xs)) (h2:g ρ=aa (.int d)) (h:0<=d):slF f (pS g) pN ρ=aa (.lst (xs.drop d.toNat)):=by unfold slF pN pS;rw[h1,h2];exact Ci h
abbrev lkE (ns:ab ah) (h:aj) (a b c:aq Slot):dy:=fun q=>[aa (.pin q),oS (.lst (ns.map D.str)),oS (.int h),a,b,c]
theorem OW:bB "job"=ai:=by decide +kernel
theorem Gj:bB "more"=ai:=by decide +kernel
theorem JU:bB "store"=ai:=by decide +kernel
theorem GX {h:aj} (h2:2<=h) (n1:1<=ns.length) (n3:ns.length<=3) (nd:ns.Nodup):EvF oN [.lst (ns.map D.str),.int h] fun d=>∃ls:ab LinkT,d=.lst (ls.map ef)/\ls.length<=2/\(∀l∈ls,GoodL ns h l)/\(ls.map fun l=>[l.a,l.b]).Nodup:=by
 unfold oN;refine iK (fQ (eG (Ll (aD (a:=decide ((ns.length:aj)<2)) (fun _=>bW (aY (jv rfl) rfl rfl)) ?_))));by_cases hn:(ns.length:aj)<2
 .rw[qV hn,qY rfl,qY rfl];exact df (aD (fun _=>rfl) ⟨_,rfl,[],rfl,by simp,(fun _ z=>nomatch z),by simp⟩)
 rw[qQ hn,qZ (by decide)];refine M0 (fun _=>rfl) (fun _=>rfl) (by decide) (by decide) fun b=>?_;cases b with
 |true=>exact df (aD (fun _=>rfl) ⟨_,rfl,[],rfl,by simp,(fun _ z=>nomatch z),by simp⟩)
 |false=>
  refine eA ?_;show Es _ (lkE ns h ac ac ac) _;refine cB (cE (m:=(ns.length:aj)) (fun _=>rfl) (fun _=>jv rfl) (by omega) (by omega) fun at' a0 a1=>?_);refine cB (dJ (dJ (aD (fun _=>rfl) (cE (m:=(ns.length:aj)-1) (fun _=>rfl) (fun _=>aY (jv rfl) rfl rfl) (by omega) (by omega) fun k k0 k1=>⟨_,rfl,aD (fun _=>jv rfl) ⟨.int ((at'+1+k)%ns.length),by show(if (0:aj)<ns.length then _ else _)=_;rw[qY (by omega)],?_⟩⟩))));have o0:0<=(at'+1+k)%(ns.length:aj):=yU _ (by omega);have o1:(at'+1+k)%(ns.length:aj)<ns.length:=yV _ (by omega);have one:(at'+1+k)%(ns.length:aj)≠at':=by
   have:ns.length=2\/ns.length=3:=by omega
   rcases this with e|e<;>rw[e] at k1 a1 ⊢<;>omega
  generalize (at'+1+k)%(ns.length:aj)=ot at o0 o1 one;obtain⟨x,e1,e2,e3⟩:=l5 (f:=D.str) (xs:=ns) a0 a1;obtain⟨y,f1,f2,f3⟩:=l5 (f:=D.str) (xs:=ns) o0 o1;have ne:x≠y:=fun e=>by have:=(F7 (i:=at'.toNat) (j:=ot.toNat) (by omega) nd).mp (by rw[e1,f1,e]);omega
  refine n4 (sI (aP (er (aP (aD (a:=.str x) (fun _=>aY rfl rfl e3) (aP (aD (a:=.str y) (fun _=>aY rfl rfl f3) (aP (cE (m:=if h+1<3 then h+1 else 3) (fun _=>rfl) (fun _=>rfl) (by split<;>omega) (by split<;>omega) fun g g0 g1=>b6 ⟨by simp,b6 ⟨by simp,kL ?_⟩⟩)))))))));have l1:GoodL ns h ⟨x,y,g⟩:=⟨e2,f2,ne,g0,by show g<=h;split at g1<;>omega⟩;refine eG (i4 (fun _=>rfl) (fun _=>rfl) (by decide) (by decide) fun b=>?_);cases b with
  |false=>exact eA ⟨rfl,lb (ds:=[⟨x,y,g⟩].map ef) (fun _=>rfl) (df (aD (fun _=>rfl) ⟨_,rfl,[⟨x,y,g⟩],rfl,by simp,fun l hl=>by rw[ce.mp hl];exact l1,by simp⟩))⟩
  |true=>
   refine mY (ds:=[⟨x,y,g⟩].map ef) (fun _=>rfl) (by simp) (aD (a:=ef ⟨y,x,0⟩) (fun q=>?_) ⟨rfl,lb (ds:=[⟨x,y,g⟩,⟨y,x,0⟩].map ef) (fun _=>rfl) (df (aD (fun _=>rfl) ⟨_,rfl,[⟨x,y,g⟩,⟨y,x,0⟩],rfl,by simp,fun l hl=>?_,by simp[ne]⟩))⟩)
   .unfold b5 szF;rw[aQ (aY rfl rfl f3) (aQ (aY rfl rfl e3) (aQ rfl bc))];rfl
   .rcases eC.mp hl with rfl|hl
    .exact l1
    .rw[ce.mp hl];exact⟨f2,e2,em ne,F8 _,by show(0:aj)<=h;omega⟩
abbrev joE (ns:ab ah) (h:aj) (a b c d:aq Slot):dy:=fun q=>[aa (.pin q),oS (.lst (ns.map D.str)),oS (.int h),a,b,c,d]
theorem Er {ρ:dy} {P:D->Prop} (hs:∀q,(ρ q)[0]?=aa (aa (.pin q))) (k:∀n:aj,0<=n->n<=1->P (.int n)):Ev (r2 ixD (rP (aL (szF (ae (vC (.int 0)) (ae (vC (.int 0)) (ae (vC (.int 1)) af)))))) (aI ba 0 (aw (rP (vC (.int 3))) (rP af)))) ρ P:=by
 refine dJ (aD (fun _=>rfl) (cE hs (fun _=>rfl) (by decide) (by decide) fun n h0 h1=>?_));rcases G7 h0 h1 with rfl|rfl|rfl
 .exact⟨.int 0,rfl,k _ (by decide) (by decide)⟩
 .exact⟨.int 0,rfl,k _ (by decide) (by decide)⟩
 .exact⟨.int 1,rfl,k _ (by decide) (by decide)⟩
theorem NA {h:aj} (h2:2<=h) (n1:1<=ns.length) (n3:ns.length<=3) (nd:ns.Nodup):EvF pE [.lst (ns.map D.str),.int h] fun d=>∃js:ab JobT,d=.lst (js.map bF)/\js.length<=2/\(∀j∈js,GoodJ ns h j)/\(js.map (·.nm)).Nodup/\(js.flatMap (·.ms)).Nodup:=by
 unfold pE;refine iK (fQ (eG (i4 (fun _=>rfl) (fun _=>rfl) (by decide) (by decide) fun b=>?_)));cases b with
 |true=>exact df (aD (fun _=>rfl) ⟨_,rfl,[],rfl,by simp,(fun _ z=>nomatch z),by simp,by simp⟩)
 |false=>
  refine eA ?_;show Es _ (joE ns h ac ac ac ac) _;refine cB (dJ (aD (fun _=>rfl) (cE (m:=(ns.length:aj)) (fun _=>rfl) (fun _=>jv rfl) (by omega) (by omega) fun k k0 k1=>⟨.int (1+k),rfl,?_⟩)));generalize hm:1+k=m;have m0:1<=m:=by omega
  have m1:m<=ns.length:=by omega
  refine cB (aD (a:=.lst ((ns.take m.toNat).map D.str)) (fun _=>by rw[List.map_take];exact Lm rfl rfl (by omega)) (kL ?_));have step:Es (qIf (rM (r2 eqD (aI ba 0 (aw (rP (vC (.int 2))) (rP af))) (rP (vC (.int 1)))) blD) (aV 4 (rP (b1 sK (vSh 4)))) bZ) (joE ns h (oS (.int m)) (oS (.lst ((ns.take m.toNat).map D.str))) ac ac) fun fl ρ'=>fl=.nx/\∃ms:ab ah,ρ'=joE ns h (oS (.int m)) (oS (.lst (ms.map D.str))) ac ac/\ms.Perm (ns.take m.toNat):=by
   refine eG (i4 (fun _=>rfl) (fun _=>rfl) (by decide) (by decide) fun b=>?_);cases b with
   |false=>exact eA ⟨rfl,_,rfl,.refl _⟩
   |true=>exact Em (aD (a:=.lst (((ns.take m.toNat).reverse).map D.str)) (fun _=>by rw[List.map_reverse];rfl) ⟨rfl,_,rfl,List.reverse_perm _⟩)
  refine step.imp ?_;rintro _ _ ⟨rfl,ms,rfl,pm⟩;refine⟨rfl,cB (Er (fun _=>rfl) fun ea ea0 ea1=>?_)⟩;have ml:ms.length=m.toNat:=by rw[pm.length_eq,qH];omega
  have gj:∀n b,0<=n->n<=1->GoodJ ns h ⟨"job",ea,h-n,b,ms⟩:=fun n b n0 n1=>⟨OW,⟨ea0,by show ea<=h;omega⟩,⟨by show 0<=h-n;omega,by show h-n<=h;omega⟩,by show 1<=ms.length;omega,by show ms.length<=ns.length;omega,fun x hx=>y6 (pm.mem_iff.mp hx)⟩;have ndm:ms.Nodup:=pm.nodup_iff.mpr (nd.sublist (oi _ _));refine n4 (sI (aP (er (aP (aD (fun _=>rfl) (aP (aD (fun _=>rfl) (aP (dJ (aD (fun _=>rfl) (Er (fun _=>rfl) fun n z0 z1=>⟨.int (h-n),rfl,aP (BW (fun _=>rfl) (fun _=>rfl) (by decide) (by decide) fun b=>aP (aD (fun _=>rfl) (b6 ⟨by simp,b6 ⟨by simp,kL ?_⟩⟩)))⟩)))))))))));refine eG (tt (aD (a:=decide (m<(ns.length:aj))) (fun _=>bW (aY rfl (jv rfl) rfl)) ?_));have no:Es bZ (joE ns h (oS (.int m)) (oS (.lst (ms.map D.str))) (oS (.int ea)) (aa (.own ([⟨"job",ea,h-n,b,ms⟩].map bF)))) fun fl ρ'=>fl=.nx/\Es (fS 6 (bI (rP (vSh 6)))) ρ' fun fl _=>∃d,fl=.rt d/\∃js:ab JobT,d=.lst (js.map bF)/\js.length<=2/\(∀j∈js,GoodJ ns h j)/\(js.map (·.nm)).Nodup/\(js.flatMap (·.ms)).Nodup:=
   eA ⟨rfl,lb (ds:=[⟨"job",ea,h-n,b,ms⟩].map bF) (fun _=>rfl) (df (aD (fun _=>rfl) ⟨_,rfl,[⟨"job",ea,h-n,b,ms⟩],rfl,by simp,fun j hj=>by rw[ce.mp hj];exact gj n b z0 z1,by simp,by simpa using ndm⟩))⟩
  by_cases hlt:m<(ns.length:aj)
  .rw[qV hlt,qY rfl];refine i4 (fun _=>rfl) (fun _=>rfl) (by decide) (by decide) fun c=>?_;cases c with
   |false=>exact no
   |true=>
    refine mY (ds:=[⟨"job",ea,h-n,b,ms⟩].map bF) (fun _=>rfl) (by simp) (er (aP (aD (fun _=>rfl) (aP (aD (fun _=>rfl) (aP (aD (fun _=>rfl) (aP (BW (fun _=>rfl) (fun _=>rfl) (by decide) (by decide) fun b'=>aP (aD (a:=.lst ((ns.drop m.toNat).map D.str)) (fun _=>by rw[Q3];exact Hj rfl rfl (by omega)) (b6 ⟨by simp,rfl,lb (ds:=[⟨"job",ea,h-n,b,ms⟩,⟨"more",0,h,b',ns.drop m.toNat⟩].map bF) (fun _=>rfl) (df (aD (fun _=>rfl) ⟨_,rfl,[⟨"job",ea,h-n,b,ms⟩,⟨"more",0,h,b',ns.drop m.toNat⟩],rfl,by simp,fun j hj=>?_,?_,?_⟩))⟩)))))))))))
    .rcases eC.mp hj with rfl|hj
     .exact gj n b z0 z1
     .rw[ce.mp hj];exact⟨Gj,⟨F8 _,by show(0:aj)<=h;omega⟩,⟨by show(0:aj)<=h;omega,F8 _⟩,by show 1<=(ns.drop m.toNat).length;rw[iq];omega,by show(ns.drop m.toNat).length<=_;rw[iq];omega,fun x hx=>FF hx⟩
    .show(["job","more"]:ab ah).Nodup;decide +kernel
    .show(ms++(ns.drop m.toNat++[])).Nodup;rw[eX];have:=(pm.append_right (ns.drop m.toNat)).nodup_iff;rw[Qb] at this;exact this.mpr nd
  .rw[qQ hlt,qZ (by decide),qZ (by decide)];exact no
theorem Aj {m:aj} (m0:0<m) (m1:m<10) (n3:ns.length<=3) {a b c d:aq Slot} {P:D->Prop} (nd:ns.Nodup) (k:∀ws:ab (ah×aj),GoodA ns ws->P (.lst (ws.map dW))):Ev (rM (iB (rP (itF (vSh 1))) (aM 0) (rM (r2 eqD (aI ba 1 (aw (rP (vC (.int m))) (rP af))) (rP (vC (.int 1)))) blD) (rM (aw (rP (vSh 0)) (aw (r2 bA (rP (vC (.int 1))) (aI ba 1 (aw (rP (vC (.int 2))) (rP af)))) (rP af))) cj) [ac,aa 0]) ka) (fun q=>[aa (.pin q),oS (.lst (ns.map D.str)),a,b,c,d]) P:=by
 refine ua (xI (σ:=fun x q=>[oS x,aa (.pin q)]) (aD (fun _=>rfl) ⟨by rw[qe];omega,fun i l=>∃ws:ab (ah×aj),l=ws.map dW/\(ws.map (·.1)).Sublist (ns.take i)/\∀w∈ws,1<=w.2/\w.2<=2,⟨[],rfl,.slnil,fun _ z=>nomatch z⟩,fun i x l hx hS=>?_,fun l hl=>?_⟩) (fun _ _=>rfl) fun _ _ _=>rfl)
 .obtain⟨ws,rfl,hw1,hw2⟩:=hS;rw[ql] at hx;obtain⟨y,hy,rfl⟩:=oMd hx;have tk:ns.take (i+1)=ns.take i++[y]:=by rw[oA,hy];rfl
  refine i4 (fun _=>rfl) (fun _=>rfl) m0 (by omega) fun b=>?_;cases b with
  |false=>exact⟨ws,rfl,by rw[tk];exact hw1.trans (Q4 _ _),hw2⟩
  |true=>
   refine er (aP (aD (fun _=>rfl) (aP (dJ (aD (fun _=>rfl) (cE (fun _=>rfl) (fun _=>rfl) (by decide) (by decide) fun n h0 h1=>⟨_,rfl,b6 ⟨by simp,ws++[(y,1+n)],by rw[f9];rfl,?_,fun w hw=>?_⟩⟩))))))
   .rw[f9,tk];exact hw1.append (.refl _)
   .rcases gz.mp hw with hw|hw
    .exact hw2 w hw
    .rw[ce.mp hw];exact⟨by show 1<=1+n;omega,by show 1+n<=2;omega⟩
 .obtain⟨ws,rfl,hw1,hw2⟩:=hl;rw[qe,mU] at hw1;refine k ws ⟨by have:=hw1.length_le;rwa [qe] at this,fun w hw=>⟨hw1.subset (sq hw),(hw2 w hw).1,by have:=(hw2 w hw).2;omega⟩,nd.sublist hw1⟩
theorem OT (n3:ns.length<=3) (nd:ns.Nodup):EvF oV [.lst (ns.map D.str)] fun d=>∃ks:ab StockT,d=.lst (ks.map dR)/\ks.length<=1/\∀k∈ks,GoodK ns k:=by
 unfold oV;refine iK (fQ (eG (i4 (fun _=>rfl) (fun _=>rfl) (by decide) (by decide) fun b=>?_)));cases b with
 |true=>exact df (aD (fun _=>rfl) ⟨_,rfl,[],rfl,by simp,(fun _ z=>nomatch z)⟩)
 |false=>
  refine eA (cB (cE (fun _=>rfl) (fun _=>rfl) (by decide) (by decide) fun hi i0 i1=>cB (cE (m:=hi+1) (fun _=>rfl) (fun _=>rfl) (by omega) (by omega) fun lo l0 l1=>?_)));refine cB (Aj (by decide) (by decide) n3 nd fun tk gt=>cB (Aj (by decide) (by decide) n3 nd fun pt gp=>df (aD (fun _=>rfl) ⟨_,rfl,[⟨"store",lo,hi,tk,pt⟩],rfl,by simp,fun k hk=>?_⟩)));rw[ce.mp hk];exact⟨JU,⟨l0,by show lo<=hi;omega⟩,⟨i0,by show hi<=1000000;omega⟩,gt,gp⟩
section
variable {bs:ab BenchT} {us:ab SetT} {h:aj}
theorem pQ {f:ah} (i:ag) (h1:fo ρ=aa (c5 bs ss js us ls ks h)) (h2:(nq bs ss js us ls ks h)[i]?=aa (f,d)):jY "Shop" f fo ρ=aa d:=by unfold jY;rw[h1];show(if ("Shop":ah)="Shop" then (nq bs ss js us ls ks h).lookup f else ac)=aa d;rw[qY rfl];exact tu (by rw[Ec];exact sy) h2
theorem oC {m:ah} (hm:m∉kP) (h1:fo ρ=aa (c5 bs ss js us ls ks h)) (h2:fr ρ=aa ds) (h3:F (c5 bs ss js us ls ks h::ds)=aa d):dM "Shop" m F fo fr ρ=aa d:=by have hno:(nq bs ss js us ls ks h).lookup m=ac:=oE (by rw[Ec];exact hm);unfold dM;rw[h1];show(if ("Shop":ah)="Shop"/\(nq bs ss js us ls ks h).lookup m=ac then (fr ρ).bind fun ds=>F (c5 bs ss js us ls ks h::ds) else ac)=_;rw[qY ⟨rfl,hno⟩,h2];exact h3
theorem zI {f:α->D} {nm:α->ah} {xs:ab α} (hf:∀x,∃r,f x=.tup (.str (nm x)::r)) (h1:fo ρ=aa (.lst (xs.map f))) (h2:xs.length<=aK) (h3:ia fv ρ=[ac]) :
  aL (bQ (itF fo) (aM 0) tT (b2 ixD (vSh 0) (vC (.int 0))) fv) ρ=aa (.lst ((xs.map nm).map D.str)):=by
 have hc:=jU (fi:=itF fo) (fe:=b2 ixD (vSh 0) (vC (.int 0))) (fv:=fv) (ρ:=ρ) (r:=[]) (a:=ac) (xs:=xs.map f) (f:=fun d=>match d with|.tup (x::_)=>x|_=>.non) (by unfold itF;rw[h1];rfl) (by rw[qe];exact h2) h3 (fun x hx=>by obtain⟨y,_,rfl⟩:=cY.mp hx;obtain⟨r,e⟩:=hf y;simp only[b2,vSh,vC,qb,qa,e,eQ])
 rw[hc]
 congr 2
 rw[iz,iz];refine F6 fun x _=>?_;obtain⟨r,e⟩:=hf x;simp[e]
theorem Gm (hl:ss.length<=40):nJ [c5 bs ss js us ls ks h]=aa (.lst ((ss.map (·.nm)).map D.str)):=
 cK [oS (c5 bs ss js us ls ks h)] rfl (cH (zI (f:=c8) (nm:=(·.nm)) (xs:=ss) (fun x=>⟨_,rfl⟩) (pQ 1 rfl rfl) (szN hl (by decide)) rfl))
theorem Of (hl:bs.length<=40):p0 [c5 bs ss js us ls ks h]=aa (.lst ((bs.map (·.nm)).map D.str)):=
 cK [oS (c5 bs ss js us ls ks h)] rfl (cH (zI (f:=cV) (nm:=(·.nm)) (xs:=bs) (fun x=>⟨_,rfl⟩) (pQ 0 rfl rfl) (szN hl (by decide)) rfl))
theorem LB:lx [c5 bs ss js us ls ks h]=aa (.int h):=by unfold lx;exact cK [oS (c5 bs ss js us ls ks h)] rfl (cH (pQ (bs:=bs) (ss:=ss) (js:=js) (us:=us) (ls:=ls) (ks:=ks) (h:=h) 6 rfl rfl))
theorem IF (g:Good bs ss js us ls ks h):lT [c5 bs ss js us ls ks h]=aa (.lst (js.map bF)):=
 cK [oS (c5 bs ss js us ls ks h)] rfl (cH (bw (aQ (pQ 2 rfl rfl) bc) (kT (iF (by have:=g.jl;omega) fun x hx=>Ek (sn:=ss.map (·.nm)) (by rw[qe];exact g.sl.2) (g.j x hx)))))
theorem MS (g:Good bs ss js us ls ks h):pd [c5 bs ss js us ls ks h]=aa (.lst (ks.map dR)):=
 cK [oS (c5 bs ss js us ls ks h)] rfl (cH (bw (aQ (pQ 5 rfl rfl) bc) (kT (iF (by have:=g.kl;omega) fun x hx=>Da (sn:=ss.map (·.nm)) (by rw[qe];exact g.sl.2) (g.k x hx)))))
end
abbrev shE (h:aj) (p:ah) (bs:ab BenchT) (ss:ab StepT) (us:ab SetT) (a b c:aq Slot):dy:=fun q=>[aa (.pin q),oS (.int h),oS (.str p),oS (.lst (bs.map cV)),oS (.lst (ss.map c8)),oS (.lst ((ss.map (·.nm)).map D.str)),aa (.own (us.map dw)),a,b,c]
structure UsOk (bs:ab BenchT) (h:aj) (i:ag) (us:ab SetT):Prop where
 sb:(us.map (·.b)).Sublist ((bs.map (·.nm)).take i)
 p:∀u∈us,u.p="k"
 q:∀u∈us,bB u.q=ai
 n:∀u∈us,1<=u.n/\u.n<=h
theorem BQ:bB "k"=ai:=by decide +kernel
theorem MH:bB "m"=ai:=by decide +kernel
theorem Jo {h:aj} {p:ah} {bs:ab BenchT} (h2:2<=h) (b2:bs.length<=2):Es (iI (rP (itF (vSh 3))) (ie 2 (eU (aM 7) (eU (aM 8) ij))) (qIf (rM (r2 eqD (aI ba 0 (aw (rP (vC (.int 3))) (rP af))) (rP (vC (.int 1)))) blD) (eL 6 (rM (aw (rP (vSh 7)) (aw (rP (vC (.str "k"))) (aw (r2 ixD (rP (vC (.str "km"))) (aI ba 0 (aw (rP (vC (.int 2))) (rP af)))) (aw (r2 bA (rP (vC (.int 1))) (aI ba 0 (aw (rP (vC (.int 2))) (rP af)))) (rP af))))) cj)) bZ)) (shE h p bs ss [] ac ac ac) fun fl ρ'=>fl=.nx/\∃us a b,ρ'=shE h p bs ss us a b ac/\UsOk bs h bs.length us:=by
 refine uR (fun i ρ=>∃us a b,ρ=shE h p bs ss us a b ac/\us.length<=i/\UsOk bs h i us) (aD (fun _=>rfl) ⟨⟨[],ac,ac,rfl,by simp,by simp,(fun _ z=>nomatch z),(fun _ z=>nomatch z),(fun _ z=>nomatch z)⟩,?_,?_⟩)
 .rintro i x ρ hx ⟨us,a,b,rfl,ul,uo⟩;rw[ql] at hx;obtain⟨bn,hb,rfl⟩:=oMd hx;have hi:=(gA.mp hb).1;have tk:(bs.map (·.nm)).take (i+1)=(bs.map (·.nm)).take i++[bn.nm]:=by rw[oA,ql,hb];rfl
  refine⟨shE h p bs ss us (oS (.str bn.nm)) (oS (.lst (bn.br.map dIv))) ac,fun _=>rfl,?_⟩;refine eG (i4 (fun _=>rfl) (fun _=>rfl) (by decide) (by decide) fun b=>?_);cases b with
  |false=>exact eA ⟨rfl,us,_,_,rfl,by omega,by rw[tk];exact uo.sb.trans (Q4 _ _),uo.p,uo.q,uo.n⟩
  |true=>
   have fin:∀kd:ah,bB kd=ai->Ev (aw (r2 bA (rP (vC (.int 1))) (aI ba 0 (aw (rP (vC (.int 2))) (rP af)))) (rP af)) (shE h p bs ss us (oS (.str bn.nm)) (oS (.lst (bn.br.map dIv))) ac) fun l=>([D.str bn.nm,D.str "k",D.str kd]++l).length<=10/\((Fl.nx:Fl)=.nx/\∃us' a b,(fun q=>(shE h p bs ss us (oS (.str bn.nm)) (oS (.lst (bn.br.map dIv))) ac q).set 6 (aa (.own (us.map dw++[.tup ([D.str bn.nm,D.str "k",D.str kd]++l)]))))=shE h p bs ss us' a b ac/\us'.length<=i+1/\UsOk bs h (i+1) us'):=fun kd hk=>by
    refine aP (dJ (aD (fun _=>rfl) (cE (fun _=>rfl) (fun _=>rfl) (by decide) (by decide) fun n n0 n1=>⟨.int (1+n),rfl,b6 ⟨by simp,rfl,us++[⟨bn.nm,"k",kd,1+n⟩],_,_,by unfold shE;rw[f9];rfl,by rw[qk,qX];omega,by rw[f9,tk];exact uo.sb.append (.refl _),fun u hu=>?_,fun u hu=>?_,fun u hu=>?_⟩⟩)))
    all_goals rcases gz.mp hu with hu|hu
    .exact uo.p u hu
    .rw[ce.mp hu]
    .exact uo.q u hu
    .rw[ce.mp hu];exact hk
    .exact uo.n u hu
    .rw[ce.mp hu];exact⟨by show 1<=1+n;omega,by show 1+n<=h;omega⟩
   refine mY (ds:=us.map dw) (fun _=>rfl) (by rw[qe];omega) (er (aP (aD (fun _=>rfl) (aP (aD (fun _=>rfl) (aP (dJ (aD (fun _=>rfl) (cE (fun _=>rfl) (fun _=>rfl) (by decide) (by decide) fun n k0 k1=>?_)))))))));rcases yp k0 k1 with rfl|rfl
   .exact⟨.str "k",rfl,fin "k" BQ⟩
   .exact⟨.str "m",rfl,fin "m" MH⟩
 .rintro ρ ⟨us,a,b,rfl,_,uo⟩;rw[qe] at uo;exact⟨rfl,us,a,b,rfl,uo⟩
structure Small (bs:ab BenchT) (ss:ab StepT) (js:ab JobT) (us:ab SetT) (ls:ab LinkT) (ks:ab StockT) (h:aj):Prop where
 g:Good bs ss js us ls ks h
 h:2<=h/\h<=5
 b:bs.length<=2
 s:ss.length<=3
theorem BC {k:aj} (h0:0<=k) (h1:k<4):k=0\/k=1\/k=2\/k=3:=by omega
theorem Iu:EvF pU [] fun d=>∃bs ss js us ls ks h,d=c5 bs ss js us ls ks h/\Small bs ss js us ls ks h:=by
 unfold pU;refine iK (cB (dJ (aD (fun _=>rfl) (cE (fun _=>rfl) (fun _=>rfl) (by decide) (by decide) fun n n0 n1=>⟨.int (2+n),rfl,?_⟩))));generalize hh:2+n=h;have h2:2<=h:=by omega
 have h5:h<=5:=by omega
 have main:∀p∈nK,Es (aC (aV 3 (aI rf 0 (aw (rP (vSh 2)) (aw (rP (vSh 1)) (rP af))))) (aC (aV 4 (aI oX 0 (aw (rP (vSh 2)) (aw (rP (vSh 3)) (aw (rP (vSh 1)) (rP af)))))) (aC (aV 5 (rP (aL (bQ (itF (vSh 4)) (aM 0) tT (b2 ixD (vSh 0) (vC (.int 0))) [ac])))) (aC (fP 6 (rP (szF af))) (aC (iI (rP (itF (vSh 3))) (ie 2 (eU (aM 7) (eU (aM 8) ij))) (qIf (rM (r2 eqD (aI ba 0 (aw (rP (vC (.int 3))) (rP af))) (rP (vC (.int 1)))) blD) (eL 6 (rM (aw (rP (vSh 7)) (aw (rP (vC (.str "k"))) (aw (r2 ixD (rP (vC (.str "km"))) (aI ba 0 (aw (rP (vC (.int 2))) (rP af)))) (aw (r2 bA (rP (vC (.int 1))) (aI ba 0 (aw (rP (vC (.int 2))) (rP af)))) (rP af))))) cj)) bZ)) (aC (aV 9 (aI oN 0 (aw (rP (vSh 5)) (aw (rP (vSh 1)) (rP af))))) (fS 6 (bI (rM (aw (rP (vSh 3)) (aw (rP (vSh 4)) (aw (aI pE 0 (aw (rP (vSh 5)) (aw (rP (vSh 1)) (rP af)))) (aw (rP (vSh 6)) (aw (rP (vSh 9)) (aw (aI oV 0 (aw (rP (vSh 5)) (rP af))) (aw (rP (vSh 1)) (rP af)))))))) tP)))))))))
   (fun q=>[aa (.pin q),oS (.int h),oS (.str p),ac,ac,ac,ac,ac,ac,ac]) fun fl _=>∃d,fl=.rt d/\∃bs ss js us ls ks h,d=c5 bs ss js us ls ks h/\Small bs ss js us ls ks h:=fun p hp=>by
  refine cB (fz (fun _=>rfl) (aP (aD (fun _=>rfl) (aP (aD (fun _=>rfl) (b6 ((M6 hp h2 h5).imp ?_)))))));rintro _ ⟨bs,rfl,b1,b2,bg,bn⟩;have bnd:(bs.map (·.nm)).Nodup:=by rw[bn];exact(zx p hp).1.sublist (oi _ _)
  refine cB (fz (fun _=>rfl) (aP (aD (fun _=>rfl) (aP (aD (fun _=>rfl) (aP (aD (fun _=>rfl) (b6 ((OS hp h2 b1 b2 bnd).imp ?_)))))))));rintro _ ⟨ss,rfl,s1,s3,sg,sn⟩;have snd:(ss.map (·.nm)).Nodup:=by rw[sn];exact(EA p hp).1.sublist (oi _ _)
  have sl:(ss.map (·.nm)).length=ss.length:=qe _;refine cB (aD (fun _=>jO (f:=c8) (nm:=(·.nm)) (xs:=ss) (fun x=>⟨_,rfl⟩) rfl (szN s3 (by decide)) rfl) (n4 (aD (fun _=>rfl) (kL ((Jo (p:=p) (ss:=ss) h2 b2).imp ?_)))));rintro _ _ ⟨rfl,us,a,b,rfl,uo⟩;refine⟨rfl,cB (fz (fun _=>rfl) (aP (aD (fun _=>rfl) (aP (aD (fun _=>rfl) (b6 ((GX h2 (by omega) (by omega) snd).imp ?_)))))))⟩;rintro _ ⟨ls,rfl,ll,lg,lnd⟩;refine lb (ds:=us.map dw) (fun _=>rfl) (df (kq (aP (aD (fun _=>rfl) (aP (aD (fun _=>rfl) (aP (fz (fun _=>rfl) (aP (aD (fun _=>rfl) (aP (aD (fun _=>rfl) (b6 ((NA h2 (by omega) (by omega) snd).imp ?_))))))))))))));rintro _ ⟨js,rfl,jl,jg,jn,jm⟩;refine aP (aD (fun _=>rfl) (aP (aD (fun _=>rfl) (aP (fz (fun _=>rfl) (aP (aD (fun _=>rfl) (b6 ((OT (by omega) snd).imp ?_)))))))));rintro _ ⟨ks,rfl,kl,kg⟩;have ubn:(us.map (·.b)).Nodup:=bnd.sublist (uo.sb.trans (oi _ _));have ulen:us.length<=2:=by have:=uo.sb.length_le;rw[qe,qH,qe] at this;omega
  have good:Good bs ss js us ls ks h:=⟨by omega,by omega,bg,bnd,by omega,sg,snd,by omega,jg,jn,jm,by omega,fun u hu=>⟨(List.take_subset _ _) (uo.sb.subset (sq hu)),by rw[uo.p u hu];exact BQ,uo.q u hu,uo.n u hu⟩,?_,by omega,lg,lnd,by omega,kg,?_⟩
  .refine aP (aD (fun _=>rfl) (b6 ⟨_,Gy good ?_,_,rfl,bs,ss,js,us,ls,ks,h,rfl,good,⟨h2,h5⟩,b2,s3⟩));have:=wj (f:=(·.ms)) (m:=3) (l:=js) fun j hj=>by have:=(jg j hj).ln;omega
   omega
  .unfold List.Nodup at ubn ⊢;rw[vq] at ubn ⊢;exact ubn.imp fun h e=>h (ir e).1
  .match ks,kl with
   |[],_=>simp
   |[k],_=>simp
 refine cB (dJ (aD (fun _=>rfl) (cE (fun _=>rfl) (fun _=>rfl) (by decide) (by decide) fun k k0 k1=>?_)));rcases BC k0 k1 with rfl|rfl|rfl|rfl
 .exact⟨.str "",rfl,main "" (by decide +kernel)⟩
 .exact⟨.str "x",rfl,main "x" (by decide +kernel)⟩
 .exact⟨.str "low",rfl,main "low" (by decide +kernel)⟩
 .exact⟨.str "abcdef",rfl,main "abcdef" (by decide +kernel)⟩
noncomputable def J (ws:ab ah):ah:=lS " " ws
noncomputable def wt (ws:ab ah):ag:=(ws.map (·.length)).sum+ws.length
theorem CU:(" ":ah).length=1:=by decide +kernel
theorem MK (a b:ab ah):wt (a++b)=wt a+wt b:=by unfold wt;rw[f9,List.sum_append,qk];omega
theorem xR (a:ah) (b:ab ah):wt (a::b)=a.length+1+wt b:=by unfold wt;rw[qp,List.sum_cons,qh];omega
theorem Kl:wt []=0:=rfl
theorem nE (a:ab ah):a.length<=wt a:=by unfold wt;omega
theorem JG {r:ab ah} (h:r≠[]):J (x::r)=x++" "++J r:=by
 cases r with
 |nil=>exact bx rfl h
 |cons y r=>rfl
theorem DU:∀ws:ab ah,(J ws).length<=wt ws
 |[]=>by decide
 |[x]=>by
  show x.length<=wt [x];rw[xR,Kl];omega
 |x::y::r=>by rw[JG (by simp),Q5,Q5,CU,xR];have:=DU (y::r);omega
theorem Bk:∀ys:ab ah,mr (ys.map D.str)=aa ys
 |[]=>rfl
 |y::r=>by show(mr (r.map D.str)).map (y::·)=_;rw[Bk r];rfl
theorem yk {g:D->FQ} (h0:f ρ=aa d) (h1:fr ρ=aa ds) (h2:g d ds=aa z):mF g f fr ρ=aa z:=by unfold mF;rw[h0,qa,h1];exact h2
theorem Hi {ys:ab ah} (h:wt ys<=16000000):(ys.map (·.length)).sum+ys.length*(" ":ah).length<=16777216:=by rw[CU];unfold wt at h;omega
theorem Nl {ys:ab ah} (h:f ρ=aa (.lst (ys.map D.str))) (hl:wt ys<=16000000):mF rC (vC (.str " ")) (ae f af) ρ=aa (.str (J ys)):=by refine yk rfl (aQ h bc) ?_;show((mr (ys.map D.str)).bind fun ys=>if (ys.map (·.length)).sum+ys.length*(" ":ah).length<=16777216 then aa (D.str (rW " " ys)) else ac)=_;rw[Bk,qa,qY (Hi hl)];show aa (D.str (Sf " " ys))=_;rw[StrLaws.glued_eq_join];rfl
theorem GP {x y:ab ah} (h:x.length+y.length<=16000000):bA (.lst (x.map D.str)) (.lst (y.map D.str))=aa (.lst ((x++y).map D.str)):=by rw[f9];exact qY (by rw[qe,qe];unfold aK;omega)
theorem i9 {g:FE} {x y:ab ah} (h1:f ρ=aa (.lst (x.map D.str))) (h2:g ρ=aa (.lst (y.map D.str))) (h:x.length+y.length<=16000000):b2 bA f g ρ=aa (.lst ((x++y).map D.str)):=aY h1 h2 (GP h)
noncomputable def okI:ab aj:=[-10 ^ 39,10 ^ 40-1,-7,0,1,2,3,4,5,6,7]
noncomputable def tI (i:aj):ah:=rH i
theorem J8:∀i∈okI,i.natAbs.log2<1920/\(tI i).length<=41:=by decide +kernel
theorem L1 {n:aj} (h0:0<=n) (h1:n<=7):n∈okI:=by
 have:n=0\/n=1\/n=2\/n=3\/n=4\/n=5\/n=6\/n=7:=by omega
 rcases this with rfl|rfl|rfl|rfl|rfl|rfl|rfl|rfl<;>decide +kernel
noncomputable def wS:D->ah
 |.str x=>x
 |.int i=>tI i
 |_=>""
end Law
variable {c0 dep ke:ag} {ρ1:bd} {ws cw xw ew:ab ah} {T:D->ab ah->ag->Prop}
namespace Law
open PySem L2 PySem.StrLaws PySem.Builtin.Str
theorem A9 {r:ab ag} (hy:y.cps.toList=c0::r) {k:ag} (h:vG x y x.length k):x.cps.toList[k]?=aa c0:=by
 have h2:=h.2;rw[subAt_eq,hy] at h2;have e:=E6 h2;have e0:((x.cps.toList.drop k).take y.length)[0]?=aa c0:=by rw[e];rfl
 have hl:0<y.length:=by
  have:y.cps.toList.length=(c0::r).length:=by rw[hy]
  simp only[iR,qh] at this;show 0<y.cps.size;omega
 rw[u8 hl,si] at e0;simpa using e0
theorem ME {k:ag} {l:ab ag} (hk:k<=x.length) (h:x.cps.toList.drop k=y.cps.toList++l):vG x y x.length k:=by
 have hy:y.cps.toList.length=y.length:=by simp[gF]
 have hx:x.cps.toList.length=x.length:=by simp[gF]
 refine⟨?_,?_⟩
 .have:=c7 gE h;rw[iq,qk,hy,hx] at this;omega
 .rw[subAt_eq,h,←hy,Q6];simp
theorem zE {p:ah} {a b:ag} {l:ab ag} (h:x.cps.toList.drop a=p.cps.toList++l) (hb:b-a=p.length):zu x a b=p:=by
 apply Str.ext';apply Array.toList_inj.mp;have hp:p.cps.toList.length=p.length:=by simp[gF]
 rw[strSub_toList,h,hb,←hp,Q6]
theorem O0 (y p q:ah) (r:ab ah):(lS y (p::q::r)).cps.toList=p.cps.toList++(y.cps.toList++(lS y (q::r)).cps.toList):=by show((p++y++lS y (q::r)).cps).toList=_;simp only[Str.cps_append,Array.toList_append,qA]
theorem Aw {x y:ah} {c0:ag} {w:ab ag} (hy:y.cps.toList=c0::w):∀(ps:ab ah) (p:ah) (a:ag) (cuts:ab ag) (f:ag),a<=x.length->x.cps.toList.drop a=(lS y (p::ps)).cps.toList->(∀q∈p::ps,c0∉q.cps.toList)->
  ChainG x y x.length a cuts f->(∀k,f<=k->¬vG x y x.length k)->partsFrom x y.length a cuts=p::ps
 |[],p,a,cuts,f,ha,hx,hf,hc,hn=>by
  have hx':x.cps.toList.drop a=p.cps.toList:=hx;cases cuts with
  |nil=>
   show[zu x a x.length]=[p];rw[zE (l:=[]) (by rw[hx',eX])];have:=c7 gE hx';simp only[iq,iR] at this;exact this
  |cons c r=>
   have h1:=A9 hy hc.2.1;have h2:(x.cps.toList.drop a)[c-a]?=aa c0:=by rw[si,Q7 hc.1];exact h1
   rw[hx'] at h2;exact bx (qS h2) (hf p qf)
 |q::ps,p,a,cuts,f,ha,hx,hf,hc,hn=>by
  rw[O0] at hx;have hpl:p.cps.toList.length=p.length:=by simp[gF]
  have hyl:y.cps.toList.length=y.length:=by simp[gF]
  have hd:x.cps.toList.drop (a+p.length)=y.cps.toList++(lS y (q::ps)).cps.toList:=by rw[←vE,hx,←hpl,F9]
  have hle:a+p.length<=x.length:=by
   have:=c7 gE hx;rw[iq,qk,hpl] at this;have hx2:x.cps.toList.length=x.length:=by simp[gF]
   omega
  have hA:vG x y x.length (a+p.length):=ME hle hd;have low:∀k,a<=k->vG x y x.length k->a+p.length<=k:=fun k hk h=>by
   rcases iu k (a+p.length) with z|z
   .have h1:=A9 hy h;have h2:(x.cps.toList.drop a)[k-a]?=aa c0:=by rw[si,Q7 hk];exact h1
    rw[hx,qD (by rw[hpl];omega)] at h2;exact bx (qS h2) (hf p qf)
   .exact z
  cases cuts with
  |nil=>
   have e:f=a:=hc;subst e;exact bx hA (hn _ (iX _ _))
  |cons c r=>
   obtain⟨c1,c2,c3,c4⟩:=hc;have e:c=a+p.length:=by
    have:=low c c1 c2;rcases iu (a+p.length) c with z|z
    .exact bx hA (c3 _ (iX _ _) z)
    .omega
   subst e;show zu x a (a+p.length)::partsFrom x y.length (a+p.length+y.length) r=p::q::ps;rw[zE hx (by omega),Aw hy ps q (a+p.length+y.length) r f hA.1 (by rw[←vE,hd,←hyl,F9]) (fun z hz=>hf z (qg _ hz)) c4 hn]
theorem Ow {w:ab ag} (hy:y.cps.toList=c0::w) (hk:vB y=1) (p:ah) (ps:ab ah) (hf:∀q∈p::ps,c0∉q.cps.toList):kG (rW y (p::ps)) y=p::ps:=by
 have ej:rW y (p::ps)=lS y (p::ps):=glued_eq_join y _;rw[ej];generalize hX:lS y (p::ps)=x;have hyl:1<=y.length:=by
  have:y.cps.toList.length=(c0::w).length:=by rw[hy]
  simp only[iR,qh] at this;show 1<=y.cps.size;omega
 obtain⟨f,hc,hn⟩:=occ_tight x y hyl;have key:=Aw hy ps p 0 _ f (fu _) (by rw[lN,hX]) hf hc hn;have whole:(occurrences x y 0 x.length (x.length+1))=[]->[x]=p::ps:=fun e=>by rw[e] at key;rw[←key];show[x]=[zu x 0 x.length];rw[sub_whole]
 unfold kG;split
 .rename_i h1;rw[Fm,vn,vn] at h1;apply whole;cases e:occurrences x y 0 x.length (x.length+1) with
  |nil=>rfl
  |cons c r=>
   rw[e] at hc;have:=hc.2.1.1;rcases h1 with h1|h1
   .omega
   .rw[hk] at h1;have:1<=vB x:=by unfold vB;split;exact qy _;split<;>decide
    omega
 .split
  .rename_i h2;exact whole (List.isEmpty_iff.mp h2)
  .rw[partsBetween_eq];exact key
theorem ni {f g:FT} (h1:f ρ=aa ao) (h2:g ρ=aa ao):orT f g ρ=aa ao:=by unfold orT;rw[h1];exact h2
theorem j9 {A:FE} (hA:A ρ=aa (.bl ai)):bh (toB A) ρ=aa ao:=by unfold bh;rw[bW hA];rfl
noncomputable def bH (m:ag):ah:=rQ (rH (m:aj))
theorem pz (m:ag):(bH m).cps.toList=(mX 10 m).map Q8:=Sg m
theorem wL (m:ag):∀c∈(bH m).cps.toList,48<=c/\c<=57:=fun c hc=>by rw[pz] at hc;obtain⟨ch,hch,e⟩:=cY.mp hc;have r:=Sh (Nat.isDigit_of_mem_toDigits (by decide) (by decide) hch);rw[←e];exact r
theorem IS (m:ag):∃c r,(bH m).cps.toList=c::r/\(m=0\/c≠48):=by
 have key:∀m:ag,∃c r,mX 10 m=c::r/\(m=0\/c.toNat≠48):=fun m=>by
  induction m using P7 with
  |_ m ih=>
   by_cases h:m<10
   .refine⟨_,[],Nat.toDigits_of_lt_base h,?_⟩;rcases Q9 m with z|z
    .exact .inl z
    .right
     have:∀d:ag,d<10->0<d->(Nat.digitChar d).toNat≠48:=by decide
     exact this m h z
   .have hm:m%10<10:=yX m (by decide);have t:mX 10 (m / 10)++mX 10 (m%10)=mX 10 (10*(m / 10)+m%10):=Nat.toDigits_append_toDigits (by decide) (by omega) hm;rw[Nat.div_add_mod] at t;obtain⟨c,r,e1,e2⟩:=ih (m / 10) (by omega);refine⟨c,r++mX 10 (m%10),by rw[←t,e1];rfl,?_⟩;rcases e2 with e2|e2
    .omega
    .exact .inr e2
 obtain⟨c,r,e1,e2⟩:=key m;exact⟨c.toNat,r.map Q8,by rw[pz,e1];rfl,e2⟩
theorem Dn:bH 0="0":=by decide +kernel
theorem ux (h:m<10 ^ 40):1<=(bH m).length/\(bH m).length<=40:=by
 have e:(bH m).length=(mX 10 m).length:=by have:=c7 gE (pz m);simpa[gF] using this
 rw[e];exact⟨Ra 10 m,Rb (by decide) h⟩
theorem MA:("0123456789":ah).cps.toList=[48,49,50,51,52,53,54,55,56,57]:=by decide +kernel
theorem Lb {c:ag} (h:48<=c/\c<=57):inS ⟨#[c]⟩ "0123456789"=ai:=by
 unfold inS;rw[StrLaws.found_one,MA];have:c=48\/c=49\/c=50\/c=51\/c=52\/c=53\/c=54\/c=55\/c=56\/c=57:=by omega
 rcases this with rfl|rfl|rfl|rfl|rfl|rfl|rfl|rfl|rfl|rfl<;>decide
theorem Lx:∀d:ag,d<10->kB "0123456789" ⟨#[48+d]⟩ 0 ("0123456789":ah).length 1=[d]:=by decide +kernel
theorem N8 {c:ag} {r:ab ag} (h:x.cps.toList=c::r) (hz:x.length<=aK):ixD (.str x) (.int 0)=aa (.str ⟨#[c]⟩):=by
 have e:atI x.cps.toList ((0:ag):aj)=aa c:=by rw[km,h];rfl
 show(if x.length<=aK then (atI x.cps.toList 0).map (fun c=>D.str ⟨#[c]⟩) else ac)=_;rw[qY hz];have e':atI x.cps.toList (0:aj)=aa c:=e;rw[e'];rfl
theorem zW (hm:m<10 ^ 40):sZ [.str (bH m)]=aa (.bl ai):=by
 obtain⟨l1,l2⟩:=ux hm;obtain⟨c,r,hc,h0⟩:=IS m;have hz:(bH m).length<=aK:=by unfold aK;omega
 have hl:((bH m).cps.toList.map fun c=>D.str ⟨#[c]⟩).length<=aK:=by simpa[gF] using hz
 have ha:=gT (fi:=itS (vSh 0)) (fe:=b2 tG (vSh 0) (vC (.str "0123456789"))) (fv:=[ac]) (ρ:=[oS (.str (bH m))]) (r:=[]) (a:=ac) (xs:=(bH m).cps.toList.map fun c=>D.str ⟨#[c]⟩)
  (by simp[itS,vSh,uQ]) hl rfl (fun y hy=>by obtain⟨c,hc,rfl⟩:=cY.mp hy;exact aY (x:=.str ⟨#[c]⟩) (y:=.str "0123456789") rfl rfl (by show aa (D.bl (inS ⟨#[c]⟩ "0123456789"))=_;rw[Lb (wL m c hc)]))
 have ne:bH m≠"":=fun z=>by rw[z] at l1;exact bx l1 (by decide)
 refine wO (ρ':=[oS (.str (bH m))]) ((dU (ni ?_ ?_)).trans (cH ha))
 .exact bW (aY (x:=.str (bH m)) (y:=.str "") rfl rfl (by show aa (D.bl (decide (bH m="")))=_;rw[qQ ne]))
 .have f1:toB (b2 eqD (b2 ixD (vSh 0) (vC (.int 0))) (vC (.str "0"))) [oS (.str (bH m))]=aa (decide ((⟨#[c]⟩:ah)="0")):=
   bW (aY (x:=.str ⟨#[c]⟩) (y:=.str "0") (aY (x:=.str (bH m)) (y:=.int 0) rfl rfl (N8 hc hz)) rfl rfl)
  show gk _ _ [oS (.str (bH m))]=aa ao;unfold gk;rw[f1,qa];have z0:("0":ah)=⟨#[48]⟩:=by decide +kernel
  by_cases e:c=48
  .rcases h0 with h0|h0
   .subst h0;rw[qY (by rw[e,z0];exact qV rfl)];exact bW (aY (x:=.str (bH 0)) (y:=.str "0") rfl rfl (by show aa (D.bl (!decide (bH 0="0")))=_;rw[qV Dn];rfl))
   .exact bx e h0
  .rw[qZ];rw[vn,z0];intro z;have:=c7 (fun s:ah=>s.cps.toList) z;simp at this;exact e this
theorem KN {r:ab ag} (h:kB x y 0 x.length 1=i::r):mo (.str x) [.str y]=aa (.int i):=by show(match kB x y 0 x.length 1 with|i::_=>aa (D.int (i:ag))|[]=>ac)=_;rw[h]
theorem KR {c:ag} (h:48<=c/\c<=57):mo (.str "0123456789") [.str ⟨#[c]⟩]=aa (.int ((c-48:ag))):=by have h2:=Lx (c-48) (by omega);rw[show 48+(c-48)=c by omega] at h2;exact KN h2
theorem M7 (i j:aj):bA (.int i) (.int j)=aa (.int (i+j)):=rfl
theorem Jh (h:f ρ=aa d):eh i f ρ=aa (.nx,ρ.set i (oS d)):=by unfold eh;rw[h];rfl
theorem LP {a b:aj} (h:(-(2 ^ 64)<a/\a<2 ^ 64)\/(-(2 ^ 64)<b/\b<2 ^ 64)):hV (.int a) (.int b)=aa (.int (a*b)):=qY h
noncomputable def nV:FE:=b2 bA (b2 hV (vSh 1) (vC (.int 10))) (mF mo (vC (.str "0123456789")) (ae (vSh 2) af))
theorem LG {c:ag} (h:48<=c/\c<=57):nV [S,oS (.int n),oS (.str ⟨#[c]⟩)]=aa (.int ((n:aj)*10+((c-48:ag):aj))):=by have m:hV (.int n) (.int 10)=aa (.int ((n:aj)*10)):=LP (.inr ⟨by decide,by decide⟩);exact aY (aY (x:=.int n) (y:=.int 10) rfl rfl m) (yk (d:=.str "0123456789") (ds:=[.str ⟨#[c]⟩]) rfl rfl (KR h)) (M7 _ _)
noncomputable def nB:FS:=eh 1 nV
theorem Ov {c:ag} (h:48<=c/\c<=57):nB [S,oS (.int n),oS (.str ⟨#[c]⟩)]=aa (.nx,[S,oS (.int ((n*10+(c-48):ag))),oS (.str ⟨#[c]⟩)]):=by
 have e:(((n*10+(c-48):ag)):aj)=(n:aj)*10+((c-48:ag):aj):=by omega
 rw[e];exact Jh (LG h)
theorem wc {body:FS} {x:D} {xs:ab D} {ρ2:bd} {R:aq (Fl×bd)} (h1:gg x ρ=aa ρ1) (h2:body ρ1=aa (.nx,ρ2)) (h3:eS gg body xs ρ2=R):eS gg body (x::xs) ρ=R:=by simp only[eS,h1,h2,qa];exact h3
theorem Jz :aM i d ρ=aa (ρ.set i (oS d)):=rfl
theorem Gw (cs:ab ag):∀(n:ag) (a:aq Slot),(∀c∈cs,48<=c/\c<=57)->∃a',eS (aM 2) nB (cs.map fun c=>D.str ⟨#[c]⟩) [S,oS (.int n),a]=aa (.nx,[S,aa (.sh (.int ((cs.foldl (fun acc c=>acc*10+(c-48)) n:ag)))),a']):=by
 induction cs with
 |nil=>intro n a _;exact⟨a,rfl⟩
 |cons c r ih=>
  intro n a h;obtain⟨a',ha'⟩:=ih (n*10+(c-48)) (oS (.str ⟨#[c]⟩)) fun x hx=>h x (qg _ hx);refine⟨a',?_⟩;rw[qp,lM];exact wc Jz (Ov (h c qf)) ha'
theorem J6 (m:ag):(bH m).cps.toList.foldl (fun acc c=>acc*10+(c-48)) 0=m:=by have h:=Si m;rw[←pz] at h;exact h
theorem Kb {body E:FS} {xs:ab D} (h1:fi ρ=aa xs) (h2:eS gg body xs ρ=aa (.nx,ρ')):aS (dZ fi gg body) E ρ=E ρ':=by unfold aS dZ;rw[h1,qa,h2];rfl
theorem tJ (m:ag):tm [.str (bH m)]=aa (.int m):=by
 obtain⟨a',ha'⟩:=Gw (S:=oS (.str (bH m))) (bH m).cps.toList 0 ac (wL m);rw[J6] at ha';have e:aS (dZ (itS (vSh 0)) (aM 2) nB) (aT (vSh 1)) [oS (.str (bH m)),oS (.int 0),ac]=aa (.rt (.int m),[oS (.str (bH m)),oS (.int m),a']):=
  (Kb (xs:=(bH m).cps.toList.map fun c=>D.str ⟨#[c]⟩) rfl ha').trans (cH rfl)
 exact cK [oS (.str (bH m)),ac,ac] rfl ((jD (d:=.int 0) rfl).trans e)
theorem uv (h:m<10 ^ 7):1<=(bH m).length/\(bH m).length<=7:=by
 have e:(bH m).length=(mX 10 m).length:=by have:=c7 gE (pz m);simpa[gF] using this
 rw[e];exact⟨Ra 10 m,Rb (by decide) h⟩
section
variable {r r1 r':R} {f fa fb:FR R} {fr:FRa R} {g g' A B:FRs R} {ft:FRt R} {z:bd×R}
theorem la (h:g ρ r=aa (.nx,ρ1,r1)):aC g g' ρ r=g' ρ1 r1:=by unfold aC;rw[h];rfl
theorem dY (h:f ρ r=aa (d,r1)):aC (aV j f) g ρ r=g (ρ.set j (oS d)) r1:=la (by unfold aV;rw[h];rfl)
theorem pM (h:f ρ r=aa (d,r1)):aC (ju f) g ρ r=g ρ r1:=la (by unfold ju;rw[h];rfl)
theorem zD (h:fr ρ r=aa (ds,r1)):aC (fP j fr) g ρ r=g (ρ.set j (aa (.own ds))) r1:=la (by unfold fP;rw[h];rfl)
theorem cI (h:ft ρ r=aa (ao,r1)):aC (qIf ft A bZ) g ρ r=g ρ r1:=la (by unfold qIf;rw[h];rfl)
theorem iA (h:ft ρ r=aa (ai,r1)) (h2:A ρ r1=aa (.rt d,z)):aC (qIf ft A B) g ρ r=aa (.rt d,z):=by unfold aC qIf;rw[h,qa,qY rfl,h2];rfl
theorem db (h:f ρ r=aa (d,r1)):bI f ρ r=aa (.rt d,ρ,r1):=by unfold bI;rw[h];rfl
theorem dq (ρ:bd) (e:aa (.pin q)::(ds.map (fun d=>aa (Slot.sh d))++bY n ac)=ρ) (h:g ρ r=aa (.rt d,ρ',r')):cC n g q ds r=aa (d,r'):=by unfold cC;rw[e,h];rfl
theorem k_P {f:bd->aq α} {a:α} (h:f ρ=aa a):rP f ρ r=aa (a,r):=by unfold rP;rw[h];rfl
theorem k_M {f:bd->R->aq (α×R)} {g:α->aq β} {a:α} {b:β} (h:f ρ r=aa (a,r1)) (h2:g a=aa b):rM f g ρ r=aa (b,r1):=by unfold rM;rw[h,qa,h2];rfl
theorem k_2 {g:D->D->aq D} {x y z:D} {r2':R} (h1:fa ρ r=aa (x,r1)) (h2:fb ρ r1=aa (y,r2')) (h3:g x y=aa z):r2 g fa fb ρ r=aa (z,r2'):=by unfold r2 rb;rw[h1,qa];exact k_M h2 h3
theorem cm {x:D} {l:ab D} {r2:R} (h1:fa ρ r=aa (x,r1)) (h2:fr ρ r1=aa (l,r2)):aw fa fr ρ r=aa (x::l,r2):=by unfold aw rb;rw[h1,qa];exact k_M h2 rfl
theorem hZ {F:au->ab D->R->aq (D×R)} {r2:R} (hi:ρ[i]?=aa (aa (.pin q))) (h:fr ρ r=aa (ds,r1)) (h2:F q ds r1=aa (d,r2)):aI F i fr ρ r=aa (d,r2):=by unfold aI;rw[hi,h];exact h2
theorem zL (h:ft ρ r=aa (ai,r1)):mq ft fa fb ρ r=fa ρ r1:=by unfold mq;rw[h,qa,qY rfl]
theorem Ag (h:ft ρ r=aa (ao,r1)):mq ft fa fb ρ r=fb ρ r1:=by unfold mq;rw[h,qa,qZ qv]
theorem CT (h:ft ρ r=aa (ao,r1)):whR ft g (n+1) ρ r=aa (.nx,ρ,r1):=by unfold whR;rw[h,qa,qZ qv]
theorem zZ {r2:R} (h:ft ρ r=aa (ai,r1)) (h2:g ρ r1=aa (.nx,ρ1,r2)):whR ft g (n+1) ρ r=whR ft g n ρ1 r2:=by
 conv=>lhs;unfold whR
 rw[h,qa,qY rfl,h2];rfl
theorem i6 {l:ab D} (h:fr ρ r=aa (l,r1)) (hl:l.length<=10):rM fr cj ρ r=aa (.tup l,r1):=k_M h (by unfold cj szD;rw[qY (by unfold aK;omega)];rfl)
end
section
variable {m:ah} {F:au->ab D->Fs->aq (D×Fs)} {fr:FRa Fs} {r r1 r2:Fs}
theorem dL (hi:ρ[i]?=aa (aa (.pin q))) (hm:r.lookup m=ac) (h:fr ρ r=aa (ds,r1)) (h2:F q ds r1=aa (d,r2)):bO m F i fr ρ r=aa (d,r2):=by unfold bO;rw[hi];show(if r.lookup m=ac then _ else _)=_;rw[qY hm,h];exact h2
end
noncomputable def st (ws:ab ah) (p c:ag):Fs:=[("words",.lst (ws.map D.str)),("place",.int p),("counted",.int c)]
section
variable {l:ab ah} {w:ah} {p c:ag}
theorem dI {m:ah} (h:m≠"words"/\m≠"place"/\m≠"counted"):(st ws p c).lookup m=ac:=by unfold st;rw[kE,show(m=="words")=ao from by simpa using h.1,kE,show(m=="place")=ao from by simpa using h.2.1,kE,show(m=="counted")=ao from by simpa using h.2.2];rfl
theorem dp (h:ws.drop p=w::l):ws.drop (p+1)=l:=by rw[←vE,h];rfl
theorem dpa {a:ab ah} (h:ws.drop p=a++l):ws.drop (p+a.length)=l:=by rw[←vE,h,F9]
theorem Gk (h:ws.drop p=w::l):ws[p]?=aa w:=by
 have:(ws.drop p)[0]?=aa w:=by rw[h];rfl
 rwa [si] at this
theorem xa :eK "words" ρ (st ws p c)=aa (.lst (ws.map D.str),st ws p c):=rfl
theorem tX :eK "place" ρ (st ws p c)=aa (.int p,st ws p c):=rfl
theorem C7 :eK "counted" ρ (st ws p c)=aa (.int c,st ws p c):=rfl
theorem Dz {b:aU} (h:decide (p<ws.length)=b):rM (r2 ltD (eK "place") (rM (aw (eK "words") (rP af)) bS)) blD ρ (st ws p c)=aa (b,st ws p c):=by
 refine k_M (k_2 tX (k_M (cm xa (k_P rfl)) (by show bS [.lst (ws.map D.str)]=aa (.int (ws.length:ag));show aa (D.int ((ws.map D.str).length:ag))=_;rw[qe])) (z:=.bl b) ?_) rfl;show aa (D.bl (decide ((p:aj)<(ws.length:aj))))=_;rw[←h]
 congr 2
 exact decide_eq_decide.mpr Int.ofNat_lt
theorem lW (h:ws.drop p=w::l):jT q [] (st ws p c)=aa (.str w,st ws p c):=by
 have hp:p<ws.length:=by
  rcases iu p ws.length with z|z
  .exact z
  .rw[List.drop_eq_nil_of_le z] at h;cases h
 refine dq [aa (.pin q)] rfl (ρ':=[aa (.pin q)]) (db ((zL (Dz (qV hp))).trans (k_2 xa tX ?_)));rw[ixL,ql,Gk h];rfl
theorem O6 (h:ws.drop p=[]):jT q [] (st ws p c)=aa (.str "",st ws p c):=by
 have hp:¬p<ws.length:=by have:=c7 gE h;rw[iq] at this;simp only[qm] at this;omega
 exact dq [aa (.pin q)] rfl (ρ':=[aa (.pin q)]) (db ((Ag (Dz (qQ hp))).trans (k_P rfl)))
theorem m9 (h:ws.drop p=w::l):jx q [] (st ws p c)=aa (.str w,st ws (p+1) c):=by refine dq [aa (.pin q),ac] rfl (ρ':=[aa (.pin q),oS (.str w)]) ((dY (dL rfl (dI (by decide)) (k_P rfl) (lW h))).trans ((la ?_).trans (db (k_P rfl))));show((r2 bA (eK "place") (rP (vC (.int 1))) _ (st ws p c)).bind _)=_;rw[k_2 tX (k_P rfl) (z:=.int ((p+1:ag):aj)) rfl];rfl
theorem NK {as:ab D} (h:ws.drop p=w::l) (ha:nI (.str w) (.lst as)=aa (.bl ao)):gl q [.lst as] (st ws p c)=aa (.str w,st ws (p+1) c):=
 dq [aa (.pin q),oS (.lst as),ac] rfl (ρ':=[aa (.pin q),oS (.lst as),oS (.str w)]) ((dY (dL rfl (dI (by decide)) (k_P rfl) (m9 h))).trans ((cI (k_P (bW (aY rfl rfl ha)))).trans (db (k_P rfl))))
theorem DK (h:ws.drop p=w::l) (hn:bB w=ai):gM q [] (st ws p c)=aa (.str w,st ws (p+1) c):=
 dq [aa (.pin q),ac] rfl (ρ':=[aa (.pin q),oS (.str w)]) ((dY (dL rfl (dI (by decide)) (k_P rfl) (m9 h))).trans ((cI (k_P (j9 (bw (aQ rfl bc) (jb hn))))).trans (db (k_P rfl))))
theorem uO {most:ag} (h:ws.drop p=bH m::l) (hl:(bH m).length<=most) (hm:m<10 ^ 40):lZ q [.int most] (st ws p c)=aa (.int m,st ws (p+1) c):=by have l40:=(ux hm).2;refine dq [aa (.pin q),oS (.int most),ac] rfl (ρ':=[aa (.pin q),oS (.int most),oS (.str (bH m))]) ((dY (dL rfl (dI (by decide)) (k_P rfl) (m9 h))).trans ((cI (k_P (ni ?_ (j9 (bw (aQ rfl bc) (zW hm)))))).trans (db (k_P (bw (aQ rfl bc) (tJ m))))));refine bW (aY (bw (aQ rfl bc) (z:=.int ((bH m).length:ag)) (qY (by unfold aK;omega))) rfl ?_);show aa (D.bl (decide ((most:aj)<((bH m).length:ag))))=_;rw[qQ (by omega)]
theorem Oy (h:c+1<=3000):kN q [] (st ws p c)=aa (.non,st ws p (c+1)):=by
 unfold kN cC;have e1:aC (pH "counted" (r2 bA (eK "counted") (rP (vC (.int 1))))) (qIf (rM (r2 gtD (eK "counted") (rP (vC (.int 3000)))) blD) (fun _ _=>ac) bZ) [aa (.pin q)] (st ws p c)=aa (.nx,[aa (.pin q)],st ws p (c+1)):=by
  refine(la (ρ1:=[aa (.pin q)]) (r1:=st ws p (c+1)) ?_).trans ?_
  .show((r2 bA (eK "counted") (rP (vC (.int 1))) _ (st ws p c)).bind _)=_;rw[k_2 C7 (k_P rfl) (z:=.int ((c+1:ag):aj)) rfl];rfl
  .unfold qIf;rw[k_M (k_2 C7 (k_P rfl) (z:=.bl ao) (by show aa (D.bl (decide ((3000:aj)<((c+1:ag):aj))))=_;rw[qQ (by omega)])) rfl (b:=ao)];rfl
 show(aC _ _ [aa (.pin q)] (st ws p c)).bind _=_;rw[e1];rfl
end
section
variable {l:ab ah} {w:ah} {p c:ag}
theorem Hy {g:D->aq D} {x:D} (h1:fa ρ=aa x) (h3:g x=aa z):b1 g fa ρ=aa z:=by unfold b1;rw[h1];exact h3
theorem Jc (h:ws.drop p=bH m::l) (hm:m<10 ^ 40) (hs:mV (bH m) "-"=ao):oQ q [] (st ws p c)=aa (.int m,st ws (p+1) c):=by refine dq [aa (.pin q),ac] rfl (ρ':=[aa (.pin q),ac]) (iA (r1:=st ws p c) (k_M (a:=ao) (k_M (a:=.bl ao) ?_ rfl) rfl) (db (dL rfl (dI (by decide)) (k_P rfl) (uO (most:=40) h (ux hm).2 hm))));unfold rBm rb;rw[dL rfl (dI (by decide)) (k_P rfl) (lW h),qa];exact k_M (cm (k_P rfl) (k_P rfl)) (by show aa (D.bl (mV (bH m) "-"))=_;rw[hs])
theorem NW (h:ws.drop p=w::l) (hm:m<10 ^ 40) (h0:0<m) (hs:mV w "-"=ai) (hc:jq w (aa 1) ac=bH m) (hw:w.length<=41):oQ q [] (st ws p c)=aa (.int (-(m:aj)),st ws (p+1) c):=by
 have l40:=(ux hm).2;have ne:bH m≠"0":=fun e=>by have:=tJ m;rw[e,←Dn,tJ 0] at this;have:=D.int.inj (qK this);omega
 refine dq [aa (.pin q),ac] rfl (ρ':=[aa (.pin q),oS (.str (bH m))]) ((cI (r1:=st ws p c) (k_M (a:=ai) (k_M (a:=.bl ai) ?_ rfl) rfl)).trans ((dY (k_2 (dL rfl (dI (by decide)) (k_P rfl) (m9 h)) (k_P rfl) (z:=.str (bH m)) ?_)).trans ((cI (k_P (ni ?_ (ni (j9 (bw (aQ rfl bc) (zW hm))) ?_)))).trans (db (k_P (Hy (bw (aQ rfl bc) (tJ m)) rfl))))))
 .unfold rBm rb;rw[dL rfl (dI (by decide)) (k_P rfl) (lW h),qa];exact k_M (cm (k_P rfl) (k_P rfl)) (by show aa (D.bl (mV w "-"))=_;rw[hs])
 .show(if w.length<=aK then aa (D.str (jq w (aa 1) ac)) else ac)=_;rw[qY (by unfold aK;omega),hc]
 .refine bW (aY (bw (aQ rfl bc) (z:=.int ((bH m).length:ag)) (qY (by unfold aK;omega))) rfl ?_);show aa (D.bl (decide ((40:aj)<((bH m).length:ag))))=_;rw[qQ (by omega)]
 .exact bW (aY (x:=.str (bH m)) (y:=.str "0") rfl rfl (by show aa (D.bl (decide (bH m="0")))=_;rw[qQ ne]))
theorem IC:∀i∈okI,(0<=i/\tI i=bH i.toNat/\i.toNat<10 ^ 40/\mV (bH i.toNat) "-"=ao/\(i.toNat:aj)=i)\/(i<0/\(-i).toNat<10 ^ 40/\0<(-i).toNat/\mV (tI i) "-"=ai/\jq (tI i) (aa 1) ac=bH (-i).toNat/\(tI i).length<=41 /\ -(((-i).toNat:ag):aj)=i):=by decide +kernel
theorem Ls {i:aj} (hi:i∈okI) (h:ws.drop p=tI i::l):oQ q [] (st ws p c)=aa (.int i,st ws (p+1) c):=by
 rcases IC i hi with⟨_,h1,h2,h3,h4⟩|⟨_,h1,h2,h3,h4,h5,h6⟩
 .rw[h1] at h;rw[Jc h h2 h3,h4]
 .rw[NW h h1 h2 h3 h4 h5,h6]
theorem D6 (h:x=""\/x="]"):gx [.str x]=aa (.bl ao):=by
 rcases h with rfl|rfl
 .rfl
 .rfl
noncomputable def Nx (l:ab ah):Prop:=l=[]\/∃r,l=("]":ah)::r
abbrev nmT:FRt Fs:=rM (rM (aw (bO "ahead_of_all" jT 0 (rP af)) (rP af)) gx) blD
theorem EB:∀(ns:ab ah) (done:ab ah) (p n:ag),ws.drop p=ns++l->Nx l->(∀x∈ns,bB x=ai)->ns.length<n->done.length+ns.length<=1000->whR nmT (eL 1 (bO "take" jx 0 (rP af))) n [aa (.pin q),aa (.own (done.map D.str))] (st ws p c)=aa (.nx,[aa (.pin q),aa (.own ((done++ns).map D.str))],st ws (p+ns.length) c)
 |[],done,p,n+1,h,hx,_,_,_=>by
  rw[eX];refine CT ?_;rcases hx with rfl|⟨r,rfl⟩
  .exact k_M (k_M (cm (dL rfl (dI (by decide)) (k_P rfl) (O6 h)) (k_P rfl)) (D6 (.inl rfl))) rfl
  .exact k_M (k_M (cm (dL rfl (dI (by decide)) (k_P rfl) (lW h)) (k_P rfl)) (D6 (.inr rfl))) rfl
 |x::ns,done,p,n+1,h,hx,hn,hl,hd=>by
  rw[qh] at hl hd;refine(zZ (ρ1:=[aa (.pin q),aa (.own ((done++[x]).map D.str))]) (r2:=st ws (p+1) c) (k_M (k_M (cm (dL rfl (dI (by decide)) (k_P rfl) (lW h)) (k_P rfl)) (jb (hn x qf))) rfl) ?_).trans ?_
  .unfold eL;show((bO "take" jx 0 (rP af) _ (st ws p c)).bind _)=_;rw[dL rfl (dI (by decide)) (k_P rfl) (m9 h),qa,qY (by rw[qe];unfold aK;omega),f9];rfl
  .rw[EB ns (done++[x]) (p+1) n (dp h) hx (fun y hy=>hn y (qg _ hy)) (by omega) (by rw[qk,qX];omega),qA,qh];rw[show p+1+ns.length=p+(ns.length+1) by omega];rfl
theorem BV (h:ws.drop p=ns++l) (hx:Nx l) (h0:1<=ns.length) (hl:ns.length<=100) (hn:∀x∈ns,bB x=ai):uK q [] (st ws p c)=aa (.lst (ns.map D.str),st ws (p+ns.length) c):=by
 cases ns with
 |nil=>simp at h0
 |cons x ns=>
  rw[qh] at hl;refine dq [aa (.pin q),ac] rfl (ρ':=[aa (.pin q),oS (.lst ((x::ns).map D.str))]) ((zD (ds:=[.str x]) (k_M (cm (dL (m:="take_name") rfl (dI (by decide)) (k_P rfl) (DK h (hn x qf))) (k_P rfl)) (g:=szD) rfl)).trans ((la (EB ns [x] (p+1) 100000 (dp h) hx (fun y hy=>hn y (qg _ hy)) (by omega) (by simp;omega))).trans ?_));rw[qh,show p+1+ns.length=p+(ns.length+1) by omega];exact db (k_P rfl)
theorem CV {a b:ag} (h:ws.drop p=bH a::bH b::l) (hab:a<b) (hb:b<10 ^ 7):sB q [] (st ws p c)=aa (.tup [.int a,.int b],st ws (p+1+1) c):=by have t:∀{m:ag},m<10 ^ 7->m<10 ^ 40:=fun h=>mO h (by decide);refine dq [aa (.pin q),ac,ac] rfl (ρ':=[aa (.pin q),oS (.int a),oS (.int b)]) ((dY (dL rfl (dI (by decide)) (k_P rfl) (uO (most:=7) h (uv (by omega)).2 (t (by omega))))).trans ((dY (dL rfl (dI (by decide)) (k_P rfl) (uO (most:=7) (dp h) (uv hb).2 (t hb)))).trans ((cI (k_P (bW (aY rfl rfl ?_)))).trans (db (k_P rfl)))));show aa (D.bl (decide ((b:aj)<=(a:aj))))=_;rw[qQ (by omega)]
end
abbrev lB:ah:="["
abbrev rB:ah:="]"
abbrev sC:ah:=";"
abbrev brk (tw:ab ah):ab ah:=lB::(tw++[rB])
noncomputable def CW (c:D) (ws:ab ah):Prop:=
 (∃s i,bB s=ai/\i∈okI/\c=.tup [.str "start",.str s,.int i]/\ws=(["start",s,tI i]:ab ah)) \/
 (∃k s t:ah,(k=("on":ah)\/k=("order":ah))/\bB s=ai/\bB t=ai/\c=.tup [.str k,.str s,.str t]/\ws=([k,s,t]:ab ah)) \/
 (∃s,bB s=ai/\c=.tup [.str "keep",.str s]/\ws=(["keep",s]:ab ah))
noncomputable def LW (e:D) (ws:ab ah):Prop:=
 (∃s,bB s=ai/\e=.tup [.str "window",.str s]/\ws=(["window",s]:ab ah)) \/
 (∃ns:ab ah,1<=ns.length/\ns.length<=3/\(∀x∈ns,bB x=ai)/\e=.tup [.str "ring",.lst (ns.map D.str)]/\ws=("ring"::ns:ab ah)) \/
 (∃(ns:ab ah) (a b:ag),1<=ns.length/\ns.length<=3/\ns.Nodup/\(∀x∈ns,bB x=ai)/\a<b/\b<10 ^ 7/\e=.tup [.str "stretch",.lst (ns.map D.str),.int a,.int b]/\ws=("stretch"::bH a::bH b::ns:ab ah)) \/
 (∃(j:ah) (a b:ag),bB j=ai/\a<b/\b<10 ^ 7/\e=.tup [.str "together",.str j,.int a,.int b]/\ws=(["together",j,bH a,bH b]:ab ah)) \/
 (∃(s x:ah) (t:ag),bB s=ai/\t<10 ^ 7/\(x="less"\/x="more")/\e=.tup [.str "stock",.str s,.int t,.str x]/\ws=(["stock",s,bH t,x]:ab ah)) \/
 (e=.tup [.str "moved"]/\ws=(["moved"]:ab ah))
section
variable (T:D->ab ah->ag->Prop)
noncomputable def RW (x:D) (ws:ab ah) (k:ag):Prop:=
 (∃s,bB s=ai/\x=.tup [.str "fit",.str s]/\ws=(["fit",s]:ab ah)/\k=1) \/
 (∃y s t:ah,(y="low"\/y="high")/\bB s=ai/\bB t=ai/\x=.tup [.str y,.str s,.str t]/\ws=([y,s,t]:ab ah)/\k=1) \/
 (∃c cw b t tw kt,CW c cw/\(b=0\/b=1)/\T t tw kt/\x=.tup [.str "not",c,.int b,t]/\ws=(("not":ah)::(cw++tI b::brk tw):ab ah)/\k=1+kt)
noncomputable def EW (e:D) (ws:ab ah) (k:ag):Prop:=
 (LW e ws/\k=1) \/
 (∃c cw t tw kt u uw ku,CW c cw/\T t tw kt/\T u uw ku/\e=.tup [.str "both",c,t,u]/\ws=(("both":ah)::(cw++brk tw++brk uw):ab ah)/\k=1+kt+ku)
end
noncomputable def RsW (P:D->ab ah->ag->Prop):ab D->ab ah->ag->Prop
 |[],ws,k=>ws=([]:ab ah)/\k=0
 |x::xs,ws,k=>∃w1 k1 w2 k2,P x w1 k1/\RsW P xs w2 k2/\ws=(w1++w2:ab ah)/\k=k1+k2
noncomputable def TW:ag->D->ab ah->ag->Prop
 |0,_,_,_=>False
 |n+1,d,ws,k=>∃rows e rq kr ew ke,d=.tup [.lst rows,e]/\rows.length<=2/\RsW (RW (TW n)) rows rq kr/\EW (TW n) e ew ke/\ws=(rq++sC::ew:ab ah)/\k=kr+ke
noncomputable def Rd (F:au->ab D->Fs->aq (D×Fs)) (ds:ab D) (w:ab ah) (d:D) (k:ag) (C:ab ah->Prop):Prop:=
 ∀ws p l c q,ws.drop p=w++l->C l->c+k<=3000->F q ds (st ws p c)=aa (d,st ws (p+w.length) (c+k))
noncomputable def An:ab ah->Prop:=fun _=>True
abbrev sL (l:ab ah):D:=.lst (l.map D.str)
noncomputable def K4:ab ah:=["start","on","order","keep"]
noncomputable def K5:ab ah:=["low","high","fit","not"]
noncomputable def K7:ab ah:=["both","window","ring","stretch","together","stock","moved"]
noncomputable def K2:ab ah:=["0","1"]
noncomputable def K6:ab ah:=["less","more"]
theorem in4:∀w∈K4,inX (.str w) (sL K4)=aa ai:=by decide +kernel
theorem in5:∀w∈K5,inX (.str w) (sL K5)=aa ai:=by decide +kernel
theorem in7:∀w∈K7,inX (.str w) (sL K7)=aa ai:=by decide +kernel
theorem in2:∀w∈K2,inX (.str w) (sL K2)=aa ai:=by decide +kernel
theorem in6:∀w∈K6,inX (.str w) (sL K6)=aa ai:=by decide +kernel
theorem inL:inX (.str "[") (sL [("[":ah)])=aa ai:=by decide +kernel
theorem inR:inX (.str "]") (sL [("]":ah)])=aa ai:=by decide +kernel
theorem nin {x y:D} (h:inX x y=aa ai):nI x y=aa (.bl ao):=by unfold nI;rw[h];rfl
section
variable {l:ab ah} {w:ah} {p c:ag}
theorem md {as:ab ah} (hi:ρ[i]?=aa (aa (.pin q))) (hf:fa ρ=aa (sL as)) (h:ws.drop p=w::l) (ha:inX (.str w) (sL as)=aa ai):bO "take_just" gl i (rP (ae fa af)) ρ (st ws p c)=aa (.str w,st ws (p+1) c):=
 dL hi (dI (by decide)) (k_P (aQ hf bc)) (NK h (nin ha))
theorem lq (hi:ρ[i]?=aa (aa (.pin q))) (h:ws.drop p=w::l) (hn:bB w=ai):bO "take_name" gM i (rP af) ρ (st ws p c)=aa (.str w,st ws (p+1) c):=
 dL hi (dI (by decide)) (k_P rfl) (DK h hn)
theorem C9 (hi:ρ[i]?=aa (aa (.pin q))) (h:c+1<=3000):bO "count_one" kN i (rP af) ρ (st ws p c)=aa (.non,st ws p (c+1)):=
 dL hi (dI (by decide)) (k_P rfl) (Oy h)
theorem MD (hi:ρ[i]?=aa (aa (.pin q))) (hf:fa ρ=aa (.int 7)) (h:ws.drop p=bH m::l) (hm:m<10 ^ 7):bO "take_number" lZ i (rP (ae fa af)) ρ (st ws p c)=aa (.int m,st ws (p+1) c):=
 dL hi (dI (by decide)) (k_P (aQ hf bc)) (uO (most:=7) h (uv hm).2 (mO hm (by decide)))
theorem eqs (h:vSh j ρ=aa (.str x)):toB (b2 eqD (vSh j) (vC (.str y))) ρ=aa (decide (x=y)):=bW (aY h rfl rfl)
theorem iZ (h:vSh j ρ=aa (.str x)):toB (b2 eqD (vSh j) (vC (.str x))) ρ=aa ai:=(eqs h).trans (by rw[qV rfl])
theorem dz (h:vSh j ρ=aa (.str x)) (hn:x≠y):toB (b2 eqD (vSh j) (vC (.str y))) ρ=aa ao:=(eqs h).trans (by rw[qQ hn])
end
theorem BS {c:D} (h:CW c cw):Rd tF [] cw c 0 An:=fun ws p l n q hd _ _=>by
 have go:∀{k s:ah} {r:ab ah} {A:FRs Fs} {z:Fl×bd×Fs},ws.drop p=k::s::r->k∈K4->bB s=ai->
   A [aa (.pin q),oS (.str k),oS (.str s)] (st ws (p+1+1) n)=aa z->
   aC (aV 1 (bO "take_just" gl 0 (rP (ae (aL (szF (ae (vC (.str "start")) (ae (vC (.str "on")) (ae (vC (.str "order")) (ae (vC (.str "keep")) af)))))) af)))) (aC (aV 2 (bO "take_name" gM 0 (rP af))) A) [aa (.pin q),ac,ac] (st ws p n)=aa z:=fun hd hk hs hz=>
  (dY (md (as:=K4) rfl rfl hd (in4 _ hk))).trans ((dY (lq rfl (dp hd) hs)).trans hz)
 rcases h with⟨s,i,hs,hi,rfl,rfl⟩|⟨k,s,t,hk,hs,ht,rfl,rfl⟩|⟨s,hs,rfl,rfl⟩
 .refine dq _ rfl (ρ':=[aa (.pin q),oS (.str "start"),oS (.str s)]) (go hd (by simp[K4]) hs ?_);exact(cI (k_P (dz rfl (by decide)))).trans (iA (k_P (iZ rfl)) (db (i6 (cm (k_P rfl) (cm (k_P rfl) (cm (dL rfl (dI (by decide)) (k_P rfl) (Ls hi (dp (dp hd)))) (k_P rfl)))) (by simp))))
 .have n1:k≠"keep":=by rcases hk with rfl|rfl<;>decide
  have n2:k≠"start":=by rcases hk with rfl|rfl<;>decide
  have k4:k∈K4:=by rcases hk with rfl|rfl<;>simp[K4]
  refine dq _ rfl (ρ':=[aa (.pin q),oS (.str k),oS (.str s)]) (go hd k4 hs ?_);exact(cI (k_P (dz rfl n1))).trans ((cI (k_P (dz rfl n2))).trans (db (i6 (cm (k_P rfl) (cm (k_P rfl) (cm (lq rfl (dp (dp hd)) ht) (k_P rfl)))) (by simp))))
 .refine dq _ rfl (ρ':=[aa (.pin q),oS (.str "keep"),oS (.str s)]) (go hd (by simp[K4]) hs ?_);exact iA (k_P (iZ rfl)) (db (k_P rfl))
section
variable {W:au->ab D->Fs->aq (D×Fs)}
noncomputable def WOk (W:au->ab D->Fs->aq (D×Fs)) (T:D->ab ah->ag->Prop) (dep:ag):Prop:=∀t tw k,T t tw k->Rd W [.int dep] (brk tw) t k An
theorem t01:∀b:aj,(b=0\/b=1)->tI b∈K2/\(decide (tI b="0")=decide (b=0)):=by rintro b (rfl|rfl)<;>decide +kernel
theorem HH (hW:WOk W T dep) {x:D} {k:ag} (h:RW T x xw k):Rd (oH W) [.int dep] xw x k An:=fun ws p l c q hd _ hk=>by
 have go:∀{y:ah} {r:ab ah} {A:FRs Fs} {z:Fl×bd×Fs},ws.drop p=y::r->y∈K5->1<=k->
   A [aa (.pin q),oS (.int dep),oS (.str y),ac,ac,ac] (st ws (p+1) (c+1))=aa z->
   aC (ju (bO "count_one" kN 0 (rP af))) (aC (aV 2 (bO "take_just" gl 0 (rP (ae (aL (szF (ae (vC (.str "low")) (ae (vC (.str "high")) (ae (vC (.str "fit")) (ae (vC (.str "not")) af)))))) af)))) A) [aa (.pin q),oS (.int dep),ac,ac,ac,ac] (st ws p c)=aa z:=fun hd hk' h1 hz=>
  (pM (C9 rfl (by omega))).trans ((dY (md (as:=K5) rfl rfl hd (in5 _ hk'))).trans hz)
 rcases h with⟨s,hs,rfl,rfl,rfl⟩|⟨y,s,t,hy,hs,ht,rfl,rfl,rfl⟩|⟨cc,cw,b,t,tw,kt,hc,hb,ht,rfl,rfl,rfl⟩
 .refine dq _ rfl (ρ':=[aa (.pin q),oS (.int dep),oS (.str "fit"),ac,ac,ac]) (go hd (by simp[K5]) (by omega) ?_);exact(cI (k_P (dz rfl (by decide)))).trans (iA (k_P (iZ rfl)) (db (i6 (cm (k_P rfl) (cm (lq rfl (dp hd) hs) (k_P rfl))) (by simp))))
 .have n1:y≠"not":=by rcases hy with rfl|rfl<;>decide
  have n2:y≠"fit":=by rcases hy with rfl|rfl<;>decide
  have y5:y∈K5:=by rcases hy with rfl|rfl<;>simp[K5]
  refine dq _ rfl (ρ':=[aa (.pin q),oS (.int dep),oS (.str y),ac,ac,oS (.str s)]) (go hd y5 (by omega) ?_);exact(cI (k_P (dz rfl n1))).trans ((cI (k_P (dz rfl n2))).trans ((dY (lq rfl (dp hd) hs)).trans (db (i6 (cm (k_P rfl) (cm (k_P rfl) (cm (lq rfl (dp (dp hd)) ht) (k_P rfl)))) (by simp)))))
 .obtain⟨b1,b2'⟩:=t01 b hb;have hd1:ws.drop (p+1)=cw++(tI b::(brk tw++l)):=dp (w:="not") (by rw[hd,qr,qA];rfl);have hd2:=dpa hd1;have hd3:=dp hd2;refine dq _ rfl (ρ':=[aa (.pin q),oS (.int dep),oS (.str "not"),oS cc,oS (.int b),ac]) (go hd (by simp[K5]) (by omega) ?_);refine iA (k_P (iZ rfl)) ((dY (hZ rfl (k_P rfl) (BS hc ws (p+1) _ (c+1) q hd1 trivial (by omega)))).trans ((dY (d:=.int b) ?_).trans (db (i6 (l:=[.str "not",cc,.int b,t]) (cm (k_P rfl) (cm (k_P rfl) (cm (k_P rfl) (cm (hZ rfl (cm (k_P rfl) (k_P rfl)) (hW t tw kt ht ws _ l (c+1) q hd3 trivial (by omega))) ?_)))) (by simp)))))
  .have e:rM (r2 eqD (bO "take_just" gl 0 (rP (ae (aL (szF (ae (vC (.str "0")) (ae (vC (.str "1")) af)))) af))) (rP (vC (.str "0")))) blD [aa (.pin q),oS (.int dep),oS (.str "not"),oS cc,ac,ac] (st ws (p+1+cw.length) (c+1))=aa (decide (tI b="0"),st ws (p+1+cw.length+1) (c+1)):=
    k_M (k_2 (md (as:=K2) rfl rfl hd2 (in2 _ b1)) (k_P rfl) rfl) rfl
   rcases hb with rfl|rfl
   .rw[b2',qV rfl] at e;exact(zL e).trans (k_P rfl)
   .rw[b2',qQ (by decide)] at e;exact(Ag e).trans (k_P rfl)
  .have e1:p+1+cw.length+1+(brk tw).length=p+(("not":ah)::(cw++tI b::brk tw)).length:=by simp;omega
   have e2:c+1+kt=c+(1+kt):=by omega
   rw[e1,e2];exact k_P rfl
theorem M' {l:ab ah} {p c:ag} {a b:ag} (hd:ws.drop p=bH a::bH b::(ns++l)) (hl:Nx l) (h1:1<=ns.length) (h3:ns.length<=3) (nd:ns.Nodup) (hn:∀x∈ns,bB x=ai) (hab:a<b) (hb:b<10 ^ 7) :
  xM q [] (st ws p c)=aa (.tup [.str "stretch",.lst (ns.map D.str),.int a,.int b],st ws (p+1+1+ns.length) c):=
 dq [aa (.pin q),ac,ac] rfl (ρ':=[aa (.pin q),oS (.tup [.int a,.int b]),oS (.lst (ns.map D.str))]) ((dY (hZ rfl (k_P rfl) (CV hd hab hb))).trans ((dY (dL rfl (dI (by decide)) (k_P rfl) (BV (dp (dp hd)) hl h1 (by omega) hn))).trans ((cI (k_P (j9 (bw (aQ rfl bc) (kI nd (by omega)))))).trans (db (k_P rfl)))))
theorem Hw (hW:WOk W T dep) {x:D} {k:ag} (h:EW T x xw k):Rd (wl W) [.int dep] xw x k Nx:=fun ws p l c q hd hl hk=>by
 have go:∀{y:ah} {r:ab ah} {A:FRs Fs} {z:Fl×bd×Fs},ws.drop p=y::r->y∈K7->1<=k->
   A [aa (.pin q),oS (.int dep),oS (.str y),ac,ac,ac,ac,ac,ac] (st ws (p+1) (c+1))=aa z->
   aC (ju (bO "count_one" kN 0 (rP af))) (aC (aV 2 (bO "take_just" gl 0 (rP (ae (aL (szF (ae (vC (.str "both")) (ae (vC (.str "window")) (ae (vC (.str "ring")) (ae (vC (.str "stretch")) (ae (vC (.str "together")) (ae (vC (.str "stock")) (ae (vC (.str "moved")) af))))))))) af)))) A) [aa (.pin q),oS (.int dep),ac,ac,ac,ac,ac,ac,ac] (st ws p c)=aa z:=fun hd hk' h1 hz=>
  (pM (C9 rfl (by omega))).trans ((dY (md (as:=K7) rfl rfl hd (in7 _ hk'))).trans hz)
 rcases h with⟨h,rfl⟩|⟨cc,cw,t,tw,kt,u,uw,ku,hc,ht,hu,rfl,rfl,rfl⟩
 .rcases h with⟨s,hs,rfl,rfl⟩|⟨ns,h1,h3,hn,rfl,rfl⟩|⟨ns,a,b,h1,h3,nd,hn,hab,hb,rfl,rfl⟩|⟨j,a,b,hj,hab,hb,rfl,rfl⟩|⟨s,x,t,hs,ht,hx,rfl,rfl⟩|⟨rfl,rfl⟩
  .refine dq _ rfl (ρ':=[aa (.pin q),oS (.int dep),oS (.str "window"),ac,ac,ac,ac,ac,ac]) (go hd (by simp[K7]) (by omega) ?_);exact(cI (k_P (dz rfl (by decide)))).trans (iA (k_P (iZ rfl)) (db (i6 (cm (k_P rfl) (cm (lq rfl (dp hd) hs) (k_P rfl))) (by simp))))
  .refine dq _ rfl (ρ':=[aa (.pin q),oS (.int dep),oS (.str "ring"),ac,ac,ac,ac,ac,ac]) (go hd (by simp[K7]) (by omega) ?_);refine(cI (k_P (dz rfl (by decide)))).trans ((cI (k_P (dz rfl (by decide)))).trans (iA (k_P (iZ rfl)) (db (i6 (cm (k_P rfl) (cm (dL rfl (dI (by decide)) (k_P rfl) (BV (dp hd) hl h1 (by omega) hn)) (k_P rfl))) (by simp)) |>.trans ?_)));rw[qh,show p+1+ns.length=p+(ns.length+1) by omega]
  .refine dq _ rfl (ρ':=[aa (.pin q),oS (.int dep),oS (.str "stretch"),ac,ac,ac,ac,ac,ac]) (go hd (by simp[K7]) (by omega) ?_);refine(cI (k_P (dz rfl (by decide)))).trans ((cI (k_P (dz rfl (by decide)))).trans ((cI (k_P (dz rfl (by decide)))).trans (iA (k_P (iZ rfl)) ((db (hZ rfl (k_P rfl) (M' (dp hd) hl h1 h3 nd hn hab hb))).trans ?_))));rw[qh,qh,qh,show p+1+1+1+ns.length=p+(ns.length+1+1+1) by omega]
  .refine dq _ rfl (ρ':=[aa (.pin q),oS (.int dep),oS (.str "together"),ac,ac,oS (.str j),oS (.tup [.int a,.int b]),ac,ac]) (go hd (by simp[K7]) (by omega) ?_);exact(cI (k_P (dz rfl (by decide)))).trans ((cI (k_P (dz rfl (by decide)))).trans ((cI (k_P (dz rfl (by decide)))).trans ((cI (k_P (dz rfl (by decide)))).trans (iA (k_P (iZ rfl)) ((dY (lq rfl (dp hd) hj)).trans ((dY (hZ rfl (k_P rfl) (CV (dp (dp hd)) hab hb))).trans (db (k_P rfl))))))))
  .have x6:x∈K6:=by rcases hx with rfl|rfl<;>simp[K6]
   refine dq _ rfl (ρ':=[aa (.pin q),oS (.int dep),oS (.str "stock"),ac,ac,ac,ac,oS (.str s),oS (.int t)]) (go hd (by simp[K7]) (by omega) ?_);exact(cI (k_P (dz rfl (by decide)))).trans ((cI (k_P (dz rfl (by decide)))).trans ((cI (k_P (dz rfl (by decide)))).trans ((cI (k_P (dz rfl (by decide)))).trans ((cI (k_P (dz rfl (by decide)))).trans (iA (k_P (iZ rfl)) ((dY (lq rfl (dp hd) hs)).trans ((dY (MD rfl rfl (dp (dp hd)) ht)).trans (db (i6 (cm (k_P rfl) (cm (k_P rfl) (cm (k_P rfl) (cm (md (as:=K6) rfl rfl (dp (dp (dp hd))) (in6 _ x6)) (k_P rfl))))) (by simp))))))))))
  .refine dq _ rfl (ρ':=[aa (.pin q),oS (.int dep),oS (.str "moved"),ac,ac,ac,ac,ac,ac]) (go hd (by simp[K7]) (by omega) ?_);exact(cI (k_P (dz rfl (by decide)))).trans ((cI (k_P (dz rfl (by decide)))).trans ((cI (k_P (dz rfl (by decide)))).trans ((cI (k_P (dz rfl (by decide)))).trans ((cI (k_P (dz rfl (by decide)))).trans ((cI (k_P (dz rfl (by decide)))).trans (db (k_P rfl)))))))
 .have hd1:ws.drop (p+1)=cw++(brk tw++(brk uw++l)):=dp (w:="both") (by rw[hd,qr,qA,qA]);have hd2:=dpa hd1;have hd3:=dpa hd2;refine dq _ rfl (ρ':=[aa (.pin q),oS (.int dep),oS (.str "both"),oS cc,oS t,ac,ac,ac,ac]) (go hd (by simp[K7]) (by omega) ?_);refine iA (k_P (iZ rfl)) ((dY (hZ rfl (k_P rfl) (BS hc ws (p+1) _ (c+1) q hd1 trivial (by omega)))).trans ((dY (hZ rfl (cm (k_P rfl) (k_P rfl)) (hW t tw kt ht ws _ _ (c+1) q hd2 trivial (by omega)))).trans (db (i6 (l:=[.str "both",cc,t,u]) (cm (k_P rfl) (cm (k_P rfl) (cm (k_P rfl) (cm (hZ rfl (cm (k_P rfl) (k_P rfl)) (hW u uw ku hu ws _ l (c+1+kt) q hd3 trivial (by omega))) ?_)))) (by simp)))));have e1:p+1+cw.length+(brk tw).length+(brk uw).length=p+(("both":ah)::(cw++brk tw++brk uw)).length:=by simp;omega
  have e2:c+1+kt+ku=c+(1+kt+ku):=by omega
  rw[e1,e2];exact k_P rfl
end
section
variable {W:au->ab D->Fs->aq (D×Fs)} {l:ab ah}
theorem MN {x:D} {k:ag} (h:RW T x xw k):∃y r,xw=y::r/\y≠";"/\1<=k:=by
 rcases h with⟨s,hs,rfl,rfl,rfl⟩|⟨y,s,t,hy,hs,ht,rfl,rfl,rfl⟩|⟨cc,cw,b,t,tw,kt,hc,hb,ht,rfl,rfl,rfl⟩
 .exact⟨_,_,rfl,by decide,by omega⟩
 .exact⟨_,_,rfl,by rcases hy with rfl|rfl<;>decide,by omega⟩
 .exact⟨_,_,rfl,by decide,by omega⟩
theorem Eo (hW:WOk W T dep):∀(rows done:ab D) (rq:ab ah) (kr p c n:ag),RsW (RW T) rows rq kr->ws.drop p=rq++sC::l->c+kr<=3000->rows.length<n->done.length+rows.length<=1000->
  whR (rM (r2 neD (bO "ahead_of_all" jT 0 (rP af)) (rP (vC (.str ";")))) blD) (eL 2 (aI (oH W) 0 (aw (rP (vSh 1)) (rP af)))) n [aa (.pin q),oS (.int dep),aa (.own done)] (st ws p c)=aa (.nx,[aa (.pin q),oS (.int dep),aa (.own (done++rows))],st ws (p+rq.length) (c+kr))
 |[],done,rq,kr,p,c,n+1,h,hd,_,_,_=>by
  obtain⟨rfl,rfl⟩:=h;rw[eX];exact CT (k_M (k_2 (dL rfl (dI (by decide)) (k_P rfl) (lW hd)) (k_P rfl) (z:=.bl ao) rfl) rfl)
 |x::rows,done,rq,kr,p,c,n+1,h,hd,hk,hl,hz=>by
  obtain⟨w1,k1,w2,k2,h1,h2,rfl,rfl⟩:=h;rw[qA] at hd;obtain⟨y,r,e,hy,_⟩:=MN h1;rw[qh] at hl hz;refine(zZ (ρ1:=[aa (.pin q),oS (.int dep),aa (.own (done++[x]))]) (r2:=st ws (p+w1.length) (c+k1)) (k_M (k_2 (dL rfl (dI (by decide)) (k_P rfl) (lW (w:=y) (l:=r++(w2++sC::l)) (by rw[hd,e];rfl))) (k_P rfl) (z:=.bl ai) (by show aa (D.bl (!decide (y=";")))=_;rw[qQ hy];rfl)) rfl) ?_).trans ?_
  .unfold eL;show((aI (oH W) 0 (aw (rP (vSh 1)) (rP af)) _ (st ws p c)).bind _)=_;rw[hZ rfl (cm (k_P rfl) (k_P rfl)) (HH hW h1 ws p _ c q hd trivial (by omega)),qa,qY (by unfold aK;omega)];rfl
  .rw[Eo hW rows (done++[x]) w2 k2 (p+w1.length) (c+k1) n h2 (dpa hd) (by omega) (by omega) (by rw[qk,qX];omega),qA,qk];rw[show p+w1.length+w2.length=p+(w1.length+w2.length) by omega,show c+k1+k2=c+(k1+k2) by omega];rfl
theorem Be (hW:WOk W T dep) (hdep:dep<=40) {e:D} {rq:ab ah} {kr:ag} (h2:rows.length<=2) (hr:RsW (RW T) rows rq kr) (he:EW T e ew ke):Rd (uP W) [.int dep] (rq++sC::ew) (.tup [.lst rows,e]) (kr+ke) Nx:=fun ws p l c q hd hl hk=>by
 have hd':ws.drop p=rq++sC::(ew++l):=by rw[hd,qA];rfl
 have hd2:=dpa hd';refine dq [aa (.pin q),oS (.int dep),ac] rfl (ρ':=[aa (.pin q),oS (.int dep),oS (.lst rows)]) ((cI (k_P (bW (aY rfl rfl ?_)))).trans ((zD (ds:=[]) (k_P rfl)).trans ((la (Eo (q:=q) hW rows [] rq kr p c 100000 hr hd' (by omega) (by omega) (by simp;omega))).trans ((pM (dL rfl (dI (by decide)) (k_P rfl) (m9 hd2))).trans ?_))))
 .show aa (D.bl (decide ((40:aj)<(dep:aj))))=_;rw[qQ (by omega)]
 .show bI _ [aa (.pin q),oS (.int dep),oS (.lst rows)] _=_;refine db (i6 (l:=[.lst rows,e]) (cm (k_P rfl) (cm (hZ rfl (cm (k_P rfl) (k_P rfl)) (Hw hW he ws (p+rq.length+1) l (c+kr) q (dp hd2) hl (by omega))) ?_)) (by simp));rw[show p+rq.length+1+ew.length=p+(rq++sC::ew).length by simp;omega,show c+kr+ke=c+(kr+ke) by omega];exact k_P rfl
end
theorem Ac:∀(n m:ag) (dep:ag),n<=m->dep+n<=40->WOk (o6 m) (TW n) dep
 |0,_,_,_,_=>fun t tw k h=>h.elim
 |n+1,0,_,h,_=>by omega
 |n+1,m+1,dep,hm,hdep=>fun t tw k h=>by
  obtain⟨rows,e,rq,kr,ew,ke,rfl,h2,hr,he,rfl,rfl⟩:=h;intro ws p l c q hd _ hk;have hd1:ws.drop p=lB::((rq++sC::ew)++(rB::l)):=by rw[hd];simp
  have nx:=Be (W:=o6 m) (T:=TW n) (dep:=dep+1) (Ac n m (dep+1) (by omega) (by omega)) (by omega) h2 hr he ws (p+1) (rB::l) c q (dp hd1) (.inr ⟨l,rfl⟩) (by omega);have hd3:=dpa (dp hd1);refine dq [aa (.pin q),oS (.int dep),ac] rfl (ρ':=[aa (.pin q),oS (.int dep),oS (.tup [.lst rows,e])]) ((pM (md (as:=[lB]) rfl rfl hd1 inL)).trans ((dY (hZ rfl (cm (k_P (aY rfl rfl rfl)) (k_P rfl)) nx)).trans ((pM (md (as:=[rB]) rfl rfl hd3 inR)).trans ((db (k_P rfl)).trans ?_))));rw[show p+1+(rq++sC::ew).length+1=p+(brk (rq++sC::ew)).length by simp;omega];rfl
end Law
variable {tw:ab ah}
namespace Law
open PySem L2 PySem.StrLaws
noncomputable def nb (w:ah):Prop:=32∉w.cps.toList
instance (w:ah):Decidable (nb w):=by unfold nb;infer_instance
noncomputable def Nb (ws:ab ah) (B:ag):Prop:=(∀w∈ws,nb w)/\wt ws<=B
theorem IV {c:ag} :az c=ai↔97<=c/\c<=122:=by
 have z:("z":ah)=⟨#[122]⟩:=by decide +kernel
 have a:("a":ah)=⟨#[97]⟩:=by decide +kernel
 unfold az ltS;rw[z,a];simp only[hG,QU,QV];have one:∀i j:ag,(([i]:ab ag) < [j])↔i<j:=fun i j=>by
  constructor
  .intro h;cases h with
   |rel h=>exact h
   |cons h=>cases h
  .intro h;exact QW h
 show ¬([c]:ab ag) < [97]/\¬([122]:ab ag) < [c]↔_;rw[one,one];omega
theorem iH (h:bB x=ai):nb x/\x.length<=8:=⟨fun z=>by have:=IV.mp (vJ h _ z);omega,(B4 h).2⟩
theorem pK (h:m<10 ^ 7):nb (bH m)/\(bH m).length<=7:=⟨fun z=>by have:=wL m _ z;omega,(uv h).2⟩
theorem JE:∀i∈okI,nb (tI i)/\(tI i).length<=41:=by decide +kernel
theorem Nb.nil:Nb [] 0:=⟨(fun _ z=>nomatch z),qy _⟩
theorem Nb.cons {w:ah} {a b B:ag} (h:nb w/\w.length<=a) (hr:Nb ws b) (hB:a+1+b<=B):Nb (w::ws) B:=⟨fun x hx=>by
 rcases eC.mp hx with rfl|hx
 .exact h.1
 .exact hr.1 x hx,by rw[xR];have:=h.2;have:=hr.2;omega⟩
theorem Nb.app {vs:ab ah} {a b B:ag} (h:Nb ws a) (hr:Nb vs b) (hB:a+b<=B):Nb (ws++vs) B:=⟨fun x hx=>by
 rcases gz.mp hx with hx|hx
 .exact h.1 x hx
 .exact hr.1 x hx,by rw[MK];have:=h.2;have:=hr.2;omega⟩
theorem Nb.le {a b:ag} (h:Nb ws a) (hB:a<=b):Nb ws b:=⟨h.1,qP h.2 hB⟩
theorem Nb.names:∀{ns:ab ah},(∀x∈ns,bB x=ai)->Nb ns (9*ns.length)
 |[],_=>.nil
 |x::r,h=>.cons (iH (h x qf)) (Nb.names fun y hy=>h y (qg _ hy)) (by rw[qh];omega)
theorem fy:∀w∈(["start","on","order","keep","low","high","fit","not","both","window","ring","stretch","together","stock","moved","less","more","0","1","[","]",";"]:ab ah),nb w/\w.length<=8:=by decide +kernel
theorem uu {c:D} (h:CW c cw):Nb cw 60/\cw≠[]:=by
 rcases h with⟨s,i,hs,hi,rfl,rfl⟩|⟨k,s,t,hk,hs,ht,rfl,rfl⟩|⟨s,hs,rfl,rfl⟩
 .exact⟨.cons (fy _ (by simp)) (.cons (iH hs) (.cons (JE i hi) .nil (qy _)) (qy _)) (by omega),by simp⟩
 .have k8:nb k/\k.length<=8:=by rcases hk with rfl|rfl<;>exact fy _ (by simp)
  exact⟨.cons k8 (.cons (iH hs) (.cons (iH ht) .nil (qy _)) (qy _)) (by omega),by simp⟩
 .exact⟨.cons (fy _ (by simp)) (.cons (iH hs) .nil (qy _)) (by omega),by simp⟩
theorem CP {e:D} (h:LW e ws):Nb ws 60:=by
 rcases h with⟨s,hs,rfl,rfl⟩|⟨ns,h1,h3,hn,rfl,rfl⟩|⟨ns,a,b,h1,h3,nd,hn,hab,hb,rfl,rfl⟩|⟨j,a,b,hj,hab,hb,rfl,rfl⟩|⟨s,x,t,hs,ht,hx,rfl,rfl⟩|⟨rfl,rfl⟩
 .exact .cons (fy _ (by simp)) (.cons (iH hs) .nil (qy _)) (by omega)
 .exact .cons (fy _ (by simp)) (.names hn) (by omega)
 .exact .cons (fy _ (by simp)) (.cons (pK (by omega)) (.cons (pK hb) (.names hn) (qy _)) (qy _)) (by omega)
 .exact .cons (fy _ (by simp)) (.cons (iH hj) (.cons (pK (by omega)) (.cons (pK hb) .nil (qy _)) (qy _)) (qy _)) (by omega)
 .have x8:nb x/\x.length<=8:=by rcases hx with rfl|rfl<;>exact fy _ (by simp)
  exact .cons (fy _ (by simp)) (.cons (iH hs) (.cons (pK ht) (.cons x8 .nil (qy _)) (qy _)) (qy _)) (by omega)
 .exact .cons (fy _ (by simp)) .nil (by omega)
section
variable (hT:∀t tw k,T t tw k->Nb tw (120*k))
include hT
theorem xU {t:D} {k:ag} (h:T t tw k):Nb (brk tw) (120*k+18):=.cons (fy _ (by simp)) (.app (hT t tw k h) (.cons (fy rB (by simp)) .nil (qy _)) (qy _)) (by omega)
theorem Ar {x:D} {k:ag} (h:RW T x xw k):Nb xw (120*k):=by
 rcases h with⟨s,hs,rfl,rfl,rfl⟩|⟨y,s,t,hy,hs,ht,rfl,rfl,rfl⟩|⟨cc,cw,b,t,tw,kt,hc,hb,ht,rfl,rfl,rfl⟩
 .exact .cons (fy _ (by simp)) (.cons (iH hs) .nil (qy _)) (by omega)
 .have y8:nb y/\y.length<=8:=by rcases hy with rfl|rfl<;>exact fy _ (by simp)
  exact .cons y8 (.cons (iH hs) (.cons (iH ht) .nil (qy _)) (qy _)) (by omega)
 .have b8:nb (tI b)/\(tI b).length<=8:=by rcases hb with rfl|rfl<;>decide +kernel
  exact .cons (fy _ (by simp)) (.app (uu hc).1 (.cons b8 (xU hT ht) (qy _)) (qy _)) (by omega)
theorem Nz {x:D} {k:ag} (h:EW T x xw k):Nb xw (120*k-10)/\1<=k:=by
 rcases h with⟨h,rfl⟩|⟨cc,cw,t,tw,kt,u,uw,ku,hc,ht,hu,rfl,rfl,rfl⟩
 .exact⟨(CP h).le (by omega),qy _⟩
 .exact⟨.cons (fy _ (by simp)) (.app (.app (uu hc).1 (xU hT ht) (qy _)) (xU hT hu) (qy _)) (by omega),by omega⟩
theorem xx:∀{rows:ab D} {rq:ab ah} {kr:ag},RsW (RW T) rows rq kr->Nb rq (120*kr)
 |[],_,_,h=>by obtain⟨rfl,rfl⟩:=h;exact .nil
 |x::rows,_,_,h=>by obtain⟨w1,k1,w2,k2,h1,h2,rfl,rfl⟩:=h;exact .app (Ar hT h1) (xx h2) (by omega)
end
theorem tf:∀{n:ag} {d:D} {ws:ab ah} {k:ag},TW n d ws k->Nb ws (120*k)
 |0,_,_,_,h=>h.elim
 |n+1,_,_,_,h=>by obtain⟨rows,e,rq,kr,ew,ke,rfl,h2,hr,he,rfl,rfl⟩:=h;have hT:∀t tw k,TW n t tw k->Nb tw (120*k):=fun t tw k h=>tf h;obtain⟨e1,e2⟩:=Nz hT he;exact .app (xx hT hr) (.cons (fy sC (by simp)) e1 (qy _)) (by omega)
theorem J2 {k:ag} (h:TW n d ws k):∃w r,ws=w::r:=by
 cases n with
 |zero=>exact h.elim
 |succ n=>
  obtain⟨rows,e,rq,kr,ew,ke,rfl,h2,hr,he,rfl,rfl⟩:=h;cases rq with
  |nil=>exact⟨_,_,rfl⟩
  |cons w r=>exact⟨_,_,rfl⟩
theorem IY {w:ah} {r:ab ah} (h:∀x∈w::r,nb x):kG (J (w::r)) " "=w::r:=by
 have hy:(" ":ah).cps.toList=32::[]:=by decide +kernel
 have:=Ow hy (by decide +kernel) w r h;rw[show rW " " (w::r)=lS " " (w::r) from glued_eq_join _ _] at this;exact this
theorem JO :xb [.lst (ws.map D.str)]=aa (st ws 0 0):=rfl
theorem LY {c:ag} :wg q [] (st ws ws.length c)=aa (.bl ai,st ws ws.length c):=by refine dq [aa (.pin q)] rfl (ρ':=[aa (.pin q)]) (db (k_2 tX (k_M (cm xa (k_P rfl)) (b:=.int (ws.length:ag)) (by show aa (D.int ((ws.map D.str).length:ag))=_;rw[qe])) ?_));show aa (D.bl (decide ((ws.length:aj)=(ws.length:aj))))=_;rw[qV rfl]
theorem wy {k:ag} (h:TW n d ws k) (hn:n<=7) (hk:k<=3000):jp [.str (J ws)]=aa d:=by
 obtain⟨f1,f2⟩:=tf h;obtain⟨w,r,e⟩:=J2 h;have hJ:(J ws).length<=1000000:=qP (DU ws) (by omega);have sp:nG (.str (J ws)) [.str " "]=aa (.lst (ws.map D.str)):=by have:nG (.str (J ws)) [.str " "]=aa (.lst ((kG (J ws) " ").map D.str)):=qY ⟨by decide,hJ⟩;rw[this,e,IY (by rw[←e];exact f1)]
 cases n with
 |zero=>exact h.elim
 |succ n=>
  obtain⟨rows,e',rq,kr,ew,ke,rfl,h2,hr,he,rfl,rfl⟩:=h;have nx:∀q,wK q [.int 1] (st (rq++sC::ew) 0 0)=aa (.tup [.lst rows,e'],st (rq++sC::ew) (0+(rq++sC::ew).length) (0+(kr+ke))):=fun q=>
   Be (W:=wM) (T:=TW n) (dep:=1) (Ac n 8 1 (by omega) (by omega)) (by omega) h2 hr he (rq++sC::ew) 0 [] 0 q (by rw[eX];rfl) (.inl rfl) (by omega)
  rw[vF,vF] at nx;refine cK [oS (.str (J (rq++sC::ew))),ac,ac] rfl ((dU ?_).trans (N1 (r':=st (rq++sC::ew) (rq++sC::ew).length (kr+ke)) (ρ':=[oS (.str (J (rq++sC::ew))),ac,oS (.tup [.lst rows,e'])]) (aQ (yk rfl (aQ rfl bc) sp) bc) JO (by simp) fun q=>?_))
  .exact j9 (bw (aQ rfl (aQ rfl bc)) rfl)
  .exact(dY (hZ rfl (cm (k_P rfl) (k_P rfl)) (nx q))).trans ((cI (k_M (a:=ai) (g:=fun b=>aa (!b)) (k_M (g:=blD) (dL (m:="is_behind_all") rfl (dI (by decide)) (k_P rfl) LY) rfl) rfl)).trans (db (k_P rfl)))
theorem oM {xs ys:ab ah} (h1:ρ[i]?=aa (aa (.own (xs.map D.str)))) (h2:f ρ=aa (.lst (ys.map D.str))) (h3:xs.length+ys.length<=16000000):fM i f ρ=aa (.nx,ρ.set i (aa (.own ((xs++ys).map D.str)))):=by unfold fM;rw[h1];show(f ρ).bind _=_;rw[h2];show(if _ then _ else _)=_;rw[qY (by rw[qe,qe];unfold aK;omega),f9]
theorem OL {xs:ab ah} (h1:ρ[i]?=aa (aa (.own (xs.map D.str)))) (h2:f ρ=aa (.str y)) (h3:xs.length<=16000000):rh i f ρ=aa (.nx,ρ.set i (aa (.own ((xs++[y]).map D.str)))):=by unfold rh;rw[h1];show(f ρ).bind _=_;rw[h2];show(if _ then _ else _)=_;rw[qY (by rw[qe];unfold aK;omega),f9];rfl
theorem xl {A B:FS} (h:ft ρ=aa ai):sIf ft A B ρ=A ρ:=by unfold sIf;rw[h];rfl
theorem nP {A B:FS} (h:ft ρ=aa ao):sIf ft A B ρ=B ρ:=by unfold sIf;rw[h];rfl
theorem iM {g':FS} (h:g ρ=aa (.nx,ρ1)):aS g g' ρ=g' ρ1:=by unfold aS;rw[h];rfl
theorem L3 (h:ρ[i]?=aa (aa (.own ds))):kO i g ρ=g (ρ.set i (oS (.lst ds))):=by unfold kO;rw[h]
theorem pw {b:FS} {xs:ab D} (h:fi ρ=aa xs):dZ fi gg b ρ=eS gg b xs ρ:=by unfold dZ;rw[h];rfl
theorem eq0 {k c:ah} {r:ab D} (h:vSh i ρ=aa (.tup (.str k::r))):toB (b2 eqD (b2 ixD (vSh i) (vC (.int 0))) (vC (.str c))) ρ=aa (decide (k=c)):=bW (aY (aY h rfl eQ) rfl rfl)
theorem eqT {c:ah} {r:ab D} (h:vSh i ρ=aa (.tup (.str c::r))):toB (b2 eqD (b2 ixD (vSh i) (vC (.int 0))) (vC (.str c))) ρ=aa ai:=(eq0 h).trans (by rw[qV rfl])
theorem eqF {k c:ah} {r:ab D} (hn:k≠c) (h:vSh i ρ=aa (.tup (.str k::r))):toB (b2 eqD (b2 ixD (vSh i) (vC (.int 0))) (vC (.str c))) ρ=aa ao:=(eq0 h).trans (by rw[qQ hn])
noncomputable def Wq:D->Prop
 |.str _=>True
 |.int i=>i.natAbs.log2<1920
 |_=>False
theorem ue (h:Wq d):fJ [d]=aa (.str (wS d)):=by
 match d,h with
 |.str x,h=>rfl
 |.int i,h=>exact qY h
theorem DJ (h:fi ρ=aa ds) (hl:ds.length<=100) (ok:∀d∈ds,Wq d):aL (bQ fi (aM 0) tT (cF fJ (ae (vSh 0) af)) [ac]) ρ=aa (.lst ((ds.map wS).map D.str)):=by have hc:=jU (fi:=fi) (fe:=cF fJ (ae (vSh 0) af)) (fv:=[ac]) (ρ:=ρ) (r:=[]) (a:=ac) (xs:=ds) (f:=fun d=>.str (wS d)) h (by unfold aK;omega) rfl fun x hx=>bw (aQ rfl bc) (ue (ok x hx));rw[hc,iz];rfl
theorem pC (h:m<10 ^ 7):Wq (.int m):=by
 show((m:aj).natAbs).log2<1920;rw[Int.natAbs_natCast];rcases Q9 m with rfl|hm
 .decide
 .exact qI (Nat.log2_lt (by omega) |>.mpr (qI h (by decide):m<2 ^ 24)) (by decide)
theorem De {i:aj} (h:i∈okI):Wq (.int i):=(J8 i h).1
theorem D0 {c:D} (h:CW c cw) (hf:f ρ=aa c):aL (bQ (itF f) (aM 0) tT (cF fJ (ae (vSh 0) af)) [ac]) ρ=aa (.lst (cw.map D.str)):=by
 have go:∀{ds:ab D},c=.tup ds->ds.length<=100->(∀d∈ds,Wq d)->ds.map wS=cw->aL (bQ (itF f) (aM 0) tT (cF fJ (ae (vSh 0) af)) [ac]) ρ=aa (.lst (cw.map D.str)):=fun {ds} e hl ok hw=>by rw[←hw];exact DJ (by unfold itF;rw[hf,e];rfl) hl ok
 rcases h with⟨s,i,hs,hi,rfl,rfl⟩|⟨k,s,t,hk,hs,ht,rfl,rfl⟩|⟨s,hs,rfl,rfl⟩
 .refine go rfl (by simp) (fun d hd=>?_) rfl;simp only[qO,qM,or_false] at hd;rcases hd with rfl|rfl|rfl
  .trivial
  .trivial
  .exact De hi
 .refine go rfl (by simp) (fun d hd=>?_) rfl;simp only[qO,qM,or_false] at hd;rcases hd with rfl|rfl|rfl<;>trivial
 .refine go rfl (by simp) (fun d hd=>?_) rfl;simp only[qO,qM,or_false] at hd;rcases hd with rfl|rfl<;>trivial
theorem GO {e:D} (h:LW e ew):oI [e]=aa (.lst (ew.map D.str)):=by
 have go:∀{k:ah} {r:ab D},e=.tup (.str k::r)->k≠"ring"->k≠"stretch"->r.length<=10->(∀d∈r,Wq d)->k::r.map wS=ew->oI [e]=aa (.lst (ew.map D.str)):=fun {k r} e' n1 n2 hl ok hw=>by
  subst e' hw;exact cK [oS (.tup (.str k::r))] rfl ((dU (eqF n1 rfl)).trans ((dU (eqF n2 rfl)).trans (cH (DJ (ds:=.str k::r) rfl (by simp only[qh];omega) fun d hd=>by
   rcases eC.mp hd with rfl|hd
   .trivial
   .exact ok d hd))))
 rcases h with⟨s,hs,rfl,rfl⟩|⟨ns,h1,h3,hn,rfl,rfl⟩|⟨ns,a,b,h1,h3,nd,hn,hab,hb,rfl,rfl⟩|⟨j,a,b,hj,hab,hb,rfl,rfl⟩|⟨s,x,t,hs,ht,hx,rfl,rfl⟩|⟨rfl,rfl⟩
 .refine go rfl (by decide) (by decide) (by simp) (fun d hd=>?_) rfl;rw[ce.mp hd];trivial
 .refine cK [oS (.tup [.str "ring",.lst (ns.map D.str)])] rfl (m4 (eqT rfl) (cH (i9 (x:=["ring"]) (y:=ns) rfl (aY rfl rfl fN) (by simp;omega))))
 .refine cK [oS (.tup [.str "stretch",.lst (ns.map D.str),.int a,.int b])] rfl ((dU (eqF (by decide) rfl)).trans (m4 (eqT rfl) (cH (i9 (x:=["stretch",bH a,bH b]) (y:=ns) ?_ (aY rfl rfl fN) (by simp;omega)))));unfold aL szF;rw[aQ rfl (aQ (bw (aQ (aY rfl rfl kS) bc) (ue (pC (by omega)))) (aQ (bw (aQ (aY rfl rfl lY) bc) (ue (pC hb))) bc))];rfl
 .refine go rfl (by decide) (by decide) (by simp) (fun d hd=>?_) rfl;simp only[qO,qM,or_false] at hd;rcases hd with rfl|rfl|rfl
  .trivial
  .exact pC (by omega)
  .exact pC hb
 .refine go rfl (by decide) (by decide) (by simp) (fun d hd=>?_) rfl;simp only[qO,qM,or_false] at hd;rcases hd with rfl|rfl|rfl
  .trivial
  .exact pC ht
  .trivial
 .exact go rfl (by decide) (by decide) (by simp) (fun d hd=>nomatch hd) rfl
section
noncomputable def SOk (W:FQ) (T:D->ab ah->ag->Prop):Prop:=∀t tw k,T t tw k->k<=3000->W [t]=aa (.lst (tw.map D.str))
theorem wa {t:D} (h:W [t]=aa (.lst (tw.map D.str))) (hl:tw.length<=1000000):kj W [t]=aa (.lst ((brk tw).map D.str)):=by
 unfold kj;refine cK [oS t] rfl (cH (i9 (x:=[lB]++tw) (y:=[rB]) (i9 (x:=[lB]) rfl (bw (aQ rfl bc) h) ?_) rfl ?_))
 all_goals simp only[qk,qh,qm];omega
abbrev Do (W:FQ):FS:=sIf (toB (b2 eqD (b2 ixD (vSh 2) (vC (.int 0))) (vC (.str "not")))) (fM 1 (b2 bA (b2 bA (b2 bA (aL (szF (ae (vC (.str "not")) af))) (aL (bQ (itF (b2 ixD (vSh 2) (vC (.int 1)))) (aM 0) tT (cF fJ (ae (vSh 0) af)) [ac]))) (aL (szF (ae (cF fJ (ae (b2 ixD (vSh 2) (vC (.int 2))) af)) af)))) (cF (kj W) (ae (b2 ixD (vSh 2) (vC (.int 3))) af)))) (fM 1 (cF uH (ae (vSh 2) af)))
abbrev Km (W:FQ):FS:=sIf (toB (b2 eqD (b2 ixD (vSh 3) (vC (.int 0))) (vC (.str "both")))) (fM 1 (b2 bA (b2 bA (b2 bA (aL (szF (ae (vC (.str "both")) af))) (aL (bQ (itF (b2 ixD (vSh 3) (vC (.int 1)))) (aM 0) tT (cF fJ (ae (vSh 0) af)) [ac]))) (cF (kj W) (ae (b2 ixD (vSh 3) (vC (.int 2))) af))) (cF (kj W) (ae (b2 ixD (vSh 3) (vC (.int 3))) af)))) (fM 1 (cF oI (ae (vSh 3) af)))
variable (hW:SOk W T) (hT:∀t tw k,T t tw k->Nb tw (120*k))
include hW hT
theorem wq {t:D} {k:ag} (h:T t tw k) (hk:k<=3000):tw.length<=360000:=qP (nE tw) (qP (hT t tw k h).2 (by omega))
theorem Jv {x:D} {k:ag} (h:RW T x xw k) (hk:k<=3000) (A e:aq Slot) (acc:ab ah) (ha:acc.length<=1000000):Do W [A,aa (.own (acc.map D.str)),oS x,e]=aa (.nx,[A,aa (.own ((acc++xw).map D.str)),oS x,e]):=by
 rcases h with⟨s,hs,rfl,rfl,rfl⟩|⟨y,s,t,hy,hs,ht,rfl,rfl,rfl⟩|⟨cc,cw,b,t,tw,kt,hc,hb,ht,rfl,rfl,rfl⟩
 .exact(nP (eqF (by decide) rfl)).trans (oM (xs:=acc) (ys:=["fit",s]) rfl (bw (aQ rfl bc) rfl) (by simp;omega))
 .have n1:y≠"not":=by rcases hy with rfl|rfl<;>decide
  exact(nP (eqF n1 rfl)).trans (oM (xs:=acc) (ys:=[y,s,t]) rfl (bw (aQ rfl bc) rfl) (by simp;omega))
 .have tl:=wq hW hT ht (by omega);have cl:=qP (nE cw) (uu hc).1.2;have bo:b∈okI:=by rcases hb with rfl|rfl<;>decide +kernel
  have e1:(("not":ah)::(cw++tI b::brk tw))=[("not":ah)]++cw++[tI b]++brk tw:=by simp
  rw[e1];refine(xl (eqT rfl)).trans (oM (xs:=acc) rfl (i9 (i9 (i9 (x:=[("not":ah)]) (y:=cw) rfl (D0 hc (aY rfl rfl fN)) ?_) (y:=[tI b]) ?_ ?_) (bw (aQ (aY rfl rfl lY) bc) (wa (hW t tw kt ht (by omega)) (by omega))) ?_) ?_)
  rotate_left
  .unfold aL szF;rw[aQ (bw (aQ (aY rfl rfl kS) bc) (ue (De bo))) bc];rfl
  all_goals simp only[qk,qh,qm];omega
theorem JM {x:D} {k:ag} (h:EW T x xw k) (hk:k<=3000) (A z:aq Slot) (acc:ab ah) (ha:acc.length<=1000000):Km W [A,aa (.own (acc.map D.str)),z,oS x]=aa (.nx,[A,aa (.own ((acc++xw).map D.str)),z,oS x]):=by
 rcases h with⟨h,rfl⟩|⟨cc,cw,t,tw,kt,u,uw,ku,hc,ht,hu,rfl,rfl,rfl⟩
 .have nb':∃k r,x=.tup (.str k::r)/\k≠"both":=by
   rcases h with⟨s,hs,rfl,rfl⟩|⟨ns,h1,h3,hn,rfl,rfl⟩|⟨ns,a,b,h1,h3,nd,hn,hab,hb,rfl,rfl⟩|⟨j,a,b,hj,hab,hb,rfl,rfl⟩|⟨s,x,t,hs,ht,hx,rfl,rfl⟩|⟨rfl,rfl⟩
   all_goals exact⟨_,_,rfl,by decide⟩
  obtain⟨kk,r,rfl,hn⟩:=nb';have:=qP (nE xw) (CP h).2;exact(nP (eqF hn rfl)).trans (oM (xs:=acc) rfl (bw (aQ rfl bc) (GO h)) (by omega))
 .have tl:=wq hW hT ht (by omega);have ul:=wq hW hT hu (by omega);have cl:=qP (nE cw) (uu hc).1.2;have e1:(("both":ah)::(cw++brk tw++brk uw))=[("both":ah)]++cw++brk tw++brk uw:=by simp
  rw[e1];refine(xl (eqT rfl)).trans (oM (xs:=acc) rfl (i9 (i9 (i9 (x:=[("both":ah)]) (y:=cw) rfl (D0 hc (aY rfl rfl fN)) ?_) (bw (aQ (aY rfl rfl kS) bc) (wa (hW t tw kt ht (by omega)) (by omega))) ?_) (bw (aQ (aY rfl rfl lY) bc) (wa (hW u uw ku hu (by omega)) (by omega))) ?_) ?_)
  all_goals simp only[qk,qh,qm];omega
theorem Ex:∀{rows:ab D} {rq:ab ah} {kr:ag},RsW (RW T) rows rq kr->∀(A e z:aq Slot) (acc:ab ah),kr<=3000->acc.length+120*kr<=1000000->∃z',eS (aM 2) (Do W) rows [A,aa (.own (acc.map D.str)),z,e]=aa (.nx,[A,aa (.own ((acc++rq).map D.str)),z',e])
 |[],_,_,h,A,e,z,acc,_,_=>by obtain⟨rfl,rfl⟩:=h;exact⟨z,by simp[eS]⟩
 |x::rows,_,_,h,A,e,z,acc,hk,ha=>by obtain⟨w1,k1,w2,k2,h1,h2,rfl,rfl⟩:=h;have l1:=qP (nE w1) (Ar hT h1).2;obtain⟨z',hz⟩:=Ex h2 A e (oS x) (acc++w1) (by omega) (by rw[qk];omega);refine⟨z',wc (ρ1:=[A,aa (.own (acc.map D.str)),oS x,e]) rfl (Jv hW hT h1 (by omega) A e acc (by omega)) ?_⟩;rw[hz,qA]
end
theorem Cj:∀(n m:ag),n<=m->SOk (rj m) (TW n)
 |0,_,_=>fun _ _ _ h _=>h.elim
 |n+1,0,h=>by omega
 |n+1,m+1,h=>fun t tw k ht hk=>by
  have hW:=Cj n m (by omega);have hT:∀t tw k,TW n t tw k->Nb tw (120*k):=fun t tw k h=>tf h;obtain⟨rows,e,rq,kr,ew,ke,rfl,h2,hr,he,rfl,rfl⟩:=ht;obtain⟨z',hz⟩:=Ex hW hT hr (oS (.tup [.lst rows,e])) ac ac [] (by omega) (by simp;omega);have l1:=qP (nE rq) (xx hT hr).2;show sV (rj m) [.tup [.lst rows,e]]=_;unfold sV;rw[qU] at hz;have e1:rq++sC::ew=rq++[sC]++ew:=by simp
  rw[e1];refine cK (ρ':=[oS (.tup [.lst rows,e]),oS (.lst ((rq++[sC]++ew).map D.str)),z',oS e]) [oS (.tup [.lst rows,e]),ac,ac,ac] rfl ((iM (ρ1:=[oS (.tup [.lst rows,e]),aa (.own (([]:ab ah).map D.str)),ac,ac]) rfl).trans ((iM ((pw (by unfold itF;rw[aY rfl rfl eQ];rfl)).trans hz)).trans ?_));refine(iM (OL (xs:=rq) (y:=sC) rfl rfl (by omega))).trans ?_;refine(jD (d:=e) (aY rfl rfl fN)).trans ?_;refine(iM (JM hW hT he (by omega) (oS (.tup [.lst rows,e])) z' (rq++[sC]) (by rw[qk,qX];omega))).trans ?_;exact(L3 (ds:=(rq++[sC]++ew).map D.str) rfl).trans (cH rfl)
theorem Bi {k:ag} (h:TW n d ws k) (hn:n<=7) (hk:k<=3000):lh [d]=aa (.str (J ws)):=by have:=(tf h).2;exact cK [oS d] rfl (cH (Nl (bw (aQ rfl bc) (Cj n 8 (by omega) d ws k h hk)) (by omega)))
noncomputable def Pq:ag->D->Prop
 |0,_=>False
 |_+1,.str _=>True
 |_+1,.int _=>True
 |n+1,.lst l=>∀x∈l,Pq n x
 |n+1,.tup l=>∀x∈l,Pq n x
 |_+1,_=>False
theorem xt:∀{n m:ag} {d:D},n<=m->Pq n d->Pq m d
 |0,_,_,_,h=>h.elim
 |n+1,0,_,h,_=>by omega
 |n+1,m+1,.str _,_,_=>trivial
 |n+1,m+1,.int _,_,_=>trivial
 |n+1,m+1,.lst l,hm,h=>fun x hx=>xt (by omega) (h x hx)
 |n+1,m+1,.tup l,hm,h=>fun x hx=>xt (by omega) (h x hx)
theorem GR (x:ah):eqA (.str x) (.str x)=aa (.bl ai):=by show aa (D.bl (decide (x=x)))=_;rw[qV rfl]
theorem Nd (x:aj):eqA (.int x) (.int x)=aa (.bl ai):=by show aa (D.bl (decide (x=x)))=_;rw[qV rfl]
theorem xo {A B:FE} (hA:A ρ=aa (.bl ai)) (hB:B ρ=aa (.bl ai)):cD A B ρ=aa (.bl ai):=by unfold cD;rw[hA];exact hB
theorem GH {A:FE} (hA:A ρ=aa (.bl ao)):l7 A ρ=aa (.bl ai):=by unfold l7;rw[hA];rfl
abbrev smB (W:FQ):FS:=sIf (bh (toB (cF W (ae (vSh 2) (ae (vSh 3) af))))) (aT (vC (.bl ao))) bR
theorem xX {W:FQ} {A B:aq Slot}:∀(l:ab D) (a b:aq Slot),(∀x∈l,W [x,x]=aa (.bl ai))->∃a' b',eS (ie 2 (eU (aM 2) (eU (aM 3) ij))) (smB W) ((l.zip l).map fun z=>D.tup [z.1,z.2]) [A,B,a,b]=aa (.nx,[A,B,a',b'])
 |[],a,b,_=>⟨a,b,rfl⟩
 |x::l,a,b,h=>by obtain⟨a',b',hz⟩:=xX (A:=A) (B:=B) l (oS x) (oS x) fun y hy=>h y (qg _ hy);exact⟨a',b',wc (ρ1:=[A,B,oS x,oS x]) rfl (nP (j9 (bw (aQ rfl (aQ rfl bc)) (h x qf)))) hz⟩
theorem xQ:∀(n m:ag) (d:D),n<=m->Pq n d->jo m [d,d]=aa (.bl ai)
 |0,_,_,_,h=>h.elim
 |n+1,0,_,h,_=>by omega
 |n+1,m+1,.str x,_,_=>by
  show jC (jo m) _=_;unfold jC;exact cK [oS (.str x),oS (.str x),ac,ac] rfl (m4 (bW (bw (aQ rfl (aQ rfl bc)) rfl)) (cH (xo (bw (aQ rfl (aQ rfl bc)) rfl) (aY rfl rfl (GR x)))))
 |n+1,m+1,.int x,_,_=>by
  show jC (jo m) _=_;unfold jC;exact cK [oS (.int x),oS (.int x),ac,ac] rfl ((dU (bW (bw (aQ rfl (aQ rfl bc)) rfl))).trans (m4 (bW (bw (aQ rfl (aQ rfl bc)) rfl)) (cH (xo (bw (aQ rfl (aQ rfl bc)) rfl) (xo (GH (bw (aQ rfl (aQ rfl bc)) rfl)) (aY rfl rfl (Nd x)))))))
 |n+1,m+1,.lst l,hm,h=>by
  obtain⟨a',b',hz⟩:=xX (W:=jo m) (A:=oS (.lst l)) (B:=oS (.lst l)) l ac ac fun x hx=>xQ n m x (by omega) (h x hx);show jC (jo m) _=_;unfold jC;refine cK [oS (.lst l),oS (.lst l),ac,ac] rfl ((dU (bW (bw (aQ rfl (aQ rfl bc)) rfl))).trans ((dU (bW (bw (aQ rfl (aQ rfl bc)) rfl))).trans ((dU (ni (bW (aY (bw (aQ rfl (aQ rfl bc)) rfl) (bw (aQ rfl (aQ rfl bc)) rfl) rfl)) (bW (aY (bw (aQ rfl (aQ rfl bc)) rfl) (bw (aQ rfl (aQ rfl bc)) rfl) rfl)))).trans ((dU (bW (aY (bw (aQ rfl bc) rfl) (bw (aQ rfl bc) rfl) ?_))).trans ((iM ((pw rfl).trans hz)).trans (cH rfl))))));show aa (D.bl (!decide ((l.length:aj)=(l.length:aj))))=_;rw[qV rfl];rfl
 |n+1,m+1,.tup l,hm,h=>by obtain⟨a',b',hz⟩:=xX (W:=jo m) (A:=oS (.tup l)) (B:=oS (.tup l)) l ac ac fun x hx=>xQ n m x (by omega) (h x hx);show jC (jo m) _=_;unfold jC;refine cK [oS (.tup l),oS (.tup l),ac,ac] rfl ((dU (bW (bw (aQ rfl (aQ rfl bc)) rfl))).trans ((dU (bW (bw (aQ rfl (aQ rfl bc)) rfl))).trans ((dU (ni (bW (aY (bw (aQ rfl (aQ rfl bc)) rfl) (bw (aQ rfl (aQ rfl bc)) rfl) rfl)) (bW (aY (bw (aQ rfl (aQ rfl bc)) rfl) (bw (aQ rfl (aQ rfl bc)) rfl) rfl)))).trans ((dU (bW (aY (bw (aQ rfl bc) rfl) (bw (aQ rfl bc) rfl) ?_))).trans ((iM ((pw rfl).trans hz)).trans (cH rfl))))));show aa (D.bl (!decide ((l.length:aj)=(l.length:aj))))=_;rw[qV rfl];rfl
theorem Bx :Pq (n+2) (.lst (ns.map D.str)):=fun x hx=>by obtain⟨y,_,rfl⟩:=cY.mp hx;trivial
theorem zN {c:D} (h:CW c cw):Pq (n+2) c:=by
 rcases h with⟨s,i,hs,hi,rfl,rfl⟩|⟨k,s,t,hk,hs,ht,rfl,rfl⟩|⟨s,hs,rfl,rfl⟩
 .intro x hx;simp only[qO,qM,or_false] at hx;rcases hx with rfl|rfl|rfl<;>trivial
 .intro x hx;simp only[qO,qM,or_false] at hx;rcases hx with rfl|rfl|rfl<;>trivial
 .intro x hx;simp only[qO,qM,or_false] at hx;rcases hx with rfl|rfl<;>trivial
theorem Jf {e:D} (h:LW e ew):Pq (n+3) e:=by
 rcases h with⟨s,hs,rfl,rfl⟩|⟨ns,h1,h3,hn,rfl,rfl⟩|⟨ns,a,b,h1,h3,nd,hn,hab,hb,rfl,rfl⟩|⟨j,a,b,hj,hab,hb,rfl,rfl⟩|⟨s,x,t,hs,ht,hx,rfl,rfl⟩|⟨rfl,rfl⟩
 .intro x hx;simp only[qO,qM,or_false] at hx;rcases hx with rfl|rfl<;>trivial
 .intro x hx;simp only[qO,qM,or_false] at hx;rcases hx with rfl|rfl
  .trivial
  .exact Bx
 .intro x hx;simp only[qO,qM,or_false] at hx;rcases hx with rfl|rfl|rfl|rfl
  .trivial
  .exact Bx
  .trivial
  .trivial
 .intro x hx;simp only[qO,qM,or_false] at hx;rcases hx with rfl|rfl|rfl|rfl<;>trivial
 .intro x hx';simp only[qO,qM,or_false] at hx';rcases hx' with rfl|rfl|rfl|rfl<;>trivial
 .intro x hx;simp only[qO,qM,or_false] at hx;rcases hx with rfl;trivial
theorem Oc (hn:2<=n) (hT:∀t tw k,T t tw k->Pq n t) {x:D} {k:ag} (h:RW T x xw k):Pq (n+1) x:=by
 obtain⟨m,rfl⟩:∃m,n=m+2:=⟨n-2,by omega⟩;rcases h with⟨s,hs,rfl,rfl,rfl⟩|⟨y,s,t,hy,hs,ht,rfl,rfl,rfl⟩|⟨cc,cw,b,t,tw,kt,hc,hb,ht,rfl,rfl,rfl⟩
 .intro x hx;simp only[qO,qM,or_false] at hx;rcases hx with rfl|rfl<;>trivial
 .intro x hx;simp only[qO,qM,or_false] at hx;rcases hx with rfl|rfl|rfl<;>trivial
 .intro x hx;simp only[qO,qM,or_false] at hx;rcases hx with rfl|rfl|rfl|rfl
  .trivial
  .exact zN hc
  .trivial
  .exact hT _ _ _ ht
theorem HX (hn:2<=n) (hT:∀t tw k,T t tw k->Pq n t) {x:D} {k:ag} (h:EW T x xw k):Pq (n+1) x:=by
 obtain⟨m,rfl⟩:∃m,n=m+2:=⟨n-2,by omega⟩;rcases h with⟨h,rfl⟩|⟨cc,cw,t,tw,kt,u,uw,ku,hc,ht,hu,rfl,rfl,rfl⟩
 .exact Jf h
 .intro x hx;simp only[qO,qM,or_false] at hx;rcases hx with rfl|rfl|rfl|rfl
  .trivial
  .exact zN hc
  .exact hT _ _ _ ht
  .exact hT _ _ _ hu
theorem wo {P:D->Prop} {T:D->ab ah->ag->Prop} (hT:∀t tw k,T t tw k->P t):∀{rows:ab D} {rq:ab ah} {kr:ag},RsW T rows rq kr->∀x∈rows,P x
 |[],_,_,_,x,hx=>nomatch hx
 |y::rows,_,_,h,x,hx=>by
  obtain⟨w1,k1,w2,k2,h1,h2,rfl,rfl⟩:=h;rcases eC.mp hx with rfl|hx
  .exact hT _ _ _ h1
  .exact wo hT h2 x hx
theorem BJ:∀{n:ag} {d:D} {ws:ab ah} {k:ag},TW n d ws k->Pq (3*n+2) d
 |0,_,_,_,h=>h.elim
 |n+1,_,_,_,h=>by
  obtain⟨rows,e,rq,kr,ew,ke,rfl,h2,hr,he,rfl,rfl⟩:=h;have hT:∀t tw k,TW n t tw k->Pq (3*n+2) t:=fun t tw k h=>BJ h;show Pq (3*n+4+1) _;intro x hx;simp only[qO,qM,or_false] at hx;rcases hx with rfl|rfl
  .show Pq (3*n+3+1) _;exact wo (fun t tw k h=>Oc (by omega) hT h) hr
  .exact xt (by omega) (HX (by omega) hT he)
theorem Dq {k:ag} (h:TW n d ws k) (hn:n<=7):gR [d,d]=aa (.bl ai):=xQ _ 24 d (by omega) (BJ h)
theorem um:∀{n:ag} {d:D} {ws:ab ah} {k:ag},TW n d ws k->jE n d
 |0,_,_,_,h=>h.elim
 |n+1,_,_,_,h=>by
  obtain⟨rows,e,rq,kr,ew,ke,rfl,h2,hr,he,rfl,rfl⟩:=h;have hrow:∀x∈rows,∃k r,x=.tup (.str k::r)/\(k="not"->∃a b t,r=[a,b,t]/\jE n t):=wo (fun x xw k h=>by
   rcases h with⟨s,hs,rfl,rfl,rfl⟩|⟨y,s,t,hy,hs,ht,rfl,rfl,rfl⟩|⟨cc,cw,b,t,tw,kt,hc,hb,ht,rfl,rfl,rfl⟩
   .exact⟨_,_,rfl,fun z=>bx z (by decide)⟩
   .exact⟨_,_,rfl,fun z=>bx z (by rcases hy with rfl|rfl<;>decide)⟩
   .exact⟨_,_,rfl,fun _=>⟨_,_,_,rfl,um ht⟩⟩) hr
  rcases he with⟨h,rfl⟩|⟨cc,cw,t,tw,kt,u,uw,ku,hc,ht,hu,rfl,rfl,rfl⟩
  .rcases h with⟨s,hs,rfl,rfl⟩|⟨ns,h1,h3,hn,rfl,rfl⟩|⟨ns,a,b,h1,h3,nd,hn,hab,hb,rfl,rfl⟩|⟨j,a,b,hj,hab,hb,rfl,rfl⟩|⟨s,x,t,hs,ht,hx,rfl,rfl⟩|⟨rfl,rfl⟩
   .exact⟨rows,_,_,rfl,h2,hrow,by simp[jH],fun z=>bx z (by decide),fun z=>bx z (by decide)⟩
   .exact⟨rows,_,_,rfl,h2,hrow,by simp[jH],fun z=>bx z (by decide),fun _=>⟨_,_,rfl,by rw[qe];omega⟩⟩
   .exact⟨rows,_,_,rfl,h2,hrow,by simp[jH],fun z=>bx z (by decide),fun _=>⟨_,_,rfl,by rw[qe];omega⟩⟩
   .exact⟨rows,_,_,rfl,h2,hrow,by simp[jH],fun z=>bx z (by decide),fun z=>bx z (by decide)⟩
   .exact⟨rows,_,_,rfl,h2,hrow,by simp[jH],fun z=>bx z (by decide),fun z=>bx z (by decide)⟩
   .exact⟨rows,_,_,rfl,h2,hrow,by simp[jH],fun z=>bx z (by decide),fun z=>bx z (by decide)⟩
  .exact⟨rows,_,_,rfl,h2,hrow,by simp[jH],fun _=>⟨_,_,_,rfl,um ht,um hu⟩,fun z=>bx z (by decide)⟩
theorem zR {T T':D->ab ah->ag->Prop} (h:∀x w k,T x w k->T' x w k):∀{rows:ab D} {rq:ab ah} {kr:ag},RsW T rows rq kr->RsW T' rows rq kr
 |[],_,_,z=>z
 |x::rows,_,_,z=>by obtain⟨w1,k1,w2,k2,h1,h2,e1,e2⟩:=z;exact⟨w1,k1,w2,k2,h _ _ _ h1,zR h h2,e1,e2⟩
theorem sS:∀{n:ag} {d:D} {ws:ab ah} {k:ag},TW n d ws k->TW (n+1) d ws k
 |0,_,_,_,h=>h.elim
 |n+1,_,_,_,h=>by
  obtain⟨rows,e,rq,kr,ew,ke,rfl,h2,hr,he,rfl,rfl⟩:=h;refine⟨rows,e,rq,kr,ew,ke,rfl,h2,zR (fun x w k h=>?_) hr,?_,rfl,rfl⟩
  .rcases h with h|h|⟨cc,cw,b,t,tw,kt,hc,hb,ht,e1,e2,e3⟩
   .exact .inl h
   .exact .inr (.inl h)
   .exact .inr (.inr ⟨cc,cw,b,t,tw,kt,hc,hb,sS ht,e1,e2,e3⟩)
  .rcases he with h|⟨cc,cw,t,tw,kt,u,uw,ku,hc,ht,hu,e1,e2,e3⟩
   .exact .inl h
   .exact .inr ⟨cc,cw,t,tw,kt,u,uw,ku,hc,sS ht,sS hu,e1,e2,e3⟩
noncomputable def Sm:ag->D->Prop
 |0,_=>False
 |n+1,.lst l=>∀x∈l,Sm n x
 |n+1,.tup l=>∀x∈l,Sm n x
 |_+1,.bl _=>True
 |_+1,.int _=>True
 |_+1,.str x=>F4 x=ai
 |_+1,_=>False
noncomputable def SmP (n:ag) (d:D):Prop:=∃p,pdD d=aa p/\jN p=ai/\p.depth<=n/\f8 p p=ai
theorem ug {n:ag}:∀{l:ab D},(∀x∈l,SmP n x)->∃ps,fV l=aa ps/\kF ps=ai/\ox ps<=n/\vH ps ps=ai
 |[],_=>⟨[],by simp[fV],by simp[kF],by simp[ox],by simp[vH]⟩
 |x::r,h=>by obtain⟨p,a1,a2,a3,a4⟩:=h x qf;obtain⟨ps,b1,b2,b3,b4⟩:=ug (l:=r) fun y hy=>h y (qg _ hy);refine⟨p::ps,by simp[fV,a1,b1],by simp[kF,a2,b2],?_,by simp[vH,a4,b4]⟩;simp only[ox];omega
theorem vU:∀(n:ag) (d:D),Sm n d->SmP n d
 |0,_,h=>h.elim
 |n+1,.lst l,h=>by
  obtain⟨ps,b1,b2,b3,b4⟩:=ug (n:=n) (l:=l) fun x hx=>vU n x (h x hx);exact⟨.list ps,by simp[pdD,b1],by simp[jN,b2],by simp only[lR];omega,by simp[f8,b4]⟩
 |n+1,.tup l,h=>by
  obtain⟨ps,b1,b2,b3,b4⟩:=ug (n:=n) (l:=l) fun x hx=>vU n x (h x hx);exact⟨.tuple ps,by simp[pdD,b1],by simp[jN,b2],by simp only[lR];omega,by simp[f8,b4]⟩
 |n+1,.bl b,h=>⟨.bool b,by simp[pdD],by simp[jN],by simp[lR],by simp[f8]⟩
 |n+1,.int i,h=>⟨.int i,by simp[pdD],by simp[jN],by simp[lR],by simp[f8]⟩
 |n+1,.str x,h=>⟨.str x,by simp[pdD],by simp only[jN];exact h,by simp[lR],by simp[f8]⟩
theorem tY {f:α->D} {xs:ab α} (h:∀x∈xs,Sm n (f x)):Sm (n+1) (.lst (xs.map f)):=fun x hx=>by obtain⟨y,hy,rfl⟩:=cY.mp hx;exact h y hy
theorem Os {xs:ab ah} (h:∀x∈xs,bB x=ai):Sm (n+2) (.lst (xs.map D.str)):=tY fun x hx=>(sM (h x hx):Sm (n+1) (.str x))
theorem xK {l:ab D} (h:∀x∈l,Sm n x):Sm (n+1) (.tup l):=h
section
variable {bn:ab ah} {h:aj}
theorem xW (hx:bB x=ai):Sm (n+1) (.str x):=sM hx
theorem Bc {ws:ab (ah×aj)} (hw:∀w∈ws,bB w.1=ai):Sm (n+3) (.lst (ws.map dW)):=tY fun p hp=>xK fun y hy=>by
 simp only[qO,qM,or_false] at hy;rcases hy with rfl|rfl
 .exact xW (hw p hp)
 .trivial
theorem N2 {j:JobT} (hb:∀y∈sn,bB y=ai) (g:GoodJ sn h j):Sm (n+3) (bF j):=xK fun y hy=>by
 simp only[qO,qM,or_false] at hy;rcases hy with rfl|rfl|rfl|rfl|rfl
 .exact xW g.nm
 .trivial
 .trivial
 .trivial
 .exact Os fun x hx=>hb _ (g.ms x hx)
theorem OK {k:StockT} (hb:∀y∈sn,bB y=ai) (g:GoodK sn k):Sm (n+4) (dR k):=xK fun y hy=>by
 simp only[qO,qM,or_false] at hy;rcases hy with rfl|rfl|rfl|rfl|rfl
 .exact xW g.nm
 .trivial
 .trivial
 .exact Bc fun w hw=>hb _ (g.tk.ws w hw).1
 .exact Bc fun w hw=>hb _ (g.pt.ws w hw).1
end
theorem G0:gG (.list [])=ai:=by simp[gG,jN,kF,lR,ox]
theorem Et {l:ab D} (h:Sm 64 (.lst l)):neA (.lst l) (.lst [])=aa (.bl (!l.isEmpty)):=by
 have e0:neA (.lst l) (.lst [])=pV (.lst l) (.lst []):=rfl;obtain⟨ps,b1,b2,b3,b4⟩:=ug (n:=63) (l:=l) fun x hx=>vU 63 x (h x hx);have s1:gG (.list ps)=ai:=by unfold gG;rw[show jN (.list ps)=ai by simp[jN,b2],qV (show lR (.list ps)<=64 by simp only[lR];omega)];rfl
 have p1:pdD (.lst l)=aa (.list ps):=by simp[pdD,b1]
 have p2:pdD (.lst [])=aa (.list []):=by simp[pdD,fV]
 have q:f8 (.list ps) (.list [])=l.isEmpty:=by
  cases l with
  |nil=>simp[fV] at b1;subst b1;simp[f8,vH]
  |cons x r=>
   rw[fV] at b1;obtain⟨p,hp,b1⟩:=oBd b1;obtain⟨qs,hq,rfl⟩:=oMd b1;simp[f8,vH]
 rw[e0];unfold pV eqX;rw[p1,p2,qa,qa,qY ⟨s1,G0⟩,q];rfl
variable {ss:ab StepT} {js:ab JobT} {ls:ab LinkT} {ks:ab StockT}
section
variable {bs:ab BenchT} {us:ab SetT} {h:aj}
abbrev sh0 (bs:ab BenchT) (ss:ab StepT) (js:ab JobT) (us:ab SetT) (ls:ab LinkT) (ks:ab StockT) (h:aj):aq Slot:=oS (c5 bs ss js us ls ks h)
theorem xJ (S:Small bs ss js us ls ks h) (hf:f ρ=aa (c5 bs ss js us ls ks h)):dM "Shop" "step_names" nJ f af ρ=aa (.lst ((ss.map (·.nm)).map D.str)):=oC (by decide +kernel) hf bc (Gm S.g.sl.2)
theorem CG (S:Small bs ss js us ls ks h) (hf:f ρ=aa (c5 bs ss js us ls ks h)):dM "Shop" "bench_names" p0 f af ρ=aa (.lst ((bs.map (·.nm)).map D.str)):=oC (by decide +kernel) hf bc (Of (by have:=S.b;omega))
theorem sF (hf:f ρ=aa (c5 bs ss js us ls ks h)):dM "Shop" "last_moment" lx f af ρ=aa (.int h):=oC (by decide +kernel) hf bc LB
theorem xk (S:Small bs ss js us ls ks h) (hf:f ρ=aa (c5 bs ss js us ls ks h)):dM "Shop" "job_rows" lT f af ρ=aa (.lst (js.map bF)):=oC (by decide +kernel) hf bc (IF S.g)
theorem zS (S:Small bs ss js us ls ks h) (hf:f ρ=aa (c5 bs ss js us ls ks h)):dM "Shop" "stock_rows" pd f af ρ=aa (.lst (ks.map dR)):=oC (by decide +kernel) hf bc (MS S.g)
theorem lw {ρ:dy} {P:D->Prop} (hs:∀q,(ρ q)[i]?=aa (aa (.pin q))) (hn:∀q,vSh j (ρ q)=aa (.lst (ns.map D.str))) (h1:1<=ns.length) (h2:ns.length<=100) (k:∀x∈ns,P (.str x)):Ev (r2 ixD (rP (vSh j)) (aI ba i (aw (rP (cF bS (ae (vSh j) af))) (rP af)))) ρ P:=by refine dJ (aD hn (cE (m:=(ns.length:aj)) hs (fun q=>jv (hn q)) (by omega) (by omega) fun n h0 h1=>?_));obtain⟨x,_,e2,e3⟩:=l5 (f:=D.str) (xs:=ns) h0 h1;exact⟨_,e3,k x e2⟩
theorem mf {ρ:dy} {w c:aj} {P:aU->Prop} (hn:∀q,vSh j (ρ q)=aa (.int w)) (k:P (decide (w=c))):Ev (rP (toB (b2 eqD (vSh j) (vC (.int c))))) ρ P:=aD (fun q=>bW (aY (hn q) rfl rfl)) k
theorem zV (S:Small bs ss js us ls ks h):EvF q0 [c5 bs ss js us ls ks h] fun c=>∃cw,CW c cw:=by
 have sl:(ss.map (·.nm)).length=ss.length:=qe _;have bl:(bs.map (·.nm)).length=bs.length:=qe _;have s1:=S.g.sl.1;have s3:=S.s;have b1:=S.g.bl.1;have b2':=S.b;have h2:=S.h;unfold q0;refine iK (cB (aD (fun _=>xJ S rfl) (cB (lw (ns:=ss.map (·.nm)) (fun _=>rfl) (fun _=>rfl) (by omega) (by omega) fun x hx=>cB (cE (fun _=>rfl) (fun _=>rfl) (by decide) (by decide) fun w w0 w1=>?_)))));have hx':=S.g.snn x hx;refine fQ (eG (mf (w:=w) (fun _=>rfl) ?_));by_cases e0:w=0
 .rw[qV e0,qY rfl];exact df (er (aP (aD (fun _=>rfl) (aP (aD (fun _=>rfl) (aP (cE (m:=h+2) (fun _=>rfl) (fun _=>aY (sF rfl) rfl rfl) (by omega) (by omega) fun n n0 n1=>b6 ⟨by simp,_,rfl,_,.inl ⟨x,n,hx',L1 n0 (by omega),rfl,rfl⟩⟩)))))))
 rw[qQ e0,qZ (by decide)];refine eA (fQ (eG (mf (w:=w) (fun _=>rfl) ?_)));by_cases e1:w=1
 .rw[qV e1,qY rfl];exact cB (aD (fun _=>CG S rfl) (df (er (aP (aD (fun _=>rfl) (aP (aD (fun _=>rfl) (aP (lw (ns:=bs.map (·.nm)) (fun _=>rfl) (fun _=>rfl) (by omega) (by omega) fun y hy=>b6 ⟨by simp,_,rfl,_,.inr (.inl ⟨_,x,y,.inl rfl,hx',S.g.bnn y hy,rfl,rfl⟩)⟩)))))))))
 rw[qQ e1,qZ (by decide)];refine eA (fQ (eG (mf (w:=w) (fun _=>rfl) ?_)));by_cases e2:w=2
 .rw[qV e2,qY rfl];exact df (er (aP (aD (fun _=>rfl) (aP (aD (fun _=>rfl) (aP (lw (ns:=ss.map (·.nm)) (fun _=>rfl) (fun _=>rfl) (by omega) (by omega) fun y hy=>b6 ⟨by simp,_,rfl,_,.inr (.inl ⟨_,x,y,.inr rfl,hx',S.g.snn y hy,rfl,rfl⟩)⟩)))))))
 rw[qQ e2,qZ (by decide)];exact eA (df (aD (fun _=>rfl) ⟨_,rfl,_,.inr (.inr ⟨x,hx',rfl,rfl⟩)⟩))
theorem Ab (S:Small bs ss js us ls ks h):EvF oG [c5 bs ss js us ls ks h] fun d=>∃a b:ag,d=.tup [.int a,.int b]/\a<b/\b<10 ^ 7:=by have h2:=S.h;unfold oG;refine iK (cB (cE (m:=h) (fun _=>rfl) (fun _=>sF rfl) (by omega) (by omega) fun n n0 n1=>df (er (aP (aD (fun _=>rfl) (aP (dJ (aD (fun _=>rfl) (cE (m:=h-n) (fun _=>rfl) (fun _=>aY (sF rfl) rfl rfl) (by omega) (by omega) fun k k0 k1=>⟨.int (n+1+k),rfl,b6 ⟨by simp,_,rfl,n.toNat,(n+1+k).toNat,?_,by omega,by omega⟩⟩)))))))));rw[F' n0,F' (by omega)]
end
theorem D8 {f:(FR aj)} {g:(FRs aj)} {ρ:dy} {R:Fl->dy->Prop} (h:Ev f ρ fun d=>∃ρ1:dy,(∀q,gg d (ρ q)=aa (ρ1 q))/\Es g ρ1 R):Es (aC (pO gg f) g) ρ R:=fun r=>by obtain⟨d,r1,h1,ρ1,h2,h3⟩:=h r;obtain⟨fl,ρ',r2,h4,h5⟩:=h3 r1;exact⟨fl,ρ',r2,fun q=>by unfold aC pO;rw[h1];show(((gg d (ρ q)).map _).bind _)=_;rw[h2];exact h4 q,h5⟩
theorem DR {f g:FT} (h:f ρ=aa ai):gk f g ρ=g ρ:=by unfold gk;rw[h];rfl
theorem Dg {f g:FT} (h:f ρ=aa ao):gk f g ρ=aa ao:=by unfold gk;rw[h];rfl
section
variable {bs:ab BenchT} {us:ab SetT} {h:aj}
abbrev lfE (bs:ab BenchT) (ss:ab StepT) (js:ab JobT) (us:ab SetT) (ls:ab LinkT) (ks:ab StockT) (h w:aj) (a b c d:aq Slot):dy:=fun q=>[aa (.pin q),sh0 bs ss js us ls ks h,oS (.lst ((ss.map (·.nm)).map D.str)),oS (.int w),a,b,c,d]
theorem LO (S:Small bs ss js us ls ks h) {w:aj} :Ev (rM (iB (rM (aw (r2 bA (rP (vC (.int 1))) (aI ba 0 (aw (rP (vC (.int 3))) (rP af)))) (rP af)) gq) (aM 0) (rP tT) (r2 ixD (rP (vSh 1)) (aI ba 2 (aw (rP (cF bS (ae (vSh 1) af))) (rP af)))) [ac,aa 2,aa 0]) ka) (lfE bs ss js us ls ks h w ac ac ac ac) fun d=>∃ns:ab ah,d=.lst (ns.map D.str)/\1<=ns.length/\ns.length<=3/\∀x∈ns,bB x=ai:=by
 have sl:(ss.map (·.nm)).length=ss.length:=qe _;have s1:=S.g.sl.1;have s3:=S.s;refine ua (xI (σ:=fun x q=>[oS x,oS (.lst ((ss.map (·.nm)).map D.str)),aa (.pin q)]) (tN (aP (dJ (aD (fun _=>rfl) (cE (fun _=>rfl) (fun _=>rfl) (by decide) (by decide) fun n h0 h1=>⟨.int (1+n),rfl,b6 ⟨1+n,rfl,by omega,by omega,by rw[qe,qW];omega,fun i l=>∃ns:ab ah,l=ns.map D.str/\ns.length=i/\∀x∈ns,bB x=ai,⟨[],rfl,rfl,fun _ z=>nomatch z⟩,fun i x l hx hS=>?_,fun l hl=>?_⟩⟩))))) (fun _ _=>rfl) fun _ _ _=>rfl)
 .obtain⟨ns,rfl,hl,hn⟩:=hS;refine aD (a:=ai) (fun _=>rfl) ?_;rw[qY rfl];refine lw (i:=2) (j:=1) (ns:=ss.map (·.nm)) (fun _=>rfl) (fun _=>rfl) (by omega) (by omega) fun y hy=>⟨ns++[y],by rw[f9];rfl,by rw[qk,qX,hl],fun z hz=>?_⟩;rcases gz.mp hz with hz|hz
  .exact hn z hz
  .rw[ce.mp hz];exact S.g.snn y hy
 .obtain⟨ns,rfl,hl,hn⟩:=hl;rw[qe,qW] at hl;exact⟨ns,rfl,by omega,by omega,hn⟩
theorem IU (S:Small bs ss js us ls ks h):EvF oP [c5 bs ss js us ls ks h] fun e=>∃ew,LW e ew:=by
 have sl:(ss.map (·.nm)).length=ss.length:=qe _;have bl:(bs.map (·.nm)).length=bs.length:=qe _;have s1:=S.g.sl.1;have s3:=S.s;have b1:=S.g.bl.1;have b2':=S.b;have h2:=S.h;have jl:=S.g.jl;unfold oP;refine iK (cB (aD (fun _=>xJ S rfl) (cB (cE (fun _=>rfl) (fun _=>rfl) (by decide) (by decide) fun w w0 w1=>?_))));show Es _ (lfE bs ss js us ls ks h w ac ac ac ac) _;refine fQ (eG (mf (w:=w) (fun _=>rfl) ?_));by_cases e1:w=1
 .rw[qV e1,qY rfl];refine df (er (aP (aD (fun _=>rfl) (aP ((LO S).imp ?_)))));rintro _ ⟨ns,rfl,n1,n3,hn⟩;exact b6 ⟨by simp,_,rfl,_,.inr (.inl ⟨ns,n1,n3,hn,rfl,rfl⟩)⟩
 rw[qQ e1,qZ (by decide)];refine eA (fQ (eG (mf (w:=w) (fun _=>rfl) ?_)));by_cases e2:w=2
 .rw[qV e2,qY rfl];refine D8 (fz (fun _=>rfl) (aP (aD (fun _=>rfl) (b6 ((Ab S).imp ?_)))));rintro _ ⟨a,b,rfl,ha,hb⟩;refine⟨lfE bs ss js us ls ks h w (oS (.int a)) (oS (.int b)) ac ac,fun _=>rfl,?_⟩;refine cB (aD (fun _=>CG S rfl) (df (er (aP (aD (fun _=>rfl) (aP (dJ (aD (fun _=>rfl) (cE (m:=((bs.map (·.nm)).length:aj)) (fun _=>rfl) (fun _=>jv rfl) (by omega) (by omega) fun n n0 n1=>⟨.lst (((bs.map (·.nm)).drop n.toNat).map D.str),by rw[Q3];exact Ci n0,aP (aD (fun _=>rfl) (aP (aD (fun _=>rfl) (b6 ⟨by simp,_,rfl,_,.inr (.inr (.inl ⟨_,a,b,?_,?_,S.g.bn.sublist (Qc _ _),fun x hx=>S.g.bnn x (FF hx),ha,hb,rfl,rfl⟩))⟩))))⟩)))))))))
  .rw[iq];omega
  .rw[iq];omega
 rw[qQ e2,qZ (by decide)];have nj:=Et (l:=js.map bF) (tY (n:=63) fun x hx=>N2 (n:=60) S.g.snn (S.g.j x hx));have nk:=Et (l:=ks.map dR) (tY (n:=63) fun x hx=>OK (n:=59) S.g.snn (S.g.k x hx));have an:∀{c:aj} {f:FE} {l:ab D} (q:au),f (lfE bs ss js us ls ks h w ac ac ac ac q)=aa (.lst l)->neA (.lst l) (.lst [])=aa (.bl (!l.isEmpty))->gk (toB (b2 eqD (vSh 3) (vC (.int c)))) (toB (b2 neA f (aL (szF af)))) (lfE bs ss js us ls ks h w ac ac ac ac q)=aa (decide (w=c) && !l.isEmpty):=fun {c f l} q hf hn=>by
  have h1:toB (b2 eqD (vSh 3) (vC (.int c))) (lfE bs ss js us ls ks h w ac ac ac ac q)=aa (decide (w=c)):=bW (aY rfl rfl rfl);by_cases e:w=c
  .rw[qV e] at h1 ⊢;rw[DR h1];exact bW (aY hf rfl hn)
  .rw[qQ e] at h1 ⊢;exact Dg h1
 refine eA (fQ (eG (aD (fun q=>an q (xk S rfl) nj) ?_)));cases hj:(decide (w=3) && !(js.map bF).isEmpty) with
 |true=>
  have jn:1<=js.length:=by
   cases js with
   |nil=>simp at hj
   |cons j r=>simp
  refine D8 (fz (fun _=>rfl) (aP (aD (fun _=>rfl) (b6 ((Ab S).imp ?_)))));rintro _ ⟨a,b,rfl,ha,hb⟩;refine⟨lfE bs ss js us ls ks h w (oS (.int a)) (oS (.int b)) ac ac,fun _=>rfl,?_⟩;have ljs:∀q,cF bS (ae (dM "Shop" "job_rows" lT (vSh 1) af) af) (lfE bs ss js us ls ks h w (oS (.int a)) (oS (.int b)) ac ac q)=aa (.int js.length):=fun q=>bw (aQ (xk S rfl) bc) (by show aa (D.int ((js.map bF).length:ag))=_;rw[qe]);refine df (er (aP (aD (fun _=>rfl) (aP (dJ (dJ (aD (fun _=>xk S rfl) (cE (m:=(js.length:aj)) (fun _=>rfl) ljs (by omega) (by omega) fun n n0 n1=>?_))))))));obtain⟨j,_,q2,q3⟩:=l5 (f:=bF) (xs:=js) n0 n1;refine⟨_,q3,aD (fun _=>rfl) ⟨.str j.nm,eQ,aP (aD (fun _=>rfl) (aP (aD (fun _=>rfl) (b6 ⟨by simp,_,rfl,_,.inr (.inr (.inr (.inl ⟨j.nm,a,b,(S.g.j j q2).nm,ha,hb,rfl,rfl⟩)))⟩))))⟩⟩
 |false=>
  refine eA (fQ (eG (aD (fun q=>an q (zS S rfl) nk) ?_)));cases hk:(decide (w=4) && !(ks.map dR).isEmpty) with
  |true=>
   obtain⟨k,kr,hks⟩:∃k kr,ks=k::kr:=by
    cases ks with
    |nil=>simp at hk
    |cons k r=>exact⟨k,r,rfl⟩
   have hkn:=(S.g.k k (by rw[hks];exact qf)).nm;refine cB (cE (m:=h+1) (fun _=>rfl) (fun _=>aY (sF rfl) rfl rfl) (by omega) (by omega) fun n n0 n1=>df (er (aP (aD (fun _=>rfl) (aP (aD (a:=.str k.nm) (fun q=>aY (aY (zS S rfl) rfl (by rw[hks];exact ixL _ 0)) rfl eQ) (aP (aD (fun _=>rfl) (aP (dJ (aD (fun _=>rfl) (cE (fun _=>rfl) (fun _=>rfl) (by decide) (by decide) fun m m0 m1=>?_))))))))))));have fin:∀x:ah,x="less"\/x="more"->∃ew,LW (.tup [.str "stock",.str k.nm,.int n,.str x]) ew:=fun x hx=>⟨_,.inr (.inr (.inr (.inr (.inl ⟨k.nm,x,n.toNat,hkn,by omega,hx,by rw[F' n0],rfl⟩))))⟩;rcases yp m0 m1 with rfl|rfl
   .exact⟨.str "less",rfl,b6 ⟨by simp,_,rfl,fin _ (.inl rfl)⟩⟩
   .exact⟨.str "more",rfl,b6 ⟨by simp,_,rfl,fin _ (.inr rfl)⟩⟩
  |false=>
   refine eA (fQ (eG (mf (w:=w) (fun _=>rfl) ?_)));by_cases e5:w=5
   .rw[qV e5,qY rfl];exact df (aD (fun _=>rfl) ⟨_,rfl,_,.inr (.inr (.inr (.inr (.inr ⟨rfl,rfl⟩))))⟩)
   rw[qQ e5,qZ (by decide)];refine eA (df (er (aP (aD (fun _=>rfl) (aP (lw (ns:=ss.map (·.nm)) (fun _=>rfl) (fun _=>rfl) (by omega) (by omega) fun y hy=>b6 ⟨by simp,_,rfl,_,.inl ⟨y,S.g.snn y hy,rfl,rfl⟩⟩))))))
end
noncomputable def cT:ag->ag
 |0=>0
 |n+1=>4*cT n+3
noncomputable def Tr (n:ag) (d:D):Prop:=∃ws k,TW n d ws k/\k<=cT n
noncomputable def pf (n:ag) (x:D):Prop:=∃xw k,RW (TW n) x xw k/\k<=1+cT n
theorem AB {n:ag}:∀{rows:ab D},(∀x∈rows,pf n x)->∃rq kr,RsW (RW (TW n)) rows rq kr/\kr<=rows.length*(1+cT n)
 |[],_=>⟨[],0,⟨rfl,rfl⟩,fu _⟩
 |x::rows,h=>by obtain⟨xw,k,h1,h2⟩:=h x qf;obtain⟨rq,kr,h3,h4⟩:=AB (rows:=rows) fun y hy=>h y (qg _ hy);exact⟨_,_,⟨xw,k,rq,kr,h1,h3,rfl,rfl⟩,by rw[qh,Nat.add_mul,Nat.one_mul];omega⟩
theorem D2 {e:D} (h2:rows.length<=2) (hr:∀x∈rows,pf n x) (he:EW (TW n) e ew ke) (hk:ke<=1+2*cT n):Tr (n+1) (.tup [.lst rows,e]):=by obtain⟨rq,kr,h3,h4⟩:=AB hr;have:rows.length*(1+cT n)<=2*(1+cT n):=F2 _ h2;refine⟨_,_,⟨rows,e,rq,kr,ew,ke,rfl,h2,h3,he,rfl,rfl⟩,?_⟩;show kr+ke<=4*cT n+3;omega
section
variable {bs:ab BenchT} {us:ab SetT} {h:aj}
theorem Iz (S:Small bs ss js us ls ks h) {T:FQ'} (hT:0<n->EvF T [c5 bs ss js us ls ks h,.int ((n:aj)-1)] (Tr n)):EvF (sG T) [c5 bs ss js us ls ks h,.int n] (pf n):=by
 have sl:(ss.map (·.nm)).length=ss.length:=qe _;have s1:=S.g.sl.1;have s3:=S.s;unfold sG;refine iK (cB (aD (fun _=>xJ S rfl) (cB (cE (fun _=>rfl) (fun _=>rfl) (by decide) (by decide) fun w w0 w1=>?_))));have at3:∀q,gk (toB (b2 eqD (vSh 4) (vC (.int 3)))) (toB (b2 gtD (vSh 2) (vC (.int 0)))) [aa (.pin q),sh0 bs ss js us ls ks h,oS (.int n),oS (.lst ((ss.map (·.nm)).map D.str)),oS (.int w),ac,ac]=aa (decide (w=3) && decide ((n:aj) > 0)):=fun q=>by
  by_cases e:w=3
  .rw[DR (show _=aa ai from(bW (aY rfl rfl rfl)).trans (by rw[qV e])),qV e];exact bW (aY rfl rfl rfl)
  .rw[Dg (show _=aa ao from(bW (aY rfl rfl rfl)).trans (by rw[qQ e])),qQ e];rfl
 refine fQ (eG (aD at3 ?_));cases hw:(decide (w=3) && decide ((n:aj) > 0)) with
 |true=>
  have hn:0<n:=by simp at hw;omega
  refine cB (fz (fun _=>rfl) (aP (aD (fun _=>rfl) (b6 ((zV S).imp fun c hc=>?_)))));obtain⟨cw,hc⟩:=hc;refine df (er (aP (aD (fun _=>rfl) (aP (aD (fun _=>rfl) (aP (cE (fun _=>rfl) (fun _=>rfl) (by decide) (by decide) fun v v0 v1=>aP (fz (fun _=>rfl) (aP (aD (fun _=>rfl) (aP (aD (fun _=>rfl) (b6 ((hT hn).imp fun t ht=>b6 ⟨by simp,_,rfl,?_⟩))))))))))))));obtain⟨tw,kt,h1,h2⟩:=ht;exact⟨_,_,.inr (.inr ⟨c,cw,v,t,tw,kt,hc,by omega,h1,rfl,rfl,rfl⟩),by omega⟩
 |false=>
  refine eA (fQ (eG (mf (w:=w) (fun _=>rfl) ?_)));by_cases e2:w=2
  .rw[qV e2,qY rfl];exact df (er (aP (aD (fun _=>rfl) (aP (lw (ns:=ss.map (·.nm)) (fun _=>rfl) (fun _=>rfl) (by omega) (by omega) fun y hy=>b6 ⟨by simp,_,rfl,_,_,.inl ⟨y,S.g.snn y hy,rfl,rfl,rfl⟩,by omega⟩)))))
  rw[qQ e2,qZ (by decide)];refine eA (cB (lw (ns:=ss.map (·.nm)) (fun _=>rfl) (fun _=>rfl) (by omega) (by omega) fun x hx=>?_));have hk:∃k:ah,(k="low"\/k="high")/\∀(a b:aq Slot) q,b2 ixD (aL (szF (ae (vC (.str "low")) (ae (vC (.str "high")) af)))) (b2 ib (vSh 4) (vC (.int 2))) [aa (.pin q),sh0 bs ss js us ls ks h,oS (.int n),oS (.lst ((ss.map (·.nm)).map D.str)),oS (.int w),a,b]=aa (.str k):=by
   rcases BC w0 w1 with rfl|rfl|rfl|rfl
   .exact⟨"low",.inl rfl,fun a b q=>rfl⟩
   .exact⟨"high",.inr rfl,fun a b q=>rfl⟩
   .exact bx rfl e2
   .exact⟨"high",.inr rfl,fun a b q=>rfl⟩
  obtain⟨k,k1,k3⟩:=hk;exact df (er (aP (aD (k3 _ _) (aP (aD (fun _=>rfl) (aP (lw (ns:=ss.map (·.nm)) (fun _=>rfl) (fun _=>rfl) (by omega) (by omega) fun y hy=>b6 ⟨by simp,_,rfl,_,_,.inr (.inl ⟨k,x,y,k1,S.g.snn x hx,S.g.snn y hy,rfl,rfl,rfl⟩),by omega⟩)))))))
theorem IT {c t u:D} (h2:rows.length<=2) (hr:∀x∈rows,pf n x) (hc:∃cw,CW c cw) (ht:Tr n t) (hu:Tr n u):Tr (n+1) (.tup [.lst rows,.tup [.str "both",c,t,u]]):=by obtain⟨cw,hc⟩:=hc;obtain⟨tw,kt,t1,t2⟩:=ht;obtain⟨uw,ku,u1,u2⟩:=hu;exact D2 h2 hr (.inr ⟨c,cw,t,tw,kt,u,uw,ku,hc,t1,u1,rfl,rfl,rfl⟩) (by omega)
theorem B1 (S:Small bs ss js us ls ks h):∀(n k:ag),n+1<=k->EvF (nt k) [c5 bs ss js us ls ks h,.int n] (Tr (n+1))
 |n,0,hk=>bx hk (by omega)
 |n,k+1,hk=>by
  have hT:0<n->EvF (nt k) [c5 bs ss js us ls ks h,.int ((n:aj)-1)] (Tr n):=fun hn=>by
   obtain⟨m,rfl⟩:∃m,n=m+1:=⟨n-1,by omega⟩;have:=B1 S m k (by omega)
   rwa [show(((m+1:ag):aj)-1)=(m:aj) by omega]
  show EvF (uI (nt k)) _ _;unfold uI;refine iK (cB (ua (xI (σ:=fun x q=>[oS x,aa (.pin q),sh0 bs ss js us ls ks h,oS (.int n)]) (tN (aP (cE (fun _=>rfl) (fun _=>rfl) (by decide) (by decide) fun m h0 h1=>b6 ⟨m,rfl,by omega,by omega,by rw[qe,qW];omega,fun i l=>l.length=i/\∀x∈l,pf n x,⟨rfl,fun _ z=>nomatch z⟩,fun i x l hx hS=>?_,fun l hl=>?_⟩))) (fun _ _=>rfl) fun _ _ _=>rfl)))
  .refine aD (a:=ai) (fun _=>rfl) ?_;rw[qY rfl];refine fz (fun _=>rfl) (aP (aD (fun _=>rfl) (aP (aD (fun _=>rfl) (b6 ((Iz S hT).imp fun y hy=>⟨by rw[qk,qX,hS.1],fun z hz=>?_⟩))))));rcases gz.mp hz with hz|hz
   .exact hS.2 z hz
   .rw[ce.mp hz];exact hy
  .obtain⟨hl1,hl2⟩:=hl;rw[qe,qW] at hl1;have lf:Es (bI (rM (aw (rP (vSh 3)) (aw (aI oP 0 (aw (rP (vSh 1)) (rP af))) (rP af))) cj)) (fun q=>[aa (.pin q),sh0 bs ss js us ls ks h,oS (.int n),oS (.lst l),ac,ac]) fun fl _=>∃d,fl=.rt d/\Tr (n+1) d:=
    df (er (aP (aD (fun _=>rfl) (aP (fz (fun _=>rfl) (aP (aD (fun _=>rfl) (b6 ((IU S).imp fun e he=>b6 ⟨by simp,_,rfl,D2 (by omega) hl2 (.inl ⟨he.choose_spec,rfl⟩) (by omega)⟩)))))))))
   refine fQ (eG (tt (aD (a:=decide ((n:aj) > 0)) (fun _=>rfl) ?_)));by_cases hn:(n:aj) > 0
   .rw[qV hn,qY rfl];refine i4 (fun _=>rfl) (fun _=>rfl) (by decide) (by decide) fun b=>?_;cases b with
    |false=>exact eA lf
    |true=>
     refine cB (fz (fun _=>rfl) (aP (aD (fun _=>rfl) (b6 ((zV S).imp fun c hc=>?_)))));refine cB (fz (fun _=>rfl) (aP (aD (fun _=>rfl) (aP (aD (fun _=>rfl) (b6 ((hT (by omega)).imp fun t ht=>?_)))))));exact df (er (aP (aD (fun _=>rfl) (aP (er (aP (aD (fun _=>rfl) (aP (aD (fun _=>rfl) (aP (aD (fun _=>rfl) (aP (fz (fun _=>rfl) (aP (aD (fun _=>rfl) (aP (aD (fun _=>rfl) (b6 ((hT (by omega)).imp fun u hu=>b6 ⟨by simp,b6 ⟨by simp,_,rfl,IT (by omega) hl2 hc ht hu⟩⟩)))))))))))))))))))
   .rw[qQ hn,qZ (by decide)];exact eA lf
end
theorem KW:(2:aj) ^ 64=18446744073709551616:=by decide +kernel
theorem DM {a b:aj} (h:0<b):ib (.int a) (.int b)=aa (.int (a%b)):=qY h
theorem tZ {a b:aj} (h:(-1000000000000<a/\a<1000000000000)\/(-1000000000000<b/\b<1000000000000)):hV (.int a) (.int b)=aa (.int (a*b)):=by show(if _ then _ else _)=_;rw[KW];exact qY (by omega)
theorem wH {a:aj} (h:a.natAbs<18446744073709551616) (hn:(n:aj)<=1000000):gQ (.int a) (.int n)=aa (.int (a ^ n)):=qY ⟨by omega,hn,h⟩
theorem zz {d:ab D} (ρ:bd) (e:ds.map (fun d=>aa (Slot.sh d))++bY n ac=ρ) (h:g ρ=aa (.ow d,ρ')):nR n g ds=aa d:=by subst e;unfold nR;rw[h];rfl
theorem Bz (h:f ρ=aa d):nZ (szF (ae f af)) ρ=aa (.ow [d],ρ):=by unfold nZ szF;rw[aQ h bc];rfl
theorem Lf {A B E:FS} {d:ab D} (h:ft ρ=aa ai) (h2:A ρ=aa (.ow d,ρ')):aS (sIf ft A B) E ρ=aa (.ow d,ρ'):=by unfold aS sIf;rw[h];show(Option.bind (A ρ) _)=_;rw[h2];rfl
theorem Is {a b:aj} (h:a.natAbs.log2<4000/\b.natAbs.log2<4000):pv (.int a) (.int b)=aa (.int (a*b)):=qY h
theorem Kg:pv (.int (10 ^ 60)) (.int (10 ^ 60))=aa (.int (10 ^ 60*10 ^ 60)):=Is (by decide +kernel)
theorem Oh {a b:aj} (h:0<b/\b<1073741824):kZ (.int a) (.int b)=aa (.int (a / b)):=qY h
theorem JK:(0:aj)<10 ^ 60*10 ^ 60:=by decide +kernel
theorem IX {ns:ab aj} (hl:ns.length<=63) {k:ag} (hk:k<=8):∃r,nc [.scr ns,.int (k:aj)]=aa [.int r]:=by
 have cell:∃c:aj,∀E:FS,aS (eh 2 (vC (.int 0))) (aS (sIf (toB (b2 ltD (vSh 1) (cF bS (ae (vSh 0) af)))) (eh 2 (b2 ixD (vSh 0) (vSh 1))) bR) E) [oS (.scr ns),oS (.int (k:aj)),ac,ac]=E [oS (.scr ns),oS (.int (k:aj)),oS (.int c),ac]:=by
  have ht:toB (b2 ltD (vSh 1) (cF bS (ae (vSh 0) af))) [oS (.scr ns),oS (.int (k:aj)),oS (.int 0),ac]=aa (decide ((k:aj)<ns.length)):=bW (aY rfl rfl rfl);by_cases h:(k:aj)<ns.length
  .have hk':k<ns.length:=by omega
   refine⟨ns[k],fun E=>(jD rfl).trans ((iM ((xl (ht.trans (by rw[qV h]))).trans ?_)))⟩;unfold eh;have:b2 ixD (vSh 0) (vSh 1) [oS (.scr ns),oS (.int (k:aj)),oS (.int 0),ac]=aa (.int ns[k]):=aY rfl rfl (by show(atI ns (k:aj)).map D.int=_;rw[km];simp[hk'])
   show(yR _ (b2 ixD (vSh 0) (vSh 1) [oS (.scr ns),oS (.int (k:aj)),oS (.int 0),ac]))=_;rw[this];rfl
  .exact⟨0,fun E=>(jD rfl).trans (iM (nP (ht.trans (by rw[qQ h]))))⟩
 obtain⟨c,hc⟩:=cell;unfold nc;have p60:b2 gQ (vC (.int 10)) (vC (.int 60)) [oS (.scr ns),oS (.int (k:aj)),oS (.int c),ac]=aa (.int (10 ^ 60)):=aY rfl rfl (wH (n:=60) (by decide) (by decide));have tst:toB (b2 geD (vSh 2) (b2 gQ (vC (.int 10)) (vC (.int 18)))) [oS (.scr ns),oS (.int (k:aj)),oS (.int c),ac]=aa (decide (c ≥ 10 ^ 18)):=bW (aY rfl (aY rfl rfl (wH (n:=18) (by decide) (by decide))) rfl);by_cases h:c ≥ 10 ^ 18
 .exact⟨_,zz [oS (.scr ns),oS (.int (k:aj)),ac,ac] rfl ((hc _).trans (Lf (tst.trans (by rw[qV h])) (Bz (aY rfl (aY p60 p60 Kg) (DM JK)))))⟩
 .have m0:0<=(c+104729*(k:aj)*k+15485863*(ns.length:aj))%2147483629:=yU _ (by decide);have m1:(c+104729*(k:aj)*k+15485863*(ns.length:aj))%2147483629<2147483629:=yV _ (by decide);refine⟨((((c+104729*(k:aj)*k+15485863*(ns.length:aj))%2147483629+48271)*982451653+7) ^ 7) / 1000003,zz [oS (.scr ns),oS (.int (k:aj)),ac,ac] rfl ((hc _).trans ((dU (tst.trans (by rw[qQ h]))).trans ((jD (d:=.int ((c+104729*(k:aj)*k+15485863*(ns.length:aj))%2147483629+48271)) ?_).trans (Bz (aY (aY (aY (aY rfl rfl (tZ (.inr (by decide)))) rfl rfl) rfl (wH (n:=7) ?_ (by decide))) rfl (Oh (by decide)))))))⟩
  .exact aY (aY (aY (aY rfl (aY (aY rfl rfl (tZ (.inl (by decide)))) rfl (tZ (.inr (by omega)))) rfl) (aY rfl rfl (tZ (.inl (by decide)))) rfl) rfl (DM (by decide))) rfl rfl
  .generalize (c+104729*(k:aj)*k+15485863*(ns.length:aj))%2147483629=m at m0 m1;omega
theorem Iv {f g:FT} (h:f ρ=aa ao):orT f g ρ=g ρ:=by unfold orT;rw[h];rfl
noncomputable def far:ab aj:=[0-10 ^ 39,10 ^ 40-1,0,-7]
theorem OD:∀i∈far,i∈okI:=by decide +kernel
theorem HU {g:FRs aj} {ρ:dy} {R:Fl->dy->Prop} (h1:∀q,fr (ρ q)=aa ds) (h2:ds.all pT=ai) (h3:F ds=aa d) (h4:∀q,ft ((ρ q).set j (oS d))=aa ao) (h5:jE n d) (h6:∀q,j<(ρ q).length) (h:Es g (fun q=>(ρ q).set j ac) R):Es (nX j F fr ft n g) ρ R:=fun r=>by obtain⟨fl,ρ',r',a1,a2⟩:=h r;refine⟨fl,ρ',r',fun q=>?_,a2⟩;unfold nX;rw[h1,qa,qY h2,h3,qa,h4,qa,qY ⟨rfl,h5,h6 q⟩];exact a1 q
abbrev laE (ns:ab aj) (k:aq Slot) (s t f d:aq Slot) (a b c y:aq Slot):dy:=fun q=>[oS (.scr ns),k,aa (.pin q),s,f,t,d,a,b,c,y]
abbrev vR:(FRs aj):=(aC (aV 8 (rP (cF lh (ae (vSh 7) af)))) (nX 9 jp (ae (vSh 8) af) (orT (bh (toB (cF gR (ae (vSh 9) (ae (vSh 7) af))))) (toB (b2 neA (cF lh (ae (vSh 9) af)) (vSh 8)))) 6 (qIf (rP (bh (toB (cF gR (ae (cF jp (ae (vSh 8) af)) (ae (vSh 7) af)))))) (bI (rP (vC (.bl ao)))) bZ)))
theorem Cp (n:ag):TW (n+1) (.tup [.lst [],.tup [.str "moved"]]) [sC,"moved"] 1:=⟨[],_,[],0,["moved"],1,rfl,by simp,⟨rfl,rfl⟩,.inl ⟨.inr (.inr (.inr (.inr (.inr ⟨rfl,rfl⟩)))),rfl⟩,rfl,rfl⟩
theorem M8 {ns:ab aj} {k s t f d b c y:aq Slot} {x:D} (hx:TW 6 x ws m) (hm:m<=3000):Es vR (laE ns k s t f d (oS x) b c y) fun fl ρ'=>fl=.nx/\∃b c,ρ'=laE ns k s t f d (oS x) b c y:=by
 have h1:=Bi hx (by decide) hm;have h2:=wy hx (by decide) hm;have h3:=Dq hx (by decide);have e1:neA (.str (J ws)) (.str (J ws))=aa (.bl ao):=(Bb _ _).trans (by rw[qV rfl];rfl);refine cB (aD (fun _=>bw (aQ rfl bc) h1) (HU (ds:=[.str (J ws)]) (d:=x) (fun _=>aQ rfl bc) rfl h2 (fun q=>?_) (um hx) (fun q=>by simp) (eG (aD (a:=ao) (fun q=>?_) (eA ⟨rfl,_,_,rfl⟩)))))
 .exact(Iv (j9 (bw (aQ rfl (aQ rfl bc)) h3))).trans (bW (aY (bw (aQ rfl bc) h1) rfl e1))
 .exact j9 (bw (aQ (bw (aQ rfl bc) h2) (aQ rfl bc)) h3)
abbrev ED:(FRs aj):=(aC (aV 3 (aI pU 2 (rP af))) (aC (aV 4 (r2 ixD (rP (aL (szF (ae (b2 eB (vC (.int 0)) (b2 gQ (vC (.int 10)) (vC (.int 39)))) (ae (b2 eB (b2 gQ (vC (.int 10)) (vC (.int 40))) (vC (.int 1))) (ae (vC (.int 0)) (ae (b1 oY (vC (.int 7))) af))))))) (aI ba 2 (aw (rP (vC (.int 4))) (rP af))))) (aC (aV 5 (aI tM 2 (aw (rP (vSh 3)) (aw (rP (vC (.int 4))) (rP af))))) (aC (aV 6 (rP (b5 (szF (ae (vC (.str "start")) (ae (vC (.str "nobody")) (ae (vSh 4) af))))))) (iI (rP (itF (aL (szF (ae (vSh 5) (ae (b5 (szF (ae (aL (szF (ae (b5 (szF (ae (vC (.str "not")) (ae (vSh 6) (ae (vC (.int 1)) (ae (vSh 5) af)))))) af))) (ae (b5 (szF (ae (vC (.str "both")) (ae (vSh 6) (ae (vSh 5) (ae (b5 (szF (ae (aL (szF af)) (ae (b5 (szF (ae (vC (.str "moved")) af))) af)))) af)))))) af)))) af)))))) (aM 7) vR)))))
theorem L6 {ns:ab aj} {k a b c d e f g y:aq Slot} :Es ED (laE ns k a c b d e f g y) fun fl ρ'=>fl=.nx/\∃a b c d e f g,ρ'=laE ns k a c b d e f g y:=by
 refine cB (fz (fun _=>rfl) (b6 (Iu.imp ?_)));rintro _ ⟨bs,ss,js,us,ls,ks,h,rfl,S⟩;have main:∀fr∈okI,Es (aC (aV 5 (aI tM 2 (aw (rP (vSh 3)) (aw (rP (vC (.int 4))) (rP af))))) (aC (aV 6 (rP (b5 (szF (ae (vC (.str "start")) (ae (vC (.str "nobody")) (ae (vSh 4) af))))))) (iI (rP (itF (aL (szF (ae (vSh 5) (ae (b5 (szF (ae (aL (szF (ae (b5 (szF (ae (vC (.str "not")) (ae (vSh 6) (ae (vC (.int 1)) (ae (vSh 5) af)))))) af))) (ae (b5 (szF (ae (vC (.str "both")) (ae (vSh 6) (ae (vSh 5) (ae (b5 (szF (ae (aL (szF af)) (ae (b5 (szF (ae (vC (.str "moved")) af))) af)))) af)))))) af)))) af)))))) (aM 7) vR))) (laE ns k (sh0 bs ss js us ls ks h) c (oS (.int fr)) d e f g y) fun fl ρ'=>fl=.nx/\∃a b c d e f g,ρ'=laE ns k a c b d e f g y:=fun fr hf=>by
  refine cB (fz (fun _=>rfl) (aP (aD (fun _=>rfl) (aP (aD (fun _=>rfl) (b6 (EvF.imp (B1 S 4 8 (by decide)) fun t ht=>?_)))))));obtain⟨tw,kt,h1,h2⟩:=ht;have k1:kt<=1023:=qP h2 (by decide);have hc:CW (.tup [.str "start",.str "nobody",.int fr]) ["start","nobody",tI fr]:=.inl ⟨_,fr,by decide +kernel,hf,rfl,rfl⟩;refine cB (aD (a:=.tup [.str "start",.str "nobody",.int fr]) (fun q=>rfl) ?_);refine uR (fun _ ρ=>∃f g e,ρ=laE ns k (sh0 bs ss js us ls ks h) (oS t) (oS (.int fr)) (oS (.tup [.str "start",.str "nobody",.int fr])) e f g y) (aD (a:=[t,.tup [.lst [.tup [.str "not",.tup [.str "start",.str "nobody",.int fr],.int 1,t]],.tup [.str "both",.tup [.str "start",.str "nobody",.int fr],t,.tup [.lst [],.tup [.str "moved"]]]]]) (fun q=>rfl) ⟨⟨f,g,e,rfl⟩,fun i x ρ hx hI=>?_,fun ρ hI=>?_⟩)
  .obtain⟨f,g,e,rfl⟩:=hI;have tx:∃ws m,TW 6 x ws m/\m<=3000:=by
    have hm:=qS hx;simp only[qO,qM,or_false] at hm;rcases hm with rfl|rfl
    .exact⟨tw,kt,sS h1,by omega⟩
    .exact⟨_,_,⟨_,_,_,_,_,_,rfl,by simp,⟨_,_,_,_,.inr (.inr ⟨_,_,1,t,tw,kt,hc,.inr rfl,h1,rfl,rfl,rfl⟩),⟨rfl,rfl⟩,rfl,rfl⟩,.inr ⟨_,_,t,tw,kt,_,_,_,hc,h1,Cp 4,rfl,rfl,rfl⟩,rfl,rfl⟩,by omega⟩
   obtain⟨ws,m,t1,t2⟩:=tx;refine⟨laE ns k (sh0 bs ss js us ls ks h) (oS t) (oS (.int fr)) (oS (.tup [.str "start",.str "nobody",.int fr])) (oS x) f g y,fun _=>rfl,(M8 t1 t2).imp ?_⟩;rintro _ _ ⟨rfl,b,c,rfl⟩;exact⟨rfl,b,c,_,rfl⟩
  .obtain⟨f,g,e,rfl⟩:=hI;exact⟨rfl,_,_,_,_,_,_,_,rfl⟩
 refine cB (dJ (aD (a:=.lst (far.map D.int)) (fun q=>by kernel_rfl) (cE (fun _=>rfl) (fun _=>rfl) (by decide) (by decide) fun n n0 n1=>?_)));obtain⟨x,_,e2,e3⟩:=l5 (f:=D.int) (xs:=far) n0 n1;exact⟨_,e3,main x (OD x e2)⟩
noncomputable def t1:D:=.tup [.lst [],.tup [.str "stock",.str "x",.int 9999999,.str "less"]]
noncomputable def t2:D:=.tup [.lst [],.tup [.str "stretch",.lst [.str "zz",.str "y"],.int 0,.int 9999999]]
noncomputable def t3:D:=.tup [.lst [],.tup [.str "together",.str "fit",.int 1234567,.int 7654321]]
noncomputable def t4:D:=.tup [.lst [.tup [.str "low",.str "low",.str "low"]],.tup [.str "ring",.lst [.str "ring",.str "both"]]]
theorem JV:∀x∈[t1,t2,t3,t4],∃ws m,TW 1 x ws m/\m<=3000:=fun x hx=>by
 simp only[qO,qM,or_false] at hx;have nm:∀w∈(["x","zz","y","fit","low","ring","both"]:ab ah),bB w=ai:=by decide +kernel
 rcases hx with rfl|rfl|rfl|rfl
 .exact⟨_,_,⟨[],_,[],0,_,1,rfl,by simp,⟨rfl,rfl⟩,.inl ⟨.inr (.inr (.inr (.inr (.inl ⟨"x","less",9999999,nm _ (by simp),by decide,.inl rfl,rfl,rfl⟩)))),rfl⟩,rfl,rfl⟩,by decide⟩
 .exact⟨_,_,⟨[],_,[],0,_,1,rfl,by simp,⟨rfl,rfl⟩,.inl ⟨.inr (.inr (.inl ⟨["zz","y"],0,9999999,by simp,by simp,by decide +kernel,fun w hw=>nm w (by simp only[qO,qM,or_false] at hw ⊢;rcases hw with rfl|rfl<;>simp),by decide,by decide,rfl,rfl⟩)),rfl⟩,rfl,rfl⟩,by decide⟩
 .exact⟨_,_,⟨[],_,[],0,_,1,rfl,by simp,⟨rfl,rfl⟩,.inl ⟨.inr (.inr (.inr (.inl ⟨"fit",1234567,7654321,nm _ (by simp),by decide,by decide,rfl,rfl⟩))),rfl⟩,rfl,rfl⟩,by decide⟩
 .exact⟨_,_,⟨_,_,_,_,_,1,rfl,by simp,⟨_,_,_,_,.inr (.inl ⟨"low","low","low",.inl rfl,nm _ (by simp),nm _ (by simp),rfl,rfl,rfl⟩),⟨rfl,rfl⟩,rfl,rfl⟩,.inl ⟨.inr (.inl ⟨["ring","both"],by simp,by simp,fun w hw=>nm w (by simp only[qO,qM,or_false] at hw ⊢;rcases hw with rfl|rfl<;>simp),rfl,rfl⟩),rfl⟩,rfl,rfl⟩,by decide⟩
theorem HN:J [sC,"moved"]="; moved":=by decide +kernel
theorem IA:jp [.str "; moved"]=aa (.tup [.lst [],.tup [.str "moved"]]):=by rw[←HN];exact wy (Cp 0) (by decide) (by decide)
theorem KD:eqA (.tup [.lst [],.tup [.str "moved"]]) (.tup [.lst [],.tup [.str "moved"]])=aa (.bl ai):=by kernel_rfl
abbrev twB:FS:=sIf (bh (toB (cF gR (ae (cF jp (ae (cF lh (ae (vSh 7) af)) af)) (ae (vSh 7) af))))) (aT (vC (.bl ao))) bR
theorem N7 (ns:ab aj) (hlen:ns.length<=63):yg [.scr ns]=aa (.bl ai):=by
 unfold yg;have m0:0<=(if (ns.length:aj)+1<8 then (ns.length:aj)+1 else 8)/\(if (ns.length:aj)+1<8 then (ns.length:aj)+1 else 8)<=8:=by split<;>omega
 have hi:itR gq (ae (cF lr (ae (vC (.int 8)) (ae (b2 bA (cF bS (ae (vSh 0) af)) (vC (.int 1))) af))) af) [oS (.scr ns),ac,ac,ac,ac,ac,ac,ac,ac,ac,ac]=aa ((di (if (ns.length:aj)+1<8 then (ns.length:aj)+1 else 8).toNat).map fun i:ag=>D.int (0+i)):=Bp (aQ (bw (aQ rfl (aQ (aY rfl rfl rfl) bc)) rfl) bc) (Cz ⟨m0.1,by omega⟩);generalize (if (ns.length:aj)+1<8 then (ns.length:aj)+1 else 8)=m at m0 hi;obtain⟨ρ',h1,a,b,c,d,e,f,g,k,l,y,rfl⟩:=o9 (gg:=aM 1) (body:=aS (jk 2 (cFO nc (ae (vSh 0) (ae (vSh 1) af)))) (nh 2 ED)) (xs:=(di m.toNat).map fun i:ag=>D.int (0+i)) (ρ:=[oS (.scr ns),ac,ac,ac,ac,ac,ac,ac,ac,ac,ac])
  (fun _ ρ=>∃a b c d e f g k l y,ρ=[oS (.scr ns),a,b,c,d,e,f,g,k,l,y]) ⟨_,_,_,_,_,_,_,_,_,_,rfl⟩ (fun i x ρ hx hI=>by
   obtain⟨a,b,c,d,e,f,g,k,l,y,rfl⟩:=hI;obtain⟨rfl,hlt⟩:=Dl hx;obtain⟨r,hr⟩:=IX hlen (k:=i) (by omega);have ho:jk 2 (cFO nc (ae (vSh 0) (ae (vSh 1) af))) [oS (.scr ns),oS (.int (0+(i:aj))),b,c,d,e,f,g,k,l,y]=aa (.nx,[oS (.scr ns),oS (.int (0+(i:aj))),aa (.own [.int r]),c,d,e,f,g,k,l,y]):=by unfold jk cFO;rw[aQ rfl (aQ rfl bc),qa,show(0+(i:aj))=(i:aj) by omega,hr];rfl
   obtain⟨fl,ρ2,r2,h2,rfl,a',b',c',d',e',f',g',rfl⟩:=L6 (ns:=ns) (k:=oS (.int (0+(i:aj)))) (a:=c) (b:=d) (c:=e) (d:=f) (e:=g) (f:=k) (g:=l) (y:=y) r;refine⟨[oS (.scr ns),oS (.int (0+(i:aj))),b,c,d,e,f,g,k,l,y],_,rfl,(iM ho).trans (L5 (ρ':=[oS (.scr ns),oS (.int (0+(i:aj))),ac,a',b',c',d',e',f',g',y]) rfl h2),?_⟩;exact⟨_,_,_,_,_,_,_,_,_,_,rfl⟩)
 obtain⟨ρ2,h2,x7,rfl⟩:=o9 (gg:=aM 7) (body:=twB) (xs:=[t1,t2,t3,t4]) (ρ:=[oS (.scr ns),a,b,c,d,e,f,g,k,l,oS (.lst [t1,t2,t3,t4])])
  (fun _ ρ=>∃x,ρ=[oS (.scr ns),a,b,c,d,e,f,x,k,l,oS (.lst [t1,t2,t3,t4])]) ⟨_,rfl⟩ (fun i x ρ hx hI=>by obtain⟨z,rfl⟩:=hI;obtain⟨ws,n,q1,q2⟩:=JV x (qS hx);exact⟨_,_,rfl,nP (j9 (bw (aQ (bw (aQ (bw (aQ rfl bc) (Bi q1 (by decide) q2)) bc) (wy q1 (by decide) q2)) (aQ rfl bc)) (Dq q1 (by decide)))),_,rfl⟩)
 refine cK (ρ':=[oS (.scr ns),a,b,c,d,e,f,x7,k,l,oS (.lst [t1,t2,t3,t4])]) [oS (.scr ns),ac,ac,ac,ac,ac,ac,ac,ac,ac,ac] rfl ((iM ((pw hi).trans h1)).trans ?_);refine(jD (d:=.lst [t1,t2]) rfl).trans ((jD (d:=.lst [t1,t2,t3,t4]) (aY (x:=.lst [t1,t2]) (y:=.lst [t3,t4]) rfl rfl rfl)).trans ((iM ((pw rfl).trans h2)).trans (cH (aY (bw (aQ rfl bc) IA) rfl KD))))
noncomputable def ya (K:aR):Sp:=fun vs H Q _=>∃(a:au) (ns:ab aj),vs=[.ref a]/\SqL K H a (ns.map V.int)/\ns.length<=63/\∀H',Q (.bl ai) H'
theorem all_mk {l:Fi} {fa:au} (X:K.In h) (G:h.Ns eW mg) (hfa:mg "law"=aa (.ref fa))
  (aC_Shop:sd K eW "Shop"=aa (aa (.ref C_Shop)))
  (aC_TreeWords:sd K eW "TreeWords"=aa (aa (.ref C_TreeWords)))
  (pg_Shop:rJ K C_Shop yy=ai) (hd_Shop:u3 K C_Shop=ai) (po_Shop:yx K C_Shop=ai) (sa_Shop:dE K (.ref C_Shop) "__setattr__"=aa (aa (.builtin "object.__setattr__"))) (mk_Shop:u5 K C_Shop=ai) (kc_Shop:fY K (.ref C_Shop)=ai)
  (n0_Shop:dE K (.ref C_Shop) "benches"=aa ac)
  (n1_Shop:dE K (.ref C_Shop) "steps"=aa ac)
  (n2_Shop:dE K (.ref C_Shop) "jobs"=aa ac)
  (n3_Shop:dE K (.ref C_Shop) "setups"=aa ac)
  (n4_Shop:dE K (.ref C_Shop) "links"=aa ac)
  (n5_Shop:dE K (.ref C_Shop) "stocks"=aa ac)
  (n6_Shop:dE K (.ref C_Shop) "horizon"=aa ac)
  (n7_Shop:dE K (.ref C_Shop) "bench_by_name"=aa ac)
  (n8_Shop:dE K (.ref C_Shop) "step_by_name"=aa ac)
  (n9_Shop:dE K (.ref C_Shop) "setup_by_names"=aa ac)
  (n10_Shop:dE K (.ref C_Shop) "job_by_step"=aa ac)
  (pg_TreeWords:rJ K C_TreeWords yy=ai) (hd_TreeWords:u3 K C_TreeWords=ai) (po_TreeWords:yx K C_TreeWords=ai) (sa_TreeWords:dE K (.ref C_TreeWords) "__setattr__"=aa (aa (.builtin "object.__setattr__"))) (mk_TreeWords:u5 K C_TreeWords=ai) (kc_TreeWords:fY K (.ref C_TreeWords)=ai)
  (n0_TreeWords:dE K (.ref C_TreeWords) "words"=aa ac)
  (n1_TreeWords:dE K (.ref C_TreeWords) "place"=aa ac)
  (n2_TreeWords:dE K (.ref C_TreeWords) "counted"=aa ac)
  (a72:sd K eW "law"=aa (aa (.ref f72))) (l72:K.lookup f72=aa ⟨oc72,od72,.func (eO "law" "law" (eT (top 85)) (cO (top 85)) (aF (top 85)) .none kV72 dc72 pm72 an72 cd72 ct72),sl72⟩) (c72:rO K cd72 "law"=ai) (k72:fY K (.ref f72)=ai)
  (V:Vd K mg C_Shop C_TreeWords)
 : ∃fd:mJ,(∀(s:aB) (v:av),rK s fd ⟨[v],[]⟩ [("_law_script",v)])/\∀base:Heap,K.In base->base.Ns eW mg->FnOk l.prog w K mg base CX0 40 fa fd ["_law_script"] (ya K):=by
 have e:=hfa.symm.trans (se X G a72);have e2:=Value.ref.inj (qK e);subst e2;have O_Shop:ClsOk (Gam C_Shop C_TreeWords) K mg "Shop" C_Shop:=⟨by unfold Gam;rfl,⟨pg_Shop,hd_Shop,po_Shop,sa_Shop⟩,se X G aC_Shop,mk_Shop,kc_Shop⟩;have cf_Shop:CF (Gam C_Shop C_TreeWords) K "Shop" Ee:=O_Shop.cf (hU.mpr ⟨n0_Shop,(hU.mpr ⟨n1_Shop,(hU.mpr ⟨n2_Shop,(hU.mpr ⟨n3_Shop,(hU.mpr ⟨n4_Shop,(hU.mpr ⟨n5_Shop,(hU.mpr ⟨n6_Shop,(hU.mpr ⟨n7_Shop,(hU.mpr ⟨n8_Shop,(hU.mpr ⟨n9_Shop,(hU.mpr ⟨n10_Shop,(Rc _)⟩)⟩)⟩)⟩)⟩)⟩)⟩)⟩)⟩)⟩)⟩);have O_TreeWords:ClsOk (Gam C_Shop C_TreeWords) K mg "TreeWords" C_TreeWords:=⟨by unfold Gam;rfl,⟨pg_TreeWords,hd_TreeWords,po_TreeWords,sa_TreeWords⟩,se X G aC_TreeWords,mk_TreeWords,kc_TreeWords⟩;have cf_TreeWords:CF (Gam C_Shop C_TreeWords) K "TreeWords" B0:=O_TreeWords.cf (hU.mpr ⟨n0_TreeWords,(hU.mpr ⟨n1_TreeWords,(hU.mpr ⟨n2_TreeWords,(Rc _)⟩)⟩)⟩);have V:Vw K mg C_Shop C_TreeWords:={V with O_Shop,cf_Shop,O_TreeWords,cf_TreeWords};refine⟨eO "law" "law" (eT (top 85)) (cO (top 85)) (aF (top 85)) .none kV72 dc72 pm72 an72 cd72 ct72,fun s v=>.of_eq rfl,fun base _ _=>?_⟩;have FL:=x9 (st:=top 85) l72 c72 k72;have ok:FnOk l.prog w K mg base CX0 40 fa _ ["_law_script"] (spF (Gam C_Shop C_TreeWords) K 1 yg):=FL.okD (k:=39) gN (Ou V fa);refine ok.imp fun vs H Q E hq=>?_;obtain⟨a,ns,rfl,hS,hlen,k⟩:=hq;exact⟨H,[.scr ns],.bl ai,bp.refl H,.cons (.scr hS) .nil,rfl,N7 ns hlen,fun v G' H' _ r=>by rw[r.bl_inv];exact k H'⟩
theorem walk {l:Fi} {q:dD} {d:yM} {K:yL->aR} (hn:l.most=aa 63) (hdf:d.params.defaults=[])
  (hY:∀(w:cS) (h:Heap),YP w h->(K w.params).In h)
  (F:∀(w:cS) (mg:ah->aq av) (fa:au) (h:Heap),(K w.params).In h->h.Ns eW mg->mg d.name=aa (.ref fa)->
   ∃fd:mJ,(∀(s:aB) (u:av),rK s fd ⟨[u],[]⟩ [("_law_script",u)])/\∀base:Heap,(K w.params).In base->base.Ns eW mg->FnOk l.prog w (K w.params) mg base CX0 40 fa fd ["_law_script"] (ya (K w.params))) :
  PY q loose XP YP l.row.toRowW d [] (fun f vs=>yN f vs):=
 L2.walk_of (n:=63) (k:=40) (x:="_law_script") (CX:=fun _=>CX0) (sp:=fun w=>ya (K w.params)) hn (by decide) hdf ⟨rfl,by decide,by decide⟩ hY F (fun _ _ a ns hl _ hS=>⟨a,ns,rfl,hS,hl,fun _=>rfl⟩) fun _ _ _ _ _ z=>z
end Law
end L2
def PySem.W.Fast.tw11454867619632592937:Unit:=()
def PySem.W.Fast.tw16492980501615632908:Unit:=()
def PySem.W.Fast.tw16212367418000158045:Unit:=()
def PySem.W.Fast.tw8016067744618459830:Unit:=()
def PySem.W.Fast.tw13926427863224228849:Unit:=()
def PySem.W.Fast.tw15714410218637880559:Unit:=()
def PySem.W.Fast.tw10080321046014680668:Unit:=()
def PySem.W.Fast.tw14247718587032761165:Unit:=()
def PySem.W.Fast.tw13310440763260380422:Unit:=()
def PySem.W.Fast.tw7731887273353755848:Unit:=()
def PySem.W.Fast.tw3219066516705967009:Unit:=()
def PySem.W.Fast.tw10630882266568341505:Unit:=()
def PySem.W.Fast.tw11165404509706077488:Unit:=()
def PySem.W.Fast.tw9440226929450680371:Unit:=()
def PySem.W.Fast.tw7178677982508417442:Unit:=()
def PySem.W.Fast.tw18228445928406067194:Unit:=()
def PySem.W.Fast.tw7363634554054340326:Unit:=()
def PySem.W.Fast.tw10886539550699976538:Unit:=()
def PySem.W.Fast.tw11305612923003339738:Unit:=()
def PySem.W.Fast.tw633304299071151726:Unit:=()
def PySem.W.Fast.tw1892101212713405572:Unit:=()
def PySem.W.Fast.tw2538045134739442727:Unit:=()
def PySem.W.Fast.tw10158762384803715962:Unit:=()
def PySem.W.Fast.tw16300938673096925204:Unit:=()
def PySem.W.Fast.tw11139543609586094983:Unit:=()
def PySem.W.Fast.tw11767645061342308406:Unit:=()
def PySem.W.Fast.tw13756430010064575367:Unit:=()
def PySem.W.Fast.tw6439475032758994553:Unit:=()
def PySem.W.Fast.tw8648366011107258559:Unit:=()
def PySem.W.Fast.tw2677300439179483634:Unit:=()
def PySem.W.Fast.tw6313937353571938849:Unit:=()
def PySem.W.Fast.tw15831778895024076001:Unit:=()
def PySem.W.Fast.tw11877441155941213013:Unit:=()
def PySem.W.Fast.tw1528256986091350948:Unit:=()
def PySem.W.Fast.tw12621258303245932031:Unit:=()
def PySem.W.Fast.tw7418484679026439838:Unit:=()
def PySem.W.Fast.tw10485216476277243102:Unit:=()
def PySem.W.Fast.tw2327686049912210108:Unit:=()
def PySem.W.Fast.tw1815309741270003460:Unit:=()
def PySem.W.Fast.tw15136152228194405643:Unit:=()
def PySem.W.Fast.tw12534536900151625246:Unit:=()
def PySem.W.Fast.tw17413813344907847823:Unit:=()
def PySem.W.Fast.tw5626848296673839598:Unit:=()
def PySem.W.Fast.tw1765789023523550702:Unit:=()
def PySem.W.Fast.tw5900642513437184695:Unit:=()
def PySem.W.Fast.tw8479479950452081087:Unit:=()
def PySem.W.Fast.tw1470275388796409440:Unit:=()
def PySem.W.Fast.tw8482949423502526923:Unit:=()
def PySem.W.Fast.tw18284159798994386321:Unit:=()
def PySem.W.Fast.tw15290007350344874141:Unit:=()
def PySem.W.Fast.tw4974089733374116001:Unit:=()
def PySem.W.Fast.tw7314279681701929363:Unit:=()
def PySem.W.Fast.tw4959709231081901872:Unit:=()
def PySem.W.Fast.tw11885710444066583944:Unit:=()
def PySem.W.Fast.tw16055427583475898603:Unit:=()
def PySem.W.Fast.tw793858221084586753:Unit:=()
def PySem.W.Fast.tw2489679341614365033:Unit:=()
def PySem.W.Fast.tw17148742674040708528:Unit:=()
def PySem.W.Fast.tw17875774009706050891:Unit:=()
def PySem.W.Fast.tw8162983028316696884:Unit:=()
def PySem.W.Fast.tw12461617687708940287:Unit:=()
def PySem.W.Fast.tw1537346329763274284:Unit:=()
def PySem.W.Fast.tw11235880408785567074:Unit:=()
def PySem.W.Fast.tw12552679454329756117:Unit:=()
def PySem.W.Fast.tw15352748246646082923:Unit:=()
def PySem.W.Fast.tw9589422837049093871:Unit:=()
def PySem.W.Fast.tw851161564011401634:Unit:=()
def PySem.W.Fast.tw4314744990342383985:Unit:=()
def PySem.W.Fast.tw17294495707120795288:Unit:=()
def PySem.W.Fast.tw14788390070865547406:Unit:=()
def PySem.W.Fast.tw3851112903764724200:Unit:=()
def PySem.W.Fast.tw12822350467929780973:Unit:=()
def PySem.W.Fast.tw9297614585147447534:Unit:=()
def PySem.W.Fast.tw10472394509557004056:Unit:=()
def PySem.W.Fast.tw14276883688864801171:Unit:=()
def PySem.W.Fast.tw7457959664831261751:Unit:=()
def PySem.W.Fast.tw17957693784083919937:Unit:=()
def PySem.W.Fast.tw16369384001807096740:Unit:=()
def PySem.W.Fast.tw5746708293413494377:Unit:=()
def PySem.W.Fast.tw9682120065193790776:Unit:=()
def PySem.W.Fast.tw5942076647761234653:Unit:=()
def PySem.W.Fast.tw4242692392068737898:Unit:=()
def PySem.W.Fast.tw7721623298037282501:Unit:=()
def PySem.W.Fast.tw1444464732981850883:Unit:=()
def PySem.W.Fast.tw629303767801564845:Unit:=()
def PySem.W.Fast.tw10733029698325514092:Unit:=()
def PySem.W.Fast.tw5081691158924016864:Unit:=()
def PySem.W.Fast.tw15791382765939965300:Unit:=()
def PySem.W.Fast.tw2046716460984564046:Unit:=()
def PySem.W.Fast.tw13940059454654559551:Unit:=()
def PySem.W.Fast.tw3430027547828951880:Unit:=()
def PySem.W.Fast.tw7832730339273209279:Unit:=()
def PySem.W.Fast.tw47226649198530104:Unit:=()
def PySem.W.Fast.tw16320113095966315742:Unit:=()
def PySem.W.Fast.tw833008218035682018:Unit:=()
def PySem.W.Fast.tw119504433183508045:Unit:=()
def PySem.W.Fast.tw1732637090996424814:Unit:=()
def PySem.W.Fast.tw8733055319711074664:Unit:=()
def PySem.W.Fast.tw18055501174424890009:Unit:=()
def PySem.W.Fast.tw10588623435039703562:Unit:=()
def PySem.W.Fast.tw5511442558918202322:Unit:=()
def PySem.W.Fast.tw13838189201211351667:Unit:=()
def PySem.W.Fast.tw16488017112339272327:Unit:=()
def PySem.W.Fast.tw6745362105394948234:Unit:=()
def PySem.W.Fast.tw15169485648030691866:Unit:=()
def PySem.W.Fast.tw11109038991258980662:Unit:=()
def PySem.W.Fast.tw17152235285836878320:Unit:=()
def PySem.W.Fast.tw17007483529931382643:Unit:=()
def PySem.W.Fast.tw10232602462912613561:Unit:=()
def PySem.W.Fast.tw11297442212426123553:Unit:=()
def PySem.W.Fast.tw13757421422592824959:Unit:=()
def PySem.W.Fast.tw17470301623457899180:Unit:=()
def PySem.W.Fast.tw13566048410555976159:Unit:=()
def PySem.W.Fast.tw774398242030802081:Unit:=()
def PySem.W.Fast.tw16933559711204587156:Unit:=()
def PySem.W.Fast.tw124522803935913129:Unit:=()
def PySem.W.Fast.tw4337818888713356201:Unit:=()
def PySem.W.Fast.tw10699882706634826132:Unit:=()
def PySem.W.Fast.tw7969328709278152367:Unit:=()
def PySem.W.Fast.tw9225101910594941431:Unit:=()
def PySem.W.Fast.tw11497041594374493310:Unit:=()
def PySem.W.Fast.tw8075721691282210242:Unit:=()
def PySem.W.Fast.tw18270774079623527819:Unit:=()
def PySem.W.Fast.tw4278490302384715483:Unit:=()
def PySem.W.Fast.tw13088290171849304046:Unit:=()
def PySem.W.Fast.tw15434721581973060771:Unit:=()
def PySem.W.Fast.tw621000692948038025:Unit:=()
def PySem.W.Fast.tw9053147801117808271:Unit:=()
def PySem.W.Fast.tw18106183060536174473:Unit:=()
def PySem.W.Fast.tw8642279527335709857:Unit:=()
def PySem.W.Fast.tw5076897071114985697:Unit:=()
def PySem.W.Fast.tw3781424153296771047:Unit:=()
def PySem.W.Fast.tw13605900225450462528:Unit:=()
def PySem.W.Fast.tw12323856860466697042:Unit:=()
def PySem.W.Fast.tw8475760352045931900:Unit:=()
def PySem.W.Fast.tw4130214365521363080:Unit:=()
def PySem.W.Fast.tw13320431116819146984:Unit:=()
def PySem.W.Fast.tw11414961440903387302:Unit:=()
def PySem.W.Fast.tw3464007210796522722:Unit:=()
def PySem.W.Fast.tw4128945166032562740:Unit:=()
def PySem.W.Fast.tw17169470923099059680:Unit:=()
def PySem.W.Fast.tw18152962443163341520:Unit:=()
def PySem.W.Fast.tw11156366021228472465:Unit:=()
def PySem.W.Fast.tw1630998793789935710:Unit:=()
def PySem.W.Fast.tw1355793378088146776:Unit:=()
def PySem.W.Fast.tw5102061606869359320:Unit:=()
def PySem.W.Fast.tw10059400872779771307:Unit:=()
def PySem.W.Fast.tw14826770489721901699:Unit:=()
def PySem.W.Fast.tw10649384245201536958:Unit:=()
def PySem.W.Fast.tw106086764678006971:Unit:=()
def PySem.W.Fast.tw867400388026851168:Unit:=()
def PySem.W.Fast.tw994770144183219530:Unit:=()
def PySem.W.Fast.tw2472245210218426569:Unit:=()
def PySem.W.Fast.tw4421030330114460238:Unit:=()
def PySem.W.Fast.tw4828534093412615834:Unit:=()
def PySem.W.Fast.tw2611874745105026268:Unit:=()
def PySem.W.Fast.tw10760476901179715423:Unit:=()
def PySem.W.Fast.tw538515389892668301:Unit:=()
def PySem.W.Fast.tw557570381608192615:Unit:=()
def PySem.W.Fast.tw8268235139884755678:Unit:=()
def PySem.W.Fast.tw2102696829967715321:Unit:=()
def PySem.W.Fast.tw16771206817224415506:Unit:=()
def PySem.W.Fast.tw8386080197097848661:Unit:=()
def PySem.W.Fast.tw11722862355094891737:Unit:=()
def PySem.W.Fast.tw2889708621797841327:Unit:=()
def PySem.W.Fast.tw11698726097514392158:Unit:=()
def PySem.W.Fast.tw1737201489587067957:Unit:=()
def PySem.W.Fast.tw1967645269216544546:Unit:=()
def PySem.W.Fast.tw6804474942989844232:Unit:=()
def PySem.W.Fast.tw15173209299512181699:Unit:=()
def PySem.W.Fast.tw12759735725756957228:Unit:=()
def PySem.W.Fast.tw6847233892663689031:Unit:=()
def PySem.W.Fast.tw16866418935498597885:Unit:=()
def PySem.W.Fast.tw11459897934455808852:Unit:=()
def PySem.W.Fast.tw6690675083612392928:Unit:=()
def PySem.W.Fast.tw8748690749784666966:Unit:=()
def PySem.W.Fast.tw979732069267381740:Unit:=()
def PySem.W.Fast.tw18288226939792112670:Unit:=()
def PySem.W.Fast.tw2839581766146170037:Unit:=()
def PySem.W.Fast.tw2118988934060927620:Unit:=()
def PySem.W.Fast.tw15483774762973039539:Unit:=()
def PySem.W.Fast.tw3029998541493072725:Unit:=()
def PySem.W.Fast.tw12937278331065420066:Unit:=()
def PySem.W.Fast.tw1659232554535078266:Unit:=()
def PySem.W.Fast.tw17136792904442918992:Unit:=()
def PySem.W.Fast.tw17435622342157440147:Unit:=()
def PySem.W.Fast.tw5310238806626479105:Unit:=()
def PySem.W.Fast.tw10394894142980244261:Unit:=()
def PySem.W.Fast.tw8891554683434506453:Unit:=()
def PySem.W.Fast.tw5867595015256559206:Unit:=()
def PySem.W.Fast.tw14514180681302653696:Unit:=()
def PySem.W.Fast.tw15796904370392768009:Unit:=()
def PySem.W.Fast.tw12094669901408427791:Unit:=()
def PySem.W.Fast.tw14410325228382510925:Unit:=()
def PySem.W.Fast.tw13634669972792445903:Unit:=()
def PySem.W.Fast.tw6192176471130904969:Unit:=()
def PySem.W.Fast.tw13728007238524901746:Unit:=()
def PySem.W.Fast.tw17071713335697505298:Unit:=()
def PySem.W.Fast.tw11717097182755161580:Unit:=()
def PySem.W.Fast.tw18425732797163189407:Unit:=()
def PySem.W.Fast.tw2053527158906065661:Unit:=()
def PySem.W.Fast.tw7942755877783963420:Unit:=()
def PySem.W.Fast.tw12385022551880294203:Unit:=()
def PySem.W.Fast.tw17565761313409447626:Unit:=()
def PySem.W.Fast.tw11398070985690267633:Unit:=()
def PySem.W.Fast.tw6791932912784042974:Unit:=()
def PySem.W.Fast.tw12557743969222376440:Unit:=()
def PySem.W.Fast.tw1519930023479075873:Unit:=()
def PySem.W.Fast.tw12999641747118092844:Unit:=()
def PySem.W.Fast.tw10912416395095177526:Unit:=()
def PySem.W.Fast.tw4606293140761869382:Unit:=()
def PySem.W.Fast.tw18051376102682428420:Unit:=()
def PySem.W.Fast.tw13050134580515776594:Unit:=()
def PySem.W.Fast.tw3811265785752354381:Unit:=()
def PySem.W.Fast.tw10627045569275474313:Unit:=()
def PySem.W.Fast.tw11230174199731185355:Unit:=()
def PySem.W.Fast.tw12322427376132095281:Unit:=()
def PySem.W.Fast.tw3211252727103849041:Unit:=()
def PySem.W.Fast.tw6408552576362573117:Unit:=()
def PySem.W.Fast.tw14372601651914779191:Unit:=()
def PySem.W.Fast.tw3999790972424527018:Unit:=()
def PySem.W.Fast.tw3038082794813379357:Unit:=()
def PySem.W.Fast.tw10678199518025519271:Unit:=()
def PySem.W.Fast.tw8506698720290451480:Unit:=()
def PySem.W.Fast.tw5940410390046799397:Unit:=()
def PySem.W.Fast.tw13783534685100198660:Unit:=()
def PySem.W.Fast.tw6608922849302607210:Unit:=()
def PySem.W.Fast.tw8524437560661294201:Unit:=()
def PySem.W.Fast.tw15923979016725935205:Unit:=()
def PySem.W.Fast.tw1353667112508027383:Unit:=()
def PySem.W.Fast.tw2628344296878084572:Unit:=()
def PySem.W.Fast.tw5025643352820425561:Unit:=()
def PySem.W.Fast.tw12926682403157374900:Unit:=()
def PySem.W.Fast.tw14086880881393864364:Unit:=()
def PySem.W.Fast.tw8069812893337114846:Unit:=()
def PySem.W.Fast.tw3490842726823785603:Unit:=()
def PySem.W.Fast.tw13933278504473158942:Unit:=()
def PySem.W.Fast.tw13719683075271797564:Unit:=()
def PySem.W.Fast.tw1910372924927087789:Unit:=()
def PySem.W.Fast.tw3866784278344778610:Unit:=()
def PySem.W.Fast.tw4886570821795485536:Unit:=()
def PySem.W.Fast.tw10801448471554038827:Unit:=()
def PySem.W.Fast.tw7825895161550881346:Unit:=()
def PySem.W.Fast.tw15539654619494327323:Unit:=()
def PySem.W.Fast.tw4543508895430242087:Unit:=()
def PySem.W.Fast.tw1124519193575289226:Unit:=()
def PySem.W.Fast.tw8148964058689144847:Unit:=()
def PySem.W.Fast.tw6287778049688814054:Unit:=()
def PySem.W.Fast.tw1062771018118090830:Unit:=()
def PySem.W.Fast.tw9179175846398694311:Unit:=()
def PySem.W.Fast.tw15400759799635822224:Unit:=()
def PySem.W.Fast.tw2934423961085510552:Unit:=()
def PySem.W.Fast.tw13894398261304798386:Unit:=()
def PySem.W.Fast.tw4055815035494724056:Unit:=()
def PySem.W.Fast.tw7664258851909938886:Unit:=()
def PySem.W.Fast.tw8804579306233436119:Unit:=()
def PySem.W.Fast.tw14871467258427121129:Unit:=()
def PySem.W.Fast.tw10452222467117319443:Unit:=()
def PySem.W.Fast.tw6703069488033813339:Unit:=()
def PySem.W.Fast.tw13820579808098124947:Unit:=()
def PySem.W.Fast.tw10998099498283023367:Unit:=()
def PySem.W.Fast.tw7119603545895504470:Unit:=()
def PySem.W.Fast.tw1204492317317155842:Unit:=()
def PySem.W.Fast.tw7297913046310019460:Unit:=()
def PySem.W.Fast.tw1848523855700113355:Unit:=()
def PySem.W.Fast.tw13262842424582896982:Unit:=()
def PySem.W.Fast.tw13246209937028820146:Unit:=()
def PySem.W.Fast.tw7034177942207920238:Unit:=()
def PySem.W.Fast.tw5941857228325206425:Unit:=()
def PySem.W.Fast.tw13281955302999353094:Unit:=()
def PySem.W.Fast.tw16903114743254785955:Unit:=()
def PySem.W.Fast.tw7310800517162568446:Unit:=()
def PySem.W.Fast.tw5316748904900623698:Unit:=()
def PySem.W.Fast.tw8039638946751713744:Unit:=()
def PySem.W.Fast.tw6880316239315958108:Unit:=()
def PySem.W.Fast.tw14355790879350242155:Unit:=()
def PySem.W.Fast.tw9777982510078630662:Unit:=()
def PySem.W.Fast.tw17909555777570568553:Unit:=()
def PySem.W.Fast.tw1368913197225014949:Unit:=()
def PySem.W.Fast.tw9338209460238044395:Unit:=()
def PySem.W.Fast.tw5893998121427923164:Unit:=()
def PySem.W.Fast.tw1507642062758349775:Unit:=()
def PySem.W.Fast.tw7457582802932082168:Unit:=()
def PySem.W.Fast.tw10499363616167333246:Unit:=()
def PySem.W.Fast.tw17527218272222269214:Unit:=()
def PySem.W.Fast.tw2609188291220828877:Unit:=()
def PySem.W.Fast.tw6057470492911164151:Unit:=()
def PySem.W.Fast.tw533421089964552217:Unit:=()
def PySem.W.Fast.tw26586498976297295:Unit:=()
def PySem.W.Fast.tw16731867652670902739:Unit:=()
def PySem.W.Fast.tw12117179477494654806:Unit:=()
def PySem.W.Fast.tw7404290381841163068:Unit:=()
def PySem.W.Fast.tw9646815095441523059:Unit:=()
def PySem.W.Fast.tw7865559651131176522:Unit:=()
def PySem.W.Fast.tw14361633703871946989:Unit:=()
def PySem.W.Fast.tw5487166666092325449:Unit:=()
def PySem.W.Fast.tw8914432142534095843:Unit:=()
def PySem.W.Fast.tw2706298508034136376:Unit:=()
def PySem.W.Fast.tw15727683853014705830:Unit:=()
def PySem.W.Fast.tw7493327950315609056:Unit:=()
def PySem.W.Fast.tw7161088097610447674:Unit:=()
def PySem.W.Fast.tw9157732783639976739:Unit:=()
def PySem.W.Fast.tw8617937906555712162:Unit:=()
def PySem.W.Fast.tw3204991666756235905:Unit:=()
def PySem.W.Fast.tw38722534268606669:Unit:=()
def PySem.W.Fast.tw4881199032643314418:Unit:=()
def PySem.W.Fast.tw6148168145466961449:Unit:=()
def PySem.W.Fast.tw9254131891933536198:Unit:=()
def PySem.W.Fast.tw3258011016572603793:Unit:=()
def PySem.W.Fast.tw5528530589332225203:Unit:=()
def PySem.W.Fast.tw13446089866724183537:Unit:=()
def PySem.W.Fast.tw8754997170716906936:Unit:=()
def PySem.W.Fast.tw15656196886904901508:Unit:=()
def PySem.W.Fast.tw14826138307343479183:Unit:=()
def PySem.W.Fast.tw10350102705138791805:Unit:=()
def PySem.W.Fast.tw10359447807431338428:Unit:=()
def PySem.W.Fast.tw9320951449228429057:Unit:=()
def PySem.W.Fast.tw1127172353769646172:Unit:=()
def PySem.W.Fast.tw18088589689436662032:Unit:=()
def PySem.W.Fast.tw2531053671970276621:Unit:=()
def PySem.W.Fast.tw6299655301460872682:Unit:=()
def PySem.W.Fast.tw10483320203890338294:Unit:=()
def PySem.W.Fast.tw9290538345946028490:Unit:=()
def PySem.W.Fast.tw13489795907947615310:Unit:=()
def PySem.W.Fast.tw13696133199988453183:Unit:=()
def PySem.W.Fast.tw6616579069050642174:Unit:=()
def PySem.W.Fast.tw14386815106526427816:Unit:=()
def PySem.W.Fast.tw1500809024566930693:Unit:=()
def PySem.W.Fast.tw13298019699325197730:Unit:=()
def PySem.W.Fast.tw12160816391226906011:Unit:=()
def PySem.W.Fast.tw17624833199377690768:Unit:=()
def PySem.W.Fast.tw18438308333535757527:Unit:=()
def PySem.W.Fast.tw16669857158156579324:Unit:=()
def PySem.W.Fast.tw12701839662729055801:Unit:=()
def PySem.W.Fast.tw897928251025297417:Unit:=()
def PySem.W.Fast.tw4874428925314277517:Unit:=()
def PySem.W.Fast.tw417412117795269168:Unit:=()
def PySem.W.Fast.tw976277174838291625:Unit:=()
def PySem.W.Fast.tw11391741445194503537:Unit:=()
def PySem.W.Fast.tw15760578578330470504:Unit:=()
def PySem.W.Fast.tw4454307131864695470:Unit:=()
def PySem.W.Fast.tw5183781683912768629:Unit:=()
def PySem.W.Fast.tw9326181137724990733:Unit:=()
def PySem.W.Fast.tw13960140824704650020:Unit:=()
def PySem.W.Fast.tw7762716041382356313:Unit:=()
def PySem.W.Fast.tw12289216626006846316:Unit:=()
def PySem.W.Fast.tw5922998908878532337:Unit:=()
def PySem.W.Fast.tw11100530444044213954:Unit:=()
def PySem.W.Fast.tw8792762054728283996:Unit:=()
def PySem.W.Fast.tw9327223154227119405:Unit:=()
def PySem.W.Fast.tw1626136977413499908:Unit:=()
def PySem.W.Fast.tw15378340631018716007:Unit:=()
def PySem.W.Fast.tw3865094191937675507:Unit:=()
def PySem.W.Fast.tw14687247445319074714:Unit:=()
def PySem.W.Fast.tw9503092515905863206:Unit:=()
def PySem.W.Fast.tw15191544897904796915:Unit:=()
def PySem.W.Fast.tw2638241733953176314:Unit:=()
def PySem.W.Fast.tw18080111844433540014:Unit:=()
def PySem.W.Fast.tw5621478421510580199:Unit:=()
def PySem.W.Fast.tw9781684655907317779:Unit:=()
def PySem.W.Fast.tw1946295361650796956:Unit:=()
def PySem.W.Fast.tw11388482647288755650:Unit:=()
def PySem.W.Fast.tw13614260729636857974:Unit:=()
def PySem.W.Fast.tw160808146833701950:Unit:=()
def PySem.W.Fast.tw15353368737491403466:Unit:=()
def PySem.W.Fast.tw4255780148440781640:Unit:=()
def PySem.W.Fast.tw12090967323732539571:Unit:=()
def PySem.W.Fast.tw1946519177208131691:Unit:=()
def PySem.W.Fast.tw14058387705838626914:Unit:=()
def PySem.W.Fast.tw7005626513656306416:Unit:=()
def PySem.W.Fast.tw1594099995720592630:Unit:=()
def PySem.W.Fast.tw7160907060599471396:Unit:=()
def PySem.W.Fast.tw5087429460540826297:Unit:=()
def PySem.W.Fast.tw9702317317384165753:Unit:=()
def PySem.W.Fast.tw1587149672214691931:Unit:=()
def PySem.W.Fast.tw12133486780441333338:Unit:=()
def PySem.W.Fast.tw4568892545002151042:Unit:=()
def PySem.W.Fast.tw8135711489256431958:Unit:=()
def PySem.W.Fast.tw17414554091251701227:Unit:=()
def PySem.W.Fast.tw16937118900590051107:Unit:=()
def PySem.W.Fast.tw10451365707246926375:Unit:=()
def PySem.W.Fast.tw11110789215582564564:Unit:=()
def PySem.W.Fast.tw8754918005178654750:Unit:=()
def PySem.W.Fast.tw3811313703916570009:Unit:=()
def PySem.W.Fast.tw1703566933109136381:Unit:=()
def PySem.W.Fast.tw6569346426977482800:Unit:=()
def PySem.W.Fast.tw14893282587384232361:Unit:=()
def PySem.W.Fast.tw11009170094819878185:Unit:=()
def PySem.W.Fast.tw9419149099429538919:Unit:=()
def PySem.W.Fast.tw16845455388681655717:Unit:=()
def PySem.W.Fast.tw8387735543491991344:Unit:=()
def PySem.W.Fast.tw7690936392502635088:Unit:=()
def PySem.W.Fast.tw10162849328582580771:Unit:=()
def PySem.W.Fast.tw4720904472598514433:Unit:=()
def PySem.W.Fast.tw15140565136206419178:Unit:=()
def PySem.W.Fast.tw13352596178149615003:Unit:=()
def PySem.W.Fast.tw16673161915146466162:Unit:=()
def PySem.W.Fast.tw547258410865474280:Unit:=()
def PySem.W.Fast.tw18236345814576202636:Unit:=()
def PySem.W.Fast.tw9540733160435629617:Unit:=()
open PySem PySem.W PyProof.Rows L2
set_option maxRecDepth 100000 in
set_option maxHeartbeats 0 in
theorem PySem.Challenge.cw_shopbound_k55_trees_read_holds : PySem.Challenge.rw_shopbound_k55_trees_read.Holds := by
 w_on;o_law;k_head;(case hw=>w_witness2)
 k_fill
 refine Law.walk (l:=Sj) rfl rfl (fun w h Y=>PySem.W.kIn_of Y) ?F
 case F=>
  intro w mg fa h KX G hmg
  refine' Law.all_mk KX G hmg ?aC_Shop ?aC_TreeWords ?pg_Shop ?hd_Shop ?po_Shop ?sa_Shop ?mk_Shop ?kc_Shop ?n0_Shop ?n1_Shop ?n2_Shop ?n3_Shop ?n4_Shop ?n5_Shop ?n6_Shop ?n7_Shop ?n8_Shop ?n9_Shop ?n10_Shop ?pg_TreeWords ?hd_TreeWords ?po_TreeWords ?sa_TreeWords ?mk_TreeWords ?kc_TreeWords ?n0_TreeWords ?n1_TreeWords ?n2_TreeWords ?a72 ?l72 ?c72 ?k72 ?V
  (case aC_Shop=>k_is)
  (case aC_TreeWords=>k_is)
  (case pg_Shop=>k_is)
  (case hd_Shop=>k_is)
  (case po_Shop=>k_is)
  (case sa_Shop=>k_is)
  (case mk_Shop=>k_is)
  (case kc_Shop=>k_is)
  (case n0_Shop=>k_is)
  (case n1_Shop=>k_is)
  (case n2_Shop=>k_is)
  (case n3_Shop=>k_is)
  (case n4_Shop=>k_is)
  (case n5_Shop=>k_is)
  (case n6_Shop=>k_is)
  (case n7_Shop=>k_is)
  (case n8_Shop=>k_is)
  (case n9_Shop=>k_is)
  (case n10_Shop=>k_is)
  (case pg_TreeWords=>k_is)
  (case hd_TreeWords=>k_is)
  (case po_TreeWords=>k_is)
  (case sa_TreeWords=>k_is)
  (case mk_TreeWords=>k_is)
  (case kc_TreeWords=>k_is)
  (case n0_TreeWords=>k_is)
  (case n1_TreeWords=>k_is)
  (case n2_TreeWords=>k_is)
  (case a72=>k_is)
  (case l72=>k_is)
  (case c72=>k_is)
  (case k72=>k_is)
  (case V=>constructor;all_goals first|(refine' Dfn.mk' KX G ?a ?l ?c ?k;(case a=>k_is);(case l=>k_is);(case c=>k_is);(case k=>k_is))|(refine' DfnM.mk' ?a ?i ?l ?c ?k;(case a=>k_is);(case i=>k_is);(case l=>k_is);(case c=>k_is);(case k=>k_is))|(refine' PySem.W.mg_none_of KX G ?a;(case a=>k_is))|(refine' Law.tkI_of KX G ?a;(case a=>k_is))|(refine' Law.tkS_of KX G ?a;(case a=>k_is)))
end
end
