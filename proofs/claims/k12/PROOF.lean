import PyProof.Rows.All
import Wide.All
import OpenK.AllK
import Wide.FinOn
import Lean
import PyProof.EqAt
import PyProof.EqKinds
import PyProof.TupleCall
import PySem.SetOps
import KE.KDictOf
import PyProof.AttrMiss
import PyProof.IsiH_list
import KE.KEqDict
import KE.KItemsList
import KE.KDictSum
import KE.KRevSl
import PyProof.Rows.SortStr
import PyProof.Rows.SortWalk
import PyProof.WalkInts
import KE.KMinBuiltin
import PyProof.Rows.CallKwBuiltin
import KE.KTryMore
import PyProof.NsDelKeeps
import PyProof.ExcAttrAll.ValueError
import PyProof.StrReplace2
import PyProof.ReprStr
import PyProof.Rows.RuleU_int
import PyProof.InstStoreFacts
import PyProof.ExcInit
import PyProof.MinMaxWalk
import KE.KIntText
import PyProof.ListRange
import PyProof.Rows.StrIntSpec
import PyProof.StrLawsTight
import PySem.Challenge.RW_shopbound_k12_shops_read
set_option Elab.async false
set_option linter.all false
set_option maxRecDepth 100000
open Option renaming some->aa,none->ac,map->zj,isSome_iff_exists->E4,getD_none->Rr,join_some->RV,getD_some->RW,toList_some->S6
open _root_ renaming List->ab,Int->af,Nat->ag,Option->ao,Bool->bq,absurd->bN,Array->b8,if_true->cy,String->cH,if_false->cW,congrArg->df,DecidableEq->fC,Unit->lT,beq_iff_eq->lW,beq_eq_false_iff_ne->oi,not_or->oE,decide_eq_true_eq->u9,and_self->vm,of_decide_eq_true->zp,ne_true_of_eq_false->FY,instBEqOfDecidableEq->R9,decide_eq_false_iff_not->Sw
open PySem renaming Str->ai,Value->av,Addr->aw,Shared->aI,wpAny->aJ,sizeLine->aM,model->aQ,starEach->aS,Obj->bh,tupleKeyHash->bG,backTo->cz,World->cQ,Env->cS,cLine->cT,Pos->dF,Around->dL,Program->dS,compareOp->dX,swapsWith->eW,mainGlobals->fD,sizeLine_eq->fE,assignEach->fN,binaryOp->gc,wpAny_mono->ir,NameKind->iw,Sem->iL,attributeBase->iO,backToKw->iP,keywordEach->iQ,sliceBounds->iT,holding->jt,codeAny->ju,bindArgs->jv,Keyword->jw,assign->ki,bootBuiltins->lb,wpAny_truthy_bool->lf,sysModules->lS,behindInMarks->lU,foldedSetIterable->lV,bindL->lY,bindC->lZ,atKey->l9,SetTable->md,tupleKind->mV,standAt->mY,pyNext->mZ,getMethod->m4,FuncData->m5,mem_of_lookup->m6,IsPart->m8,getItem->m9,call_meets->ng,callerA->nj,wpAny_passesOwn->oo,callWith->ou,valueAt->ox,GenState->rD,BindsTo->rH,codeAny_mono->rM,typeIs_str->rO,Model->uG,PassesOwn->uH,letOwnedTupleGo->uI,pyIter->uJ,wpAny_Call_Name_kw->uN,wpAny_typeOf->uR,wpAny_newObj_type->uS,wpAny_pyIter_list->uW,PyData->u6,setAdd->vd,codeAny_builtin->ve,wpAny_setState_of->vf,spliced->yC,wpAny_execs_nil->yD,lastMarks->yG,wpAny_call->yP,cellsFrom->yQ,pick_run->yU,typeLookup->yX,subscripted->yZ,slot_list_getitem->y0,slicePick->y6,Params->zd,DefRec->ze,call->zf,relabel->zh,setSearchFrom->zB,intText?->zF,Within->EJ,builtinsNs->EL,wpAny_Name->EN,wpAny_field->E6,wpAny_Slice->Fa,wpAny_getItem_list_slice->Fd,typeIs_int->Fe,PlainAttrs->Ff,wpAny_specialOf->Fh,wpAny_standAt->Fk,compEnvC->Fm,plainId_quiet->FO,wpAny_seqItems->FP,wpAny_forIn_list->FR,ofAClassStatement->FU,scanBound->FW,wpAny_of_eq->FX,wpAny_isTrue_Compare1->Q0,wpAny_execs_cons->Q2,wpAny_assign_Name->Q3,wpAny_pyNext_list_item->Q4,wpAny_pyNext_list_end->Q5,noFill_tuple_add->Rk,sliceRange_one->Rs,tupleKind_room_in1->RA,wpAny_comprehension_free->RI,wpAny_pyIter_enum->RJ,codeAny_call_builtin->R1,carriedByValue->R4,searchCouldBeSeen->R5,wpAny_eqIsQuiet_tuple->R6,wpAny_storeSet_of->R7,typeLookup_type->R',builtinLookup_eq_fast->Sa,getAttrByItsOwn->Sb,boundAndCalled->Sc,getattributeRaised->Sd,wpAny_isInstance->Se
open Bool renaming true->al,false->aq,and_eq_true->iS,not_true->iW,not_false->oF,eq_iff_iff->rF,true_and->zC,or_eq_true->Ft,eq_false_iff->FK,and_false->Rv,not_eq_true'->Sv
open PySem.W renaming Frag->aV,findIn->dv,fnOf->ge,keepIn->iN,kia_one->kj,emptyDict->lX,instObj->mW,codeIn->rN,plainGet->uK,isFn->uL,kitOne->uM,nsIn->uZ,mg_of->u0,lookIn->yI,hasDictIn->yJ,makesIn->yK,kitx_list->yN,kitx_dict->yO,methodObj->EK,plainGet_of->ES,plainOver->ET,takerIn->EU,methodCall_KW->EV,specialIn->EW,takesIn->EX,mroIn->EY,callWith_K->E2,fd_plain->Fi,OpenLaw->Fj,handedIn->Q9,kitx_none->Ra,kitx_bool->Rb,kitx_int->Rc,kitx_str->Re,kitx_float->Rf,kitx_tuple->Rg,cellsFrom_some->Rj,WalkO->RH,kitAny->Sn
open List renaming range->bj,mem_map->bP,replicate->bQ,mem_singleton->bY,mem_cons->cG,mem_append->cL,getElem?_eq_some_iff->cR,lookup->dw,nodup_cons->dG,mem_range->dU,map_append->dZ,length->fF,append_nil->iR,take_of_length_le->km,getElem?_range->kq,forall_mem_cons->kr,getElem?_eq_none->lh,take_succ->lj,nodup_nil->lm,nodup_append->lq,length_drop->l5,replicate_succ->l6,flatten_cons->l7,drop_zero->l',all_eq_true->ma,getElem?_set_self->mX,foldl_cons->nc,find?_cons->nh,any_cons->ni,filterMap_cons_some->nt,take_length->ny,set_cons_zero->nz,filterMap_cons->om,lookup_cons->oy,length_mapIdx->oz,mem_of_mem_take->oB,map_congr_left->oH,take->rV,getElem?_take_of_lt->uP,take_sublist->uQ,drop_eq_getElem_cons->uX,mem_iff_getElem?->u5,getElem?_drop->vc,length_set->vj,mem_map_of_mem->vn,getElem?_of_mem->vo,mem_filterMap->yF,getElem?_replicate->yR,reverse_cons->y7,length_eq_zero_iff->zl,getElem_mem->zm,getElem?_mapIdx->zn,drop_length->zo,nodup_range->zu,pairwise_map->zw,foldl_append->zA,find?->zG,map_id'->zI,map_reverse->zJ,mem_append_left->EM,of_mem_zip->E3,filterMap_map->E7,foldl->Fg,ext_getElem?->Fs,mem_iff_getElem->Fv,getD->Fw,pairwise_iff_getElem->FC,take_append_drop->FJ,nodup_iff_pairwise_ne->FM,getD_eq_getElem?_getD->F2,drop_drop->F3,flatMap_cons->F5,take_add_one->F6,set_cons_succ->F7,reverse_perm->F9,drop_of_length_le->Ga,filter_append->Gb,filter_cons_of_pos->Gc,filterMap_cons_none->Gd,range_succ->Gf,map_id->Gg,mem_filter->QW,any_eq_false->Q8,append_inj'->RK,getElem?_set->RL,length_reverse->Si,take_succ_cons->Sj,length_filterMap_le->Sl,find?_cons_of_pos->So,find?_cons_of_neg->Sq,getElem?_take->Su,map_inj_right->Sy,getElem_map->SI,perm_middle->SJ,take_take->SK,flatten_append->SL,flatMap_append->SM,take_left->SO,drop_left->SU,filter_cons_of_neg->SY,length_filter_le->SZ,filterMap_append->S0,flatMap_def->S3,perm_append_comm->S5,mapIdx_cons->S7,sum_cons->S8
open Pure renaming pure->bm
open PySem.Value renaming ref->ci,type->jq,bool->la,int->oh,none->oj,str->ro,float->yB,isInt->QT,isStrOf->QU,bytes->QV
open Or renaming inr->cB,inl->c6
open PySem.SetTable renaming below->cI,runEnd->dh,insertAt->di,bits->fQ,leap->jz,turns->nr,sizeAbove->oC,tooFull->vg,fresh->vh,Probe->zv,grown->zx,has->FF,fits->FH,slot->RP,fill->RQ,layClean->RX
open Sum renaming inr->cK,inl->og
open PySem.PassesOwn renaming never->dy
open PySem.SeqAt renaming shaped->dH
open Ne renaming symm->dM
open PySem.Txt renaming join->dY,split->ix,slice->Fu
open PyProof.Rows renaming envOfC->eC,AllBare->lc,callWith_type1->rE,IntsAre->rQ,IsTup->uF,Subscript_->uT,subscriptTail->uU,tail_any->yY,boot_range->EO,slot_tuple_getitem->E8,slicePart_none->Ro,subscriptTail_builtinR->Rq,digits10_le->SD,callWith_builtin1->TU,boot_enumerate->TZ,digit_range->T',tDigits_len_ge->Ua
open PySem.PyData renaming eqv->eX,canLayAll0->fP,str->gF,canLay0->iy,depthAll->jy,depth->jB,eqvAll->me,int->oA,strOk->F4,tuple->RM
open True renaming intro->fO
open Nat renaming zero_le->gd,mod_lt->iV,zero_add->jA,min_eq_left->ko,lt_or_ge->lg,toDigits->lu,lt_succ_self->ot,lt_irrefl->rA,le_of_lt->rC,lt_trans->rP,lt_succ_of_lt->rW,le_succ->uO,div_eq_of_lt->u7,le_add_right->u8,le_succ_of_le->vq,ne_of_gt->yE,le_of_eq->yM,min_le_right->yS,succ_mul->zc,mul_le_mul->zi,succ_pos->zq,not_lt->Fn,add_assoc->Fz,lt_succ_iff->FB,not_lt_zero->FD,min_eq_right->F1,div_add_mod->F',mul_add_div->Ge,add_comm->Rx,mul_comm->Rz,strongRecOn->RN,lt_trichotomy->RO,add_zero->RS,sub_zero->Ss,log2_lt->Sz,sub_self->SA,eq_zero_or_pos->SE,one_mul->SF,sub_mod_eq_zero_of_mod_eq->SG,mod_eq_of_lt->SH,add_sub_cancel'->SS,mul_le_mul_right->SX,div_eq_of_lt_le->S1,le_of_succ_le_succ->S9
open PySem.Str renaming length->gU,join->iz,length_append->jC,empty->yL,ofString->yV,append_assoc->SN
open Array renaming length_toList->iu,getElem?_eq_some_iff->iU,getD_eq_getD_getElem?->zt,mem_toList_iff->ER,toList->Q1,replicate->RT,filterMap->RY,forIn_toList->R3,toList_append->SQ
open False renaming elim->iM
open PySem.Heap renaming SameBut->jr,size_push->oq,dictOf_iff->zE,ExtBut->Sk
open List.cons renaming inj->jx
open PySem.F renaming plainAttrs_str->lr,called_set->nu,slot_str_split->oG,slot_str_join->rZ,type_str_join->sg,plainAttrs_list->uY,slot_list_append->zb,slot_list_getattribute->zD,type_str_split->zH,type_list_append->Fy,entry_str_split->FZ,args_str_split_2->F0,slot_tuple_add->Rl,entry_tuple_add->Rm,args_tuple_add_2->Rn,slot_list_extend->Rw,slot_int_rmul->Ry,slot_list_clear->Sr
open Int renaming toNat_natCast->l0,le_trans->si,fdiv_eq_ediv_of_nonneg->EQ,eq_ofNat_of_zero_le->SB,toNat_of_nonneg->SW
open PySem.NameKind renaming free->nq,cell->zg
open PySem.StrLaws renaming glued_eq_join->oI,At->vt,found_one->SV
open Function renaming comp_def->oJ
open Sum.inr renaming inj->rz
open PySem.Builtin.Str renaming occurrences->rG,strKind->rY,strSliceIndices->zk,glued->zK,strSub->zL,partsBetween->Sh,tooLong->T0
open ForInStep renaming yield->rR
open PySem.SetTable.layClean renaming free->rT
open ForIn renaming forIn->uV
open List.Pairwise renaming map->vi,nil->RG,imp_of_mem->RU,filterMap->T1
open ToString renaming toString->yH
open PySem.Builtin.Slice renaming slicePlaces->yT,sliceAdjust->E5,sliceApplied->Rp,slicePartIndex->TV,sliceFields->TW
open PySem.Builtin.Tuple renaming tupleExact->yW,tupleItemsOf->TX
open PySem.Builtin.List renaming listTooLong->za,listFitsIndex->TY
open PySem.SetTable.below renaming go->zr
open PySem.Around renaming under_plainId->zy,under->EZ
open PySem.Shared renaming TypeIs->zz
open PySem.Code renaming isFrame->E1,frames->Rh
open LawfulBEq renaming eq_of_beq->E9
open PySem.Heap.IsSliceOf renaming new->Fb
open PyProof.Rows.IsTup renaming new->Fc
open PySem.Heap.SameBut renaming refl->Fp,update->R8
open Prod.mk renaming inj->Fq
open PySem.Walks renaming list->Fx
open PySem.SetTable.probe renaming go->FI
open PyProof.Rows.F renaming plain_set_update_loop->FN,entry_set_update_loop->RZ
open PySem.Obj renaming putSet->FV,mapSeq->Ru
open Char renaming toNat->F8
open PySem.Calls renaming Name_function_global->QX,spliced_cons->Ri,callWith_builtin->Rt
open PySem.CmpOp renaming In->QY,NotIn->QZ
open PySem.IsRange renaming new->Q6
open PySem.Builtin.Range renaming rangeSize->Q7
open PySem.Heap.DictOf renaming new->RB
open PySem.W.WData renaming int->RC
open PySem.W.WShape renaming has->RD
open PySem.W.Dflts renaming none->RE,noKw->RF
open PySem.Moved renaming trans->R0
open PySem.Builtin.Dict renaming updateFrom->Sf,addKeywords->T3,pairItems->T4,selfAndRest->T5
open List.Lex renaming rel->Sx
open PySem.W.KIN renaming signs_num->SC,call_text->T6,num_reads->Ub
open List.Perm renaming append_left->S4
open Option.some renaming inj->Tj,injEq->T8
open PySem.EqNone renaming eq_none_none->Tk,eq_none_bool->Tl,eq_none_int->Tn,eq_none_str->To,eq_bool_none->Tp,eq_int_none->Tr,eq_str_none->Tt,ne_none_none->Tw,ne_none_bool->Tx,ne_none_int->Tz,ne_none_str->TC,ne_bool_none->TF,ne_int_none->TJ,ne_str_none->TL
open PySem.EqMixed renaming eq_bool_str->Tq,eq_int_str->Ts,eq_str_bool->Tu,eq_str_int->Tv,ne_bool_str->TH,ne_int_str->TK,ne_str_bool->TM,ne_str_int->TN
open PySem.W.Looks renaming here->TQ
open PySem.Within renaming cons->TR
open PySem.Builtin.Frozenset renaming updateFrom->T2
open PySem.Challenge renaming pw_shopbound_k12_shops_read->T7,rw_shopbound_k12_shops_read->Uc
open List.Sublist renaming nodup->T9
theorem oBd {α:Type u} {β:Type v} {o:ao α} {f:α->ao β} {b:β} (h:o.bind f=aa b):∃a,o=aa a/\f a=aa b:=Option.bind_eq_some_iff.mp h
theorem oMd {α:Type u} {β:Type v} {o:ao α} {f:α->β} {b:β} (h:o.map f=aa b):∃a,o=aa a/\f a=b:=Option.map_eq_some_iff.mp h
noncomputable section
section
open PySem PySem.Spec PyProof.Rows
def qa:=@Option.bind_some
def qb:=@List.getElem?_cons_zero
def qc:=@List.getElem?_cons_succ
def qd:=@Option.map_some
def qe:=@List.length_map
def qf:=@List.mem_cons_self
def qg:=@List.mem_cons_of_mem
def qh:=@List.length_cons
def qi:=@List.length_append
def qj:=@List.getElem?_map
def qk:=@List.length_nil
def qm:=@List.map_cons
def qo:=@List.map_map
def qp:=@List.cons_append
def qq:=@Bool.false_eq_true
def qr:=@Bool.false_ne_true
def qt:=@Heap.get?_push_of_some
def qu:=@Heap.lt_size
def qv:=@Nat.le_refl
def qw:=@List.append_assoc
def qx:=@wpAny_bind
def qy:=@List.getElem?_set_ne
def qz:=@List.getElem?_append_left
def qA:=@wpAny_pure
def qB:=@List.size_toArray
def qC:=@Nat.ne_of_lt
def qD:=@List.getElem?_eq_getElem
def qE:=@List.length_take
def qF:=@Nat.lt_of_lt_of_le
def qG:=@Heap.get?_push_size
def qH:=@Tj
def qI:=@Array.getElem?_toList
def qJ:=@List.not_mem_nil
def qK:=@List.getElem?_append_right
def qL:=@cG
def qM:=@Nat.le_trans
def qN:=@decide_eq_false
def qO:=@List.map_nil
def qP:=@List.mem_of_getElem?
def qQ:=@List.mem_append_right
def qR:=@List.nil_append
def qS:=@decide_eq_true
def qT:=@wpAny_holding
def qU:=@List.length_range
def qV:=@Int.emod_lt_of_pos
def qW:=@List.length_singleton
def qX:=@Int.emod_nonneg
def qY:=@if_pos
def qZ:=@if_neg
end
section
namespace L2
open PySem PySem.Spec PyProof.Rows
abbrev Key:=Sum af ai
noncomputable def n9:Key->av->bq
 |.inl k,v=>QT k v
 |.inr x,v=>QU x v
noncomputable def MJ (w:cQ):Key->af
 |.inl k=>hashInt k
 |.inr x=>hashStr w x
theorem jF:∀{k:Key} {v:av},n9 k v=al->(∃i t,k=og i/\v=oh i t)\/(∃x t,k=cK x/\v=ro x t)
 |.inl i,v,h=>by
  obtain⟨t,e⟩:=Value.isInt_shape (k:=i) (v:=v) h;exact .inl ⟨i,t,rfl,e⟩
 |.inr x,v,h=>by obtain⟨t,e⟩:=Value.isStrOf_shape (x:=x) (v:=v) h;exact .inr ⟨x,t,rfl,e⟩
theorem QD (i:af) (t:Tok):n9 (.inl i) (.int i t)=al:=by simp[n9,QT]
theorem NM (x:ai) (t:Tok):n9 (.inr x) (.str x t)=al:=by simp[n9,QU]
theorem KC (a b:af):decide ((og a:Key)=og b)=(a==b):=by
 by_cases e:a=b
 .subst e;simp
 .have h:¬(og a:Key)=og b:=fun q=>e (Sum.inl.inj q);rw[qN h];exact(oi.mpr e).symm
theorem KZ (a b:ai):decide ((cK a:Key)=cK b)=decide (a=b):=by
 by_cases e:a=b
 .subst e;simp
 .have h:¬(cK a:Key)=cK b:=fun q=>e (rz q);rw[qN h,qN e]
theorem Ir (a:af) (b:ai):decide ((og a:Key)=cK b)=aq:=qN (fun q=>nomatch q)
theorem P9 (a:ai) (b:af):decide ((cK a:Key)=og b)=aq:=qN (fun q=>nomatch q)
noncomputable def dc (prog:dS) (w:cQ):PySem.KeyKind prog w Key where
 is:=n9
 hash:=MJ w
 inj:=fun v a b ha hb=>by
  rcases jF ha with⟨i,t,rfl,rfl⟩|⟨x,t,rfl,rfl⟩
  .rcases jF hb with⟨j,u,rfl,e⟩|⟨y,u,rfl,e⟩
   .injection e with e1 _;rw[e1]
   .exact nomatch e
  .rcases jF hb with⟨j,u,rfl,e⟩|⟨y,u,rfl,e⟩
   .exact nomatch e
   .injection e with e1 _;rw[e1]
 byValue:=fun k v h=>by rcases jF h with⟨i,t,rfl,rfl⟩|⟨x,t,rfl,rfl⟩<;>rfl
 pyHash:=fun hv h=>by
  rcases jF hv with⟨i,t,rfl,rfl⟩|⟨x,t,rfl,rfl⟩
  .exact wpAny_pyHash_int h
  .exact wpAny_pyHash_str h
 eqBool:=fun hu hv h=>by
  rcases jF hu with⟨i,t,rfl,rfl⟩|⟨x,t,rfl,rfl⟩
  .rcases jF hv with⟨j,u,rfl,rfl⟩|⟨y,u,rfl,rfl⟩
   .rw[KC] at h;exact wpAny_eqBool_int h
   .rw[Ir] at h;exact SeqAt.EqAt.int_str i t y u _ _ _ _ h
  .rcases jF hv with⟨j,u,rfl,rfl⟩|⟨y,u,rfl,rfl⟩
   .rw[P9] at h;exact SeqAt.EqAt.str_int x t j u _ _ _ _ h
   .rw[KZ] at h;exact wpAny_eqBool_str h
 «strs»:=fun k x t v h=>by
  rcases jF h with⟨i,u,rfl,e⟩|⟨y,u,rfl,e⟩
  .exact nomatch e
  .injection e with e1 _;subst e1;cases v<;>rfl
theorem Js (prog:dS) (w:cQ) (i:af) (t:Tok):(dc prog w).is (.inl i) (.int i t)=al:=QD i t
theorem HE (prog:dS) (w:cQ) (x:ai) (t:Tok):(dc prog w).is (.inr x) (.str x t)=al:=NM x t
inductive V where
 |non|bl (b:bq)|int (i:af)|str (x:ai)|byt (b:b8 UInt8)|flt (b:UInt64)|ref (a:aw)|ty (n:cH)
 deriving fC
noncomputable def bO:V->av->Prop
 |.non,u=>u=oj
 |.bl b,u=>u=la b
 |.int i,u=>∃t,u=oh i t
 |.str x,u=>∃t,u=ro x t
 |.byt b,u=>∃t,u=QV b t
 |.flt b,u=>∃t,u=yB b t
 |.ref a,u=>u=ci a
 |.ty n,u=>u=jq n
abbrev bi:ab V->ab av->Prop:=Paired bO
theorem bi.length {xs:ab V} {us:ab av} (r:bi xs us):xs.length=us.length:=Paired.length r
theorem bi.get:∀{xs:ab V} {us:ab av} {i:ag} {x:V},bi xs us->xs[i]?=aa x->∃u,us[i]?=aa u/\bO x u
 |_,_,_,_,.nil,e=>by simp at e
 |_,_,0,_,.cons r _,e=>by simp at e;subst e;exact⟨_,rfl,r⟩
 |_,_,i+1,x,.cons _ t,e=>by obtain⟨u,h1,h2⟩:=bi.get (i:=i) (x:=x) t (by simpa using e);exact⟨u,by simpa using h1,h2⟩
theorem bi.append:∀{xs ys:ab V} {us ws:ab av},bi xs us->bi ys ws->bi (xs++ys) (us++ws)
 |_,_,_,_,.nil,s=>s
 |_,_,_,_,.cons r t,s=>.cons r (bi.append t s)
theorem bi.take:∀{xs:ab V} {us:ab av} (n:ag),bi xs us->bi (xs.take n) (us.take n)
 |_,_,0,_=>.nil
 |_,_,_+1,.nil=>.nil
 |_,_,n+1,.cons r t=>.cons r (bi.take n t)
theorem bi.drop:∀{xs:ab V} {us:ab av} (n:ag),bi xs us->bi (xs.drop n) (us.drop n)
 |_,_,0,r=>r
 |_,_,_+1,.nil=>.nil
 |_,_,n+1,.cons _ t=>bi.drop n t
noncomputable def fS:ao V->ao av->Prop
 |some v,aa u=>bO v u
 |none,ac=>True
 |_,_=>False
variable {κ:Type}
noncomputable def KV :ab (κ×V)->ab (κ×av)->Prop:=Paired fun(p:κ×V) (q:κ×av)=>p.1=q.1/\bO p.2 q.2
noncomputable def kV:Key->V
 |.inl i=>.int i
 |.inr x=>.str x
inductive HO where
 |lst (xs:ab V)
 |tup (xs:ab V)
 |dK (kvs:ab (Key×V))|dT (kvs:ab (ab Key×V))
 |set (S:af->bq) (n:ag)
 |ins (C dx:aw) (fs:ab (ai×V))
 |own (x:aw)
 |xd (fs:ab (ai×V))
 |met (f x:aw)
 |rng (lo hi:af)
 |frz (o:bh) (u:HO)
 |tbl (ps:b8 av)
 |ext (φ:Heap->Prop)
abbrev Hp:=aw->ao HO
noncomputable def upd (H:Hp) (a:aw) (o:HO):Hp:=fun b=>if b=a then aa o else H b
variable {H:Hp} {a:aw}
theorem bV {o:HO} :upd H a o a=aa o:=by unfold upd;rw[qY rfl]
theorem aW {b:aw} {o:HO} (h:b≠a):upd H a o b=H b:=by unfold upd;rw[qZ h]
theorem xN {b:aw} {o u:HO} (h:H a=aa o) (h':H b=aa u) (d:o≠u):a≠b:=by intro e;subst e;rw[h] at h';exact d (qH h')
theorem ca {b:aw} {o:HO} (h:H a=aa o) (h':H b=ac):a≠b:=by intro e;subst e;rw[h] at h';cases h'
section
variable (P:dS) (w:cQ)
noncomputable def cO (H:Hp) (h:Heap) (a:aw):HO->Prop
 |.lst xs=>xs.length<=aM/\∃(its:ab av) (n:ag),bi xs its/\h.get? a=aa {cls:=.type "list",data:=.seq its.toArray n}
 |.tup xs=>xs.length<=aM/\∃its:ab av,bi xs its/\uF h a its.toArray
 |.dK kvs=>kvs.length<=aM/\(a==lS)=aq/\∃vs,KV kvs vs/\h.DictOf (dc P w) a vs
 |.dT kvs=>kvs.length<=aM/\(a==lS)=aq/\∃xs:ab (ab Key×aw×av),
   Paired (fun(p:ab Key×V) (q:ab Key×aw×av)=>p.1=q.1/\H q.2.1=aa (.tup (p.1.map kV))/\bO p.2 q.2.2) kvs xs /\
   ∃o es ep,h.get? a=aa o/\o.ExactDict/\o.data=.dict es ep/\es.toList=xs.map (entryOfKey (mV (dc P w)))/\(xs.map (·.1)).Nodup
 |.set S n=>h.SetOf (intKind P w) a S n
 |.ins C dx fs=>H dx=aa (.own a)/\fs.length<=1000/\dx≠a/\h.get? a=aa (mW C dx) /\
   ∃mA,h.Ns1 dx mA/\(∀f,fS (fs.lookup f) (mA f))/\EJ mA (fs.map (·.1))
 |.own _=>∃o,h.get? a=aa o
 |.xd fs=>∃mA,h.Ns1 a mA/\∀f,fS (fs.lookup f) (mA f)
 |.rng lo hi=>∃t u v,h.get? a=aa {cls:=.type "range",data:=.fields #[.int lo t,.int hi u,.int 1 v]}
 |.frz o u=>h.get? a=aa o/\cO H h a u
 |.tbl ps=>h.get? a=aa {cls:=.none,data:=.fields ps}
 |.met f x=>h.get? a=aa (EK (.ref f) (.ref x))
 |.ext φ=>φ h/\(∃o,h.get? a=aa o)/\∀h1 h2:Heap,φ h1->(∀o,h1.get? a=aa o->h2.get? a=aa o)->φ h2
noncomputable def HOk (H:Hp) (h:Heap):Prop:=∀a o,H a=aa o->cO P w H h a o
end
variable {P:dS} {w:cQ} {H':Hp} {h':Heap}
section
variable {h:Heap} {o:HO}
theorem cO.lt (x:cO P w H h a o):a<h.objs.size:=by
 cases o with
 |lst xs=>obtain⟨_,_,_,_,e⟩:=x;exact qu e
 |tup xs=>obtain⟨_,_,_,p⟩:=x;exact p.lt
 |dK kvs=>obtain⟨_,_,_,_,o,_,_,e,_⟩:=x;exact qu e
 |dT kvs=>obtain⟨_,_,_,_,o,_,_,e,_⟩:=x;exact qu e
 |set S n=>obtain⟨o,_,_,_,e,_⟩:=x;exact qu e
 |ins C dx fs=>obtain⟨_,_,_,e,_⟩:=x;exact qu e
 |own y=>obtain⟨_,e⟩:=x;exact qu e
 |xd fs=>obtain⟨_,⟨_,_,_,e,_⟩,_⟩:=x;exact qu e
 |rng lo hi=>obtain⟨_,_,_,e⟩:=x;exact qu e
 |frz ob u=>obtain⟨e,_⟩:=x;exact qu e
 |tbl ps=>exact qu (show h.get? a=aa _ from x)
 |met f y=>exact qu (show h.get? a=aa _ from x)
 |ext φ=>obtain⟨_,⟨_,e⟩,_⟩:=x;exact qu e
theorem Paired.mapP {α β:Type} {F G:α->β->Prop}:∀{l₁:ab α} {l₂:ab β},Paired F l₁ l₂->(∀a b,F a b->G a b)->Paired G l₁ l₂
 |_,_,.nil,_=>.nil
 |_,_,.cons r t,f=>.cons (f _ _ r) (Paired.mapP t f)
theorem cO.stay (x:cO P w H h a o) (k:∀b u,(b=a\/H b=aa (.own a))->h.get? b=aa u->h'.get? b=aa u)
  (ho:∀b,H b=aa (.own a)->H' b=aa (.own a)) (ht:∀b xs,H b=aa (.tup xs)->H' b=aa (.tup xs)):cO P w H' h' a o:=by
 induction o with
 |lst xs=>obtain⟨z,its,n,r,e⟩:=x;exact⟨z,its,n,r,k _ _ (.inl rfl) e⟩
 |tup xs=>obtain⟨z,its,r,ob,e,c⟩:=x;exact⟨z,its,r,ob,k _ _ (.inl rfl) e,c⟩
 |dK kvs=>obtain⟨z,y,vs,r,ob,es,ep,e,c⟩:=x;exact⟨z,y,vs,r,ob,es,ep,k _ _ (.inl rfl) e,c⟩
 |dT kvs=>
  obtain⟨z,y,xs,r,ob,es,ep,e,c⟩:=x;exact⟨z,y,xs,Paired.mapP r fun p q z=>⟨z.1,ht _ _ z.2.1,z.2.2⟩,ob,es,ep,k _ _ (.inl rfl) e,c⟩
 |set S n=>obtain⟨ob,es,ep,t,e,c⟩:=x;exact⟨ob,es,ep,t,k _ _ (.inl rfl) e,c⟩
 |ins C dx fs=>
  obtain⟨d,z,ne,e,mA,⟨od,es,ep,e2,c⟩,r⟩:=x;exact⟨ho _ d,z,ne,k _ _ (.inl rfl) e,mA,⟨od,es,ep,k _ _ (.inr d) e2,c⟩,r⟩
 |own y=>obtain⟨ob,e⟩:=x;exact⟨ob,k _ _ (.inl rfl) e⟩
 |xd fs=>obtain⟨mA,⟨od,es,ep,e,c⟩,r⟩:=x;exact⟨mA,⟨od,es,ep,k _ _ (.inl rfl) e,c⟩,r⟩
 |rng lo hi=>obtain⟨t,u,v,e⟩:=x;exact⟨t,u,v,k _ _ (.inl rfl) e⟩
 |frz ob u ih=>obtain⟨e,q⟩:=x;exact⟨k _ _ (.inl rfl) e,ih q⟩
 |tbl ps=>
  have e:h.get? a=aa {cls:=.none,data:=.fields ps}:=x;show h'.get? a=aa {cls:=.none,data:=.fields ps};exact k a _ (.inl rfl) e
 |met f y=>
  have e:h.get? a=aa (EK (.ref f) (.ref y)):=x;show h'.get? a=aa (EK (.ref f) (.ref y));exact k a _ (.inl rfl) e
 |ext φ=>obtain⟨p,⟨o,e⟩,st⟩:=x;exact⟨st _ _ p fun o q=>k _ _ (.inl rfl) q,⟨o,k _ _ (.inl rfl) e⟩,st⟩
theorem HOk.lt (x:HOk P w H h) (e:H a=aa o):a<h.objs.size:=(x a o e).lt
theorem HOk.fresh (x:HOk P w H h) (e:h.objs.size<=a):H a=ac:=by
 cases q:H a with
 |none=>rfl
 |some u=>exact bN (qF (x.lt q) e) (rA _)
theorem HOk.kept (x:HOk P w H h) (k:∀b u,h.get? b=aa u->h'.get? b=aa u):HOk P w H h':=fun a o e=>
 (x a o e).stay (fun b u _ q=>k b u q) (fun _ q=>q) fun _ _ q=>q
theorem HOk.laid (x:HOk P w H h) (k:∀b u,h.get? b=aa u->h'.get? b=aa u) (hp:h.objs.size<=a) (new:cO P w (upd H a o) h' a o):HOk P w (upd H a o) h':=fun b u e=>by
 have hn:=x.fresh hp;by_cases hb:b=a
 .subst hb;rw[bV] at e;cases e;exact new
 .rw[aW hb] at e;exact(x b u e).stay (fun c v _ q=>k c v q) (fun c q=>by rw[aW (ca q hn)];exact q) fun c xs q=>by rw[aW (ca q hn)];exact q
end
noncomputable def Rd (H:Hp) (a:aw) (u:HO):Prop:=H a=aa u\/∃o,H a=aa (.frz o u)
theorem Rd.ok {h:Heap} {u:HO} (r:Rd H a u) (x:HOk P w H h):cO P w H h a u:=by
 rcases r with r|⟨o,r⟩
 .exact x a u r
 .obtain⟨_,q⟩:=x a _ r;exact q
noncomputable def Mut:ao HO->Prop
 |some (.lst _)=>True
 |some (.dK _)=>True
 |some (.dT _)=>True
 |some (.set _ _)=>True
 |some (.ins _ _ _)=>True
 |some (.ext _)=>True
 |_=>False
section
variable {h:Heap} {x e:aw} {o':HO}
theorem HOk.write (ok:HOk P w H h) (mu:Mut (H x)) (he:e=x\/H e=aa (.own x)) (k:∀b u,b≠e->h.get? b=aa u->h'.get? b=aa u) (heo:∃u,h'.get? e=aa u)
  (new:cO P w (upd H x o') h' x o'):HOk P w (upd H x o') h':=fun b u q=>by
 have nown:∀c y,H c=aa (.own y)->c≠x:=fun c y r z=>by subst z;rw[r] at mu;exact mu
 have ntup:∀c xs,H c=aa (.tup xs)->c≠x:=fun c xs r z=>by subst z;rw[r] at mu;exact mu
 by_cases hb:b=x
 .subst hb;rw[bV] at q;cases q;exact new
 .rw[aW hb] at q;by_cases hbe:b=e
  .have q':H b=aa (.own x):=by
    rcases he with z|z
    .exact bN (hbe.trans z) hb
    .rw[hbe];exact z
   rw[q] at q';cases q';obtain⟨v,hv⟩:=heo;exact⟨v,by rw[hbe];exact hv⟩
  .refine(ok b u q).stay (fun c v hc r=>k c v ?_ r) (fun c r=>by rw[aW (nown c b r)];exact r) fun c xs r=>by rw[aW (ntup c xs r)];exact r
   rcases hc with rfl|hc
   .exact hbe
   .rintro rfl;rcases he with z|z
    .exact nown c b hc z
    .rw[hc] at z;cases z;exact hb rfl
end
structure Un (fs ex:ab aw) (H H':Hp) (h h':Heap):Prop where
 keep:∀b o,h.get? b=aa o->H b=ac->b∉fs->b∉ex->h'.get? b=aa o
 slot:∀b o,h.get? b=aa o->H b=ac->b∈fs->b∉ex->∃sl,h'.get? b=aa {o with slots:=sl}
 free:∀b o,h.get? b=aa o->H b=ac->b∉ex->H' b=ac
 there:∀b o,h.get? b=aa o->b∉ex->∃o',h'.get? b=aa o'
 tups:∀b xs,H b=aa (.tup xs)->H' b=aa (.tup xs)
 frzs:∀b o u,H b=aa (.frz o u)->H' b=aa (.frz o u)
 tbls:∀b ps,H b=aa (.tbl ps)->∃more,H' b=aa (.tbl (ps++more))
variable {H1 H2:Hp}
section
variable {fs fs' ex ex':ab aw} {h h1 h2:Heap} {x e:aw} {o:HO}
theorem Un.any (u:Un fs ex H H1 h h1) {b:aw} {ob:bh} (q:h.get? b=aa ob) (n:H b=ac) (hx:b∉ex):∃sl,h1.get? b=aa {ob with slots:=sl}:=by
 by_cases hb:b∈fs
 .exact u.slot b ob q n hb hx
 .exact⟨ob.slots,u.keep b ob q n hb hx⟩
theorem Un.kept (k:∀b u,h.get? b=aa u->h'.get? b=aa u):Un fs ex H H h h':=
 ⟨fun b ob q _ _ _=>k b ob q,fun b ob q _ _ _=>⟨ob.slots,k b ob q⟩,fun _ _ _ n _=>n,fun b ob q _=>⟨ob,k b ob q⟩,fun _ _ q=>q,fun _ _ _ q=>q,fun _ ps q=>⟨#[],by rw[q];simp⟩⟩
theorem Un.refl:Un fs ex H H h h:=Un.kept fun _ _ q=>q
theorem Un.laid (k:∀b u,h.get? b=aa u->h'.get? b=aa u) (hp:h.objs.size<=a) (hn:H a=ac):Un fs ex H (upd H a o) h h' where
 keep:=fun b u q _ _ _=>k b u q
 slot:=fun b u q _ _ _=>⟨u.slots,k b u q⟩
 free:=fun b u q n _=>by rw[aW (qC (qF (qu q) hp))];exact n
 there:=fun b u q _=>⟨u,k b u q⟩
 tups:=fun b xs q=>by rw[aW (ca q hn)];exact q
 frzs:=fun b u xs q=>by rw[aW (ca q hn)];exact q
 tbls:=fun b ps q=>⟨#[],by rw[aW (ca q hn),q];simp⟩
theorem Un.write (mu:Mut (H x)) (he:e=x\/H e=aa (.own x)) (k:∀b u,b≠e->h.get? b=aa u->h'.get? b=aa u) (heo:∃u,h'.get? e=aa u):Un fs ex H (upd H x o) h h':=by
 have hx:∀b,H b=ac->b≠x:=fun b n z=>by subst z;rw[n] at mu;exact mu
 have hb:∀b,H b=ac->b≠e:=fun b n z=>by
  subst z;rcases he with r|r
  .exact hx b n r
  .rw[n] at r;cases r
 have hm:∀b u,H b=aa u->¬Mut (aa u)->b≠x:=fun b u q nm z=>by subst z;rw[q] at mu;exact nm mu
 refine⟨fun b u q n _ _=>k b u (hb b n) q,fun b u q n _ _=>⟨u.slots,k b u (hb b n) q⟩,fun b u q n _=>by rw[aW (hx b n)];exact n,fun b u q _=>?_,
  fun b xs q=>by rw[aW (hm b _ q fun z=>z)];exact q,fun b u xs q=>by rw[aW (hm b _ q fun z=>z)];exact q,fun b ps q=>⟨#[],by rw[aW (hm b _ q fun z=>z),q];simp⟩⟩
 by_cases hbe:b=e
 .subst hbe;exact heo
 .exact⟨u,k b u hbe q⟩
end
noncomputable def trk (h:Heap) (H:Hp):ab aw:=(bj h.objs.size).filter fun a=>(H a).isSome
noncomputable def kP (h:Heap) (H:Hp):Heap:=PySem.W.hideAll h (trk h H)
theorem Oz (h:Heap) (H:Hp):(kP h H).objs.size=h.objs.size:=PySem.W.hideAll_size _ _
theorem Hn {h:Heap} {b:aw} {o:bh} (e:h.get? b=aa o) (n:H b=ac):(kP h H).get? b=aa o:=
 PySem.W.hideAll_get _ e fun hm=>by have q:(H b).isSome=al:=(QW.mp hm).2;rw[n] at q;simp at q
theorem GY {h:Heap} {b:aw} {o:bh} (e:(kP h H).get? b=aa o):h.get? b=aa o/\H b=ac:=by
 have e':h.get? b=aa o:=PySem.W.of_hideAll (trk h H) e;refine⟨e',?_⟩;cases q:H b with
 |none=>rfl
 |some x=>
  have hm:b∈trk h H:=QW.mpr ⟨dU.mpr (qu e'),by simp[q]⟩;have z:(kP h H).get? b=ac:=PySem.W.hideAll_none (trk h H) hm;rw[z] at e;cases e
noncomputable def PR (g h:Heap) (L:aw):ab (aw×bh):=(bj h.objs.size).filterMap fun a=>if a=L\/(g.get? a).isSome=al then ac else (h.get? a).map fun o=>(a,o)
noncomputable def bS (g h:Heap) (L d:aw):ab (aw×bh):=(PR g h L).filter fun p=>decide (p.1≠d)
structure Mod (K:aV) (mg:ai->ao av) (base:Heap):Prop where
 kin:K.In base
 glob:base.Ns fD mg
 blt:∃mb,base.Ns EL mb/\∀x:ai,x≠"__name__"->mb x=lb x
 nolimit:base.NoLimit
structure Cx where
 prog:dS
 w:cQ
 K:aV
 mg:ai->ao av
 base:Heap
 A:dL
 N:ab ai
 s₀:aI
 H₀:Hp
 env:cS
 outer:ab cS
 stack:ab cS
 ex:ab aw
 fn:ai->bq
 calm:bq
 pn:ab (aw×bh)
 xe:av->aI->Prop
noncomputable def frs (l:ab cS):ab aw:=l.filterMap (·.frame)
abbrev Cx.fs (X:Cx):ab aw:=frs X.outer
noncomputable def Vis (sc:Scope) (x:ai):Prop:=sc.names.lookup x=aa .local\/sc.names.lookup x=aa .cell\/sc.names.lookup x=aa .free
noncomputable def Loc (sc:Scope) (x:ai):Prop:=sc.names.lookup x=aa .local\/sc.names.lookup x=aa .cell
noncomputable def Lj (env:cS) (h:Heap) (m:ai->ao av) (x:ai) (u:av):Prop:=
 (env.kindOf x=aa .local/\m x=aa u)\/((env.kindOf x=aa .cell\/env.kindOf x=aa .free)/\∃c,env.cells.lookup x=aa c/\h.IsCell c (aa u))
structure Cx.Ok (X:Cx):Prop where
 mod:Mod X.K X.mg X.base
 kind:X.env.scope.kind=.function
 glob:X.env.globals=fD
 blt:X.env.builtins=EL
 above:X.s₀.heap.objs.size<=X.env.locals
 inj:∀x y c,X.env.cells.lookup x=aa c->X.env.cells.lookup y=aa c->x=y
 has:∀x,(X.env.kindOf x=aa .cell\/X.env.kindOf x=aa .free)->∃c,X.env.cells.lookup x=aa c
 cab:∀x c,X.fn x=al->X.env.cells.lookup x=aa c->X.s₀.heap.objs.size<=c
 hd:X.calm=al->X.A.handled=ac
 frames:X.A.frames=aa X.stack
 stk:X.stack=X.outer\/(X.stack=X.env::X.outer/\X.env.frame=aa X.env.locals)
 exf:∀b∈X.ex,b≠X.env.locals/\∀x c,X.env.cells.lookup x=aa c->c≠b
 bs:∀b o,X.base.get? b=aa o->X.s₀.heap.get? b=aa o/\X.H₀ b=ac
 bsz:X.base.objs.size<=X.s₀.heap.objs.size
 noex:∀b o,X.base.get? b=aa o->b∉X.ex
 exfs:∀b∈X.ex,b∉X.fs
 funs:X.s₀.heap.FunFrames X.base X.outer
 frf:∀b∈X.fs,X.H₀ b=ac
structure Inv (X:Cx) (pins:ab (aw×bh)) (σ:ab (ao V)) (H:Hp) (s:aI):Prop where
 ok:X.Ok
 os:s.os=X.s₀.os
 bare:lc s.gens
 base:Un X.fs X.ex X.H₀ H X.s₀.heap s.heap
 loc:∃m,s.heap.Ns X.env.locals m/\∀(i:ag) (x:ai) (v:V),X.N[i]?=aa x->σ[i]?=aa (aa v)->Vis X.env.scope x->∃u,bO v u/\Lj X.env s.heap m x u
 cell:∀x c,X.env.cells.lookup x=aa c->∃v,s.heap.IsCell c v
 free:H X.env.locals=ac
 freeC:∀x c,X.env.cells.lookup x=aa c->H c=ac
 pin:∀p∈X.pn++pins,s.heap.get? p.1=aa p.2/\H p.1=ac/\p.1≠X.env.locals/\p.1∉X.fs/\∀v,p.2.data≠.cell v
 hok:HOk X.prog X.w H s.heap
 len:σ.length=X.N.length
variable {X:Cx} {pins:ab (aw×bh)} {s s':aI} {t' i j:ag} {d':Drawn} {N:ab ai} {x:ai} {A:dL} {E:av->aI->Prop} {v:V} {u:av}
section
variable {σ:ab (ao V)}
theorem Cx.Ok.nofr (ok:X.Ok) {b:aw} {o:bh} (e:X.base.get? b=aa o):b∉X.fs:=fun hb=>by have:=(ok.funs.mem hb).1;rw[e] at this;cases this
theorem Inv.bs (I:Inv X pins σ H s):∀b o,X.base.get? b=aa o->s.heap.get? b=aa o/\H b=ac:=fun b o e=>
 ⟨I.base.keep b o (I.ok.bs b o e).1 (I.ok.bs b o e).2 (I.ok.nofr e) (I.ok.noex b o e),I.base.free b o (I.ok.bs b o e).1 (I.ok.bs b o e).2 (I.ok.noex b o e)⟩
theorem Inv.bk (I:Inv X pins σ H s):∀b o,X.base.get? b=aa o->s.heap.get? b=aa o:=fun b o e=>(I.bs b o e).1
theorem Inv.mod (I:Inv X pins σ H s):Mod X.K X.mg X.base:=I.ok.mod
theorem Inv.kIn (I:Inv X pins σ H s):X.K.In s.heap:=I.ok.mod.kin.keeps I.bk
theorem Inv.lt (I:Inv X pins σ H s):X.env.locals<s.heap.objs.size:=let ⟨_,hn,_⟩:=I.loc;hn.lt
theorem Inv.sz (I:Inv X pins σ H s):X.s₀.heap.objs.size<=s.heap.objs.size:=qM I.ok.above (rC I.lt)
theorem Inv.nofs (I:Inv X pins σ H s) (h:s.heap.objs.size<=a):a∉X.fs:=fun hb=>by obtain⟨_,o,ho,_⟩:=I.ok.funs.mem hb;exact bN (qF (qu ho) (qM I.sz h)) (rA _)
theorem Inv.cne (I:Inv X pins σ H s):∀x c,X.env.cells.lookup x=aa c->c≠X.env.locals:=fun x c e z=>by obtain⟨v,o,ho,hd⟩:=I.cell x c e;obtain⟨m,⟨o',es,ep,ho',hd',_⟩,_⟩:=I.loc;rw[z,ho'] at ho;cases ho;rw[hd'] at hd;cases hd
theorem Inv.funs (I:Inv X pins σ H s):s.heap.FunFrames X.base X.outer:=by
 have all:∀(l:ab cS),(∀b∈frs l,b∈X.fs)->X.s₀.heap.FunFrames X.base l->s.heap.FunFrames X.base l:=by
  intro l
  induction l with
  |nil=>intro _ _;trivial
  |cons env r ih=>
   intro hs hl;obtain⟨hk,⟨L,o,hf,hn,ho,hd⟩,hr⟩:=hl;have hL:L∈X.fs:=hs L (by unfold frs;rw[om,hf];exact qf);obtain⟨sl,e⟩:=I.base.slot L o ho (I.ok.frf L hL) hL fun z=>I.ok.exfs L z hL;exact⟨hk,⟨L,_,hf,hn,e,hd⟩,ih (fun b hb=>hs b (by unfold frs;rw[om,hf];exact qg _ hb)) hr⟩
 exact all X.outer (fun _ hb=>hb) I.ok.funs
theorem Inv.stack (I:Inv X pins σ H s):s.heap.FunFrames X.base X.stack:=by
 rcases I.ok.stk with e|⟨e,hf⟩
 .rw[e];exact I.funs
 .rw[e];obtain⟨m,hn,_⟩:=I.loc;refine .cons (by rw[I.ok.kind];decide) hf hn ?_ I.funs;exact Heap.get?_none_of_le (qM I.ok.bsz I.ok.above)
theorem Inv.stkSub (I:Inv X pins σ H s):∀b∈frs X.stack,b∈X.env.locals::X.fs:=fun b hb=>by
 rcases I.ok.stk with e|⟨e,hf⟩
 .rw[e] at hb;exact qg _ hb
 .rw[e] at hb;unfold frs at hb;rw[om,hf] at hb;exact hb
theorem Inv.stkFree (I:Inv X pins σ H s):∀b∈frs X.stack,H b=ac:=fun b hb=>by
 rcases cG.mp (I.stkSub b hb) with e|hb
 .rw[e];exact I.free
 .obtain⟨_,o,ho,_⟩:=I.ok.funs.mem hb;exact I.base.free b o ho (I.ok.frf b hb) fun z=>I.ok.exfs b z hb
theorem Inv.step {g':b8 rD} {ch:ab aw} (I:Inv X pins σ H s)
  (hch:∀b∈ch,(b∈X.ex\/X.s₀.heap.objs.size<=b)/\b≠X.env.locals/\(∀x c,X.env.cells.lookup x=aa c->c≠b)/\∀p∈X.pn++pins,p.1≠b)
  (keep:∀b o,b≠X.env.locals->b∉X.fs->b∉ch->s.heap.get? b=aa o->H b=ac->h'.get? b=aa o)
  (slot:∀b o,b≠X.env.locals->b∈X.fs->b∉ch->s.heap.get? b=aa o->H b=ac->∃sl,h'.get? b=aa {o with slots:=sl}) (free:∀b o,b∉ch->s.heap.get? b=aa o->H b=ac->H' b=ac)
  (there:∀b o,b∉ch->s.heap.get? b=aa o->∃o',h'.get? b=aa o')
  (tups:∀b xs,H b=aa (.tup xs)->H' b=aa (.tup xs)) (frzs:∀b o u,H b=aa (.frz o u)->H' b=aa (.frz o u)) (tbls:∀b ps,H b=aa (.tbl ps)->∃more,H' b=aa (.tbl (ps++more)))
  (ns:∀m,s.heap.Ns X.env.locals m->h'.Ns X.env.locals m) (hok:HOk X.prog X.w H' h') (hg:lc g') :
  Inv X pins σ H' {s with heap:=h',gens:=g',drawn:=d',toks:=t'}:=by
 have neL:∀b o,X.s₀.heap.get? b=aa o->b≠X.env.locals:=fun b o e=>qC (qF (qu e) I.ok.above);have neC:∀b o,X.s₀.heap.get? b=aa o->b∉X.ex->b∉ch:=fun b o e hx hb=>by
  rcases(hch b hb).1 with z|z
  .exact hx z
  .exact bN (qF (qu e) z) (rA _)
 have cellK:∀x c,X.env.cells.lookup x=aa c->∀v,s.heap.IsCell c v->h'.IsCell c v:=fun x c e v ⟨o,ho,hd⟩=>by
  have nch:c∉ch:=fun z=>(hch c z).2.2.1 x c e rfl;by_cases hc:c∈X.fs
  .obtain⟨sl,q⟩:=slot c o (I.cne x c e) hc nch ho (I.freeC x c e);exact⟨_,q,hd⟩
  .exact⟨o,keep c o (I.cne x c e) hc nch ho (I.freeC x c e),hd⟩
 refine⟨I.ok,I.os,hg,⟨fun b o e n hb hx=>?_,fun b o e n hb hx=>?_,fun b o e n hx=>?_,fun b o e hx=>?_,fun b xs e=>tups b xs (I.base.tups b xs e),fun b o xs e=>frzs b o xs (I.base.frzs b o xs e),fun b ps e=>?_⟩,?_,fun x c e=>?_,?_,fun x c e=>?_,fun p hp=>?_,hok,I.len⟩
 .exact keep b o (neL b o e) hb (neC b o e hx) (I.base.keep b o e n hb hx) (I.base.free b o e n hx)
 .obtain⟨sl,e1⟩:=I.base.slot b o e n hb hx;obtain⟨sl',e2⟩:=slot b _ (neL b o e) hb (neC b o e hx) e1 (I.base.free b o e n hx);exact⟨sl',e2⟩
 .obtain⟨o',e1⟩:=I.base.there b o e hx;exact free b o' (neC b o e hx) e1 (I.base.free b o e n hx)
 .obtain⟨o',e1⟩:=I.base.there b o e hx;exact there b o' (neC b o e hx) e1
 .obtain⟨m1,e1⟩:=I.base.tbls b ps e;obtain⟨m2,e2⟩:=tbls b _ e1;exact⟨m1++m2,by rw[e2,Array.append_assoc]⟩
 .obtain⟨m,hn,hl⟩:=I.loc;refine⟨m,ns m hn,fun i x v e1 e2 e3=>?_⟩;obtain⟨u,r,l⟩:=hl i x v e1 e2 e3;refine⟨u,r,?_⟩;rcases l with l|⟨k,c,e,z⟩
  .exact .inl l
  .exact .inr ⟨k,c,e,cellK x c e _ z⟩
 .obtain⟨v,z⟩:=I.cell x c e;exact⟨v,cellK x c e v z⟩
 .obtain⟨m,⟨o,_,_,ho,_⟩,_⟩:=I.loc;exact free _ o (fun z=>(hch _ z).2.1 rfl) ho I.free
 .obtain⟨v,o,ho,hd⟩:=I.cell x c e;exact free c o (fun z=>(hch c z).2.2.1 x c e rfl) ho (I.freeC x c e)
 .obtain⟨e,n,ne,nf,d⟩:=I.pin p hp;have nch:p.1∉ch:=fun z=>(hch p.1 z).2.2.2 p hp rfl;exact⟨keep p.1 p.2 ne nf nch e n,free p.1 p.2 nch e n,ne,nf,d⟩
theorem Inv.un (I:Inv X pins σ H s) (u:Un X.fs [] H H' s.heap h') (hok:HOk X.prog X.w H' h'):Inv X pins σ H' {s with heap:=h',toks:=t'}:=by
 obtain⟨m,⟨o,es,ep,ho,r⟩,_⟩:=id I.loc;obtain⟨sl,hL⟩:=u.any ho I.free (by simp);exact I.step (g':=s.gens) (d':=s.drawn) (ch:=[]) (fun _ z=>nomatch z) (fun b o _ hb _ e n=>u.keep b o e n hb (by simp)) (fun b o _ hb _ e n=>u.slot b o e n hb (by simp)) (fun b o _ e n=>u.free b o e n (by simp)) (fun b o _ e=>u.there b o e (by simp)) u.tups u.frzs u.tbls (fun m' hm=>by obtain⟨o',es',ep',ho',r'⟩:=hm;rw[ho] at ho';cases ho';exact⟨_,es',ep',hL,r'⟩) hok I.bare
theorem Inv.call {g':b8 rD} {ch:ab aw} (I:Inv X pins σ H s) (u:Un (frs X.stack) ch H H' s.heap h') (hok:HOk X.prog X.w H' h') (hg:lc g')
  (hch:∀b∈ch,(b∈X.ex\/X.s₀.heap.objs.size<=b)/\b≠X.env.locals/\(∀x c,X.env.cells.lookup x=aa c->c≠b)/\∀p∈X.pn++pins,p.1≠b) :
  Inv X pins σ H' {s with heap:=h',gens:=g',drawn:=d',toks:=t'}:=by
 obtain⟨m,⟨o,es,ep,ho,r⟩,_⟩:=id I.loc;obtain⟨sl,hL⟩:=u.any ho I.free fun z=>(hch _ z).2.1 rfl;exact I.step (ch:=ch) hch (fun b o hL hb hc e n=>u.keep b o e n (fun z=>(cG.mp (I.stkSub b z)).elim hL hb) hc) (fun b o _ _ hc e n=>u.any e n hc) (fun b o hc e n=>u.free b o e n hc) (fun b o hc e=>u.there b o e hc) u.tups u.frzs u.tbls (fun m' hm=>by obtain⟨o',es',ep',ho',r'⟩:=hm;rw[ho] at ho';cases ho';exact⟨_,es',ep',hL,r'⟩) hok hg
theorem Inv.turned {it:aw} (I:Inv X pins σ H s) (k:∀b o,b≠it->s.heap.get? b=aa o->h'.get? b=aa o) (hn:H it=ac) (hL:it≠X.env.locals)
  (h1:it∈X.ex\/X.s₀.heap.objs.size<=it) (h2:∀x c,X.env.cells.lookup x=aa c->c≠it) (h3:∀p∈X.pn++pins,p.1≠it):Inv X pins σ H {s with heap:=h',toks:=t'}:=by
 have nit:∀b u,H b=aa u->b≠it:=fun b u e z=>by rw[z,hn] at e;cases e
 refine I.step (g':=s.gens) (d':=s.drawn) (ch:=[it]) (fun b hb=>?_) (fun b o _ _ hc e _=>k b o (fun z=>hc (by simp[z])) e) (fun b o _ _ hc e _=>⟨o.slots,k b o (fun z=>hc (by simp[z])) e⟩) (fun _ _ _ _ n=>n)
  (fun b o hc e=>⟨o,k b o (fun z=>hc (by simp[z])) e⟩) (fun _ _ e=>e) (fun _ _ _ e=>e) (fun b ps e=>⟨#[],by rw[e];simp⟩) (fun m hm=>?_) (fun b u e=>?_) I.bare
 .have e:b=it:=by simpa using hb
  subst e;exact⟨h1,hL,h2,h3⟩
 .obtain⟨o,es,ep,ho,r⟩:=hm;exact⟨o,es,ep,k _ o (dM hL) ho,r⟩
 .refine(I.hok b u e).stay (fun c v hc q=>k c v ?_ q) (fun _ q=>q) fun _ _ q=>q;rcases hc with z|z
  .rw[z];exact nit b u e
  .exact nit c _ z
theorem Inv.tok (I:Inv X pins σ H s) (t:ag):Inv X pins σ H {s with toks:=t}:=I.un (h':=s.heap) (t':=t) Un.refl I.hok
theorem Inv.kept {t':ag} (I:Inv X pins σ H s) (k:∀b u,s.heap.get? b=aa u->h'.get? b=aa u):Inv X pins σ H {s with heap:=h',toks:=t'}:=I.un (Un.kept k) (I.hok.kept k)
theorem Inv.laid {a:aw} {o:HO} {t':ag} (I:Inv X pins σ H s) (k:∀b u,s.heap.get? b=aa u->h'.get? b=aa u) (hp:s.heap.objs.size<=a) (new:cO X.prog X.w (upd H a o) h' a o) :
  Inv X pins σ (upd H a o) {s with heap:=h',toks:=t'}:=I.un (Un.laid k hp (I.hok.fresh hp)) (I.hok.laid k hp new)
theorem Inv.write {x e:aw} {o:HO} {t':ag} (I:Inv X pins σ H s) (mu:Mut (H x)) (he:e=x\/H e=aa (.own x)) (k:∀b u,b≠e->s.heap.get? b=aa u->h'.get? b=aa u) (heo:∃u,h'.get? e=aa u)
  (new:cO X.prog X.w (upd H x o) h' x o):Inv X pins σ (upd H x o) {s with heap:=h',toks:=t'}:=I.un (Un.write mu he k heo) (I.hok.write mu he k heo new)
theorem Inv.pins_of {pins':ab (aw×bh)} (I:Inv X pins σ H s) (h:∀p∈pins',s.heap.get? p.1=aa p.2/\H p.1=ac/\p.1≠X.env.locals/\p.1∉X.fs/\∀v,p.2.data≠.cell v):Inv X pins' σ H s:=
 ⟨I.ok,I.os,I.bare,I.base,I.loc,I.cell,I.free,I.freeC,fun p hp=>(cL.mp hp).elim (fun z=>I.pin p (EM _ z)) (h p),I.hok,I.len⟩
theorem BI (hN:N.Nodup) (a:N[i]?=aa x) (b:N[j]?=aa x):i=j:=by obtain⟨h1,e1⟩:=cR.mp a;obtain⟨h2,e2⟩:=cR.mp b;exact(List.getElem_inj hN).mp (e1.trans e2.symm)
theorem Bo {M:uG} {Q:lT->aI->Prop} (I:Inv X pins σ H s) (hN:X.N.Nodup) (hi:X.N[i]?=aa x) (hx:Loc X.env.scope x) (r:bO v u)
  (h:∀s',Inv X pins (σ.set i (aa v)) H s'->(∃a,jr a s.heap s'.heap/\(a=X.env.locals\/X.env.cells.lookup x=aa a))->Q () s') (hf:X.fn x=al\/X.env.scope.names.lookup x=aa .local:=by first|exact .inl rfl|exact .inr rfl|assumption):aJ M A (storeName X.env x u) Q E s:=by
 obtain⟨m,hn,hl⟩:=id I.loc;have hcls:(X.env.scope.kind==.class || (X.env.scope.kind==.module && X.env.locals != X.env.globals))=aq:=by rw[I.ok.kind];rfl
 have hiσ:i < σ.length:=by rw[I.len];exact(cR.mp hi).1
 have cne:=I.cne;have tracked:∀{a:aw} {h':Heap},(∃o,s.heap.get? a=aa o/\H a=ac)->jr a s.heap h'->HOk X.prog X.w H h':=fun {a h'} ha hs b ob e=>by
  obtain⟨_,_,hfree⟩:=ha;refine(I.hok b ob e).stay (fun c w' hc q=>(hs.2 c ?_).trans q) (fun _ q=>q) fun _ _ q=>q;rintro rfl;rcases hc with rfl|hc
  .rw[hfree] at e;cases e
  .rw[hfree] at hc;cases hc
 rcases hx with hk|hk
 .refine wpAny_storeName_local hk hn (fun h' hn' hs=>?_) hcls;obtain⟨oL,_,_,hoL,_⟩:=id hn;refine h _ ⟨I.ok,I.os,I.bare,⟨fun b o e n hb hx=>?_,fun b o e n hb hx=>?_,I.base.free,fun b o e hx=>?_,I.base.tups,I.base.frzs,I.base.tbls⟩,⟨_,hn',fun j y v' e1 e2 e3=>?_⟩,fun y c e=>?_,I.free,I.freeC,fun p hp=>?_,tracked ⟨oL,hoL,I.free⟩ hs,by simpa using I.len⟩ ⟨_,hs,.inl rfl⟩
  .exact(hs.2 b (qC (qF (qu e) I.ok.above))).trans (I.base.keep b o e n hb hx)
  .obtain⟨sl,e1⟩:=I.base.slot b o e n hb hx;exact⟨sl,(hs.2 b (qC (qF (qu e) I.ok.above))).trans e1⟩
  .obtain⟨o',e1⟩:=I.base.there b o e hx;exact⟨o',(hs.2 b (qC (qF (qu e) I.ok.above))).trans e1⟩
  .by_cases hj:j=i
   .subst hj;rw[hi] at e1;cases e1;rw[mX hiσ] at e2;cases e2;exact⟨u,r,.inl ⟨hk,by simp⟩⟩
   .rw[qy (dM hj)] at e2;obtain⟨u',r',q⟩:=hl j y v' e1 e2 e3;refine⟨u',r',?_⟩;rcases q with⟨k,e⟩|⟨k,c,e,z⟩
    .refine .inl ⟨k,?_⟩;have:y≠x:=fun e=>hj (BI hN e1 (e▸hi));simp[this,e]
    .exact .inr ⟨k,c,e,z.sameBut hs (cne y c e)⟩
  .obtain⟨w',z⟩:=I.cell y c e;exact⟨w',z.sameBut hs (cne y c e)⟩
  .obtain⟨e,n,ne,nf,d⟩:=I.pin p hp;exact⟨(hs.2 p.1 ne).trans e,n,ne,nf,d⟩
 .have hfn:X.fn x=al:=by
   rcases hf with z|z
   .exact z
   .rw[z] at hk;cases hk
  obtain⟨c,hc⟩:=I.ok.has x (.inl hk);obtain⟨w',z⟩:=I.cell x c hc;refine wpAny_storeName_cell I.ok.kind hk hc z (fun h' hc' hs=>?_);obtain⟨oc,hoc,hocd⟩:=id z;refine h {s with heap:=h'} ⟨I.ok,I.os,I.bare,⟨fun b o e n hb hx=>?_,fun b o e n hb hx=>?_,I.base.free,fun b o e hx=>?_,I.base.tups,I.base.frzs,I.base.tbls⟩,⟨m,hn.sameBut hs (dM (cne x c hc)),fun j y v' e1 e2 e3=>?_⟩,fun y c' e=>?_,I.free,I.freeC,fun p hp=>?_,tracked ⟨oc,hoc,I.freeC x c hc⟩ hs,by simpa using I.len⟩ ⟨c,hs,.inr hc⟩
  .exact(hs.2 b (qC (qF (qu e) (I.ok.cab x c hfn hc)))).trans (I.base.keep b o e n hb hx)
  .obtain⟨sl,e1⟩:=I.base.slot b o e n hb hx;exact⟨sl,(hs.2 b (qC (qF (qu e) (I.ok.cab x c hfn hc)))).trans e1⟩
  .obtain⟨o',e1⟩:=I.base.there b o e hx;exact⟨o',(hs.2 b (qC (qF (qu e) (I.ok.cab x c hfn hc)))).trans e1⟩
  .by_cases hj:j=i
   .subst hj;rw[hi] at e1;cases e1;rw[mX hiσ] at e2;cases e2;exact⟨u,r,.inr ⟨.inl hk,c,hc,hc'⟩⟩
   .rw[qy (dM hj)] at e2;obtain⟨u',r',q⟩:=hl j y v' e1 e2 e3;refine⟨u',r',?_⟩;rcases q with q|⟨k,c',e,z'⟩
    .exact .inl q
    .refine .inr ⟨k,c',e,z'.sameBut hs ?_⟩;rintro rfl;exact hj (BI hN e1 (I.ok.inj _ _ _ e hc▸hi))
  .by_cases hcc:c'=c
   .subst hcc;exact⟨_,hc'⟩
   .obtain⟨w2,z2⟩:=I.cell y c' e;exact⟨w2,z2.sameBut hs hcc⟩
  .obtain⟨e,n,ne,nf,d⟩:=I.pin p hp;refine⟨(hs.2 p.1 ?_).trans e,n,ne,nf,d⟩;intro q;rw[q,hoc] at e;have q':oc=p.2:=qH e;exact d w' (by rw[←q'];exact hocd)
theorem A7 {M:uG} {Q:lT->aI->Prop} (I:Inv X pins σ H s) (hN:X.N.Nodup) (hi:X.N[i]?=aa x) (hx:Loc X.env.scope x) (r:bO v u)
  (h:∀s',Inv X pins (σ.set i (aa v)) H s'->Q () s') (hf:X.fn x=al\/X.env.scope.names.lookup x=aa .local:=by first|exact .inl rfl|exact .inr rfl|assumption):aJ M A (storeName X.env x u) Q E s:=
 Bo I hN hi hx r (fun s' I' _=>h s' I') hf
theorem Inv.call' {ch:ab aw} (I:Inv X pins σ H s) (ho:s'.os=s.os) (u:Un (frs X.stack) ch H H' s.heap s'.heap) (hok:HOk X.prog X.w H' s'.heap) (hg:lc s'.gens)
  (hch:∀b∈ch,(b∈X.ex\/X.s₀.heap.objs.size<=b)/\b≠X.env.locals/\(∀x c,X.env.cells.lookup x=aa c->c≠b)/\∀p∈X.pn++pins,p.1≠b):Inv X pins σ H' s':=by
 obtain⟨h',g',d',t',o'⟩:=s';have e:o'=s.os:=ho;subst e;exact I.call (g':=g') (t':=t') (d':=d') u hok hg hch
end
abbrev XK:=av->ao aw->Hp->Prop
abbrev St:=ab (ao V)
abbrev VK:=V->Hp->Prop
abbrev TE:=St->Hp->VK->Prop
abbrev TT:=St->Hp->(bq->Hp->Prop)->Prop
abbrev TA:=St->Hp->(ab V->Hp->Prop)->Prop
structure Ends where
 nx:St->Hp->Prop
 rt:VK
 bk:St->Hp->Prop:=fun _ _=>False
 ct:St->Hp->Prop:=fun _ _=>False
abbrev TS:=Ends->St->Hp->Prop
noncomputable def EP (X:Cx) (pins:ab (aw×bh)) (σ:St) (Q:VK) (u:av) (s':aI):Prop:=∃v H',Inv X pins σ H' s'/\bO v u/\Q v H'
noncomputable def TP (X:Cx) (pins:ab (aw×bh)) (σ:St) (Q:bq->Hp->Prop) (b:bq) (s':aI):Prop:=∃H',Inv X pins σ H' s'/\Q b H'
noncomputable def AP (X:Cx) (pins:ab (aw×bh)) (σ:St) (Q:ab V->Hp->Prop) (us:ab av) (s':aI):Prop:=∃vs H',Inv X pins σ H' s'/\bi vs us/\Q vs H'
noncomputable def SP (X:Cx) (pins:ab (aw×bh)) (D:Ends) (f:Flow) (s':aI):Prop:=
 match f with
 |.next=>∃σ' H',Inv X pins σ' H' s'/\D.nx σ' H'
 |.brk=>∃σ' H',Inv X pins σ' H' s'/\D.bk σ' H'
 |.cont=>∃σ' H',Inv X pins σ' H' s'/\D.ct σ' H'
 |.ret u=>∃v σ' H',Inv X pins σ' H' s'/\bO v u/\D.rt v H'
noncomputable def PE (X:Cx) (e:Expr) (t:TE):Prop:=
 ∀(pins:ab (aw×bh)) (s:aI) (σ:St) (H:Hp) (Q:VK),Inv X pins σ H s->t σ H Q->aJ (aQ X.prog X.w) X.A (eval e X.env) (EP X pins σ Q) X.xe s
noncomputable def PT (X:Cx) (e:Expr) (t:TT):Prop:=
 ∀(pins:ab (aw×bh)) (s:aI) (σ:St) (H:Hp) (Q:bq->Hp->Prop),Inv X pins σ H s->t σ H Q->aJ (aQ X.prog X.w) X.A (isTrue e X.env (eval e X.env)) (TP X pins σ Q) X.xe s
noncomputable def PW (X:Cx) (e:Expr) (t:TT):Prop:=
 ∀(whole:iL av) (pins:ab (aw×bh)) (s:aI) (σ:St) (H:Hp) (Q:bq->Hp->Prop),Inv X pins σ H s->t σ H Q->aJ (aQ X.prog X.w) X.A (isTrue e X.env whole) (TP X pins σ Q) X.xe s
variable {e:Expr}
theorem PW.pt {t:TT} (h:PW X e t):PT X e t:=h _
noncomputable def PA (X:Cx) (es:ab Expr) (t:TA):Prop:=
 ∀(pos:dF) (pins:ab (aw×bh)) (s:aI) (σ:St) (H:Hp) (Q:ab V->Hp->Prop),Inv X pins σ H s->t σ H Q->aJ (aQ X.prog X.w) X.A (yC (cz pos (aS es X.env))) (AP X pins σ Q) X.xe s
noncomputable def PS (X:Cx) (st:Stmt) (t:TS):Prop:=
 ∀(pins:ab (aw×bh)) (s:aI) (σ:St) (H:Hp) (D:Ends),Inv X pins σ H s->t D σ H->aJ (aQ X.prog X.w) X.A (exec st X.env) (SP X pins D) X.xe s
noncomputable def PSs (X:Cx) (st:ab Stmt) (t:TS):Prop:=
 ∀(pins:ab (aw×bh)) (s:aI) (σ:St) (H:Hp) (D:Ends),Inv X pins σ H s->t D σ H->aJ (aQ X.prog X.w) X.A (execs st X.env) (SP X pins D) X.xe s
variable {α:Type}
theorem thn {t:iL α} {Q Q':α->aI->Prop} {M:uG} (h:aJ M A t Q E s) (hQ:∀a s,Q a s->Q' a s):aJ M A t Q' E s:=ir h hQ fun _ _ x=>x
variable {b:Expr} {ta tb:TE} {σ:St} {pos:dF} {Q:av->aI->Prop} {op:CmpOp}
section
theorem bin {a:Expr} (ha:PE X a ta) (hb:PE X b tb) {R:V->V->Hp->Prop} (I:Inv X pins σ H s) (h:ta σ H fun x H1=>tb σ H1 fun y H2=>R x y H2)
  {Q:α->aI->Prop} {f:av->av->iL α} 
  (hf:∀v u s2 x y H2,Inv X pins σ H2 s2->bO x v->bO y u->R x y H2->aJ (aQ X.prog X.w) X.A (f v u) Q X.xe s2) :
  aJ (aQ X.prog X.w) X.A (eval a X.env) (fun v s₁=>aJ (aQ X.prog X.w) X.A (eval b X.env) (fun u s₂=>aJ (aQ X.prog X.w) X.A (f v u) Q X.xe s₂) X.xe s₁) X.xe s:=by
 refine thn (ha pins s σ H _ I h) fun v s1 ⟨x,H1,I1,r1,q1⟩=>?_;refine thn (hb pins s1 σ H1 _ I1 q1) fun u s2 ⟨y,H2,I2,r2,q2⟩=>?_;exact hf v u s2 x y H2 I2 r1 r2 q2
noncomputable def QB (i:ag):TE:=fun σ H Q=>∃v,σ[i]?=aa (aa v)/\Q v H
noncomputable def tC (v:V):TE:=fun _ H Q=>Q v H
theorem iX (hN:X.N[i]?=aa x) (hv:Vis X.env.scope x) (hd:(x==("__debug__":ai))=aq:=by decide) (hcd:(x==("__classdict__":ai))=aq:=by decide):PE X (.Name x pos) (QB i):=by
 intro pins s σ H Q I h;obtain⟨v,e,h⟩:=h;obtain⟨m,hn,hl⟩:=I.loc;obtain⟨u,r,l⟩:=hl i x v hN e hv;have fin:EP X pins σ Q u s:=⟨v,H,I,r,h⟩;rcases l with⟨hk,hm⟩|⟨hk,c,hc,hcell⟩
 .exact EN (wpAny_loadName_local I.ok.kind hk hn hm fin) hd
 .rcases hk with hk|hk
  .exact EN (wpAny_loadName_cell I.ok.kind hk hc hcell fin) hd
  .exact EN (wpAny_loadName_free I.ok.kind hk hc hcell fin hcd) hd
theorem xn {i j pos}:PE X (.Constant (.int i) j pos) (tC (.int i)):=fun _ _ _ H _ I h=>wpAny_Constant_int ⟨.int i,H,I.tok _,⟨_,rfl⟩,h⟩
theorem OU {b j pos}:PE X (.Constant (.bool b) j pos) (tC (.bl b)):=fun _ _ _ H _ I h=>Constant_bool ⟨.bl b,H,I,rfl,h⟩
theorem My {j pos}:PE X (.Constant .none j pos) (tC .non):=fun _ _ _ H _ I h=>Constant_none ⟨.non,H,I,rfl,h⟩
theorem Dk {x j pos}:PE X (.Constant (.str x) j pos) (tC (.str x)):=fun _ _ _ H _ I h=>Calls.Constant_str ⟨.str x,H,I.tok _,⟨_,rfl⟩,h⟩
noncomputable def Gl (X:Cx) (x:ai):Prop:=X.env.kindOf x=aa .globalImplicit
theorem xz (I:Inv X pins σ H s) (hg:Gl X x) (hm:X.mg x=aa u) (h:Q u s)
  (hd:(x==("__debug__":ai))=aq:=by decide):aJ (aQ X.prog X.w) X.A (eval (.Name x pos) X.env) Q E s:=
 QX I.ok.kind hg (Calls.loadGlobal_global (by rw[I.ok.glob];exact I.mod.glob.keeps I.bk) hm h) hd
theorem lx (I:Inv X pins σ H s) (hg:Gl X x) (hm:X.mg x=ac) (hv:lb x=aa u) (h:Q u s)
  (hn:x≠"__name__":=by decide) (hd:(x==("__debug__":ai))=aq:=by decide):aJ (aQ X.prog X.w) X.A (eval (.Name x pos) X.env) Q E s:=by
 obtain⟨mb,h1,h2⟩:=I.mod.blt;exact QX I.ok.kind hg (Calls.loadGlobal_builtin (by rw[I.ok.glob];exact I.mod.glob.keeps I.bk) hm (by rw[I.ok.blt];exact h1.keeps I.bk) ((h2 x hn).trans hv) h) hd
theorem vB (hg:Gl X x) (hm:X.mg x=aa u) (r:bO v u) (hd:(x==("__debug__":ai))=aq:=by decide):PE X (.Name x pos) (tC v):=
 fun _ _ _ H _ I h=>xz I hg hm ⟨v,H,I,r,h⟩ hd
theorem GK (hg:Gl X x) (hm:X.mg x=ac) (hv:lb x=aa u) (r:bO v u) (hn:x≠"__name__":=by decide) (hd:(x==("__debug__":ai))=aq:=by decide):PE X (.Name x pos) (tC v):=
 fun _ _ _ H _ I h=>lx I hg hm hv ⟨v,H,I,r,h⟩ hn hd
variable {a:Expr}
noncomputable def PC (X:Cx) (op:CmpOp) (a b:Expr) (t:TE):Prop:=
 ∀(pins:ab (aw×bh)) (s:aI) (σ:St) (H:Hp) (Q:VK),Inv X pins σ H s->t σ H Q->
  aJ (aQ X.prog X.w) X.A (eval a X.env) (fun v s₁=>aJ (aQ X.prog X.w) X.A (eval b X.env) (fun u s₂=>aJ (aQ X.prog X.w) X.A (dX op v u) (EP X pins σ Q) X.xe s₂) X.xe s₁) X.xe s
theorem Ov (b:Expr) (h:op≠.In) (h2:op≠.NotIn):lU op b=aq:=by
 have e1:(op==QY)=aq:=by cases op<;>first|rfl|exact bN rfl h
 have e2:(op==QZ)=aq:=by cases op<;>first|rfl|exact bN rfl h2
 cases b<;>simp[lU,e1,e2]
noncomputable def tB (t:TE):TT:=fun σ H Q=>t σ H fun x H1=>∃c,x=.bl c/\Q c H1
theorem Tc {t:TE} (h:PC X op a b t) (h1:lU op b=aq:=by first|exact Ov _ (by decide) (by decide)|rfl):PT X (.Compare a [op] [b] pos) (tB t):=by intro pins s σ H Q I hw;refine Q0 (thn (h pins s σ H _ I hw) fun v s1 h1=>thn h1 fun u s2 h2=>thn h2 fun c s3 ⟨x,H1,I1,r1,q1⟩=>?_) h1;obtain⟨d,rfl,q⟩:=q1;cases r1;exact lf ⟨H1,I1,q⟩
theorem IJ {t:TE} (h:PE X e t) (he:∀whole,isTrue e X.env whole=(do let v ←whole;mY e.pos;jt [v] (truthy v)):=by intro _;rfl):PT X e (tB t):=by intro pins s σ H Q I hw;refine isTrue_plain (thn (h pins s σ H _ I hw) fun v s1 ⟨x,H1,I1,r1,q1⟩=>?_) (he _);obtain⟨d,rfl,q⟩:=q1;cases r1;exact lf ⟨H1,I1,q⟩
variable {tA tB':TT} {bS:ab Expr}
noncomputable def OR (t u:TT):TT:=fun σ H Q=>t σ H fun c H1=>if c=al then u σ H1 Q else Q aq H1
noncomputable def tOr (t u:TT):TT:=fun σ H Q=>t σ H fun c H1=>if c=al then Q al H1 else u σ H1 Q
noncomputable def HF (t:TT):TT:=fun σ H Q=>t σ H fun c H1=>Q (!c) H1
theorem Qk (ha:PT X a tA):PW X (.BoolOp .And [a] pos) tA:=by
 intro wh pins s σ H Q I h;refine isTrue_and (thn (ha pins s σ H Q I h) fun c s1 e=>?_);cases c with
 |true=>exact isTrue_and_nil e
 |false=>exact e
theorem Nn (ha:PT X a tA):PW X (.BoolOp .Or [a] pos) tA:=by
 intro wh pins s σ H Q I h;refine isTrue_or (thn (ha pins s σ H Q I h) fun c s1 e=>?_);cases c with
 |false=>exact isTrue_or_nil e
 |true=>exact e
theorem HS (ha:PT X a tA) (hb:PW X (.BoolOp .And (b::bS) pos) tB'):PW X (.BoolOp .And (a::b::bS) pos) (OR tA tB'):=by
 intro wh pins s σ H Q I h;refine isTrue_and (thn (ha pins s σ H _ I h) fun c s1 ⟨H1,I1,q1⟩=>?_);cases c with
 |true=>exact hb wh pins s1 σ H1 Q I1 q1
 |false=>exact⟨H1,I1,q1⟩
theorem KU (ha:PT X a tA) (hb:PW X (.BoolOp .Or (b::bS) pos) tB'):PW X (.BoolOp .Or (a::b::bS) pos) (tOr tA tB'):=by
 intro wh pins s σ H Q I h;refine isTrue_or (thn (ha pins s σ H _ I h) fun c s1 ⟨H1,I1,q1⟩=>?_);cases c with
 |true=>exact⟨H1,I1,q1⟩
 |false=>exact hb wh pins s1 σ H1 Q I1 q1
theorem M2 (ha:PT X a tA):PT X (.UnaryOp .Not a pos) (HF tA):=by intro pins s σ H Q I h;exact isTrue_not (ha pins s σ H (fun c H1=>Q (!c) H1) I h)
noncomputable def GM (ta tb:TE):TE:=fun σ H Q=>ta σ H fun x H1=>∃c,x=.bl c/\if c=al then tb σ H1 Q else Q (.bl aq) H1
noncomputable def Ik (ta tb:TE):TE:=fun σ H Q=>ta σ H fun x H1=>∃c,x=.bl c/\if c=al then Q (.bl al) H1 else tb σ H1 Q
noncomputable def G9 (ta:TE):TE:=fun σ H Q=>ta σ H fun x H1=>∃c,x=.bl c/\Q (.bl (!c)) H1
theorem GO {op} {t:TE} (h:PE X a t):PE X (.BoolOp op [a] pos) t:=fun pins s σ H Q I hw=>BoolOp_one (h pins s σ H Q I hw)
theorem JP (ha:PE X a ta) (hb:PE X (.BoolOp .And (b::bS) pos) tb):PE X (.BoolOp .And (a::b::bS) pos) (GM ta tb):=by
 intro pins s σ H Q I h;refine BoolOp_and (thn (ha pins s σ H _ I h) fun v s1 ⟨x,H1,I1,r1,q1⟩=>?_);obtain⟨c,rfl,q1⟩:=q1;cases r1;refine lf ?_;cases c with
 |true=>exact hb pins s1 σ H1 Q I1 q1
 |false=>exact⟨.bl aq,H1,I1,rfl,q1⟩
theorem NN (ha:PE X a ta) (hb:PE X (.BoolOp .Or (b::bS) pos) tb):PE X (.BoolOp .Or (a::b::bS) pos) (Ik ta tb):=by
 intro pins s σ H Q I h;refine BoolOp_or (thn (ha pins s σ H _ I h) fun v s1 ⟨x,H1,I1,r1,q1⟩=>?_);obtain⟨c,rfl,q1⟩:=q1;cases r1;refine lf ?_;cases c with
 |false=>exact hb pins s1 σ H1 Q I1 q1
 |true=>exact⟨.bl al,H1,I1,rfl,q1⟩
theorem G7 (ha:PE X a ta):PE X (.UnaryOp .Not a pos) (G9 ta):=by intro pins s σ H Q I h;refine UnaryOp_ (thn (ha pins s σ H _ I h) fun v s1 ⟨x,H1,I1,r1,q1⟩=>?_);obtain⟨c,rfl,q1⟩:=q1;cases r1;exact not_of (lf ⟨.bl (!c),H1,I1,rfl,q1⟩)
end
noncomputable def SqL (K:aV) (H:Hp) (a:aw) (xs:ab V):Prop:=
 Rd H a (.lst xs) \/
  ∃(o:bh) (its:b8 av) (n:ag),K.lookup a=aa o/\o.cls=.type "list"/\o.dict=ac/\o.data=.seq its n/\its.size<=aM/\bi xs its.toList
noncomputable def SqT (K:aV) (H:Hp) (a:aw) (xs:ab V):Prop:=
 Rd H a (.tup xs) \/
  ∃(o:bh) (its:b8 av) (n:ag),K.lookup a=aa o/\o.cls=.type "tuple"/\o.data=.seq its n/\its.size<=aM/\bi xs its.toList
noncomputable def M0:av->ao V
 |.none=>aa .non
 |.bool b=>aa (.bl b)
 |.int i _=>aa (.int i)
 |.str x _=>aa (.str x)
 |.bytes b _=>aa (.byt b)
 |.float b _=>aa (.flt b)
 |.ref a=>aa (.ref a)
 |.type n=>aa (.ty n)
 |_=>ac
theorem bO.abs {x:V} (r:bO x u):M0 u=aa x:=by
 cases x with
 |non=>cases r;rfl
 |bl _=>cases r;rfl
 |int _=>obtain⟨t,rfl⟩:=r;rfl
 |str _=>obtain⟨t,rfl⟩:=r;rfl
 |byt _=>obtain⟨t,rfl⟩:=r;rfl
 |flt _=>obtain⟨t,rfl⟩:=r;rfl
 |ref _=>cases r;rfl
 |ty _=>cases r;rfl
theorem bO.inj {x y:V} (r:bO x u) (q:bO y u):x=y:=qH (r.abs.symm.trans q.abs)
theorem bi.inj:∀{xs ys:ab V} {us:ab av},bi xs us->bi ys us->xs=ys
 |_,_,_,.nil,.nil=>rfl
 |_,_,_,.cons r t,.cons r' t'=>by rw[r.inj r',bi.inj t t']
section
variable {xs ys:ab V}
theorem Inv.list (I:Inv X pins σ H s) (h:SqL X.K H a xs):∃its:ab av,bi xs its/\PlainL s.heap a its.toArray/\xs.length<=aM:=by
 rcases h with h|⟨o,its,n,hk,hc,hd,hs,hz,r⟩
 .obtain⟨z,its,n,r,e⟩:=h.ok I.hok;exact⟨its,r,⟨_,n,e,rfl,rfl,rfl⟩,z⟩
 .refine⟨its.toList,r,⟨o,n,I.kIn a o hk,hc,hd,by simpa using hs⟩,?_⟩;have e:=r.length;simp only[iu] at e;omega
theorem Inv.tuple (I:Inv X pins σ H s) (h:SqT X.K H a xs):∃its:ab av,bi xs its/\uF s.heap a its.toArray/\xs.length<=aM:=by
 rcases h with h|⟨o,its,n,hk,hc,hs,hz,r⟩
 .obtain⟨z,its,r,p⟩:=h.ok I.hok;exact⟨its,r,p,z⟩
 .refine⟨its.toList,r,⟨o,I.kIn a o hk,hc,n,by simpa using hs⟩,?_⟩;have e:=r.length;simp only[iu] at e;omega
theorem Inv.list_inj (I:Inv X pins σ H s) (h:SqL X.K H a xs) (h':SqL X.K H a ys):xs=ys:=by
 obtain⟨its,r,⟨o,n,e,_,_,d⟩,_⟩:=I.list h;obtain⟨its',r',⟨o',n',e',_,_,d'⟩,_⟩:=I.list h';rw[e] at e';cases e';rw[d] at d';injection d' with d1 _;have:its=its':=by simpa using df Q1 d1
 subst this;exact r.inj r'
theorem Inv.tuple_inj (I:Inv X pins σ H s) (h:SqT X.K H a xs) (h':SqT X.K H a ys):xs=ys:=by
 obtain⟨its,r,⟨o,e,_,n,d⟩,_⟩:=I.tuple h;obtain⟨its',r',⟨o',e',_,n',d'⟩,_⟩:=I.tuple h';rw[e] at e';cases e';rw[d] at d';injection d' with d1 _;have:its=its':=by simpa using df Q1 d1
 subst this;exact r.inj r'
end
abbrev Cx.wish (X:Cx) (E:av->aI->Prop):Cx:={X with xe:=E}
abbrev Cx.nox (X:Cx):Cx:=X.wish fun _ _=>False
theorem Cx.Ok.wish (ok:X.Ok) (E:av->aI->Prop):(X.wish E).Ok:=
 ⟨ok.mod,ok.kind,ok.glob,ok.blt,ok.above,ok.inj,ok.has,ok.cab,ok.hd,ok.frames,ok.stk,ok.exf,ok.bs,ok.bsz,ok.noex,ok.exfs,ok.funs,ok.frf⟩
theorem Cx.Ok.unwish (ok:(X.wish E).Ok):X.Ok:=
 ⟨ok.mod,ok.kind,ok.glob,ok.blt,ok.above,ok.inj,ok.has,ok.cab,ok.hd,ok.frames,ok.stk,ok.exf,ok.bs,ok.bsz,ok.noex,ok.exfs,ok.funs,ok.frf⟩
theorem Inv.wish (I:Inv X pins σ H s) (E:av->aI->Prop):Inv (X.wish E) pins σ H s:=⟨I.ok.wish E,I.os,I.bare,I.base,I.loc,I.cell,I.free,I.freeC,I.pin,I.hok,I.len⟩
theorem Inv.unwish (I:Inv (X.wish E) pins σ H s):Inv X pins σ H s:=⟨I.ok.unwish,I.os,I.bare,I.base,I.loc,I.cell,I.free,I.freeC,I.pin,I.hok,I.len⟩
theorem SP.unwish {D:Ends} {f:Flow} {s':aI} (h:SP (X.wish E) pins D f s'):SP X pins D f s':=by
 cases f with
 |next=>obtain⟨σ',H',I,q⟩:=h;exact⟨σ',H',I.unwish,q⟩
 |brk=>obtain⟨σ',H',I,q⟩:=h;exact⟨σ',H',I.unwish,q⟩
 |cont=>obtain⟨σ',H',I,q⟩:=h;exact⟨σ',H',I.unwish,q⟩
 |ret u=>obtain⟨v,σ',H',I,r,q⟩:=h;exact⟨v,σ',H',I.unwish,r,q⟩
theorem PSs.nox {st:ab Stmt} {t:TS} (h:PSs X.nox st t):PSs X st t:=fun pins s σ H D I hw=>
 ir (h pins s σ H D (I.wish _) hw) (fun _ _ q=>q.unwish) fun _ _ z=>iM z
variable {st:Stmt} {te:TE} {c:Expr} {tc:TT}
section
variable {bS:ab Stmt} {t u:TS}
noncomputable def Og:TS:=fun D σ H=>D.nx σ H
noncomputable def ID (t u:TS):TS:=fun D σ H=>t {D with nx:=u D} σ H
theorem Pk:PSs X [] Og:=fun _ _ σ H _ I h=>yD ⟨σ,H,I,h⟩
theorem Qu (h1:PS X st t) (h2:PSs X bS u):PSs X (st::bS) (ID t u):=by
 intro pins s σ H D I h;refine Q2 (thn (h1 pins s σ H {D with nx:=u D} I h) fun f s1 q=>?_);cases f with
 |next=>
  obtain⟨σ',H',I',q⟩:=q;exact h2 pins s1 σ' H' D I' q
 |ret v=>exact q
 |brk=>exact q
 |cont=>exact q
theorem Aj (h1:PS X st t):PSs X [st] t:=by
 intro pins s σ H D I h;refine Q2 (thn (h1 pins s σ H D I h) fun f s1 q=>?_);cases f with
 |next=>exact yD q
 |ret v=>exact q
 |brk=>exact q
 |cont=>exact q
theorem Inv.quiet (I:Inv X pins σ H s):interactive X.env=aq:=by simp[interactive,I.ok.kind]
noncomputable def P' (te:TE):TS:=fun D σ H=>te σ H fun _ H1=>D.nx σ H1
theorem p7 (he:PE X e te) (hs:eW e ac pos.line X.env=bm aq:=by rfl):PS X (.Expr e pos) (P' te):=by intro pins s σ H D I h;exact wpAny_Expr_any (thn (he pins s σ H _ I h) fun v s1 ⟨x,H1,I1,r1,q1⟩=>⟨σ,H1,I1,q1⟩) I.quiet hs
noncomputable def Gx (te:TE):TS:=fun D σ H=>te σ H D.rt
theorem wp (he:PE X e te):PS X (.Return (aa e) pos) (Gx te):=by intro pins s σ H D I h;exact wpAny_Return_some (thn (he pins s σ H _ I h) fun v s1 ⟨x,H1,I1,r1,q1⟩=>⟨x,σ,H1,I1,r1,q1⟩)
noncomputable def N9 (c:TT) (t u:TS):TS:=fun D σ H=>c σ H fun b H1=>if b=al then t D σ H1 else u D σ H1
theorem Mv {a b:ab Stmt} (hc:PT X c tc) (ha:PSs X a t) (hb:PSs X b u):PS X (.If c a b pos) (N9 tc t u):=by
 intro pins s σ H D I h;refine wpAny_If (thn (hc pins s σ H _ I h) fun d s1 ⟨H1,I1,q1⟩=>?_);cases d with
 |true=>exact ha pins s1 σ H1 D I1 q1
 |false=>exact hb pins s1 σ H1 D I1 q1
end
abbrev TG:=V->St->Hp->(St->Hp->Prop)->Prop
abbrev TGs:=ab V->St->Hp->(St->Hp->Prop)->Prop
noncomputable def PG (X:Cx) (target:Expr) (t:TG):Prop:=
 ∀(pins:ab (aw×bh)) (s:aI) (σ:St) (H:Hp) (v:V) (u:av) (Q:St->Hp->Prop),Inv X pins σ H s->bO v u->t v σ H Q->
  aJ (aQ X.prog X.w) X.A (ki target X.env u) (fun _ s'=>∃σ' H',Inv X pins σ' H' s'/\Q σ' H') X.xe s
noncomputable def PGs (X:Cx) (ts:ab Expr) (t:TGs):Prop:=
 ∀(pins:ab (aw×bh)) (s:aI) (σ:St) (H:Hp) (vs:ab V) (us:ab av) (Q:St->Hp->Prop),Inv X pins σ H s->bi vs us->t vs σ H Q->
  aJ (aQ X.prog X.w) X.A (assignInOrder ((fN ts X.env).map (·.2)) us) (fun _ s'=>∃σ' H',Inv X pins σ' H' s'/\Q σ' H') X.xe s
variable {es:ab Expr} {n:ag} {tg:Expr} {pos':dF}
noncomputable def mC (i:ag):TG:=fun v σ H Q=>Q (σ.set i (aa v)) H
theorem Bz (hN:X.N.Nodup) (hi:X.N[i]?=aa x) (hx:Loc X.env.scope x) (hf:X.fn x=al\/X.env.scope.names.lookup x=aa .local:=by first|exact .inl rfl|exact .inr rfl|assumption):PG X (.Name x pos) (mC i):=by intro pins s σ H v u Q I r h;exact Q3 (A7 I hN hi hx r (fun s' I'=>⟨_,H,I',h⟩) hf)
noncomputable def P4:TGs:=fun vs σ H Q=>vs=[]/\Q σ H
noncomputable def KG (t:TG) (u:TGs):TGs:=fun vs σ H Q=>∃v r,vs=v::r/\t v σ H fun σ' H'=>u r σ' H' Q
theorem NW:PGs X [] P4:=by intro pins s σ H vs us Q I r h;obtain⟨e,h⟩:=h;subst e;cases r;exact assignInOrder_nil ⟨σ,H,I,h⟩
theorem MX {t:TG} {u:TGs} (h1:PG X e t) (h2:PGs X es u)
  (hs:(fN (e::es) X.env).map (·.2)=ki e X.env::(fN es X.env).map (·.2):=by rfl):PGs X (e::es) (KG t u):=by
 intro pins s σ H vs us Q I r h;obtain⟨v,vr,e1,h⟩:=h;subst e1;cases r with
 |cons r rr=>
  rw[hs];refine assignInOrder_cons (thn (h1 pins s σ H _ _ _ I r h) fun _ s1 ⟨σ1,H1,I1,q1⟩=>?_);exact h2 pins s1 σ1 H1 _ _ Q I1 rr q1
noncomputable def J0 (K:aV) (n:ag) (t:TGs):TG:=fun v σ H Q=>∃a xs,v=.ref a/\SqT K H a xs/\xs.length=n/\t xs σ H Q
theorem GI {k:ag} {t:TGs} (hc:X.calm=al) (h:PGs X es t)
  (hn:(fN es X.env).length=n:=by rfl) (hst:(fN es X.env).findIdx? (·.1)=ac:=by rfl):PG X (.Tuple es k pos) (J0 X.K n t):=by
 intro pins s σ H v u Q I r hw;obtain⟨a,xs,e1,hq,hl,hw⟩:=hw;subst e1;cases r;obtain⟨its,rv,ht,hz⟩:=I.tuple hq;refine assign_Tuple_tuple (I.ok.hd hc) ht (by simp[hn,←hl,rv.length]) hst fun h' hx=>?_;have I1:Inv X pins σ H {s with heap:=h'}:=I.kept (t':=s.toks) fun b o e=>hx b o (qC (qu e)) e;exact h pins _ σ H xs _ Q I1 (by simpa using rv) hw
noncomputable def mO (te:TE) (g:TG):TS:=fun D σ H=>te σ H fun x H1=>g x σ H1 D.nx
theorem LO {g:TG} (he:PE X e te) (hg:PG X tg g) (hs:swapsWithSole [tg] e pos.line X.env=bm aq:=by rfl) (hw:swappedStores [tg] e X.env=bm ac:=by rfl)
  (h1:(fN [tg] X.env).map (·.2)=[ki tg X.env]:=by rfl):PS X (.Assign [tg] e pos) (mO te g):=by
 intro pins s σ H D I h;refine wpAny_Assign_stores (thn (he pins s σ H _ I h) fun v s1 ⟨x,H1,I1,r1,q1⟩=>?_) hs hw;rw[h1];exact thn (hg pins s1 σ H1 x v _ I1 r1 q1) fun _ s2 q=>q
theorem pQ (hN:X.N.Nodup) (hi:X.N[i]?=aa x) (hx:Loc X.env.scope x) (he:PE X e te) (hs:eW e (aa (.Name x pos')) pos.line X.env=bm aq:=by rfl) (hf:X.fn x=al\/X.env.scope.names.lookup x=aa .local:=by first|exact .inl rfl|exact .inr rfl|assumption) :
  PS X (.Assign [.Name x pos'] e pos) (mO te (mC i)):=by
 intro pins s σ H D I h;refine wpAny_Assign_Name (thn (he pins s σ H _ I h) fun v s1 ⟨y,H1,I1,r1,q1⟩=>?_) hs;exact A7 I1 hN hi hx r1 (fun s2 I2=>⟨_,H1,I2,q1⟩) hf
variable {body:ab Stmt}
noncomputable def Oh (c:TT) (tb:TS):TS:=fun D σ H=>∃W:ag->St->Hp->Prop,(∃m,W m σ H)/\∀m σ H,W m σ H->
 c σ H fun b H1=>if b=al then ∃N:St->Hp->Prop,(∀σ' H',N σ' H'->∃m',m'<m/\W m' σ' H')/\tb {D with nx:=N,ct:=N,bk:=D.nx} σ H1 else D.nx σ H1
theorem K9 {tb:TS} (hp:uH (aQ X.prog X.w) X.A X.env X.xe) (hc:PT X c tc) (hb:PSs X body tb):PS X (.While c body [] pos) (Oh tc tb):=by
 intro pins s σ H D I h;obtain⟨W,⟨m0,w0⟩,turn⟩:=h;refine wpAny_While (codeAny_whileLoop (fun n s'=>∃σ' H',Inv X pins σ' H' s'/\W n σ' H') ?_ m0 ⟨σ,H,I,w0⟩);rintro n s1 ⟨σ1,H1,I1,w1⟩;refine oo hp (thn (hc pins s1 σ1 H1 _ I1 (turn n σ1 H1 w1)) fun b s2 ⟨H2,I2,q2⟩=>?_);cases b with
 |true=>
  obtain⟨N,hN,q2⟩:=q2;rw[qY rfl];refine oo hp (thn (hb pins s2 σ1 H2 _ I2 q2) fun f s3 q3=>?_);cases f with
  |next=>
   obtain⟨σ3,H3,I3,n3⟩:=q3;obtain⟨m',hm,w3⟩:=hN σ3 H3 n3;exact⟨m',hm,σ3,H3,I3,w3⟩
  |cont=>
   obtain⟨σ3,H3,I3,n3⟩:=q3;obtain⟨m',hm,w3⟩:=hN σ3 H3 n3;exact⟨m',hm,σ3,H3,I3,w3⟩
  |brk=>exact q3
  |ret v=>exact q3
 |false=>
  rw[qZ qr];exact yD ⟨σ1,H2,I2,q2⟩
structure It where
 go:ag->Hp->Prop
 yld:ag->Hp->V->Hp->Prop
 stop:ag->Hp->Prop
noncomputable def ig (X:Cx) (pins:ab (aw×bh)) (H:Hp) (b:aw):Prop:=
 H b=ac/\b≠X.env.locals/\b∉X.fs/\(b∈X.ex\/X.s₀.heap.objs.size<=b)/\(∀x c,X.env.cells.lookup x=aa c->c≠b)/\∀p∈X.pn++pins,p.1≠b
theorem Inv.fpOk {b:aw} (I:Inv X pins σ H s) (hb:s.heap.objs.size<=b) (hn:H' b=ac):ig X pins H' b:=by
 refine⟨hn,yE (qF I.lt hb),I.nofs hb,.inr (qM I.sz hb),fun x c e z=>?_,fun p hp z=>?_⟩
 .obtain⟨v,q⟩:=I.cell x c e;exact bN (qF q.lt (by rw[z];exact hb)) (rA _)
 .exact bN (qF (qu (I.pin p hp).1) (by rw[z];exact hb)) (rA _)
structure Turn (P:dS) (w:cQ) (K:aV) (tg:Expr) (J:It) (fp:ab aw) (it:aw) (tn:ag->Heap->Prop):Prop where
 mem:it∈fp
 obj:∀i h,tn i h->∀b∈fp,∃o,h.get? b=aa o/\∀v,o.data≠.cell v
 keep:∀i h h',tn i h->(∀b∈fp,∀o,h.get? b=aa o->h'.get? b=aa o)->tn i h'
 item:∀(X:Cx),X.prog=P->X.w=w->X.K=K->X.calm=al->∀(i:ag) (pins:ab (aw×bh)) (s:aI) (σ:St) (H:Hp) (E:av->aI->Prop),Inv X pins σ H s->(∀b∈fp,ig X pins H b)->tn i s.heap->J.go i H->
  aJ (aQ P w) X.A (mZ (.ref it)) (fun r s1=>∃u,r=aa u /\
   aJ (aQ P w) X.A (uI tg (.ref it) u) (fun _ s2=>∃x H',Inv X pins σ H' s2/\bO x u/\J.yld i H x H'/\tn (i+1) s2.heap/\∀b∈fp,H' b=ac) E s1) E s
 done:∀(X:Cx),X.prog=P->X.w=w->X.K=K->X.calm=al->∀(i:ag) (pins:ab (aw×bh)) (s:aI) (σ:St) (H:Hp) (E:av->aI->Prop),Inv X pins σ H s->(∀b∈fp,ig X pins H b)->tn i s.heap->J.stop i H->
  aJ (aQ P w) X.A (mZ (.ref it)) (fun r s1=>r=ac/\Inv X pins σ H s1) E s
 self:∀(A:dL) (i:ag) (s:aI) (Q:av->aI->Prop) (E:av->aI->Prop),tn i s.heap->Q (.ref it) s->aJ (aQ P w) A (uJ (.ref it)) Q E s
abbrev TI:=St->Hp->(It->Hp->Prop)->Prop
noncomputable def PIE (X:Cx) (pins:ab (aw×bh)) (σ:St) (tg:Expr) (R:It->Hp->Prop) (itv:av) (s2:aI):Prop:=
 ∃(it:aw) (fp:ab aw) (tn:ag->Heap->Prop) (J:It) (H':Hp),itv=.ref it/\Inv X pins σ H' s2/\Turn X.prog X.w X.K tg J fp it tn/\tn 0 s2.heap/\(∀b∈fp,ig X pins H' b)/\R J H'
noncomputable def PI (X:Cx) (tg iter:Expr) (wi:TI):Prop:=
 ∀(pins:ab (aw×bh)) (s:aI) (σ:St) (H:Hp) (R:It->Hp->Prop),Inv X pins σ H s->wi σ H R->
  aJ (aQ X.prog X.w) X.A (eval iter X.env) (fun v s1=>aJ (aQ X.prog X.w) X.A (uJ v) (PIE X pins σ tg R) X.xe s1) X.xe s
theorem xc {M:uG} {it:aw} {o:bh} {n:cH} {vs:b8 av} {Q:lT->aI->Prop} (ho:s.heap.get? it=aa o) (hc:o.cls=.type n) (hd:o.data=.fields vs)
  (hn:["enumerate","zip","dict_itemiterator","dict_reverseitemiterator","odict_iterator","itertools.zip_longest","itertools.pairwise"].contains n=aq) (hQ:Q () s):aJ M A (uI tg (.ref it) u) Q E s:=by
 unfold uI;cases tg<;>first
  |exact qA hQ
  |(cases u<;>first
    |exact qA hQ
    |(refine qx (wpAny_load ho ?_);rw[hc,hd];show aJ M A (if (["enumerate","zip","dict_itemiterator","dict_reverseitemiterator","odict_iterator","itertools.zip_longest","itertools.pairwise"].contains n && vs[0]?==aa (rawInt _))=al then _ else _) Q E s;rw[qZ (by intro h;rw[hn,Bool.false_and] at h;cases h)];exact qA hQ))
noncomputable def Itl (K:aV) (a:aw):It:=
 ⟨fun i H=>∃xs x,SqL K H a xs/\xs[i]?=aa x,fun i H x H'=>H'=H/\∀xs,SqL K H a xs->xs[i]?=aa x,fun i H=>∃xs,SqL K H a xs/\xs.length<=i⟩
noncomputable def Itt (K:aV) (a:aw):It:=
 ⟨fun i H=>∃xs x,SqT K H a xs/\xs[i]?=aa x,fun i H x H'=>H'=H/\∀xs,SqT K H a xs->xs[i]?=aa x,fun i H=>∃xs,SqT K H a xs/\xs.length<=i⟩
noncomputable def Itr (lo:af) (n:ag):It:=⟨fun i _=>i<n,fun i H x H'=>H'=H/\x=.int (lo+i),fun i _=>n<=i⟩
variable {K:aV}
theorem HK (a it:aw):Turn P w K tg (Itl K a) [it] it (fun i h=>h.IsListIter it a i) where
 mem:=by simp
 obj:=fun i h st b hb=>by
  have e:b=it:=by simpa using hb
  subst e;obtain⟨o,e,c,d⟩:=st;exact⟨o,e,fun v z=>by rw[d] at z;cases z⟩
 keep:=fun i h h' st k=>st.at fun o e=>k it (by simp) o e
 item:=by intro X hP hw hK hc i pins s σ H E I hf st hg;subst hP hw hK;obtain⟨xs,x,hq,hx⟩:=hg;obtain⟨its,rv,p,hz⟩:=I.list hq;obtain⟨u,hu,ru⟩:=rv.get hx;obtain⟨f0,f1,f2,f3,f4,f5⟩:=hf it (by simp);refine Q4 st p.isList (x:=u) (by simpa using hu) fun h' st' sb=>?_;have I1:Inv X pins σ H {s with heap:=h'}:=I.turned (t':=s.toks) (fun b o hb e=>(sb.2 b hb).trans e) f0 f1 f3 f4 f5;obtain⟨o,e,c,d⟩:=id st';exact⟨u,rfl,xc (s:={s with heap:=h'}) e c d (by decide) ⟨x,H,I1,ru,⟨rfl,fun ys hy=>by rw[I.list_inj hy hq];exact hx⟩,st',fun b hb=>(hf b hb).1⟩⟩
 done:=by intro X hP hw hK hc i pins s σ H E I hf st hg;subst hP hw hK;obtain⟨xs,hq,hx⟩:=hg;obtain⟨its,rv,p,hz⟩:=I.list hq;obtain⟨f0,f1,f2,f3,f4,f5⟩:=hf it (by simp);have hl:=rv.length;exact Q5 (I.ok.hd hc) st p.isList (by simp;omega) fun h' eb=>⟨rfl,I.turned (t':=s.toks) (fun b o hb e=>eb b o hb e) f0 f1 f3 f4 f5⟩
 self:=fun _ _ _ _ _ st h=>wpAny_pyIter_listiter st h
theorem HC (a it:aw):Turn P w K tg (Itt K a) [it] it (fun i h=>h.IsTupleIter it a i) where
 mem:=by simp
 obj:=fun i h st b hb=>by
  have e:b=it:=by simpa using hb
  subst e;obtain⟨o,e,c,d⟩:=st;exact⟨o,e,fun v z=>by rw[d] at z;cases z⟩
 keep:=fun i h h' st k=>st.at fun o e=>k it (by simp) o e
 item:=by intro X hP hw hK hc i pins s σ H E I hf st hg;subst hP hw hK;obtain⟨xs,x,hq,hx⟩:=hg;obtain⟨its,rv,p,hz⟩:=I.tuple hq;obtain⟨u,hu,ru⟩:=rv.get hx;obtain⟨f0,f1,f2,f3,f4,f5⟩:=hf it (by simp);refine wpAny_pyNext_tuple_item st (show s.heap.IsTuple a its.toArray from p) (x:=u) (by simpa using hu) fun h' st' sb=>?_;have I1:Inv X pins σ H {s with heap:=h'}:=I.turned (t':=s.toks) (fun b o hb e=>(sb.2 b hb).trans e) f0 f1 f3 f4 f5;obtain⟨o,e,c,d⟩:=id st';exact⟨u,rfl,xc (s:={s with heap:=h'}) e c d (by decide) ⟨x,H,I1,ru,⟨rfl,fun ys hy=>by rw[I.tuple_inj hy hq];exact hx⟩,st',fun b hb=>(hf b hb).1⟩⟩
 done:=by intro X hP hw hK hc i pins s σ H E I hf st hg;subst hP hw hK;obtain⟨xs,hq,hx⟩:=hg;obtain⟨its,rv,p,hz⟩:=I.tuple hq;obtain⟨f0,f1,f2,f3,f4,f5⟩:=hf it (by simp);have hl:=rv.length;exact wpAny_pyNext_tuple_end (I.ok.hd hc) st (show s.heap.IsTuple a its.toArray from p) (by simp;omega) fun h' eb=>⟨rfl,I.turned (t':=s.toks) (fun b o hb e=>eb b o hb e) f0 f1 f3 f4 f5⟩
 self:=fun _ _ _ _ _ st h=>wpAny_pyIter_tupleiter st h
theorem LM (it:aw) (lo:af) (n:ag):Turn P w K tg (Itr lo n) [it] it (fun i h=>IsRangeIter h it (lo+(i:ag)*1) ((n:af)-(i:ag)) 1) where
 mem:=by simp
 obj:=fun i h st b hb=>by
  have e:b=it:=by simpa using hb
  subst e;exact⟨_,st,fun v z=>by have z':Data.fields _=Data.cell v:=z;cases z'⟩
 keep:=fun i h h' st k=>k it (by simp) _ st
 item:=by intro X hP hw hK hc i pins s σ H E I hf st hg;subst hP hw hK;obtain⟨f0,f1,f2,f3,f4,f5⟩:=hf it (by simp);have W:=Walks.range (prog:=X.prog) (w:=X.w) (I.ok.hd hc) it lo 1 n;refine W.item i s _ _ hg st fun v h' tk hv st' kk=>?_;obtain⟨t,rfl⟩:=hv;have I1:Inv X pins σ H {s with heap:=h',toks:=tk}:=I.turned (fun b o hb e=>kk b o (by simpa using hb) e) f0 f1 f3 f4 f5;refine⟨_,rfl,xc (s:={s with heap:=h',toks:=tk}) (n:="range_iterator") st' rfl rfl (by decide) ⟨.int (lo+i),H,I1,⟨t,?_⟩,⟨rfl,rfl⟩,st',fun b hb=>(hf b hb).1⟩⟩;rw[Int.mul_one]
 done:=by intro X hP hw hK hc i pins s σ H E I hf st hg;subst hP hw hK;obtain⟨f0,f1,f2,f3,f4,f5⟩:=hf it (by simp);exact wpAny_pyNext_range_end (I.ok.hd hc) st (by have:n<=i:=hg;omega) fun h' eb=>⟨rfl,I.turned (t':=s.toks) (fun b o hb e=>eb b o hb e) f0 f1 f3 f4 f5⟩
 self:=fun _ _ _ _ _ st h=>wpAny_pyIter_rangeiter st h
variable {lo:af} {p:dF} {fp:ab aw} {iter:Expr} {wi:TI}
theorem Cw {R:It->Hp->Prop} {hi:af} {t u v:Tok} {tk:ag} (I:Inv X pins σ H s) (h1 : -(2 ^ 62)<=lo) (h2:lo<2 ^ 62) (h3 : -(2 ^ 62)<=hi) (h4:hi<2 ^ 62)
  (q:R (Itr lo (hi-lo).toNat) H):aJ (aQ X.prog X.w) X.A (uJ (.ref s.heap.objs.size)) (PIE X pins σ tg R) E {s with heap:=s.heap.push {cls:=.type "range",data:=.fields #[.int lo t,.int hi u,.int 1 v]},toks:=tk}:=by
 refine wpAny_pyIter_range (Q6 ..) (small_one h1 h2 h3 h4) ?_;have I1:Inv X pins σ H {s with heap:=s.heap.push {cls:=.type "range",data:=.fields #[.int lo t,.int hi u,.int 1 v]},toks:=tk}:=I.kept fun b o e=>qt _ e;refine⟨(s.heap.push {cls:=.type "range",data:=.fields #[.int lo t,.int hi u,.int 1 v]}).objs.size,[(s.heap.push {cls:=.type "range",data:=.fields #[.int lo t,.int hi u,.int 1 v]}).objs.size],_,_,H,rfl,
  I1.kept (t':=tk) fun b o e=>qt _ e,LM _ lo (hi-lo).toNat,?_,fun b hb=>?_,q⟩
 .have e1:lo+((0:ag):af)*1=lo:=by simp
  have e2:(((hi-lo).toNat:ag):af)-((0:ag):af)=Q7 lo hi 1:=by rw[rangeSize_one];split<;>omega
  show IsRangeIter _ _ (lo+((0:ag):af)*1) ((((hi-lo).toNat:ag):af)-((0:ag):af)) 1;rw[e1,e2];exact qG _ rfl
 .have e:b=(s.heap.push {cls:=.type "range",data:=.fields #[.int lo t,.int hi u,.int 1 v]}).objs.size:=by simpa using hb
  subst e;exact I1.fpOk (qv _) (I1.hok.fresh (qv _))
noncomputable def Jt (ta:TA):TI:=fun σ H R=>ta σ H fun vs H1=>∃j:af,vs=[.int j] /\ -(2 ^ 62)<=j/\j<2 ^ 62/\R (Itr 0 j.toNat) H1
noncomputable def Hl (ta:TA):TI:=fun σ H R=>ta σ H fun vs H1=>∃i j:af,vs=[.int i,.int j]/\(-(2 ^ 62)<=i/\i<2 ^ 62 /\ -(2 ^ 62)<=j/\j<2 ^ 62)/\R (Itr i (j-i).toNat) H1
theorem JM {a:Expr} {ta:TA} (hg:Gl X "range") (hm:X.mg "range"=ac) (ha:PA X [a] ta) (hs:aS [a] X.env=[(aq,eval a X.env)]:=by rfl):PI X tg (.Call (.Name "range" p) [a] [] pos) (Jt ta):=by
 intro pins s σ H R I h;refine Call_ (lx I hg hm EO (rE (thn (ha pos pins s σ H _ I h) fun us s1 ⟨vs,H1,I1,r1,q1⟩=>?_) hs rfl));obtain⟨j,e,q1,q2,q⟩:=q1;subst e;cases r1 with
 |cons r rr=>
  cases rr;obtain⟨t,rfl⟩:=r;exact call_range_1 (Cw I1 (by omega) (by omega) q1 q2 (by simpa using q))
theorem IK {a:Expr} {ta:TA} (hg:Gl X "range") (hm:X.mg "range"=ac) (ha:PA X [a,b] ta) (hs:aS [a,b] X.env=[(aq,eval a X.env),(aq,eval b X.env)]:=by rfl) (hs2:aS [b] X.env=[(aq,eval b X.env)]:=by rfl) :
  PI X tg (.Call (.Name "range" p) [a,b] [] pos) (Hl ta):=by
 intro pins s σ H R I h;refine Call_ (lx I hg hm EO (rE (thn (ha pos pins s σ H _ I h) fun us s1 ⟨vs,H1,I1,r1,q1⟩=>?_) (by rw[hs,hs2]) (by rw[hs2];rfl)));obtain⟨i,j,e,⟨q1,q2,q3,q4⟩,q⟩:=q1;subst e;cases r1 with
 |cons r rr=>
  cases rr with
  |cons r' rr=>
   cases rr;obtain⟨t,rfl⟩:=r;obtain⟨t',rfl⟩:=r';exact call_range_2 (Cw I1 q1 q2 q3 q4 q)
noncomputable def Ow (wi:TI) (g:TG) (tb:TS):TS:=fun D σ H=>wi σ H fun J H1=>∃W:ag->ag->St->Hp->Prop,(∃m,W 0 m σ H1)/\∀i m σ H,W i m σ H->
 (J.stop i H/\D.nx σ H)\/(J.go i H/\∃N:St->Hp->Prop,(∀σ' H',N σ' H'->∃m',m'<m/\W (i+1) m' σ' H')/\∀x H',J.yld i H x H'->g x σ H' fun σ2 H2=>tb {D with nx:=N,ct:=N,bk:=D.nx} σ2 H2)
noncomputable def pC (fp:ab aw) (h:Heap):ab (aw×bh):=fp.filterMap fun b=>(h.get? b).map fun o=>(b,o)
theorem tX {h:Heap} {b:aw} {o:bh} (hb:b∈fp) (e:h.get? b=aa o):(b,o)∈pC fp h:=yF.mpr ⟨b,hb,by rw[e];rfl⟩
theorem G0 {h:Heap} {p:aw×bh} (hp:p∈pC fp h):p.1∈fp/\h.get? p.1=aa p.2:=by
 obtain⟨b,hb,e⟩:=yF.mp hp;cases q:h.get? b with
 |none=>rw[q] at e;cases e
 |some o=>
  rw[q] at e;have e':(b,o)=p:=qH e;subst e';exact⟨hb,q⟩
theorem Inv.pinned (I:Inv X pins σ H s) (hf:∀b∈fp,ig X pins H b) (ho:∀b∈fp,∃o,s.heap.get? b=aa o/\∀v,o.data≠.cell v):Inv X (pins++pC fp s.heap) σ H s:=
 I.pins_of fun p hp=>(cL.mp hp).elim (fun z=>I.pin p (qQ _ z)) fun z=>by obtain⟨hb,e⟩:=G0 z;obtain⟨f0,f1,f2,_⟩:=hf p.1 hb;obtain⟨o,e',d⟩:=ho p.1 hb;rw[e] at e';cases e';exact⟨e,f0,f1,f2,d⟩
theorem Inv.unpinned {pl:ab (aw×bh)} (I:Inv X (pins++pl) σ H s):Inv X pins σ H s:=I.pins_of fun p hp=>I.pin p (qQ _ (EM _ hp))
theorem C1 {g:TG} {tb:TS} (hp:uH (aQ X.prog X.w) X.A X.env X.xe) (hc:X.calm=al) (hi:PI X tg iter wi) (hg:PG X tg g) (hb:PSs X body tb)
  (hs:∀x,lV iter X.env x=bm x:=by intro _;rfl):PS X (.For tg iter body [] pos) (Ow wi g tb):=by
 intro pins s σ H D I h;refine wpAny_For (thn (hi pins s σ H _ I h) fun v s1 h1=>thn h1 fun itv s2 h2=>?_) hs;obtain⟨it,fp,tn,J,H2,e,I2,T,st2,f2,W,⟨m0,w0⟩,turn⟩:=h2;subst e;have stat:∀{H':Hp},(∀b∈fp,H' b=ac)->∀b∈fp,ig X pins H' b:=fun hn b hb=>⟨hn b hb,(f2 b hb).2⟩;refine codeAny_forLoop_any (fun n s'=>∃i σ' H',Inv X pins σ' H' s'/\tn i s'.heap/\(∀b∈fp,H' b=ac)/\W i n σ' H') ?_ m0 ⟨0,σ,H2,I2,st2,fun b hb=>(f2 b hb).1,w0⟩;rintro n s3 ⟨i,σ3,H3,I3,st3,fr3,w3⟩;rcases turn i n σ3 H3 w3 with⟨stop,qn⟩|⟨go,N,hN,step⟩
 .refine oo hp (thn (T.done X rfl rfl rfl hc i pins s3 σ3 H3 X.xe I3 (stat fr3) st3 stop) fun r s4 ⟨hr,I4⟩=>?_);subst hr;exact yD ⟨σ3,H3,I4,qn⟩
 .refine oo hp (thn (T.item X rfl rfl rfl hc i pins s3 σ3 H3 X.xe I3 (stat fr3) st3 go) fun r s4 ⟨u,hr,h4⟩=>?_);subst hr;refine oo hp (thn h4 fun _ s5 ⟨x,H5,I5,r5,y5,st5,fr5⟩=>?_);have I5':=I5.pinned (stat fr5) (T.obj _ _ st5);refine oo hp (thn (hg _ s5 σ3 H5 x u _ I5' r5 (step x H5 y5)) fun _ s6 ⟨σ6,H6,I6,q6⟩=>?_);refine oo hp (thn (hb _ s6 σ6 H6 _ I6 q6) fun f s7 q7=>?_);have again:∀{σ7:St} {H7:Hp},Inv X (pins++pC fp s5.heap) σ7 H7 s7->N σ7 H7->∃m,m<n/\∃i σ' H',Inv X pins σ' H' s7/\tn i s7.heap/\(∀b∈fp,H' b=ac)/\W i m σ' H':=fun {σ7 H7} I7 n7=>by obtain⟨m',hm,w7⟩:=hN σ7 H7 n7;refine⟨m',hm,i+1,σ7,H7,I7.unpinned,T.keep _ _ _ st5 fun b hb o e=>(I7.pin (b,o) (qQ _ (qQ _ (tX hb e)))).1,fun b hb=>?_,w7⟩;obtain⟨o,e,d⟩:=T.obj _ _ st5 b hb;exact(I7.pin (b,o) (qQ _ (qQ _ (tX hb e)))).2.1
  cases f with
  |next=>obtain⟨σ7,H7,I7,n7⟩:=q7;exact again I7 n7
  |cont=>obtain⟨σ7,H7,I7,n7⟩:=q7;exact again I7 n7
  |brk=>obtain⟨σ7,H7,I7,q7⟩:=q7;exact⟨σ7,H7,I7.unpinned,q7⟩
  |ret v=>obtain⟨x7,σ7,H7,I7,r7,q7⟩:=q7;exact⟨x7,σ7,H7,I7.unpinned,r7,q7⟩
abbrev R2:=V->V->Hp->VK->Prop
noncomputable def OpR (X:Cx) (f:av->av->iL av) (r:R2):Prop:=
 ∀(pins:ab (aw×bh)) (s:aI) (σ:St) (H:Hp) (x y:V) (v u:av) (Q:VK),Inv X pins σ H s->bO x v->bO y u->r x y H Q->
  aJ (aQ X.prog X.w) X.A (f v u) (EP X pins σ Q) X.xe s
noncomputable def UnR (X:Cx) (f:av->iL av) (r:V->Hp->VK->Prop):Prop:=
 ∀(pins:ab (aw×bh)) (s:aI) (σ:St) (H:Hp) (x:V) (v:av) (Q:VK),Inv X pins σ H s->bO x v->r x H Q->
  aJ (aQ X.prog X.w) X.A (f v) (EP X pins σ Q) X.xe s
noncomputable def fU (X:Cx) (f:av) (r:ab V->Hp->VK->Prop):Prop:=
 ∀(pins:ab (aw×bh)) (s:aI) (σ:St) (H:Hp) (xs:ab V) (us:ab av) (Q:VK),Inv X pins σ H s->bi xs us->r xs H Q->
  aJ (aQ X.prog X.w) X.A (call f us) (EP X pins σ Q) X.xe s
noncomputable def tOp (r:R2) (ta tb:TE):TE:=fun σ H Q=>ta σ H fun x H1=>tb σ H1 fun y H2=>r x y H2 Q
noncomputable def tUn (r:V->Hp->VK->Prop) (ta:TE):TE:=fun σ H Q=>ta σ H fun x H1=>r x H1 Q
noncomputable def rI (C:af->af->Prop) (g:af->af->V):R2:=fun x y H Q=>∃i j,x=.int i/\y=.int j/\C i j/\Q (g i j) H
noncomputable def rI0 (g:af->af->V):R2:=fun x y H Q=>∃i j,x=.int i/\y=.int j/\Q (g i j) H
noncomputable def rU (g:af->V):V->Hp->VK->Prop:=fun x H Q=>∃i,x=.int i/\Q (g i) H
variable {r:R2}
section
variable {a:Expr} {tc:TE}
theorem xr (ha:PE X a ta) (hb:PE X b tb) {R:V->V->Hp->Prop} (I:Inv X pins σ H s)
  (h:ta σ H fun x H1=>tb σ H1 fun y H2=>R x y H2) {f:av->av->iL av} 
  (hf:∀v u s2 x y H2,Inv X pins σ H2 s2->bO x v->bO y u->R x y H2->aJ (aQ X.prog X.w) X.A (f v u) Q X.xe s2) :
  aJ (aQ X.prog X.w) X.A (eval a X.env) (fun v s₁=>aJ (aQ X.prog X.w) X.A (eval b X.env) (fun u s₂=>aJ (aQ X.prog X.w) X.A (f v u) Q X.xe s₂) X.xe s₁) X.xe s:=by
 refine thn (ha pins s σ H _ I h) fun v s1 ⟨x,H1,I1,r1,q1⟩=>?_;refine thn (hb pins s1 σ H1 _ I1 q1) fun u s2 ⟨y,H2,I2,r2,q2⟩=>?_;exact hf v u s2 x y H2 I2 r1 r2 q2
theorem Es {op:Operator} (ho:OpR X (gc op) r) (ha:PE X a ta) (hb:PE X b tb):PE X (.BinOp a op b pos) (tOp r ta tb):=by intro pins s σ H Q I h;exact wpAny_BinOp (xr ha hb I h fun v u s2 x y H2 I2 rx ry q=>ho pins s2 σ H2 x y v u Q I2 rx ry q)
theorem KA {op:UnaryOp} {r:V->Hp->VK->Prop} (ho:UnR X (unaryOp op) r) (ha:PE X a ta):PE X (.UnaryOp op a pos) (tUn r ta):=by intro pins s σ H Q I h;exact UnaryOp_ (thn (ha pins s σ H _ I h) fun v s1 ⟨x,H1,I1,r1,q1⟩=>ho pins s1 σ H1 x v Q I1 r1 q1)
theorem opI {f:av->av->iL av} {C:af->af->Prop} {g:af->af->af} 
  (rule:∀(i j:af) (t u:Tok) (s:aI) (Q:av->aI->Prop) (E:av->aI->Prop),C i j->Q (.int (g i j) s.toks) {s with toks:=s.toks+1}->aJ (aQ X.prog X.w) X.A (f (.int i t) (.int j u)) Q E s) :
  OpR X f (rI C fun i j=>.int (g i j)):=by
 intro pins s σ H x y v u Q I rx ry h;obtain⟨i,j,rfl,rfl,hc,q⟩:=h;obtain⟨t,rfl⟩:=rx;obtain⟨t',rfl⟩:=ry;exact rule i j t t' s _ _ hc ⟨.int (g i j),H,I.tok _,⟨_,rfl⟩,q⟩
theorem Ec {f:av->av->iL av} {g:af->af->af} 
  (rule:∀(i j:af) (t u:Tok) (s:aI) (Q:av->aI->Prop) (E:av->aI->Prop),Q (.int (g i j) s.toks) {s with toks:=s.toks+1}->aJ (aQ X.prog X.w) X.A (f (.int i t) (.int j u)) Q E s) :
  OpR X f (rI0 fun i j=>.int (g i j)):=by
 intro pins s σ H x y v u Q I rx ry h;obtain⟨i,j,rfl,rfl,q⟩:=h;obtain⟨t,rfl⟩:=rx;obtain⟨t',rfl⟩:=ry;exact rule i j t t' s _ _ ⟨.int (g i j),H,I.tok _,⟨_,rfl⟩,q⟩
theorem vE {f:av->av->iL av} {g:af->af->bq} 
  (rule:∀(i j:af) (t u:Tok) (s:aI) (Q:av->aI->Prop) (E:av->aI->Prop),Q (.bool (g i j)) s->aJ (aQ X.prog X.w) X.A (f (.int i t) (.int j u)) Q E s) :
  OpR X f (rI0 fun i j=>.bl (g i j)):=by
 intro pins s σ H x y v u Q I rx ry h;obtain⟨i,j,rfl,rfl,q⟩:=h;obtain⟨t,rfl⟩:=rx;obtain⟨t',rfl⟩:=ry;exact rule i j t t' s _ _ ⟨.bl (g i j),H,I,rfl,q⟩
noncomputable def Hw (i j:af):Prop:=0<j/\j<1073741824
noncomputable def NR (i j:af):Prop:=0<=j/\j<=1000000/\i.natAbs<2 ^ 64
noncomputable def uC (i j:af):Prop:=(-(2 ^ 64)<i/\i<2 ^ 64)\/(-(2 ^ 64)<j/\j<2 ^ 64)
theorem uC.ok {i j:af} (h:uC i j):IntMulOk i j:=by
 rcases h with⟨h1,h2⟩|⟨h1,h2⟩
 .exact .of_left (intBits_le_64 h1 h2)
 .exact .of_right (intBits_le_64 h1 h2)
theorem L3 (k:ag):(0:af)<=2 ^ k:=by rw[two_pow_cast];exact Int.natCast_nonneg _
theorem PY:OpR X (gc .Add) (rI0 fun i j=>.int (i+j)):=Ec fun _ _ _ _ _ _ _ q=>add_int q
theorem O4:OpR X (gc .Sub) (rI0 fun i j=>.int (i-j)):=Ec fun _ _ _ _ _ _ _ q=>sub_int q
theorem JS:OpR X (gc .Mult) (rI uC fun i j=>.int (i*j)):=opI fun _ _ _ _ _ _ _ hc q=>mul_int q hc.ok
theorem GA:OpR X (gc .FloorDiv) (rI Hw fun i j=>.int (i / j)):=opI fun i j _ _ _ _ _ hc q=>by have h1:(0:af)<j:=hc.1;have h2:j<1073741824:=hc.2;exact floordiv_int (by omega) (by rw[EQ i (by omega)];exact q) (.inl (PyProof.noPylong_small (by omega)))
theorem Jq:OpR X (gc .Mod) (rI (fun _ j=>0<j) fun i j=>.int (i%j)):=opI fun i j _ _ _ _ _ hc q=>by have h1:(0:af)<j:=hc;exact mod_int' (by omega) (by rw[Int.fmod_eq_emod_of_nonneg i (by omega)];exact q)
theorem Jn:OpR X (gc .Pow) (rI NR fun i j=>.int (i ^ j.toNat)):=opI fun _ _ _ _ _ _ _ hc q=>pow_int_small hc.1 hc.2.1 hc.2.2 q
theorem LV:OpR X (gc .RShift) (rI (fun _ j=>0<=j) fun i j=>.int (i / 2 ^ j.toNat)):=opI fun i j _ _ _ _ _ hc q=>
 rshift_int hc (by rw[EQ i (L3 _)];exact q)
theorem unI {f:av->iL av} {g:af->af} 
  (rule:∀(i:af) (t:Tok) (s:aI) (Q:av->aI->Prop) (E:av->aI->Prop),Q (.int (g i) s.toks) {s with toks:=s.toks+1}->aJ (aQ X.prog X.w) X.A (f (.int i t)) Q E s) :
  UnR X f (rU fun i=>.int (g i)):=by
 intro pins s σ H x v Q I rx h;obtain⟨i,rfl,q⟩:=h;obtain⟨t,rfl⟩:=rx;exact rule i t s _ _ ⟨.int (g i),H,I.tok _,⟨_,rfl⟩,q⟩
theorem Ps:UnR X (unaryOp .USub) (rU fun i=>.int (-i)):=unI fun _ _ _ _ _ q=>neg_int q
end
noncomputable def xF:V->V->bq
 |.non,.non=>al|.non,.int _=>al|.int _,.non=>al|.non,.bl _=>al|.bl _,.non=>al|.non,.str _=>al|.str _,.non=>al
 |.int _,.int _=>al|.bl _,.bl _=>al|.str _,.str _=>al|.byt _,.byt _=>al
 |.int _,.str _=>al|.str _,.int _=>al|.bl _,.str _=>al|.str _,.bl _=>al
 |_,_=>aq
noncomputable def rEq:R2:=fun x y H Q=>xF x y=al/\Q (.bl (decide (x=y))) H
noncomputable def rNe:R2:=fun x y H Q=>xF x y=al/\Q (.bl (!decide (x=y))) H
theorem BH {i j:af} :decide (V.int i=V.int j)=(i==j):=by rw[rF];simp
theorem Bj {i j:bq} :decide (V.bl i=V.bl j)=(i==j):=by rw[rF];simp
theorem D9 {i j:ai} :decide (V.str i=V.str j)=(i==j):=by rw[rF];simp
theorem Co {i j:b8 UInt8} :decide (V.byt i=V.byt j)=(i.toList==j.toList):=by rw[rF];cases i;cases j;simp
variable {r':R2} {op':CmpOp}
section
variable {a:Expr} {tc:TE}
theorem cE {Q:VK} {k k':bq} (I:Inv X pins σ H s) (q:Q (.bl k) H) (e:k=k'):EP X pins σ Q (.bool k') s:=by subst e;exact⟨.bl k,H,I,rfl,q⟩
theorem IB:OpR X (dX .Eq) rEq:=by
 intro pins s σ H x y v u Q I rx ry h;obtain⟨hs,q⟩:=h;cases x with
 |non=>
  cases rx;cases y with
  |non=>cases ry;exact Tk (cE I q (by simp))
  |bl j=>cases ry;exact Tl (cE I q (by simp))
  |int j=>obtain⟨t',rfl⟩:=ry;exact Tn (cE I q (by simp))
  |str j=>obtain⟨t',rfl⟩:=ry;exact To (cE I q (by simp))
  |_=>exact bN (show aq=al from hs) qr
 |bl i=>
  cases rx;cases y with
  |non=>cases ry;exact Tp (cE I q (by simp))
  |bl j=>cases ry;exact eq_bool (cE I q Bj)
  |str j=>obtain⟨t',rfl⟩:=ry;exact Tq (cE I q (by simp))
  |_=>exact bN (show aq=al from hs) qr
 |int i=>
  obtain⟨t,rfl⟩:=rx;cases y with
  |non=>cases ry;exact Tr (cE I q (by simp))
  |int j=>obtain⟨t',rfl⟩:=ry;exact eq_int (cE I q BH)
  |str j=>obtain⟨t',rfl⟩:=ry;exact Ts (cE I q (by simp))
  |_=>exact bN (show aq=al from hs) qr
 |str i=>
  obtain⟨t,rfl⟩:=rx;cases y with
  |non=>cases ry;exact Tt (cE I q (by simp))
  |bl j=>cases ry;exact Tu (cE I q (by simp))
  |int j=>obtain⟨t',rfl⟩:=ry;exact Tv (cE I q (by simp))
  |str j=>obtain⟨t',rfl⟩:=ry;exact eq_str (cE I q D9)
  |_=>exact bN (show aq=al from hs) qr
 |byt i=>
  obtain⟨t,rfl⟩:=rx;cases y with
  |byt j=>obtain⟨t',rfl⟩:=ry;exact PySem.W.eq_bytes (cE I q Co)
  |_=>exact bN (show aq=al from hs) qr
 |_=>cases y<;>exact bN (show aq=al from hs) qr
theorem M9:OpR X (dX .NotEq) rNe:=by
 intro pins s σ H x y v u Q I rx ry h;obtain⟨hs,q⟩:=h;cases x with
 |non=>
  cases rx;cases y with
  |non=>cases ry;exact Tw (cE I q (by simp))
  |bl j=>cases ry;exact Tx (cE I q (by simp))
  |int j=>obtain⟨t',rfl⟩:=ry;exact Tz (cE I q (by simp))
  |str j=>obtain⟨t',rfl⟩:=ry;exact TC (cE I q (by simp))
  |_=>exact bN (show aq=al from hs) qr
 |bl i=>
  cases rx;cases y with
  |non=>cases ry;exact TF (cE I q (by simp))
  |bl j=>cases ry;exact ne_bool (cE I q (df not Bj))
  |str j=>obtain⟨t',rfl⟩:=ry;exact TH (cE I q (by simp))
  |_=>exact bN (show aq=al from hs) qr
 |int i=>
  obtain⟨t,rfl⟩:=rx;cases y with
  |non=>cases ry;exact TJ (cE I q (by simp))
  |int j=>obtain⟨t',rfl⟩:=ry;exact ne_int (cE I q (df not BH))
  |str j=>obtain⟨t',rfl⟩:=ry;exact TK (cE I q (by simp))
  |_=>exact bN (show aq=al from hs) qr
 |str i=>
  obtain⟨t,rfl⟩:=rx;cases y with
  |non=>cases ry;exact TL (cE I q (by simp))
  |bl j=>cases ry;exact TM (cE I q (by simp))
  |int j=>obtain⟨t',rfl⟩:=ry;exact TN (cE I q (by simp))
  |str j=>obtain⟨t',rfl⟩:=ry;exact ne_str (cE I q (df not D9))
  |_=>exact bN (show aq=al from hs) qr
 |byt i=>
  obtain⟨t,rfl⟩:=rx;cases y with
  |byt j=>obtain⟨t',rfl⟩:=ry;exact PySem.W.ne_bytes (cE I q (df not Co))
  |_=>exact bN (show aq=al from hs) qr
 |_=>cases y<;>exact bN (show aq=al from hs) qr
theorem Li:OpR X (dX .Lt) (rI0 fun i j=>.bl (decide (i<j))):=vE fun _ _ _ _ _ _ _ q=>lt_int q
theorem GE:OpR X (dX .LtE) (rI0 fun i j=>.bl (decide (i<=j))):=vE fun _ _ _ _ _ _ _ q=>le_int q
theorem Iw:OpR X (dX .Gt) (rI0 fun i j=>.bl (decide (j<i))):=vE fun _ _ _ _ _ _ _ q=>gt_int q
theorem Qq:OpR X (dX .Lt) (fun x y H Q=>∃i j,x=.str i/\y=.str j/\Q (.bl (decide (i.cps.toList<j.cps.toList))) H):=by intro pins s σ H x y v u Q I rx ry h;obtain⟨i,j,rfl,rfl,q⟩:=h;obtain⟨t,rfl⟩:=rx;obtain⟨t',rfl⟩:=ry;exact lt_str (cE I q rfl)
theorem O7:OpR X (dX .In) (fun x y H Q=>∃i j,x=.str i/\y=.str j/\Q (.bl (!(rG j i 0 j.length 1).isEmpty)) H):=by intro pins s σ H x y v u Q I rx ry h;obtain⟨i,j,rfl,rfl,q⟩:=h;obtain⟨t,rfl⟩:=rx;obtain⟨t',rfl⟩:=ry;exact in_str (cE I q rfl)
theorem ND:OpR X (dX .Is) (fun x y H Q=>y=.non/\Q (.bl (decide (x=.non))) H):=by
 intro pins s σ H x y v u Q I rx ry h;obtain⟨rfl,q⟩:=h;cases ry;refine is_none_gen (cE I q ?_);cases x<;>first
  |(cases rx;rfl)
  |(obtain⟨t,rfl⟩:=rx;rfl)
theorem HB:OpR X (dX .IsNot) (fun x y H Q=>y=.non/\Q (.bl (!decide (x=.non))) H):=by
 intro pins s σ H x y v u Q I rx ry h;obtain⟨rfl,q⟩:=h;cases ry;refine isnot_none_gen (cE I q ?_);cases x<;>first
  |(cases rx;rfl)
  |(obtain⟨t,rfl⟩:=rx;rfl)
theorem OpR.or {f:av->av->iL av} (h:OpR X f r) (h':OpR X f r'):OpR X f (fun x y H Q=>r x y H Q\/r' x y H Q):=by
 intro pins s σ H x y v u Q I rx ry q;rcases q with q|q
 .exact h pins s σ H x y v u Q I rx ry q
 .exact h' pins s σ H x y v u Q I rx ry q
theorem bX (b:Expr) (h:op≠.In:=by decide) (h2:op≠.NotIn:=by decide):lU op b=aq:=by
 have e1:(op==QY)=aq:=by cases op<;>first|rfl|exact bN rfl h
 have e2:(op==QZ)=aq:=by cases op<;>first|rfl|exact bN rfl h2
 cases b<;>simp[lU,e1,e2]
theorem IV (ho:OpR X (dX op) r) (ha:PE X a ta) (hb:PE X b tb) (hm:lU op b=aq):PE X (.Compare a [op] [b] pos) (tOp r ta tb):=by intro pins s σ H Q I h;exact wpAny_Compare1 (xr ha hb I h fun v u s2 x y H2 I2 rx ry q=>ho pins s2 σ H2 x y v u Q I2 rx ry q) hm
noncomputable def Ak (t:TE):TT:=fun σ H Q=>t σ H fun x H'=>∃k,x=.bl k/\Q k H'
theorem Kc (ho:OpR X (dX op) r) (ha:PE X a ta) (hb:PE X b tb) (hm:lU op b=aq):PT X (.Compare a [op] [b] pos) (Ak (tOp r ta tb)):=by
 intro pins s σ H Q I h;refine Q0 (thn (ha pins s σ H _ I h) fun v s1 ⟨x,H1,I1,r1,q1⟩=>thn (hb pins s1 σ H1 _ I1 q1) fun u s2 ⟨y,H2,I2,r2,q2⟩=>
  thn (ho pins s2 σ H2 x y v u _ I2 r1 r2 q2) fun c s3 ⟨z,H3,I3,r3,k,e,q3⟩=>?_) hm
 subst e;cases r3;exact lf ⟨H3,I3,q3⟩
noncomputable def vV (r r':R2) (ta tb tc:TE):TE:=fun σ H Q=>ta σ H fun x H1=>tb σ H1 fun y H2=>r x y H2 fun z H3=>∃k,z=.bl k /\
 (if k=al then tc σ H3 fun w' H4=>r' y w' H4 Q else Q (.bl aq) H3)
theorem Nq (ho:OpR X (dX op) r) (ho':OpR X (dX op') r') (ha:PE X a ta) (hb:PE X b tb) (hc:PE X c tc)
  (hm:yG [op,op'] [b,c]=aq:=by with_unfolding_all rfl):PE X (.Compare a [op,op'] [b,c] pos) (vV r r' ta tb tc):=by
 intro pins s σ H Q I h;refine Compare_chain (thn (ha pins s σ H _ I h) fun v s1 ⟨x,H1,I1,r1,q1⟩=>chain_link (thn (hb pins s1 σ H1 _ I1 q1) fun u s2 ⟨y,H2,I2,r2,q2⟩=>
  thn (ho pins s2 σ H2 x y v u _ I2 r1 r2 q2) fun d s3 ⟨z,H3,I3,r3,k,e,q3⟩=>?_)) hm
 subst e;cases r3;refine lf ?_;cases k with
 |false=>exact ite_ff ⟨.bl aq,H3,I3,rfl,q3⟩
 |true=>exact ite_tt (chain_last (thn (hc pins s3 σ H3 _ I3 q3) fun w' s4 ⟨z',H4,I4,r4,q4⟩=>ho' pins s4 σ H4 y z' u w' Q I4 r2 r4 q4))
theorem Gm (ho:OpR X (dX op) r) (ho':OpR X (dX op') r') (ha:PE X a ta) (hb:PE X b tb) (hc:PE X c tc)
  (hm:yG [op,op'] [b,c]=aq:=by with_unfolding_all rfl):PT X (.Compare a [op,op'] [b,c] pos) (Ak (vV r r' ta tb tc)):=by
 intro pins s σ H Q I h;refine isTrue_chain (thn (ha pins s σ H _ I h) fun v s1 ⟨x,H1,I1,r1,q1⟩=>test_link (thn (hb pins s1 σ H1 _ I1 q1) fun u s2 ⟨y,H2,I2,r2,q2⟩=>
  thn (ho pins s2 σ H2 x y v u _ I2 r1 r2 q2) fun d s3 ⟨z,H3,I3,r3,k,e,q3⟩=>?_)) hm
 subst e;cases r3;refine lf ?_;cases k with
 |false=>
  obtain⟨k',e',q'⟩:=q3;cases e';exact ite_ff ⟨H3,I3,q'⟩
 |true=>
  refine ite_tt (test_last (thn (hc pins s3 σ H3 _ I3 q3) fun w' s4 ⟨z',H4,I4,r4,q4⟩=>thn (ho' pins s4 σ H4 y z' u w' _ I4 r2 r4 q4) fun d' s5 ⟨z2,H5,I5,r5,k2,e2,q5⟩=>?_));subst e2;cases r5;exact lf ⟨H5,I5,q5⟩
theorem sY:(aM:ag)<2 ^ 63:=by rw[fE];decide
theorem Nh:OpR X (gc .Add) (fun x y H Q=>∃i j,x=.str i/\y=.str j/\i.length+j.length<=aM/\Q (.str (i++j)) H):=by intro pins s σ H x y v u Q I rx ry h;obtain⟨i,j,rfl,rfl,hz,q⟩:=h;obtain⟨t,rfl⟩:=rx;obtain⟨t',rfl⟩:=ry;exact add_str (fun t' tk=>⟨.str (i++j),H,I.tok _,⟨_,rfl⟩,q⟩) hz
theorem fY {x:V} {us:ab av} (r:bi [x] us):∃u,us=[u]/\bO x u:=by
 cases r with
 |cons r1 r2=>cases r2;exact⟨_,rfl,r1⟩
theorem tQ {x y:V} {us:ab av} (r:bi [x,y] us):∃u w',us=[u,w']/\bO x u/\bO y w':=by
 cases r with
 |cons r1 r2=>
  cases r2 with
  |cons r3 r4=>cases r4;exact⟨_,_,rfl,r1,r3⟩
theorem Nd (hc:X.calm=al):fU X (.builtin "min") (fun xs H Q=>∃i j,xs=[.int i,.int j]/\Q (.int (if j<i then j else i)) H):=by
 intro pins s σ H xs us Q I r h;obtain⟨i,j,rfl,q⟩:=h;obtain⟨u,w',rfl,⟨t,rfl⟩,⟨t',rfl⟩⟩:=tQ r;refine min_two_ints (I.ok.hd hc) fun h' tk k=>⟨_,H,I.kept k,?_,q⟩;by_cases hj:j<i
 .rw[qY hj,qY hj];exact⟨_,rfl⟩
 .rw[qZ hj,qZ hj];exact⟨_,rfl⟩
theorem M7:fU X (.type "int") (fun xs H Q=>(∃i,xs=[.int i]/\Q (.int i) H)\/∃k,xs=[.bl k]/\Q (.int (if k then 1 else 0)) H):=by
 intro pins s σ H xs us Q I r h;rcases h with⟨i,rfl,q⟩|⟨k,rfl,q⟩
 .obtain⟨u,rfl,t,rfl⟩:=fY r;exact call_int_int ⟨.int i,H,I,⟨_,rfl⟩,q⟩
 .obtain⟨u,rfl,r1⟩:=fY r;cases r1;exact call_int_bool ⟨.int (if k then 1 else 0),H,I.tok _,⟨_,rfl⟩,q⟩
theorem Ia:fU X (.type "str") (fun xs H Q=>∃i,xs=[.int i]/\i.natAbs.log2<1920/\Q (.str (yH i)) H):=by intro pins s σ H xs us Q I r h;obtain⟨i,rfl,hz,q⟩:=h;obtain⟨u,rfl,t,rfl⟩:=fY r;exact PySem.P.str_of_int hz ⟨.str _,H,I.tok _,⟨_,rfl⟩,q⟩
noncomputable def IS (K:aV) (x:V) (H:Hp) (n:ag):Prop:=
 match x with
 |.str y=>y.length<=aM/\n=y.length
 |.byt y=>y.size<=aM/\n=y.size
 |.ref p=>(∃xs,SqL K H p xs/\n=xs.length)\/∃xs,SqT K H p xs/\n=xs.length
 |_=>False
theorem KP:fU X (.builtin "len") (fun xs H Q=>∃x n,xs=[x]/\IS X.K x H n/\Q (.int n) H):=by
 intro pins s σ H xs us Q I r h;obtain⟨x,n,rfl,e,q⟩:=h;obtain⟨u,rfl,rx⟩:=fY r;have hl:=sY;have hs:aM=16777216:=fE;cases x with
 |str y=>
  obtain⟨t,rfl⟩:=rx;obtain⟨hy,e'⟩:y.length<=aM/\n=y.length:=e;subst e';exact len_str (by omega) ⟨.int _,H,I.tok _,⟨_,rfl⟩,q⟩
 |byt y=>
  obtain⟨t,rfl⟩:=rx;obtain⟨hy,e'⟩:y.size<=aM/\n=y.size:=e;subst e';exact PySem.W.len_bytes (by omega) ⟨.int _,H,I.tok _,⟨_,rfl⟩,q⟩
 |ref p=>
  cases rx;have e':(∃xs,SqL X.K H p xs/\n=xs.length)\/∃xs,SqT X.K H p xs/\n=xs.length:=e;rcases e' with⟨xs,hx,e'⟩|⟨xs,hx,e'⟩
  .subst e';obtain⟨its,r',pl,hz⟩:=I.list hx;have hlen:=r'.length;exact Calls.call_len_list pl.isList (by simp only[qB];omega) ⟨.int xs.length,H,I.tok _,⟨_,by simp only[qB];rw[hlen]⟩,q⟩
  .subst e';obtain⟨its,r',pl,hz⟩:=I.tuple hx;have hlen:=r'.length;exact len_tuple pl (by simp only[qB];omega) ⟨.int xs.length,H,I.tok _,⟨_,by simp only[qB];rw[hlen]⟩,q⟩
 |_=>exact(show False from e).elim
end
structure ObjM (h:Heap) (x dx C:aw) (mA:ai->ao av):Prop where
 obj:h.get? x=aa (mW C dx)
 ns:h.Ns1 dx mA
 ne:dx≠x
variable {dx:aw} {mA:ai->ao av}
theorem Gi {h:Heap} (n:h.Ns1 dx mA):∃od,h.get? dx=aa od/\∀name,yI name od=aa (mA name):=by
 obtain⟨o,es,ep,ho,hd,hk,_,hm⟩:=n;refine⟨o,ho,fun name=>?_⟩;have e:=hm name;unfold nsFind findBy at e;rw[←Array.find?_toList] at e;unfold yI;rw[hd];dsimp only;split
 .rename_i y q;rw[q] at e;exact df aa e
 .rename_i q;rw[q] at e;have a:es.toList.any (·.refKey)=aq:=by rw[Q8];intro y hy;obtain⟨z,t,hkey⟩:=hk y (ER.mp hy);simp[DictEntry.refKey,hkey]
  have a':¬es.toList.any (·.refKey)=al:=by rw[a];exact qr
  rw[qZ a'];exact df aa e
variable {C:aw}
theorem ObjM.look {h:Heap} {x:aw} (I:ObjM h x dx C mA):∃od,PySem.W.InstAt h x (mW C dx) C (aa od)/\∀name,yI name od=aa (mA name):=
 let ⟨od,ho,hl⟩:=Gi I.ns
 ⟨od,⟨I.obj,rfl,rfl,ho⟩,hl⟩
variable {prog:dS} {name:ai} {pl:iL bq} {R:Result->aI->Prop}
section
variable {x f:aw} {v:av}
theorem Qb {expr:bq} (X:K.In s.heap) (I:ObjM s.heap x dx C mA) (hg:uK K C name=al) (hh:yJ K C=al)
  (ha:dv K (.ref C) name=aa ac) (hv:mA name=aa v) (hv':Q9 v=al) (h:Q v {s with toks:=s.toks+1}) :
  aJ (aQ prog w) A (getAttr (.ref x) name expr) Q E s:=by
 obtain⟨od,J,hl⟩:=I.look;exact PySem.W.get_value X J (ES hg).1 (PySem.W.findObj_own hh ha rfl (by rw[hl,hv])) hv' h
theorem Ox {Q:av×ab av->aI->Prop} (X:K.In s.heap) (I:ObjM s.heap x dx C mA) (hg:uK K C name=al)
  (hf:dv K (.ref C) name=aa (aa (.ref f))) (ht:uL K (.ref f)=al) (hv:mA name=ac) (h:Q (.ref f,[.ref x]) s) :
  aJ (aQ prog w) A (m4 (.ref x) name pl) Q E s:=by
 obtain⟨od,J,hl⟩:=I.look;exact PySem.W.method_fn X J (ES hg).1 (ES hg).2 hf (lW.mp ht) (by show(yI name od).map (·.isSome)=aa aq;rw[hl,hv];rfl) h
theorem QH {ns:ab ai} {Q:lT->aI->Prop} (X:K.In s.heap) (I:ObjM s.heap x dx C mA)
  (hs:dv K (.ref C) "__setattr__"=aa (aa (.builtin "object.__setattr__"))) (hp:ET K C=al) (ht:EU K C name=aa ac) (hh:yJ K C=al)
  (hw:EJ mA ns) (hsz:ns.length<=aM)
  (h:∀h',ObjM h' x dx C (fun y=>if y=name then aa v else mA y)->jr dx s.heap h'->Q () {s with heap:=h',toks:=s.toks+2}) :
  aJ (aQ prog w) A (setAttr (.ref x) name v) Q E s:=by
 obtain⟨od,J,hl⟩:=I.look;refine PySem.W.set_plain X J hs (PySem.W.osa_open (s:={s with toks:=s.toks+1}) (r:=ac) X J hp ht fun b=>?_);obtain⟨cd,hc,hd'⟩:=PySem.W.any_some hh;have hx:s.heap.get? x=aa ⟨.ref C,aa dx,.plain,#[]⟩:=I.obj;refine qx (qA (qx (qx (wpAny_loadPart hx (qx (TQ (s:={s with toks:=s.toks+1}) (PySem.W.looks_clsIn X hc) ?_))))));rw[hd'];refine qA (a:=aa dx) (qx (qA (qx ?_)));refine wpAny_nsSet1 (s:={s with toks:=s.toks+1}) I.ns fun h' hn2 hs2=>?_;obtain⟨oD,esD,epD,hoD,hdD,hcD⟩:=hn2.count (TR name v hw);refine qx (wpAny_lookBehind hoD (by rw[hdD];exact pastItsLine_dict (qM hcD (by rw[qh];omega))) ?_);exact qA (h _ ⟨(hs2.2 _ (dM I.ne)).trans I.obj,hn2,I.ne⟩ hs2)
theorem Kj {vs:ab av} {kw:ab (ai×av)} (X:K.In s.heap) (hm:yK K C=al)
  (hi:dv K (.ref C) "__init__"=aa (aa (.ref f))) (hf:PySem.W.typeIn K (.ref f)=aa (.type "function"))
  (h:ju (aQ prog w) (A.under (.builtin "type.__call__" ⟨.ref C::vs,kw⟩)) (.call (.ref f) ⟨.ref (s.heap.objs.size+1)::vs,kw⟩) (PySem.W.InitBack (s.heap.objs.size+1) R)
   {s with heap:=(s.heap.push lX).push (mW C s.heap.objs.size)}) :
  ju (aQ prog w) A (.call (.ref C) ⟨vs,kw⟩) R s:=by
 obtain⟨hh,g,d,t,os⟩:=s;exact PySem.W.make_core (PySem.W.makes_of X hm) (PySem.W.looks_findIn X hi) (fun self=>PySem.W.bind_fn X self hf) (.inl rfl) h
end
noncomputable def fm (f:ai) (v:V):ab (ai×V)->ab (ai×V)
 |[]=>[(f,v)]
 |(g,x)::r=>if g=f then (g,v)::r else (g,x)::fm f v r
theorem BM (f g:ai) (v:V):∀fs:ab (ai×V),(fm f v fs).lookup g=if g=f then aa v else fs.lookup g
 |[]=>by
  show dw g [(f,v)]=_;by_cases h:g=f
  .have hb:(g==f)=al:=lW.mpr h;simp only[dw,hb,qY h]
  .have hb:(g==f)=aq:=oi.mpr h;simp only[dw,hb,qZ h]
 |(k,x)::r=>by
  have ih:=BM f g v r;rw[show fm f v ((k,x)::r)=(if k=f then (k,v)::r else (k,x)::fm f v r) from rfl];by_cases hk:k=f
  .rw[qY hk];by_cases h:g=k
   .have hb:(g==k)=al:=lW.mpr h;simp only[dw,hb,qY (h.trans hk)]
   .have hb:(g==k)=aq:=oi.mpr h;simp only[dw,hb,qZ (fun e:g=f=>h (e.trans hk.symm))]
  .rw[qZ hk];by_cases h:g=k
   .have hb:(g==k)=al:=lW.mpr h;simp only[dw,hb,qZ (fun e:g=f=>hk (h.symm.trans e))]
   .have hb:(g==k)=aq:=oi.mpr h;simp only[dw,hb];exact ih
theorem w8 (f:ai) (v:V):∀fs:ab (ai×V),f∈(fm f v fs).map (·.1)/\∀g,g∈fs.map (·.1)->g∈(fm f v fs).map (·.1)
 |[]=>⟨by simp[fm],fun g h=>by simp at h⟩
 |(k,x)::r=>by
  obtain⟨i1,i2⟩:=w8 f v r;rw[show fm f v ((k,x)::r)=(if k=f then (k,v)::r else (k,x)::fm f v r) from rfl];by_cases hk:k=f
  .rw[qY hk];subst hk;exact⟨by simp,fun g h=>by simpa using h⟩
  .rw[qZ hk];refine⟨?_,fun g h=>?_⟩
   .rw[qm];exact qg _ i1
   .rw[qm] at h ⊢;rcases cG.mp h with e|e
    .exact cG.mpr (.inl e)
    .exact qg _ (i2 g e)
theorem CC (f:ai) (v:V):∀fs:ab (ai×V),(fm f v fs).length<=fs.length+1
 |[]=>by simp[fm]
 |(k,x)::r=>by
  have ih:=CC f v r;rw[show fm f v ((k,x)::r)=(if k=f then (k,v)::r else (k,x)::fm f v r) from rfl];by_cases hk:k=f
  .rw[qY hk,qh,qh];omega
  .rw[qZ hk,qh,qh];omega
theorem fS.some_of {o:ao av} (r:fS (aa v) o):∃u,o=aa u/\bO v u:=by
 cases o with
 |none=>exact(show False from r).elim
 |some u=>exact⟨u,rfl,r⟩
theorem fS.none_of {o:ao av} (r:fS ac o):o=ac:=by
 cases o with
 |none=>rfl
 |some u=>exact(show False from r).elim
theorem Ht (r:bO v u):Q9 u=al:=by
 cases v with
 |non=>cases(show u=oj from r);rfl
 |bl b=>cases(show u=la b from r);rfl
 |int i=>obtain⟨t,e⟩:=(show ∃t,u=oh i t from r);cases e;rfl
 |str x=>obtain⟨t,e⟩:=(show ∃t,u=ro x t from r);cases e;rfl
 |byt b=>obtain⟨t,e⟩:=(show ∃t,u=QV b t from r);cases e;rfl
 |flt b=>obtain⟨t,e⟩:=(show ∃t,u=yB b t from r);cases e;rfl
 |ref a=>cases(show u=ci a from r);rfl
 |ty n=>cases(show u=jq n from r);rfl
section
variable {h:Heap} {fs fs':ab (ai×V)}
theorem tz (hok:HOk P w H h) (e:H a=aa (.ins C dx fs)):∃mA,ObjM h a dx C mA/\(∀f,fS (fs.lookup f) (mA f))/\EJ mA (fs.map (·.1))/\fs.length<=1000/\H dx=aa (.own a):=by obtain⟨d,z,ne,ob,mA,n,r,q⟩:=(show cO P w H h a (.ins C dx fs) from hok a _ e);exact⟨mA,⟨ob,n,ne⟩,r,q,z,d⟩
end
structure Cls (K:aV) (C:aw):Prop where
 pg:uK K C yL=al
 hd:yJ K C=al
 po:ET K C=al
 sa:dv K (.ref C) "__setattr__"=aa (aa (.builtin "object.__setattr__"))
theorem Cls.get (c:Cls K C) (f:ai):uK K C f=al:=c.pg
noncomputable def lG (K:aV) (C:aw) (f:ai):Prop:=dv K (.ref C) f=aa ac
theorem lG.taker {K:aV} {C:aw} {f:ai} (n:lG K C f):EU K C f=aa ac:=by unfold EU;rw[show dv K (.ref C) f=aa ac from n];rfl
structure Meth (K:aV) (C:aw) (m:ai) (f:aw):Prop where
 at_:dv K (.ref C) m=aa (aa (.ref f))
 fn:uL K (.ref f)=al
 kp:iN K (.ref f)=al
variable {m:ai} {env:cS}
section
variable {fs:ab (ai×V)} {f:ai}
theorem Qd {b:bq} (I:Inv X pins σ H s) (e:H a=aa (.ins C dx fs)) (c:Cls X.K C) (n:lG X.K C f) (l:fs.lookup f=aa v)
  (h:∀u s',Inv X pins σ H s'->bO v u->Q u s'):aJ (aQ X.prog X.w) A (getAttr (.ref a) f b) Q E s:=by
 obtain⟨mA,O,r,_,_,_⟩:=tz I.hok e;obtain⟨u,hu,ru⟩:=fS.some_of (v:=v) (o:=mA f) (by rw[←l];exact r f);exact Qb I.kIn O (c.get f) c.hd n hu (Ht ru) (h u _ (I.tok _) ru)
theorem vA {g:aw} {Q:av×ab av->aI->Prop} (I:Inv X pins σ H s) (e:H a=aa (.ins C dx fs)) (c:Cls X.K C) (k:Meth X.K C m g) (l:fs.lookup m=ac)
  (h:Q (.ref g,[.ref a]) s):aJ (aQ X.prog X.w) A (m4 (.ref a) m pl) Q E s:=by
 obtain⟨mA,O,r,_,_,_⟩:=tz I.hok e;have hn:mA m=ac:=fS.none_of (by rw[←l];exact r m);exact Ox I.kIn O (c.get m) k.at_ k.fn hn h
theorem GV {y:V} {Q:lT->aI->Prop} (I:Inv X pins σ H s) (e:H a=aa (.ins C dx fs)) (c:Cls X.K C) (n:lG X.K C f) (hl:fs.length<1000) (ry:bO y u)
  (h:∀s',Inv X pins σ (upd H a (.ins C dx (fm f y fs))) s'->Q () s'):aJ (aQ X.prog X.w) A (setAttr (.ref a) f u) Q E s:=by
 obtain⟨mA,O,r,wi,_,ho⟩:=tz I.hok e;have hz:(fs.map (·.1)).length<=aM:=by rw[qe,fE];omega
 refine QH I.kIn O c.sa c.po n.taker c.hd wi hz fun h' O' sb=>h _ ?_;have hd:∃o,h'.get? dx=aa o:=let ⟨o,_,_,e',_⟩:=O'.ns;⟨o,e'⟩
 refine I.write (x:=a) (e:=dx) (by rw[e];exact fO) (.inr ho) (fun b q hb z=>(sb.2 b hb).trans z) hd ?_;refine⟨by rw[aW O.ne];exact ho,?_,O.ne,O'.obj,_,O'.ns,fun g=>?_,fun g hg=>?_⟩
 .have:=CC f y fs;omega
 .show fS ((fm f y fs).lookup g) (if g=f then aa u else mA g);rw[BM];by_cases q:g=f
  .rw[qY q,qY q];exact ry
  .rw[qZ q,qZ q];exact r g
 .by_cases q:g=f
  .rw[q];exact(w8 f y fs).1
  .refine(w8 f y fs).2 g (wi g fun z=>hg ?_);show(if g=f then aa u else mA g)=ac;rw[qZ q];exact z
theorem Inv.made (I:Inv X pins σ H s):Inv X pins σ (upd (upd H s.heap.objs.size (.own (s.heap.objs.size+1))) (s.heap.objs.size+1) (.ins C s.heap.objs.size []))
  {s with heap:=(s.heap.push lX).push (mW C s.heap.objs.size)}:=by
 have e1:(s.heap.push lX).get? s.heap.objs.size=aa lX:=qG s.heap rfl;have e2:((s.heap.push lX).push (mW C s.heap.objs.size)).get? (s.heap.objs.size+1)=aa (mW C s.heap.objs.size):=by
  have:=qG (s.heap.push lX) (o:=mW C s.heap.objs.size) rfl
  rwa [oq] at this
 have e3:(s.heap.push lX).Ns s.heap.objs.size (fun _=>ac):=⟨lX,#[],_,e1,rfl,(fun e he=>bN he (by simp)),fun _=>rfl⟩;have I1:=I.laid (a:=s.heap.objs.size) (o:=.own (s.heap.objs.size+1)) (h':=s.heap.push lX) (t':=s.toks) (fun b u q=>qt _ q) (qv _) ⟨_,e1⟩;refine I1.laid (a:=s.heap.objs.size+1) (o:=.ins C s.heap.objs.size []) (t':=s.toks) (fun b u q=>qt _ q) (yM (oq _ _)) ?_;have ne:s.heap.objs.size≠s.heap.objs.size+1:=qC (ot _);refine⟨by rw[aW ne,bV],gd _,ne,e2,fun _=>ac,(Heap.Ns1.of_empty e3).at fun o q=>qt _ q,fun _=>fO,fun y hy=>bN rfl hy⟩
theorem Ni (hb:iO e f env (eval e env)=eval e env)
  (h:aJ (aQ prog w) A (eval e env) (fun o s₁=>aJ (aQ prog w) A (getAttr o f al) Q E s₁) E s):aJ (aQ prog w) A (eval (.Attribute e f pos) env) Q E s:=
 Attribute_any_ h (by rw[arm_eval_Attribute,hb])
end
noncomputable def J5 (K:aV) (ta:TE) (f:ai):TE:=fun σ H Q=>ta σ H fun x H1=>∃a C dx fs v,x=.ref a/\H1 a=aa (.ins C dx fs)/\Cls K C/\lG K C f/\fs.lookup f=aa v/\Q v H1
noncomputable def K1 (K:aV) (ta tv:TE) (f:ai):TS:=fun D σ H=>tv σ H fun y H1=>ta σ H1 fun x H2=>∃a C dx fs,x=.ref a/\H2 a=aa (.ins C dx fs)/\Cls K C/\lG K C f/\fs.length<1000 /\
 D.nx σ (upd H2 a (.ins C dx (fm f y fs)))
variable {o value:Expr} {tpos apos:dF} {tv:TE}
section
variable {f:ai}
theorem wk (he:PE X e ta) (hb:iO e f X.env (eval e X.env)=eval e X.env):PE X (.Attribute e f pos) (J5 X.K ta f):=by intro pins s σ H Q I h;refine Ni hb (thn (he pins s σ H _ I h) fun u s1 ⟨x,H1,I1,rx,a,C,dx,fs,v,ex,ea,c,n,l,q⟩=>?_);subst ex;obtain rfl:u=ci a:=rx;exact Qd I1 ea c n l fun u' s2 I2 ru=>⟨v,H1,I2,ru,q⟩
theorem Bg (ha:PE X o ta) (hv:PE X value tv) (hs:eW value (aa (.Attribute o f pos')) pos.line X.env=bm aq):PS X (.Assign [.Attribute o f pos'] value pos) (K1 X.K ta tv f):=by intro pins s σ H D I h;refine plainObj_wpAny_Assign_Attribute (thn (hv pins s σ H _ I h) fun u s1 ⟨y,H1,I1,ry,q⟩=>thn (ha pins s1 σ H1 _ I1 q) fun ov s2 ⟨x,H2,I2,rx,a,C,dx,fs,ex,ea,c,n,l,q2⟩=>?_) hs;subst ex;obtain rfl:ov=ci a:=rx;exact GV I2 ea c n l ry fun s3 I3=>⟨σ,_,I3,q2⟩
theorem Ti {args:ab Expr} (he:PE X e te) (I:Inv X pins σ H s)
  (h:te σ H fun x H1=>∃a C dx fs g,x=.ref a/\H1 a=aa (.ins C dx fs)/\Cls X.K C/\Meth X.K C m g/\fs.lookup m=ac /\
   ∀s1,Inv X pins σ H1 s1->aJ (aQ X.prog X.w) X.A (ou pos (.ref g) [.ref a] (cz pos (aS args X.env)) (iP pos (iQ [] X.env))) Q X.xe s1)
  (ht:eval (.Call (.Attribute e m apos) args [] pos) X.env=(do
   let ov ←eval e X.env
   mY apos.atName
   let (f,first) ←jt [ov] (m4 ov m pl)
   ou pos f first (cz pos (aS args X.env)) (iP pos (iQ [] X.env)))) :
  aJ (aQ X.prog X.w) X.A (eval (.Call (.Attribute e m apos) args [] pos) X.env) Q X.xe s:=by
 refine EV (pl:=pl) (thn (he pins s σ H _ I h) fun u s1 ⟨x,H1,I1,rx,a,C,dx,fs,g,ex,ea,c,k,l,q⟩=>?_) ht;subst ex;obtain rfl:u=ci a:=rx;exact vA I1 ea c k l (q s1 I1)
end
section
variable {c:av} {b:bq}
inductive TyOf (K:aV) (H:Hp):V->av->Prop where
 |non:TyOf K H .non (.type "NoneType")
 |bl (x:bq):TyOf K H (.bl x) (.type "bool")
 |int (i:af):TyOf K H (.int i) (.type "int")
 |str (x:ai):TyOf K H (.str x) (.type "str")
 |flt (x:UInt64):TyOf K H (.flt x) (.type "float")
 |lst {a:aw} {xs:ab V} (e:H a=aa (.lst xs)):TyOf K H (.ref a) (.type "list")
 |frz {a:aw} {o:bh} {xs:ab V} (e:H a=aa (.frz o (.lst xs))):TyOf K H (.ref a) (.type "list")
 |tup {a:aw} {xs:ab V} (e:H a=aa (.tup xs)):TyOf K H (.ref a) (.type "tuple")
 |dK {a:aw} {kvs:ab (Key×V)} (e:H a=aa (.dK kvs)):TyOf K H (.ref a) (.type "dict")
 |dT {a:aw} {kvs:ab (ab Key×V)} (e:H a=aa (.dT kvs)):TyOf K H (.ref a) (.type "dict")
 |ins {a C dx:aw} {fs:ab (ai×V)} (e:H a=aa (.ins C dx fs)) (cl:Cls K C) (ha:dv K (.ref C) "__class__"=aa (aa (.builtin "object.__class__")))
   (hn:EW K (.builtin "object.__class__") "__get__"=aa (aa (.builtin "getset_descriptor.__get__"))) (htk:EX K (.builtin "object.__class__")=aa al)
   (hm:EY K C (.type "object")=aa al):TyOf K H (.ref a) (.ref C)
theorem Df {x:V} {t:av} (I:Inv X pins σ H s) (rx:bO x u) (ty:TyOf X.K H x t) (e:uM X.K t c=aa b) (h:∀tk,Q (.bool b) {s with toks:=tk}) :
  aJ (aQ X.prog X.w) A (call (.builtin "isinstance") [u,c]) Q E s:=by
 cases ty with
 |non=>cases(show u=oj from rx);exact kj Ra I.kIn fO e (fun z=>nomatch z) h
 |bl y=>cases(show u=la y from rx);exact kj Rb I.kIn fO e (fun z=>nomatch z) h
 |int i=>obtain⟨t,q⟩:=(show ∃t,u=oh i t from rx);cases q;exact kj Rc I.kIn fO e (fun z=>nomatch z) h
 |str y=>obtain⟨t,q⟩:=(show ∃t,u=ro y t from rx);cases q;exact kj Re I.kIn fO e (fun z=>nomatch z) h
 |flt y=>obtain⟨t,q⟩:=(show ∃t,u=yB y t from rx);cases q;exact kj Rf I.kIn fO e (fun z=>nomatch z) h
 | @lst a xs ea=>
  cases(show u=ci a from rx);obtain⟨_,_,n,_,h1⟩:=(show cO X.prog X.w H s.heap a (.lst xs) from I.hok a _ ea);exact kj yN I.kIn ⟨_,h1,rfl⟩ e (fun z=>nomatch z) h
 | @frz a ob xs ea=>
  cases(show u=ci a from rx);obtain⟨_,_,_,n,_,h1⟩:=(show cO X.prog X.w H s.heap a (.frz ob (.lst xs)) from I.hok a _ ea);exact kj yN I.kIn ⟨_,h1,rfl⟩ e (fun z=>nomatch z) h
 | @tup a xs ea=>
  cases(show u=ci a from rx);obtain⟨_,_,_,p⟩:=(show cO X.prog X.w H s.heap a (.tup xs) from I.hok a _ ea);obtain⟨o,h1,h2,_⟩:=p;exact kj Rg I.kIn ⟨o,h1,h2⟩ e (fun z=>nomatch z) h
 | @dK a kvs ea=>
  cases(show u=ci a from rx);obtain⟨_,_,vs,_,p⟩:=(show cO X.prog X.w H s.heap a (.dK kvs) from I.hok a _ ea);obtain⟨o,es,ep,h1,h2,_⟩:=p;exact kj yO I.kIn ⟨o,h1,h2.1⟩ e (fun z=>nomatch z) h
 | @dT a kvs ea=>
  cases(show u=ci a from rx);obtain⟨_,_,xs,_,o,es,ep,h1,h2,_⟩:=(show cO X.prog X.w H s.heap a (.dT kvs) from I.hok a _ ea);exact kj yO I.kIn ⟨o,h1,h2.1⟩ e (fun z=>nomatch z) h
 | @ins a C dx fs ea cl ha hn htk hm=>
  cases(show u=ci a from rx);obtain⟨mA,O,_⟩:=tz I.hok ea;obtain⟨od,J,_⟩:=O.look;exact kj (PySem.W.kitx_own (cl.get _) cl.hd ha hn htk hm) I.kIn J e (fun z=>nomatch z) h
end
structure Room (k:ag) (A:dL):Prop where
 hd:A.handled=ac
 dp:A.depth+3*k+5<recursionLimit
 un:A.units+16*k+200<cT
theorem Room.mono {k:ag} (r:Room k A) (h:j<=k):Room j A:=⟨r.hd,by have:=r.dp;omega,by have:=r.un;omega⟩
theorem Room.deeper {k:ag} (r:Room (k+1) A) (env:cS):Room k (A.deeper env):=
 ⟨r.hd,by have:=r.dp;show A.depth+1+3*k+5 < _;omega,by have:=r.un;show A.units+3+16*k+200 < _;omega⟩
theorem MG {us:ab av} {kw:ab (ai×av)} :(A.under (.builtin "type.__call__" ⟨.ref C::us,kw⟩)).depth=A.depth+1:=by
 first|rfl|simp[EZ,Code.weight,Code.isCreation,Code.isGuard,Code.isCaller,Rh,E1,guardIds]
theorem Jy {us:ab av} {kw:ab (ai×av)} :(A.under (.builtin "type.__call__" ⟨.ref C::us,kw⟩)).units=A.units+1:=by
 first|rfl|simp[EZ,Code.cUnits,Rh,E1]
theorem Room.make {k:ag} (r:Room (k+1) A) (C:aw) (us:ab av) (kw:ab (ai×av)):Room k (A.under (.builtin "type.__call__" ⟨.ref C::us,kw⟩)):=
 ⟨r.hd,by have:=r.dp;rw[MG];omega,by have:=r.un;rw[Jy];omega⟩
theorem Room.depth {k:ag} (r:Room k A):A.depth<recursionLimit:=by have:=r.dp;omega
noncomputable def yc:TA:=fun _ H Q=>Q [] H
noncomputable def Eb (ta:TE) (tr:TA):TA:=fun σ H Q=>ta σ H fun x H1=>tr σ H1 fun xs H2=>Q (x::xs) H2
section
variable {t:TA}
theorem gI:PA X [] yc:=fun _ _ _ _ H Q I h=>Calls.spliced_nil ⟨[],H,I,.nil,h⟩
theorem gR (ha:PE X e te) (hr:PA X es t) (hs:aS (e::es) X.env=(aq,eval e X.env)::aS es X.env:=by rfl):PA X (e::es) (Eb te t):=by intro pos pins s σ H Q I h;rw[hs];show aJ _ _ (yC ((aq,eval e X.env)::cz pos (aS es X.env))) _ _ s;refine Ri (thn (ha pins s σ H _ I h) fun u s1 ⟨x,H1,I1,r1,q1⟩=>?_);exact thn (hr pos pins s1 σ H1 _ I1 q1) fun us s2 ⟨xs,H2,I2,r2,q2⟩=>⟨x::xs,H2,I2,.cons r1 r2,q2⟩
noncomputable def G6 (t:TA):TE:=fun σ H Q=>t σ H fun xs H1=>xs.length<=aM/\∀p,H1 p=ac->Q (.ref p) (upd H1 p (.tup xs))
noncomputable def Bt (t:TA):TE:=fun σ H Q=>t σ H fun xs H1=>xs.length<=aM/\∀p,H1 p=ac->Q (.ref p) (upd H1 p (.lst xs))
theorem Lk {x1} (h:PA X es t):PE X (.Tuple es x1 pos) (G6 t):=by intro pins s σ H Q I hq;refine wpAny_Tuple_spliced (thn (h pos pins s σ H _ I hq) fun us s1 ⟨xs,H1,I1,r,z,q⟩=>⟨by rw[←r.length];exact z,?_⟩);have hf:H1 s1.heap.objs.size=ac:=I1.hok.fresh (qv _);refine⟨.ref s1.heap.objs.size,upd H1 s1.heap.objs.size (.tup xs),I1.laid (t':=s1.toks) (fun b u e=>qt _ e) (qv _) ?_,rfl,q _ hf⟩;exact⟨z,us,r,⟨_,qG _ rfl,rfl,_,rfl⟩⟩
theorem sU (h:PA X es t):PE X (.List es pos) (Bt t):=by intro pins s σ H Q I hq;refine wpAny_List_spliced (thn (h pos pins s σ H _ I hq) fun us s1 ⟨xs,H1,I1,r,z,q⟩=>⟨by rw[←r.length];exact z,?_⟩);have hf:H1 s1.heap.objs.size=ac:=I1.hok.fresh (qv _);refine⟨.ref s1.heap.objs.size,upd H1 s1.heap.objs.size (.lst xs),I1.laid (t':=s1.toks) (fun b u e=>qt _ e) (qv _) ?_,rfl,q _ hf⟩;exact⟨z,us,0,r,qG _ rfl⟩
end
abbrev Sp:=ab V->Hp->VK->XK->Prop
abbrev CXT:=ab cS->Hp->aI->XK->av->aI->Prop
structure Env0 (P:dS) (w:cQ) (K:aV) (mg:ai->ao av) (base:Heap) (A:dL) (outer:ab cS) (s:aI) (H:Hp):Prop where
 frames:A.frames=aa outer
 mod:Mod K mg base
 bs:∀b o,base.get? b=aa o->s.heap.get? b=aa o/\H b=ac
 bsz:base.objs.size<=s.heap.objs.size
 funs:s.heap.FunFrames base outer
 frf:∀b∈frs outer,H b=ac
 hok:HOk P w H s.heap
 bare:lc s.gens
noncomputable def CE (outer:ab cS) (P:dS) (w:cQ) (H:Hp) (s:aI) (Q:VK) (u:av) (s':aI):Prop:=
 ∃v H',s'.os=s.os/\lc s'.gens/\Un (frs outer) [] H H' s.heap s'.heap/\HOk P w H' s'.heap/\bO v u/\Q v H'
noncomputable def CR (CX:CXT) (outer:ab cS) (P:dS) (w:cQ) (H:Hp) (s:aI) (Q:VK) (E:XK) (r:Result) (s':aI):Prop:=
 match r with
 |.ok (.ret u)=>CE outer P w H s Q u s'
 |.ok _=>False
 |.error e=>CX outer H s E e s'
structure FnOk (P:dS) (w:cQ) (K:aV) (mg:ai->ao av) (base:Heap) (CX:CXT) (k:ag) (f:aw) (fd:m5) (ps:ab ai) (sp:Sp):Prop where
 len:∀vs H Q E,sp vs H Q E->vs.length=ps.length
 run:∀(A:dL) (outer:ab cS) (s:aI) (H:Hp) (args:Args) (us:ab av) (vs:ab V) (Q:VK) (E:XK),Room k A->Env0 P w K mg base A outer s H->rH s fd args (ps.zip us)->bi vs us->sp vs H Q E->
  ju (aQ P w) A (.call (.ref f) args) (CR CX outer P w H s Q E) s
variable {mg:ai->ao av} {base:Heap} {CX:CXT} {fd:m5} {ps:ab ai} {sp:Sp}
theorem FnOk.imp {k:ag} {f:aw} {sp':Sp} (F:FnOk P w K mg base CX k f fd ps sp)
  (h:∀vs H Q E,sp' vs H Q E->sp vs H Q E):FnOk P w K mg base CX k f fd ps sp':=
 ⟨fun vs H Q E q=>F.len vs H Q E (h _ _ _ _ q),fun A outer s H args us vs Q E hr he hb hv hs=>F.run A outer s H args us vs Q E hr he hb hv (h _ _ _ _ hs)⟩
variable {outer:ab cS}
theorem Env0.make (e:Env0 P w K mg base A outer s H) (C:aw) (us:ab av) (kw:ab (ai×av)) :
  Env0 P w K mg base (A.under (.builtin "type.__call__" ⟨.ref C::us,kw⟩)) outer s H:=⟨by first|exact e.frames|(simpa[EZ,Code.envs,E1,pushEnvs] using e.frames),e.mod,e.bs,e.bsz,e.funs,e.frf,e.hok,e.bare⟩
theorem Inv.env0 (I:Inv X pins σ H s):Env0 X.prog X.w X.K X.mg X.base X.A X.stack s H:=
 ⟨I.ok.frames,I.ok.mod,I.bs,qM I.ok.bsz I.sz,I.stack,I.stkFree,I.hok,I.bare⟩
theorem Inv.after {Q:VK} (I:Inv X pins σ H s) (h:CE X.stack X.prog X.w H s Q u s'):EP X pins σ Q u s':=by obtain⟨v,H',os,bare,un,hok,r,q⟩:=h;obtain⟨hh,g,d,t,os'⟩:=s';obtain rfl:os'=s.os:=os;exact⟨v,H',I.call (h':=hh) (g':=g) (d':=d) (t':=t) (ch:=[]) un hok bare (fun b z=>bN z (by simp)),r,q⟩
noncomputable def NP (sp:Sp) (dvs:ab V) (E:XK) (t:TA):TE:=fun σ H Q=>t σ H fun vs H1=>sp (vs++dvs) H1 Q E
noncomputable def zU (C:aw) (m:ai) (sp:Sp) (dvs:ab V) (E:XK) (ta:TE) (t:TA):TE:=fun σ H Q=>ta σ H fun x H1=>∃a dx fs,x=.ref a/\H1 a=aa (.ins C dx fs)/\fs.lookup m=ac /\
 t σ H1 fun vs H2=>sp (x::(vs++dvs)) H2 Q E
noncomputable def Gu (C:aw) (sp:Sp) (dvs:ab V) (E:XK) (t:TA):TE:=fun σ H Q=>t σ H fun vs H1=>∀x dx,H1 x=ac->H1 dx=ac->dx≠x->
 sp (.ref x::(vs++dvs)) (upd (upd H1 dx (.own x)) x (.ins C dx [])) (fun v H2=>v=.non/\Q (.ref x) H2) E
noncomputable def gj (K:aV) (fd:m5) (ps:ab ai) (ds:ab av):Prop:=
 ∀(s:aI) (us:ab av),K.In s.heap->(us++ds).length=ps.length->rH s fd ⟨us,[]⟩ (ps.zip (us++ds))
theorem gj.all (h:∀us:ab av,us.length=ps.length->jv fd ⟨us,[]⟩=bm (ps.zip us)):gj K fd ps []:=fun s us _ hl=>by rw[iR] at hl ⊢;exact .of_eq (h us hl)
noncomputable def mw (CX:CXT) (X:Cx) (E:XK):Prop:=∀(pins:ab (aw×bh)) (σ:St) (H:Hp) (s:aI) (e:av) (s':aI),Inv X pins σ H s->CX X.stack H s E e s'->X.xe e s'
variable {vs:ab V}
section
variable {k:ag} {f:aw} {dvs:ab V} {ds:ab av} {E:XK} {t:TA}
theorem wH {Q:VK} {us:ab av} (F:FnOk X.prog X.w X.K X.mg X.base CX k f fd ps sp) (hr:Room k X.A) (hb:gj X.K fd ps ds) (hd:bi dvs ds) (hx:mw CX X E)
  (I:Inv X pins σ H s) (r:bi vs us) (h:sp (vs++dvs) H Q E):aJ (aQ X.prog X.w) X.A (call (.ref f) us) (EP X pins σ Q) X.xe s:=by
 have r2:bi (vs++dvs) (us++ds):=r.append hd;have hl:(us++ds).length=ps.length:=by rw[←r2.length];exact F.len _ _ _ _ h
 refine yP (rM (F.run X.A X.stack s H ⟨us,[]⟩ (us++ds) (vs++dvs) Q E hr I.env0 (hb s us I.kIn hl) r2 h) fun r s' hq=>?_);cases r with
 |error e=>exact hx pins σ H s e s' I hq
 |ok fl=>
  cases fl with
  |ret u=>exact I.after hq
  |next=>exact iM hq
  |brk=>exact iM hq
  |cont=>exact iM hq
theorem B7 (F:FnOk X.prog X.w X.K X.mg X.base CX k f fd ps sp) (hr:Room k X.A) (hg:Gl X x) (hm:X.mg x=aa (.ref f)) (hk:iN X.K (.ref f)=al) (hb:gj X.K fd ps ds) (hd:bi dvs ds) (hx:mw CX X E)
  (ha:PA X (e::es) t) (hdb:(x==("__debug__":ai))=aq:=by decide) (he:aS (e::es) X.env=(aq,eval e X.env)::aS es X.env:=by rfl) (hpl:(cz pos (aS es X.env)).any (·.1)=aq:=by rfl) :
  PE X (.Call (.Name x p) (e::es) [] pos) (NP sp dvs E t):=by
 intro pins s σ H Q I h;refine uN (xz I hg hm ?_ hdb);refine E2 (h₀:=X.base) I.ok.mod.kin hk (thn (ha pos pins s σ H _ I h) fun us s1 ⟨vs,H1,I1,r,q⟩=>⟨I1.kIn,?_⟩) he hpl;exact wH F hr hb hd hx I1 r q
theorem GP (he:PE X o ta) (c:Cls X.K C) (hm:Meth X.K C m f) (F:FnOk X.prog X.w X.K X.mg X.base CX k f fd ps sp) (hr:Room k X.A) (hb:gj X.K fd ps ds) (hd:bi dvs ds) (hx:mw CX X E) (ha:PA X (e::es) t)
  (hst:aS (e::es) X.env=(aq,eval e X.env)::aS es X.env:=by rfl) (hpl:(cz pos (aS es X.env)).any (·.1)=aq:=by rfl)
  (ht:eval (.Call (.Attribute o m apos) (e::es) [] pos) X.env=(do
   let ov ←eval o X.env
   mY apos.atName
   let (f,first) ←jt [ov] (m4 ov m pl)
   ou pos f first (cz pos (aS (e::es) X.env)) (iP pos (iQ [] X.env))):=by rfl) :
  PE X (.Call (.Attribute o m apos) (e::es) [] pos) (zU C m sp dvs E ta t):=by
 intro pins s σ H Q I h;refine EV (pl:=pl) (thn (he pins s σ H _ I h) fun u s1 ⟨x,H1,I1,rx,a,dx,fs,ex,ea,l,q⟩=>?_) ht;subst ex;obtain rfl:u=ci a:=rx;refine vA I1 ea c hm l ?_;refine E2 (first:=[.ref a]) (h₀:=X.base) I.ok.mod.kin hm.kp (thn (ha pos pins s1 σ H1 _ I1 q) fun us s2 ⟨vs,H2,I2,r,q2⟩=>⟨I2.kIn,?_⟩) hst hpl;exact wH (us:=.ref a::us) (vs:=.ref a::vs) F hr hb hd hx I2 (.cons rfl r) q2
theorem AG (he:PE X o ta) (c:Cls X.K C) (hm:Meth X.K C m f) (F:FnOk X.prog X.w X.K X.mg X.base CX k f fd ps sp) (hr:Room k X.A) (hb:gj X.K fd ps ds) (hd:bi dvs ds) (hx:mw CX X E)
  (ht:eval (.Call (.Attribute o m apos) [] [] pos) X.env=(do
   let ov ←eval o X.env
   mY apos.atName
   let (f,first) ←jt [ov] (m4 ov m pl)
   ou pos f first (cz pos (aS [] X.env)) (iP pos (iQ [] X.env))):=by rfl) :
  PE X (.Call (.Attribute o m apos) [] [] pos) (zU C m sp dvs E ta yc):=by
 intro pins s σ H Q I h;refine EV (pl:=pl) (thn (he pins s σ H _ I h) fun u s1 ⟨x,H1,I1,rx,a,dx,fs,ex,ea,l,q⟩=>?_) ht;subst ex;obtain rfl:u=ci a:=rx;refine vA I1 ea c hm l ?_;exact PySem.W.callWith_K0 (first:=[.ref a]) I1.kIn hm.kp (wH (us:=[.ref a]) (vs:=[.ref a]) F hr hb hd hx I1 (.cons rfl .nil) q)
structure Mk (K:aV) (C f:aw):Prop where
 makes:yK K C=al
 init:dv K (.ref C) "__init__"=aa (aa (.ref f))
 fn:uL K (.ref f)=al
 kp:iN K (.ref C)=al
theorem LZ {Q:VK} {us:ab av} (M:Mk X.K C f) (F:FnOk X.prog X.w X.K X.mg X.base CX k f fd ps sp) (hr:Room (k+1) X.A) (hb:gj X.K fd ps ds) (hd:bi dvs ds)
  (hx:mw CX X E) (I:Inv X pins σ H s) (r:bi vs us)
  (h:∀x dx,H x=ac->H dx=ac->dx≠x->sp (.ref x::(vs++dvs)) (upd (upd H dx (.own x)) x (.ins C dx [])) (fun v H2=>v=.non/\Q (.ref x) H2) E) :
  aJ (aQ X.prog X.w) X.A (call (.ref C) us) (EP X pins σ Q) X.xe s:=by
 have hq:=h (s.heap.objs.size+1) s.heap.objs.size (I.hok.fresh (uO _)) (I.hok.fresh (qv _)) (qC (ot _));have I2:=Inv.made (C:=C) I;have r2:bi (V.ref (s.heap.objs.size+1)::(vs++dvs)) (ci (s.heap.objs.size+1)::(us++ds)):=.cons rfl (r.append hd);have hl:(ci (s.heap.objs.size+1)::us++ds).length=ps.length:=by have e:=r2.length;rw[F.len _ _ _ _ hq] at e;exact e.symm
 refine yP (Kj (f:=f) I.kIn M.makes M.init (lW.mp M.fn) (rM (F.run _ X.stack _ _ ⟨ci (s.heap.objs.size+1)::us,[]⟩ (ci (s.heap.objs.size+1)::(us++ds)) _ _ E (hr.make C us [])
  (I2.env0.make C us []) (hb _ (ci (s.heap.objs.size+1)::us) I2.kIn hl) r2 hq) fun r s' hq'=>?_))
 cases r with
 |error e=>exact hx pins σ _ _ e s' I2 hq'
 |ok fl=>
  cases fl with
  |ret u=>
   obtain⟨v,H',I3,rv,ev,q3⟩:=I2.after hq';subst ev;exact⟨rv,⟨V.ref (s.heap.objs.size+1),H',I3,rfl,q3⟩⟩
  |next=>exact iM hq'
  |brk=>exact iM hq'
  |cont=>exact iM hq'
theorem Oy (M:Mk X.K C f) (F:FnOk X.prog X.w X.K X.mg X.base CX k f fd ps sp) (hr:Room (k+1) X.A) (hg:Gl X x) (hm:X.mg x=aa (.ref C)) (hb:gj X.K fd ps ds) (hd:bi dvs ds) (hx:mw CX X E)
  (ha:PA X (e::es) t) (hdb:(x==("__debug__":ai))=aq:=by decide) (he:aS (e::es) X.env=(aq,eval e X.env)::aS es X.env:=by rfl) (hpl:(cz pos (aS es X.env)).any (·.1)=aq:=by rfl) :
  PE X (.Call (.Name x p) (e::es) [] pos) (Gu C sp dvs E t):=by
 intro pins s σ H Q I h;refine uN (xz I hg hm ?_ hdb);refine E2 (h₀:=X.base) I.ok.mod.kin M.kp (thn (ha pos pins s σ H _ I h) fun us s1 ⟨vs,H1,I1,r,q⟩=>⟨I1.kIn,?_⟩) he hpl;exact LZ M F hr hb hd hx I1 r q
end
structure FnScope (N P:ab ai) (sc:Scope):Prop where
 kind:sc.kind=.function
 co:sc.isCoroutine=aq
 gen:sc.isGenerator=aq
 nd:N.Nodup
 pre:N.take P.length=P
 par:∀x∈P,sc.names.lookup x=aa .local\/sc.names.lookup x=aa .cell
 nofree:∀y∈sc.names,y.2≠.free
theorem Cc {kindOf:ai->ao iw} {x:ai}:∀{binds:ab (ai×av)} {m:ai->ao av},(∀v,(x,v)∉binds)->lY kindOf binds m x=m x
 |[],_,_=>rfl
 |(n,v)::r,m,h=>by
  unfold lY;rw[Cc fun w hw=>h w (qg _ hw)];split
  .have:x≠n:=by rintro rfl;exact h v qf
   simp[this]
  .rfl
theorem Bp {kindOf:ai->ao iw} {x:ai}:∀{binds:ab (ai×av)} {m:ai->ao av},(∀v,(x,v)∉binds)->lZ kindOf binds m x=m x
 |[],_,_=>rfl
 |(n,v)::r,m,h=>by
  unfold lZ;rw[Bp fun w hw=>h w (qg _ hw)];split
  .rfl
  .have:x≠n:=by rintro rfl;exact h v qf
   simp[this]
theorem D4 {kindOf:ai->ao iw} {x:ai} {v:av}:∀{P:ab ai} {vs:ab av} {i:ag} {m:ai->ao av},P.Nodup->P[i]?=aa x->vs[i]?=aa v->kindOf x=aa .local->
  lY kindOf (P.zip vs) m x=aa v
 |[],_,_,_,_,h,_,_=>by simp at h
 |_::_,[],_,_,_,_,h,_=>by simp at h
 |p::P,w::vs,0,m,nd,h1,h2,hk=>by
  simp at h1 h2;subst h1;subst h2;show lY kindOf ((p,w)::P.zip vs) m p=_;unfold lY;rw[Cc fun v hv=>(dG.mp nd).1 (E3 hv).1,qY hk];simp
 |p::P,w::vs,i+1,m,nd,h1,h2,hk=>by show lY kindOf ((p,w)::P.zip vs) m x=_;unfold lY;exact D4 (i:=i) (dG.mp nd).2 (by simpa using h1) (by simpa using h2) hk
theorem Bu {kindOf:ai->ao iw} {x:ai} {v:av}:∀{P:ab ai} {vs:ab av} {i:ag} {m:ai->ao av},P.Nodup->P[i]?=aa x->vs[i]?=aa v->kindOf x≠aa .local->
  lZ kindOf (P.zip vs) m x=aa v
 |[],_,_,_,_,h,_,_=>by simp at h
 |_::_,[],_,_,_,_,h,_=>by simp at h
 |p::P,w::vs,0,m,nd,h1,h2,hk=>by
  simp at h1 h2;subst h1;subst h2;show lZ kindOf ((p,w)::P.zip vs) m p=_;unfold lZ;rw[Bp fun v hv=>(dG.mp nd).1 (E3 hv).1,qZ hk];simp
 |p::P,w::vs,i+1,m,nd,h1,h2,hk=>by show lZ kindOf ((p,w)::P.zip vs) m x=_;unfold lZ;exact Bu (i:=i) (dG.mp nd).2 (by simpa using h1) (by simpa using h2) hk
noncomputable def gH (N:ab ai) (vs:ab V):St:=vs.map aa++bQ (N.length-vs.length) ac
noncomputable def gz (CX:CXT) (P:dS) (w:cQ) (K:aV) (mg:ai->ao av) (base:Heap) (N:ab ai) (qual:ai) (scope:Scope) (f:aw) (cd:av) (A:dL) (outer:ab cS) (s:aI) (H:Hp) (E:XK):Cx where
 prog:=P
 w:=w
 K:=K
 mg:=mg
 base:=base
 A:=A.deeper (eC qual scope s.heap.objs.size f cd)
 N:=N
 s₀:=s
 H₀:=H
 env:=eC qual scope s.heap.objs.size f cd
 outer:=outer
 stack:=eC qual scope s.heap.objs.size f cd::outer
 ex:=[]
 calm:=al
 fn:=fun _=>al
 pn:=[]
 xe:=fun e s'=>aJ (aQ P w) (A.deeper (eC qual scope s.heap.objs.size f cd)) (leaving (eC qual scope s.heap.objs.size f cd) e) (fun _ s''=>CX outer H s E e s'') (fun e' s''=>CX outer H s E e' s'') s'
variable {sc:Scope}
theorem Bl (h:sc.names.lookup x=aa .cell):∃c,(yQ n sc.names []).lookup x=aa c:=by have q:=Rj sc.names n [] (.inl h);exact E4.mp q
variable {qual:ai} {scope:Scope} {cd:av}
theorem L1 {f:aw} {s1:aI} {E:XK} {us:ab av} 
  (S:FnScope N ps scope) (hd:A.handled=ac) (e0:Env0 P w K mg base A outer s H) (hl:vs.length=ps.length) (r:bi vs us)
  (x:InCallC s s.heap.objs.size (lY (eC qual scope s.heap.objs.size f cd).kindOf (ps.zip us) fun _=>ac) (yQ (s.heap.objs.size+1) scope.names []) (lZ (eC qual scope s.heap.objs.size f cd).kindOf (ps.zip us) fun _=>ac) s1) :
  Inv (gz CX P w K mg base N qual scope f cd A outer s H E) [] (gH N vs) H s1:=by
 have hpl:ps.length<=N.length:=by have:=df fF S.pre;rw[qE] at this;omega
 obtain⟨h1,tk,rfl,hk⟩:=x.done;have noA:∀b:aw,b∉(gz CX P w K mg base N qual scope f cd A outer s H E).ex:=fun b z=>bN (show b∈([]:ab aw) from z) (by simp);refine⟨⟨e0.mod,S.kind,rfl,rfl,qv _,fun y z c h1 h2=>?_,fun y hy=>?_,fun y c _ h=>?_,fun _=>hd,Around.frames_deeper e0.frames,.inr ⟨rfl,rfl⟩,fun b z=>bN z (noA b),e0.bs,e0.bsz,fun b _ _=>noA b,fun b z=>bN z (noA b),e0.funs,e0.frf⟩,
  rfl,e0.bare,Un.kept hk,⟨_,x.toInCall.ns,fun i y v h1 h2 h3=>?_⟩,fun y c h=>⟨_,x.cell y c h⟩,e0.hok.fresh (qv _),fun y c h=>?_,fun p hp=>bN (show p∈([]:ab (aw×bh)) from hp) (by simp),e0.hok.kept hk,?_⟩
 .exact name_of_addr x.apart (m6 h1) (m6 h2)
 .have hy:scope.names.lookup y=aa .cell\/scope.names.lookup y=aa .free:=hy;rcases hy with hy|hy
  .exact Bl hy
  .exact bN rfl (S.nofree _ (m6 hy))
 .exact rC (x.above y c (m6 h))
 .have hi:i<vs.length:=by
   unfold gH at h2;by_cases hi:i<vs.length
   .exact hi
   .rw[qK (by simpa using hi)] at h2;rw[yR] at h2;split at h2<;>cases h2
  have ha:vs[i]?=aa v:=by
   unfold gH at h2;rw[qz (by simpa using hi),qj] at h2;cases e:vs[i]? with
   |none=>rw[e] at h2;cases h2
   |some a=>rw[e] at h2;cases h2;rfl
  obtain⟨u,hu,rv⟩:=r.get ha;have hp:ps[i]?=aa y:=by rw[←S.pre,uP (by omega)];exact h1
  have ndP:ps.Nodup:=by rw[←S.pre];exact S.nd.sublist (uQ _ _)
  refine⟨u,rv,?_⟩;rcases S.par y (qP hp) with k|k
  .exact .inl ⟨k,D4 ndP hp hu k⟩
  .obtain⟨c,e⟩:=Bl (n:=s.heap.objs.size+1) k;refine .inr ⟨.inl k,c,e,?_⟩;have q:=x.cell y c e;rw[Bu ndP hp hu (by show scope.names.lookup y≠_;rw[k];decide)] at q;exact q
 .exact e0.hok.fresh (rC (x.above y c (m6 h)))
 .unfold gH;show _=N.length;rw[qi,qe,List.length_replicate];omega
variable {doc cdv ct oc:av} {an od:ao aw} {osl:b8 (ao av)}
theorem Ng {k:ag} {f:aw} {params:Arguments} {dV kV pm:av} 
  (lk:K.lookup f=aa ⟨oc,od,.func (ge name qual params body scope dV kV doc pm an cdv ct),osl⟩) (hcd:rN K cdv qual=al) (S:FnScope N ps scope)
  (len:∀vs H Q E,sp vs H Q E->vs.length=ps.length)
  (hbody:∀(A:dL) (outer:ab cS) (s:aI) (H:Hp) (vs:ab V) (Q:VK) (E:XK),Room k (A.deeper (eC qual scope s.heap.objs.size f cdv))->sp vs H Q E->
   ∃t,PSs (gz CX P w K mg base N qual scope f cdv A outer s H E) body t/\t {nx:=fun _ H'=>Q .non H',rt:=Q} (gH N vs) H) :
  FnOk P w K mg base CX (k+1) f (ge name qual params body scope dV kV doc pm an cdv ct) ps sp:=by
 refine⟨len,fun A outer s H args us vs Q E hr e0 hb r hsp=>?_⟩;have hl:=len _ _ _ _ hsp;have KX:K.In s.heap:=e0.mod.kin.keeps fun b o e=>(e0.bs b o e).1;have lim:s.heap.NoLimit:=e0.mod.nolimit.keeps fun b o e=>(e0.bs b o e).1;have hkind:∀y∈ps.zip us,scope.names.lookup y.1=aa .local\/(scope.names.lookup y.1=aa .cell/\((yQ (s.heap.objs.size+1) scope.names []).lookup y.1).isSome=al):=fun⟨n,v⟩ hy=>by
  rcases S.par n (E3 hy).1 with q|q
  .exact .inl q
  .exact .inr ⟨q,Rj _ _ _ (.inl q)⟩
 refine codeAny_call_function hr.depth (KX _ _ lk) rfl S.co S.gen rfl (PySem.W.codeRec_of KX hcd) (hb _ _ _ _ ?_);refine wpAny_newFunctionEnv_cells S.kind hkind fun env he s1 x=>?_;subst he;refine⟨lim.keeps x.toInCall.keep,codeAny_func ?_⟩;obtain⟨t,ht,hq⟩:=hbody A outer s H vs Q E (hr.deeper _) hsp;have I:Inv (gz CX P w K mg base N qual scope f cdv A outer s H E) [] (gH N vs) H s1:=L1 S hr.hd e0 hl r x;refine ir (ht [] s1 (gH N vs) H _ I hq) (fun fl s' hs=>?_) fun e s' hs=>hs;have fin:∀{σ':St} {H':Hp} {v:V} {u:av},Inv (gz CX P w K mg base N qual scope f cdv A outer s H E) [] σ' H' s'->bO v u->Q v H'->CE outer P w H s Q u s':=
  fun {σ' H' v u} J rv q=>⟨v,H',J.os,J.bare,J.base,J.hok,rv,q⟩
 cases fl with
 |ret u=>
  obtain⟨v,σ',H',J,rv,q⟩:=hs;exact fin J rv q
 |next=>
  obtain⟨σ',H',J,q⟩:=hs;exact fin (v:=V.non) (u:=oj) J rfl q
 |brk=>
  obtain⟨_,_,_,q⟩:=hs;exact iM q
 |cont=>
  obtain⟨_,_,_,q⟩:=hs;exact iM q
variable {T:cH}
section
variable {t:TA} {id:cH} {r:ab V->Hp->VK->Prop}
noncomputable def tCB (r:ab V->Hp->VK->Prop) (t:TA):TE:=fun σ H Q=>t σ H fun vs H1=>r vs H1 Q
theorem wj (hc:fU X (.builtin id) r) (hg:Gl X x) (hm:X.mg x=ac) (hv:lb x=aa (.builtin id)) (ha:PA X (e::es) t) (hn:x≠"__name__":=by decide) (hdb:(x==("__debug__":ai))=aq:=by decide)
  (he:aS (e::es) X.env=(aq,eval e X.env)::aS es X.env:=by rfl) (hpl:(cz pos (aS es X.env)).any (·.1)=aq:=by rfl):PE X (.Call (.Name x p) (e::es) [] pos) (tCB r t):=by
 intro pins s σ H Q I h;refine uN (lx I hg hm hv ?_ hn hdb);exact TU (thn (ha pos pins s σ H _ I h) fun us s1 ⟨vs,H1,I1,r1,q1⟩=>hc pins s1 σ H1 vs us Q I1 r1 q1) he hpl
theorem xG (hc:fU X (.type T) r) (hg:Gl X x) (hm:X.mg x=ac) (hv:lb x=aa (.type T)) (ha:PA X (e::es) t) (hn:x≠"__name__":=by decide) (hdb:(x==("__debug__":ai))=aq:=by decide)
  (he:aS (e::es) X.env=(aq,eval e X.env)::aS es X.env:=by rfl) (hpl:(cz pos (aS es X.env)).any (·.1)=aq:=by rfl):PE X (.Call (.Name x p) (e::es) [] pos) (tCB r t):=by
 intro pins s σ H Q I h;refine uN (lx I hg hm hv ?_ hn hdb);exact rE (thn (ha pos pins s σ H _ I h) fun us s1 ⟨vs,H1,I1,r1,q1⟩=>hc pins s1 σ H1 vs us Q I1 r1 q1) he hpl
end
variable {sl:aw} {vl vu:av} {hi:ao af} {items:b8 av}
namespace HT
theorem cat_tup {t b:aw} {vs ws:ab av} (ht:uF s.heap t vs.toArray) (hb:uF s.heap b ws.toArray) (hv:vs≠[])
  (h1:ws=[]->Q (.ref t) s) (h2:ws≠[]->Q (.ref s.heap.objs.size) {s with heap:=s.heap.push {cls:=.type "tuple",data:=.seq (vs++ws).toArray} })
  (hsz:vs.length+ws.length<=aM):aJ (aQ prog w) A (gc .Add (.ref t) (.ref b)) Q E s:=by
 obtain⟨⟨cls,dd,data,sl⟩,ho,hc,n,hd⟩:=id ht;obtain⟨⟨wf,dd2,data2,sl2⟩,ho2,hc2,n2,hd2⟩:=id hb;simp only at hc hd hc2 hd2;subst hc hd hc2 hd2;have e:vs.toArray++ws.toArray=(vs++ws).toArray:=by simp
 by_cases hw:ws=[]
 .exact concat_meets ⟨_,ho,rfl⟩ ⟨_,ho2,rfl⟩ Rk seq_tuple_add Rl Rm (Rn _ _)
   (tuple_addW1 t b vs.toArray ws.toArray n n2 dd dd2 sl sl2 (by simpa using hv) (by simp[hw])) ⟨ho,ho2,h1 hw⟩
 .refine concat_meets ⟨_,ho,rfl⟩ ⟨_,ho2,rfl⟩ Rk seq_tuple_add Rl Rm (Rn _ _)
   (tuple_addW2 t b vs.toArray ws.toArray n n2 dd dd2 sl sl2 (by simpa using hv) (by simpa using hw) (by rw[qB,qB];exact hsz)) ⟨ho,ho2,?_⟩
  rw[e];exact h2 hw
noncomputable def sIx (n d:ag):ao af->ag
 |none=>d
 |some v=>if v<0 then (v+(n:af)).toNat else min v.toNat n
theorem sIx_none (n d:ag):sIx n d ac=d:=rfl
theorem sIx_nat (n d k:ag):sIx n d (aa (k:af))=min k n:=by show(if (k:af)<0 then ((k:af)+(n:af)).toNat else min (k:af).toNat n)=min k n;rw[qZ (by omega),l0]
theorem J2 (n d:ag) (hd:d<=n) (o:ao af):sIx n d o<=n:=by
 cases o with
 |none=>exact hd
 |some v=>
  show(if v<0 then (v+(n:af)).toNat else min v.toNat n)<=n;by_cases hv:v<0
  .rw[qY hv];omega
  .rw[qZ hv];exact yS _ _
theorem DH (v:af) (n d:ag):(if v<0 then max (v+(n:af)) 0 else min v (n:af))=((sIx n d (aa v):ag):af):=by
 show(if v<0 then max (v+(n:af)) 0 else min v (n:af))=(((if v<0 then (v+(n:af)).toNat else min v.toNat n):ag):af);by_cases hv:v<0
 .simp only[qY hv];omega
 .simp only[qZ hv];omega
theorem Lm (lo hi:ao af) (n:ag):E5 lo hi 1 (n:af)=(((sIx n 0 lo:ag):af),((sIx n n hi:ag):af)):=by
 have h1:¬((1:af)<0):=by omega
 unfold E5;simp only[h1,cW];refine Prod.ext ?_ ?_
 .cases lo with
  |none=>rfl
  |some v=>exact DH v n 0
 .cases hi with
  |none=>rfl
  |some v=>exact DH v n n
theorem QS (i j:ag):yT (i:af) (j:af) 1=j-i:=by
 unfold yT;have h1:(1:af) > 0:=by omega
 simp only[h1,cy,Int.ediv_one];split<;>omega
theorem Di {v:av} {o:ao af} {Q:ao af->aI->Prop} (p:m8 v o) (h:Q o s):aJ (aQ prog w) A (TV v) Q E s:=by
 cases p with
 |none=>exact Ro h
 |int i t=>exact slicePart_int h
theorem Im {lo:ao af} {Q:af×af×ag->aI->Prop} (hs:s.heap.IsSliceOf sl vl vu .none) (pl:m8 vl lo) (pu:m8 vu hi)
  (h:Q (((sIx n 0 lo:ag):af),1,sIx n n hi-sIx n 0 lo) s):aJ (aQ prog w) A (Rp (.ref sl) (bm (n:af))) Q E s:=by
 obtain⟨os,hos,hcs,hds⟩:=id hs;unfold Rp TW;refine qx (qx (E6 hos hds (x:=vl) rfl (qx (E6 hos hds (x:=vu) rfl (qx (E6 hos hds (x:=.none) rfl (qA ?_)))))));refine qx (Ro ?_);show aJ _ _ (if ((1:af)==0)=al then _ else _) _ _ s;rw[qZ (by decide)];refine qx (Di pl (qx (Di pu (qx (qA ?_)))));show aJ _ _ (match E5 lo hi 1 (n:af) with|(lo,hi)=>bm (lo,(1:af),yT lo hi 1)) _ _ s;rw[Lm lo hi n];show aJ _ _ (bm (((sIx n 0 lo:ag):af),(1:af),yT ((sIx n 0 lo:ag):af) ((sIx n n hi:ag):af) 1)) _ _ s;rw[QS];exact qA h
theorem QE (xs:b8 av) (i k:ag):((bj k).filterMap fun(m:ag)=>xs[((i:af)+(m:af)*1).toNat]?).toArray=((xs.toList.drop i).take k).toArray:=by
 have e:(fun(m:ag)=>xs[((i:af)+(m:af)*1).toNat]?)=fun m=>xs[i+m]?:=by
  funext m
  have:((i:af)+(m:af)*1).toNat=i+m:=by omega
  rw[this]
 rw[e];have:=yU xs i k;rw[E7] at this;have e2:((fun x=>xs[x]?) ∘ fun x=>i+x)=fun m=>xs[i+m]?:=rfl;rw[e2] at this;rw[this]
theorem getItem_tuple_cut {t:aw} {lo:ao af} (ht:uF s.heap t items) (hs:s.heap.IsSliceOf sl vl vu .none) (pl:m8 vl lo) (pu:m8 vu hi)
  (hw:¬(sIx items.size 0 lo=0/\sIx items.size items.size hi=items.size))
  (h:Q (.ref s.heap.objs.size) {s with heap:=s.heap.push {cls:=.type "tuple",data:=.seq ((items.toList.drop (sIx items.size 0 lo)).take (sIx items.size items.size hi-sIx items.size 0 lo)).toArray} })
  (hsz:items.size<=aM):aJ (aQ prog w) A (m9 (.ref t) (.ref sl)) Q E s:=by
 have htake:sizeOk (.seq ((items.toList.drop (sIx items.size 0 lo)).take (sIx items.size items.size hi-sIx items.size 0 lo)).toArray):=by show((items.toList.drop (sIx items.size 0 lo)).take (sIx items.size items.size hi-sIx items.size 0 lo)).toArray.size<=aM;rw[qB,qE,l5,iu];omega
 have hj:sIx items.size items.size hi<=items.size:=J2 _ _ (qv _) hi;obtain⟨os,hos,hcs,hds⟩:=id hs;have hTs:s.TypeIs (.ref sl) "slice":=⟨os,hos,hcs⟩;unfold m9
 try with_reducible refine qT ?_
 first|refine qx (qA ?_)|skip
 refine qx (wpAny_sequenceKey ht.typeIs (by decide) ?_);refine qx (wpAny_callSpecial?_slot (name:=yV "__getitem__") ht.typeIs E8
  (wpAny_call_entry E8 ht.typeIs entry_tuple_getitem ?_ (args_tuple_getitem _ _)))
 show aJ _ _ (TX (.ref t) >>= _) _ _ s;refine qx (tupleItemsOf_ ht ?_);refine qx (uR hTs ?_);rw[qY (by decide)];refine qx (Im hs pl pu ?_);have hno:¬((((sIx items.size 0 lo:ag):af)==0 && (1:af)==1 && (sIx items.size items.size hi-sIx items.size 0 lo)==items.size)=al):=by intro q;rw[iS,iS] at q;have q1:((sIx items.size 0 lo:ag):af)=0:=E9 q.1.1;have q2:sIx items.size items.size hi-sIx items.size 0 lo=items.size:=E9 q.2;exact hw ⟨by omega,by omega⟩
 show aJ _ _ (if (((sIx items.size 0 lo:ag):af)==0 && (1:af)==1 && (sIx items.size items.size hi-sIx items.size 0 lo)==items.size)=al then _ else _) _ _ s;rw[qZ hno,QE]
 first
  |exact qx (m:=yW _) (uS (qA ⟨_,rfl,qA h⟩) htake)
  |exact qx (m:=yW _) (uS (qx (qA (qA ⟨_,rfl,qA h⟩))) htake)
  |exact qx (qx (m:=yW _) (uS (qA (qA ⟨_,rfl,qA h⟩)) htake))
  |exact qx (qx (m:=yW _) (uS (qA ⟨_,rfl,qA h⟩) htake))
end HT
abbrev TO:=St->Hp->(ao af->Hp->Prop)->Prop
noncomputable def PO (X:Cx) (e:ao Expr) (t:TO):Prop:=
 ∀(pins:ab (aw×bh)) (s:aI) (σ:St) (H:Hp) (Q:ao af->Hp->Prop),Inv X pins σ H s->t σ H Q->
  aJ (aQ X.prog X.w) X.A (evalPart e X.env) (fun u s'=>∃o H',Inv X pins σ H' s'/\m8 u o/\Q o H') X.xe s
noncomputable def Qw:TO:=fun _ H Q=>Q ac H
noncomputable def MK (t:TE):TO:=fun σ H Q=>t σ H fun x H1=>∃i,x=.int i/\Q (aa i) H1
variable {p2:dF}
section
variable {lo hi:ao Expr} {tl th:TO}
theorem Am:PO X ac Qw:=by intro pins s σ H Q I h;rw[evalPart_none];exact qA ⟨ac,H,I,.none,h⟩
theorem tR (h:PE X e te):PO X (aa e) (MK te):=by intro pins s σ H Q I hw;rw[evalPart_some];refine thn (h pins s σ H _ I hw) fun u s1 ⟨x,H1,I1,r1,q1⟩=>?_;obtain⟨i,rfl,q⟩:=q1;obtain⟨t,rfl⟩:=r1;exact⟨aa i,H1,I1,.int i t,q⟩
noncomputable def SlR (X:Cx) (r:V->ao af->ao af->Hp->VK->Prop):Prop:=
 ∀(pins:ab (aw×bh)) (s:aI) (σ:St) (H:Hp) (x:V) (v vl vu:av) (lo hi:ao af) (sl:aw) (Q:VK),Inv X pins σ H s->bO x v->s.heap.IsSliceOf sl vl vu .none->m8 vl lo->m8 vu hi->r x lo hi H Q->
  ∃T id,yX (.type T) "__getitem__"=bm (aa (.builtin id))/\s.TypeIs v T/\aJ (aQ X.prog X.w) X.A (m9 v (.ref sl)) (EP X pins σ Q) X.xe s
theorem SlR.or {r r':V->ao af->ao af->Hp->VK->Prop} (h:SlR X r) (h':SlR X r'):SlR X (fun x lo hi H Q=>r x lo hi H Q\/r' x lo hi H Q):=by
 intro pins s σ H x v vl vu lo hi sl Q I rx hs pl pu q;rcases q with q|q
 .exact h pins s σ H x v vl vu lo hi sl Q I rx hs pl pu q
 .exact h' pins s σ H x v vl vu lo hi sl Q I rx hs pl pu q
noncomputable def tSl (r:V->ao af->ao af->Hp->VK->Prop) (te:TE) (tl th:TO):TE:=fun σ H Q=>te σ H fun x H1=>tl σ H1 fun l H2=>th σ H2 fun u H3=>r x l u H3 Q
theorem A6 {r:V->ao af->ao af->Hp->VK->Prop} (hr:SlR X r) (he:PE X e te) (hl:PO X lo tl) (hu:PO X hi th):PE X (.Subscript e (.Slice lo hi ac p2) pos) (tSl r te tl th):=by intro pins s σ H Q I h;refine uT (thn (he pins s σ H _ I h) fun v s1 ⟨x,H1,I1,r1,q1⟩=>?_);refine Fa (thn (hl pins s1 σ H1 _ I1 q1) fun vl s2 ⟨l,H2,I2,pl,q2⟩=>thn (hu pins s2 σ H2 _ I2 q2) fun vu s3 ⟨u,H3,I3,pu,q3⟩=>?_);rw[evalPart_none];refine qA ?_;have I4:Inv X pins σ H3 {s3 with heap:=s3.heap.push {cls:=.type "slice",data:=.fields #[vl,vu,.none]} }:=I3.kept (t':=s3.toks) fun b ob q=>qt _ q;obtain⟨T,id,hT,ht,hg⟩:=hr pins {s3 with heap:=s3.heap.push {cls:=.type "slice",data:=.fields #[vl,vu,.none]} } σ H3 x v vl vu l u s3.heap.objs.size Q I4 r1 (Fb ..) pl pu q3;show aJ (aQ X.prog X.w) X.A (uU e (.Slice lo hi ac p2) v (.ref s3.heap.objs.size)) (EP X pins σ Q) X.xe {s3 with heap:=s3.heap.push {cls:=.type "slice",data:=.fields #[vl,vu,.none]} };exact yY (ops:=[.ref s3.heap.objs.size,v]) ht hT hg (by with_unfolding_all rfl)
noncomputable def jJ (xs:ab V) (lo hi:ao af):ab V:=(xs.drop (HT.sIx xs.length 0 lo)).take (HT.sIx xs.length xs.length hi-HT.sIx xs.length 0 lo)
theorem EA (xs:ab V) (lo hi:ao af):(jJ xs lo hi).length<=xs.length:=by unfold jJ;rw[qE,l5];omega
noncomputable def Qj (K:aV):V->ao af->ao af->Hp->VK->Prop:=fun x lo hi H Q=>∃a xs,x=.ref a/\SqT K H a xs /\
 ¬(HT.sIx xs.length 0 lo=0/\HT.sIx xs.length xs.length hi=xs.length)/\∀p,H p=ac->Q (.ref p) (upd H p (.tup (jJ xs lo hi)))
theorem Kd:SlR X (Qj X.K):=by
 intro pins s σ H x v vl vu lo hi sl Q I rx hs pl pu h;obtain⟨a,xs,rfl,hx,hw,q⟩:=h;cases rx;obtain⟨its,r,ht,hz⟩:=I.tuple hx;have hlen:its.toArray.size=xs.length:=by rw[qB];exact r.length.symm
 refine⟨"tuple",_,E8.lookup,ht.typeIs,?_⟩;refine HT.getItem_tuple_cut ht hs pl pu (by rw[hlen];exact hw) ?_ (by rw[hlen];exact hz);rw[hlen];refine⟨.ref s.heap.objs.size,_,I.laid (t':=s.toks) (o:=.tup (jJ xs lo hi)) (fun b ob q=>qt _ q) (qv _) ?_,rfl,q _ (I.hok.fresh (qv _))⟩;exact⟨qM (EA xs lo hi) hz,_,(r.drop (HT.sIx xs.length 0 lo)).take (HT.sIx xs.length xs.length hi-HT.sIx xs.length 0 lo),Fc _ _⟩
noncomputable def Dj (K:aV):R2:=fun x y H Q=>∃a b xs ys,x=.ref a/\y=.ref b/\SqT K H a xs/\SqT K H b ys/\xs≠[]/\xs.length+ys.length<=aM /\
 (ys=[]->Q (.ref a) H)/\(ys≠[]->∀p,H p=ac->Q (.ref p) (upd H p (.tup (xs++ys))))
theorem bi.nil_iff {xs:ab V} {us:ab av} (r:bi xs us):us=[]↔xs=[]:=by
 cases r with
 |nil=>simp
 |cons _ _=>simp
theorem KI:OpR X (gc .Add) (Dj X.K):=by intro pins s σ H x y v u Q I rx ry h;obtain⟨a,b,xs,ys,rfl,rfl,ha,hb,hx,hz,q1,q2⟩:=h;cases rx;cases ry;obtain⟨its,r1,p1,_⟩:=I.tuple ha;obtain⟨its2,r2,p2,_⟩:=I.tuple hb;refine HT.cat_tup p1 p2 (fun z=>hx (r1.nil_iff.mp z)) (fun z=>⟨.ref a,H,I,rfl,q1 (r2.nil_iff.mp z)⟩) (fun z=>?_) (by rw[←r1.length,←r2.length];exact hz);refine⟨.ref s.heap.objs.size,_,I.laid (t':=s.toks) (o:=.tup (xs++ys)) (fun b ob q=>qt _ q) (qv _) ?_,rfl,q2 (fun w=>z (r2.nil_iff.mpr w)) _ (I.hok.fresh (qv _))⟩;exact⟨by rw[qi];exact hz,_,r1.append r2,Fc _ _⟩
end
noncomputable def ixN (n:ag) (i:af):ao ag:=if 0<=i then (if i<n then aa i.toNat else ac) else if -(n:af)<=i then aa (i+n).toNat else ac
noncomputable def atI (xs:ab α) (i:af):ao α:=(ixN xs.length i).bind fun j=>xs[j]?
theorem Gz {i:af} (h:ixN n i=aa j):seqIndex? i n=aa j/\j<n /\ -(n:af)<=i/\i<n:=by
 unfold ixN at h;by_cases h0:0<=i
 .rw[qY h0] at h;by_cases h1:i<n
  .rw[qY h1] at h;have e:i.toNat=j:=qH h;exact⟨by rw[seqIndex_of h0 h1,e],by omega,by omega,h1⟩
  .rw[qZ h1] at h;cases h
 .rw[qZ h0] at h;by_cases h1 : -(n:af)<=i
  .rw[qY h1] at h;have e:(i+n).toNat=j:=qH h;exact⟨by rw[seqIndex_neg (by omega) h1,e],by omega,h1,by omega⟩
  .rw[qZ h1] at h;cases h
theorem ye {xs:ab α} {i:af} {v:α} (h:atI xs i=aa v):∃j,seqIndex? i xs.length=aa j/\xs[j]?=aa v/\j<xs.length /\ -(xs.length:af)<=i/\i<xs.length:=by
 unfold atI at h;cases e:ixN xs.length i with
 |none=>rw[e] at h;cases h
 |some j=>
  rw[e] at h;obtain⟨h1,h2,h3,h4⟩:=Gz e;exact⟨j,h1,h,h2,h3,h4⟩
theorem kK {xs:ab α} {v:α} (h:xs[j]?=aa v):atI xs (j:af)=aa v:=by
 have hj:j<xs.length:=(cR.mp h).1;have e:ixN xs.length (j:af)=aa j:=by unfold ixN;rw[qY (by omega),qY (by omega)];simp
 unfold atI;rw[e];exact h
noncomputable def xt (b:Expr):Prop:=∀o i,yZ b aq o i=operate [o,i] (m9 o i)
noncomputable def IxR (X:Cx) (r:R2):Prop:=
 ∀(value slice:Expr) (pins:ab (aw×bh)) (s:aI) (σ:St) (H:Hp) (x y:V) (v u:av) (Q:VK),Inv X pins σ H s->bO x v->bO y u->r x y H Q->
  yZ slice aq v u=operate [v,u] (m9 v u)->aJ (aQ X.prog X.w) X.A (uU value slice v u) (EP X pins σ Q) X.xe s
noncomputable def MtR (X:Cx) (id:cH) (r:V->ab V->Hp->VK->Prop):Prop:=
 ∀(pins:ab (aw×bh)) (s:aI) (σ:St) (H:Hp) (x:V) (xs:ab V) (v:av) (us:ab av) (Q:VK),Inv X pins σ H s->bO x v->bi xs us->r x xs H Q->
  aJ (aQ X.prog X.w) X.A (call (.builtin id) (v::us)) (EP X pins σ Q) X.xe s
variable {cpos:dF}
section
variable {a:Expr}
theorem IxR.or (h:IxR X r) (h':IxR X r'):IxR X (fun x y H Q=>r x y H Q\/r' x y H Q):=by
 intro value slice pins s σ H x y v u Q I rx ry q hs;rcases q with q|q
 .exact h value slice pins s σ H x y v u Q I rx ry q hs
 .exact h' value slice pins s σ H x y v u Q I rx ry q hs
theorem AZ (hr:IxR X r) (ha:PE X a ta) (hb:PE X b tb) (hs:xt b):PE X (.Subscript a b pos) (tOp r ta tb):=by intro pins s σ H Q I h;exact uT (xr ha hb I h fun v u s2 x y H2 I2 rx ry q=>hr a b pins s2 σ H2 x y v u Q I2 rx ry q (hs _ _))
noncomputable def C4 (K:aV):R2:=fun x y H Q=>∃p xs i v,x=.ref p/\y=.int i/\SqL K H p xs/\atI xs i=aa v/\Q v H
noncomputable def Dv (K:aV):R2:=fun x y H Q=>∃p xs i v,x=.ref p/\y=.int i/\SqT K H p xs/\atI xs i=aa v/\Q v H
noncomputable def Cb:R2:=fun x y H Q=>∃z i c,x=.str z/\y=.int i/\z.length<=aM/\atI z.cps.toList i=aa c/\Q (.str ⟨#[c]⟩) H
theorem Ka:IxR X (C4 X.K):=by
 intro value slice pins s σ H x y v u Q I rx ry h hs;obtain⟨p,xs,i,z,rfl,rfl,hq,he,q⟩:=h;cases rx;obtain⟨t,rfl⟩:=ry;obtain⟨its,r,pl,hz⟩:=I.list hq;obtain⟨j,h1,h2,h3,h4,h5⟩:=ye he;obtain⟨w,ew,rw'⟩:=r.get h2;have hl:=r.length;have hn:=sY;have fin:EP X pins σ Q w s:=⟨z,H,I,rw',q⟩;by_cases h0:0<=i
 .have hj:i.toNat=j:=by rw[seqIndex_of h0 h5] at h1;exact qH h1
  exact item_listR pl.isList h0 (by omega) (by rw[hj];simpa using ew) fin hs
 .have hj:(i+(its.toArray.size:af)).toNat=j:=by rw[seqIndex_neg (by omega) h4] at h1;rw[qB,←hl];exact qH h1
  exact Rq (x:=w) pl.isList.typeIs y0.lookup
   (wpAny_getItem_list_neg (Q:=fun r s'=>r=w/\EP X pins σ Q r s') pl.isList (by omega) (by rw[qB]<;>omega) (by omega) (by rw[hj];simpa using ew) ⟨rfl,fin⟩) hs
theorem Pt:IxR X (Dv X.K):=by
 intro value slice pins s σ H x y v u Q I rx ry h hs;obtain⟨p,xs,i,z,rfl,rfl,hq,he,q⟩:=h;cases rx;obtain⟨t,rfl⟩:=ry;obtain⟨its,r,pl,hz⟩:=I.tuple hq;obtain⟨j,h1,h2,h3,h4,h5⟩:=ye he;obtain⟨w,ew,rw'⟩:=r.get h2;have hl:=r.length;have hn:=sY;have fin:EP X pins σ Q w s:=⟨z,H,I,rw',q⟩;exact Rq (x:=w) pl.typeIs slot_tuple_getitem.lookup
  (getItem_tuple (j:=j) (Q:=fun r s'=>r=w/\EP X pins σ Q r s') pl (by omega) (by omega) (by rw[qB,←hl];exact h1) (by simpa using ew) ⟨rfl,fin⟩) hs
theorem HV:IxR X Cb:=by
 intro value slice pins s σ H x y v u Q I rx ry h hs;obtain⟨z,i,c,rfl,rfl,hz,he,q⟩:=h;obtain⟨t,rfl⟩:=rx;obtain⟨t',rfl⟩:=ry;obtain⟨j,h1,h2,h3,h4,h5⟩:=ye he;have hl:z.cps.toList.length=z.length:=by simp[gU]
 rw[hl] at h1 h4 h5;have hn:=sY;exact yY (rO s z t) slot_str_getitem.lookup (getItem_str (c:=c) (by have e1:decide (i < -(2 ^ 63:af))=aq:=qN (by omega);have e2:decide (i ≥ 2 ^ 63)=aq:=qN (by omega);rw[e1,e2,Bool.or_false]) (by rw[h1];simpa using h2) ⟨.str ⟨#[c]⟩,H,I.tok _,⟨_,rfl⟩,q⟩) hs
noncomputable def rIx (K:aV):R2:=fun x y H Q=>C4 K x y H Q\/Dv K x y H Q\/Cb x y H Q
theorem BA:IxR X (rIx X.K):=Ka.or (Pt.or HV)
theorem GS (lo hi:ao af) (n:ag):(iT lo hi ac n).1=((HT.sIx n 0 lo:ag):af)/\(iT lo hi ac n).2.1=((HT.sIx n n hi:ag):af)/\(iT lo hi ac n).2.2=1:=by
 refine⟨?_,?_,rfl⟩
 .cases lo with
  |none=>simp[iT,HT.sIx]
  |some i=>
   simp only[iT,HT.sIx,Rr,show(1:af) > 0 by decide,cy];by_cases h:i<0
   .simp only[h,cy]<;>omega
   .simp only[h,cW]<;>omega
 .cases hi with
  |none=>simp[iT,HT.sIx]
  |some i=>
   simp only[iT,HT.sIx,Rr,show(1:af) > 0 by decide,cy];by_cases h:i<0
   .simp only[h,cy]<;>omega
   .simp only[h,cW]<;>omega
theorem Lh (its:ab av) (lo hi:ao af):y6 its.toArray lo hi ac=((its.drop (HT.sIx its.length 0 lo)).take (HT.sIx its.length its.length hi-HT.sIx its.length 0 lo)).toArray:=by obtain⟨h1,h2,h3⟩:=GS lo hi its.toArray.size;unfold y6;rw[h1,h2,h3];simp only[Rs,yU,qB]<;>rfl
noncomputable def G8 (K:aV):V->ao af->ao af->Hp->VK->Prop:=fun x lo hi H Q=>∃a xs,x=.ref a/\SqL K H a xs/\∀p,H p=ac->Q (.ref p) (upd H p (.lst (jJ xs lo hi)))
theorem Ep:SlR X (G8 X.K):=by intro pins s σ H x v vl vu lo hi sl Q I rx hs pl pu h;obtain⟨a,xs,rfl,hx,q⟩:=h;cases rx;obtain⟨its,r,ht,hz⟩:=I.list hx;have hlen:=r.length;refine⟨"list",_,y0.lookup,ht.isList.typeIs,?_⟩;refine Fd ht.isList hs pl pu .none (by simp) ?_ (by rw[qB]<;>omega);rw[Lh,←hlen];refine⟨.ref s.heap.objs.size,_,I.laid (t':=s.toks) (o:=.lst (jJ xs lo hi)) (fun b ob q=>qt _ q) (qv _) ?_,rfl,q _ (I.hok.fresh (qv _))⟩;exact⟨qM (EA xs lo hi) hz,_,0,(r.drop (HT.sIx xs.length 0 lo)).take (HT.sIx xs.length xs.length hi-HT.sIx xs.length 0 lo),qG _ rfl⟩
theorem IQ:fU X (.type "list") (fun xs H Q=>∃p ys,xs=[.ref p]/\(SqL X.K H p ys\/SqT X.K H p ys)/\∀l,H l=ac->Q (.ref l) (upd H l (.lst ys))):=by
 intro pins s σ H xs us Q I r h;obtain⟨p,ys,rfl,hq,q⟩:=h;obtain⟨u,rfl,rx⟩:=fY r;cases rx;have fin:∀(its:ab av),bi ys its->ys.length<=aM->∀(h':Heap) (c':ag),(∀b o',s.heap.get? b=aa o'->h'.get? b=aa o')->
   h'.get? s.heap.objs.size=aa {cls:=.type "list",dict:=ac,data:=.seq its.toArray c',slots:=#[]}->EP X pins σ Q (.ref s.heap.objs.size) {s with heap:=h'}:=fun its r' hz h' c' kp e=>
  ⟨.ref s.heap.objs.size,_,I.laid (t':=s.toks) kp (qv _) (show cO X.prog X.w _ h' _ (.lst ys) from⟨hz,its,c',r',e⟩),rfl,q _ (I.hok.fresh (qv _))⟩
 rcases hq with hq|hq
 .obtain⟨its,r',pl,hz⟩:=I.list hq;have hlen:=r'.length;obtain⟨o,ho,hc,n,hd⟩:=pl.isList;exact call_list_seq p (.inl rfl) ho hc hd (fun h' c' kp e=>fin its r' hz h' c' kp e) (by simp only[qB]<;>omega)
 .obtain⟨its,r',pl,hz⟩:=I.tuple hq;have hlen:=r'.length;obtain⟨o,ho,hc,n,hd⟩:=pl;exact call_list_seq p (.inr rfl) ho hc hd (fun h' c' kp e=>fin its r' hz h' c' kp e) (by simp only[qB]<;>omega)
theorem B1:fU X (.type "tuple") (fun xs H Q=>∃p ys,xs=[.ref p]/\((SqL X.K H p ys/\∀l,H l=ac->Q (.ref l) (upd H l (.tup ys)))\/(SqT X.K H p ys/\Q (.ref p) H))):=by
 intro pins s σ H xs us Q I r h;obtain⟨p,ys,rfl,h⟩:=h;obtain⟨u,rfl,rx⟩:=fY r;cases rx;rcases h with⟨hq,q⟩|⟨hq,q⟩
 .obtain⟨its,r',pl,hz⟩:=I.list hq;have hlen:=r'.length;refine call_tuple_list pl.isList (fun h' kp=>?_) (by simp only[qB]<;>omega);have I1:Inv X pins σ H {s with heap:=h'}:=I.kept (t':=s.toks) kp;have I2:Inv X pins σ (upd H h'.objs.size (.tup ys)) {s with heap:=h'.push {cls:=.type "tuple",data:=.seq its.toArray} } :=
   I1.laid (t':=s.toks) (fun b o e=>qt _ e) (qv _) (show cO X.prog X.w _ _ _ (.tup ys) from⟨hz,its,r',Fc _ _⟩)
  exact⟨.ref h'.objs.size,_,I2,rfl,q _ (I1.hok.fresh (qv _))⟩
 .obtain⟨its,r',pl,hz⟩:=I.tuple hq;exact call_tuple_same pl ⟨.ref p,H,I,rfl,q⟩
noncomputable def tyV (K:aV) (T:cH) (x:V) (H:Hp):Prop:=match x with
 |.str _=>T="str"
 |.int _=>T="int"
 |.ref p=>(T="list"/\∃xs,SqL K H p xs)\/(T="tuple"/\∃o,K.lookup p=aa o/\o.cls=.type "tuple"/\o.dict=ac) \/
   (T="dict"/\((∃kvs,H p=aa (.dK kvs))\/∃kvs,H p=aa (.dT kvs)))\/(T="set"/\∃S n,H p=aa (.set S n))
 |_=>False
theorem BG {x:V} {v:av} (I:Inv X pins σ H s) (r:bO x v) (ty:tyV X.K T x H) :
  s.TypeIs v T/\∀a,v=.ref a->∃ob,s.heap.get? a=aa ob/\ob.dict=ac:=by
 cases x with
 |str z=>
  obtain⟨t,rfl⟩:=r;cases(show T="str" from ty);exact⟨rO s z t,fun _ e=>nomatch e⟩
 |int i=>
  obtain⟨t,rfl⟩:=r;cases(show T="int" from ty);exact⟨Fe s i t,fun _ e=>nomatch e⟩
 |ref p=>
  cases r;rcases ty with⟨rfl,xs,hq⟩|⟨rfl,o,hk,hc,hd⟩|⟨rfl,hk⟩|⟨rfl,S,n,hk⟩
  .obtain⟨its,_,pl,_⟩:=I.list hq;refine⟨pl.isList.typeIs,fun a e=>?_⟩;cases e;obtain⟨o,n,e,c,hd,_⟩:=pl;exact⟨o,e,hd⟩
  .refine⟨⟨o,I.kIn p o hk,hc⟩,fun a e=>?_⟩;cases e;exact⟨o,I.kIn _ o hk,hd⟩
  .have z:∃o,s.heap.get? p=aa o/\o.ExactDict:=by
    rcases hk with⟨kvs,hk⟩|⟨kvs,hk⟩
    .obtain⟨_,_,_,_,o,_,_,e,ex,_⟩:=I.hok p _ hk;exact⟨o,e,ex⟩
    .obtain⟨_,_,_,_,o,_,_,e,ex,_⟩:=I.hok p _ hk;exact⟨o,e,ex⟩
   obtain⟨o,e,ex⟩:=z;refine⟨⟨o,e,ex.1⟩,fun a e2=>?_⟩;cases e2;exact⟨o,e,ex.2.1⟩
  .obtain⟨o,_,_,_,e,ex,_⟩:=I.hok p _ hk;refine⟨⟨o,e,ex.1⟩,fun a e2=>?_⟩;cases e2;exact⟨o,e,ex.2.1⟩
 |_=>exact iM ty
noncomputable def J8 (K:aV) (T:cH) (r:V->ab V->Hp->VK->Prop) (to:TE):TE:=fun σ H Q=>to σ H fun x H1=>tyV K T x H1/\r x [] H1 Q
noncomputable def tBM (K:aV) (T:cH) (r:V->ab V->Hp->VK->Prop) (to:TE) (t:TA):TE:=fun σ H Q=>to σ H fun x H1=>tyV K T x H1/\t σ H1 fun xs H2=>r x xs H2 Q
variable {to:TE} {t:TA} {id:cH} {r:V->ab V->Hp->VK->Prop}
theorem Nu (pa:Ff T) (slot:Slot T name id) (hty:typeOf (.builtin id)=bm (.type "method_descriptor")) (hm:MtR X id r) (ho:PE X o to)
  (hbase:iO o name X.env (eval o X.env)=eval o X.env:=by rfl) (hline:(apos.endLine==cpos.line)=al:=by rfl):PE X (.Call (.Attribute o name apos) [] [] cpos) (J8 X.K T r to):=by
 intro pins s σ H Q I h;refine wpAny_Call_method0_late hbase hline (thn (ho pins s σ H _ I h) fun v s1 ⟨x,H1,I1,r1,ty,q1⟩=>?_);obtain⟨h1,h2⟩:=BG I1 r1 ty;exact⟨T,id,pa,slot,hty,h1,h2,Rt rfl (PySem.evalArgs_none (hm pins s1 σ H1 x [] v [] Q I1 r1 .nil q1))⟩
theorem pG (pa:Ff T) (slot:Slot T name id) (hty:typeOf (.builtin id)=bm (.type "method_descriptor")) (hm:MtR X id r) (ho:PE X o to) (ha:PA X (e::es) t)
  (hbase:iO o name X.env (eval o X.env)=eval o X.env:=by rfl)
  (hfew:((cz cpos (aS (e::es) X.env)).all (fun x=>!x.1) && (iP cpos (iQ [] X.env)).all (fun x=>x.1.isSome)
   && decide ((e::es).length+([]:ab jw).length+(if ([]:ab jw).isEmpty then 0 else 1)<30))=al:=by rfl)
  (hline:(apos.endLine==cpos.line)=al:=by rfl) (hs:aS (e::es) X.env=(aq,eval e X.env)::aS es X.env:=by rfl) (hplain:(cz cpos (aS es X.env)).any (·.1)=aq:=by rfl) :
  PE X (.Call (.Attribute o name apos) (e::es) [] cpos) (tBM X.K T r to t):=by
 intro pins s σ H Q I h;refine wpAny_Call_method_late hbase hfew hline rfl (thn (ho pins s σ H _ I h) fun v s1 ⟨x,H1,I1,r1,ty,q1⟩=>?_);obtain⟨h1,h2⟩:=BG I1 r1 ty;refine⟨T,id,pa,slot,hty,h1,h2,?_⟩;have hA:=ha cpos pins s1 σ H1 _ I1 q1;rw[hs] at hA ⊢;refine Rt (by show(aq || (cz cpos (aS es X.env)).any (·.1))=aq;rw[hplain]<;>rfl) (Calls.evalArgs_plain ?_);exact thn hA fun us s2 ⟨vs,H2,I2,r2,q2⟩=>hm pins s2 σ H2 x vs v us Q I2 r1 r2 q2
end
noncomputable def MtM (X:Cx) (id:cH) (r:V->ab V->Hp->VK->Prop):Prop:=
 ∀(pins:ab (aw×bh)) (s:aI) (σ:St) (H:Hp) (x:V) (xs:ab V) (v:av) (us:ab av) (Q:VK),Inv X pins σ H s->bO x v->bi xs us->r x xs H Q->
  aJ (aQ X.prog X.w) X.A (call (.builtin id) (v::us)) (EP X pins σ Q) X.xe s
theorem bi.one:∀{x:V} {us:ab av},bi [x] us->∃u,us=[u]/\bO x u
 |_,_,.cons r .nil=>⟨_,rfl,r⟩
theorem bi.reverse {xs:ab V} {us:ab av} (h:bi xs us):bi xs.reverse us.reverse:=by
 induction h with
 |nil=>exact .nil
 |cons r t ih=>rw[y7,y7];exact bi.append ih (.cons r .nil)
theorem bi.rep {xs:ab V} {us:ab av} (h:bi xs us):∀k:ag,bi (bQ k xs).flatten (bQ k us).flatten
 |0=>.nil
 |k+1=>by rw[l6,l6,l7,l7];exact bi.append h (bi.rep h k)
theorem Ed (its:ab av):∀(k:ag) (acc:ab av),
  Fg (fun x1 x2=>x1++x2) acc.toArray (bQ k its.toArray)=(acc++(bQ k its).flatten).toArray
 |0,acc=>by simp
 |k+1,acc=>by
  have e:acc.toArray++its.toArray=(acc++its).toArray:=by simp
  have e2:(acc++its)++(bQ k its).flatten=acc++(bQ (k+1) its).flatten:=by rw[l6,l7,qw]
  rw[←e2,←Ed its k (acc++its),←e,l6,nc]
variable {its:ab av}
section
variable {l b:aw} {xs ys zs:ab V}
theorem Inv.lset {its':ab av} {f:b8 av->b8 av} (I:Inv X pins σ H s) (hH:H l=aa (.lst xs))
  (e:s.heap.get? l=aa {cls:=.type "list",data:=.seq its.toArray n}) (hf:f its.toArray=its'.toArray) (hv:bi ys its') (hz:ys.length<=aM) :
  Inv X pins σ (upd H l (.lst ys)) {s with heap:=s.heap.update l (Ru f),toks:=t'}:=by
 have q:=PySem.IsL.update e f;rw[hf] at q;refine I.write (x:=l) (e:=l) (by rw[hH];exact trivial) (.inl rfl) (fun b' u hb hu=>(Heap.get?_update_other s.heap (Ru f) (dM hb)).trans hu) ⟨_,q⟩ ?_;exact⟨hz,its',_,hv,q⟩
theorem Inv.lnew (I:Inv X pins σ H s) (hv:bi ys its) (hz:ys.length<=aM) :
  Inv X pins σ (upd H s.heap.objs.size (.lst ys)) {s with heap:=s.heap.push {cls:=.type "list",data:=.seq its.toArray},toks:=t'} :=
 I.laid (fun _ _ q=>qt _ q) (qv _) ⟨hz,its,0,hv,qG _ rfl⟩
theorem Inv.fresh (I:Inv X pins σ H s):H s.heap.objs.size=ac:=I.hok.fresh (qv _)
theorem Inv.lstM (I:Inv X pins σ H s) (hH:H l=aa (.lst xs)):xs.length<=aM/\∃(its:ab av) (n:ag),bi xs its/\xs.length=its.length/\s.heap.get? l=aa {cls:=.type "list",data:=.seq its.toArray n}:=by obtain⟨z,its,n,r,e⟩:=I.hok l _ hH;exact⟨z,its,n,r,r.length,e⟩
theorem AE (h:n<=aM):za n=aq:=by unfold za;exact qN (by omega)
end
noncomputable def Hv:V->ab V->Hp->VK->Prop:=fun x vs H Q=>∃l xs y,x=.ref l/\vs=[y]/\H l=aa (.lst xs)/\xs.length<aM/\Q .non (upd H l (.lst (xs++[y])))
theorem tM:MtM X "list.append" Hv:=by intro pins s σ H x vs v us Q I rx rv h;obtain⟨l,xs,y,rfl,rfl,hH,hz,q⟩:=h;cases rx;obtain⟨u,rfl,ru⟩:=rv.one;obtain⟨z,its,n,r,hl,e⟩:=I.lstM hH;refine ng zb ⟨_,e,rfl⟩ F.entry_list_append (F.args_list_append_2 _ _) (PySem.list_append l its.toArray n u (by rw[qB];omega)) ⟨e,?_⟩;refine⟨.non,_,I.lset (its':=its++[u]) hH e (by simp) (r.append (.cons ru .nil)) ?_,rfl,q⟩;rw[qi,qW];omega
noncomputable def Mu:V->ab V->Hp->VK->Prop:=fun x vs H Q=>∃l b xs zs,x=.ref l/\vs=[.ref b]/\H l=aa (.lst xs)/\H b=aa (.lst zs)/\xs.length+zs.length<=aM/\Q .non (upd H l (.lst (xs++zs)))
theorem LP:MtM X "list.extend" Mu:=by
 intro pins s σ H x vs v us Q I rx rv h;obtain⟨l,b,xs,zs,rfl,rfl,hH,hB,hz,q⟩:=h;cases rx;obtain⟨u,rfl,ru⟩:=rv.one;cases ru;obtain⟨z,its,n,r,hl,e⟩:=I.lstM hH;obtain⟨z2,its2,n2,r2,hl2,e2⟩:=I.lstM hB;have hsz:its.toArray.size+its2.toArray.size<=aM:=by rw[qB,qB];omega
 have hlong:¬(!its.toArray.isEmpty && za (its.toArray.size+its2.toArray.size))=al:=by rw[AE hsz,Rv];exact qr
 refine ng Rw ⟨_,e,rfl⟩ F.entry_list_extend (F.args_list_extend_2 _ _)
  (AutoSeq1.list_extend_list_list_0 l its.toArray n b its2.toArray n2 hlong (by rw[qB];omega) (by omega)) ⟨e,e2,?_⟩
 refine⟨.non,_,I.lset (its':=its++its2) hH e (by simp) (r.append r2) ?_,rfl,q⟩;rw[qi];omega
noncomputable def wa:R2:=fun x y H Q=>∃l b xs zs,x=.ref l/\y=.ref b/\H l=aa (.lst xs)/\H b=aa (.lst zs)/\xs.length+zs.length<=aM/\∀p,H p=ac->Q (.ref p) (upd H p (.lst (xs++zs)))
theorem EB:OpR X (gc .Add) wa:=by
 intro pins s σ H x y v u Q I rx ry h;obtain⟨l,b,xs,zs,rfl,rfl,hH,hB,hz,q⟩:=h;cases rx;cases ry;obtain⟨z,its,n,r,hl,e⟩:=I.lstM hH;obtain⟨z2,its2,n2,r2,hl2,e2⟩:=I.lstM hB;refine PySem.P.add_list e e2 ?_ (by rw[qB,qB];omega);have ea:its.toArray++its2.toArray=(its++its2).toArray:=by simp
 rw[ea];exact⟨.ref _,_,I.lnew (t':=s.toks) (r.append r2) (by rw[qi];omega),rfl,q _ I.fresh⟩
noncomputable def Bh:R2:=fun x y H Q=>∃l k xs,x=.ref l/\y=.int k/\H l=aa (.lst xs) /\ -(2 ^ 63)<=k/\k<2 ^ 63/\xs.length*k.toNat<=aM /\
 ∀p,H p=ac->Q (.ref p) (upd H p (.lst (bQ k.toNat xs).flatten))
theorem Au (xs:ab α) (k:ag):(bQ k xs).flatten.length=k*xs.length:=by
 induction k with
 |zero=>simp
 |succ k ih=>rw[l6,l7,qi,ih,zc,Rx]
theorem Pp:OpR X (gc .Mult) Bh:=by
 intro pins s σ H x y v u Q I rx ry h;obtain⟨l,k,xs,rfl,rfl,hH,h1,h2,hz,q⟩:=h;cases rx;obtain⟨t,rfl⟩:=ry;obtain⟨z,its,n,r,hl,e⟩:=I.lstM hH;have hlen:its.toArray.size*k.toNat<=aM:=by rw[qB,←hl];exact hz
 have hcap:¬its.toArray.size*k.toNat > (2 ^ 63-1) / 8:=by
  have:(aM:ag)<=(2 ^ 63-1) / 8:=by decide
  omega
 have hfit:¬(!TY k)=al:=by rw[fitsIndex_both h1 h2];exact qr
 have hlong:¬za (its.toArray.size*k.toNat)=al:=by rw[AE hlen];exact qr
 have hnew:Fg (fun x1 x2=>x1++x2) #[] (bQ (if its.toArray.isEmpty=al then 0 else k.toNat) its.toArray)=(bQ k.toNat its).flatten.toArray:=by
  have f0:∀m:ag,Fg (fun x1 x2=>x1++x2) #[] (bQ m its.toArray)=(bQ m its).flatten.toArray:=fun m=>by have:=Ed its m [];rw[qR] at this;exact this
  rw[f0];cases its with
  |nil=>simp
  |cons a r'=>rw[qZ (by simp)]
 refine wpAny_binaryOp_repeat_ref (T:="list") (U:="int") (by decide) ⟨_,e,rfl⟩ (fun s'=>Fe s' k t) noFill_list_mul F.fills_int_mul Ry repeat_list F.slot_int_index.lookup
  (ng Ry (Fe s k t) F.entry_int_rmul (F.args_int_rmul_2 _ _) (int___rmul___int_list k t l its.toArray n)
   ⟨e,rfl,⟨_,e,rfl⟩,ng F.slot_list_mul ⟨_,e,rfl⟩ F.entry_list_mul (F.args_list_mul_2 _ _) (AutoListH.list___mul___list_int_3 l its.toArray n k t hfit hcap hlong) ⟨e,?_⟩⟩)
 rw[hnew];exact⟨.ref _,_,I.lnew (t':=s.toks) (r.rep k.toNat) (by rw[Au,Rz];exact hz),rfl,q _ I.fresh⟩
section
variable [fC κ]
noncomputable def gr (kvs:ab (κ×V)) (k:κ):ao V:=(kvs.find? fun kv=>decide (kv.1=k)).map (·.2)
noncomputable def c9 (kvs:ab (κ×V)) (k:κ) (v:V):ab (κ×V):=
 if (kvs.any fun kv=>decide (kv.1=k))=al then kvs.map (fun kv=>if kv.1=k then (kv.1,v) else kv) else kvs++[(k,v)]
theorem ti {p:κ×V} {r:ab (κ×V)} {k:κ} (e:p.1=k):gr (p::r) k=aa p.2:=by simp[gr,nh,e]
theorem sj {p:κ×V} {r:ab (κ×V)} {k:κ} (e:¬p.1=k):gr (p::r) k=gr r k:=by simp[gr,nh,e]
theorem D' (k:κ):∀kvs:ab (κ×V),(kvs.any fun kv=>decide (kv.1=k))=(gr kvs k).isSome
 |[]=>rfl
 |p::r=>by
  rw[ni];by_cases e:p.1=k
  .simp only[ti e,qS e,Bool.true_or,Option.isSome_some]
  .rw[sj e,qN e,Bool.false_or];exact D' k r
theorem xw (kvs:ab (κ×V)) (k:κ) (v:V):(c9 kvs k v).length<=kvs.length+1:=by
 unfold c9;split
 .rw[qe];omega
 .rw[qi,qh,qk];omega
theorem fS.isSome_eq {o:ao V} {u:ao av} (r:fS o u):o.isSome=u.isSome:=by
 cases o with
 |none=>cases u with
  |none=>rfl
  |some _=>exact(show False from r).elim
 |some _=>cases u with
  |none=>exact(show False from r).elim
  |some _=>rfl
theorem KV.val {kvs:ab (κ×V)} {vs:ab (κ×av)} (r:KV kvs vs) (k:κ):fS (gr kvs k) (ox vs k):=by
 unfold KV at r
 induction r with
 |nil=>exact fO
 | @cons p q ps qs h t ih=>
  obtain⟨h1,h2⟩:=h;by_cases e:p.1=k
  .have e':q.1=k:=h1.symm.trans e;have b:ox (q::qs) k=aa q.2:=by simp[ox,nh,e']
   rw[ti e,b];exact h2
  .have e':¬q.1=k:=fun z=>e (h1.trans z);have b:ox (q::qs) k=ox qs k:=by simp[ox,nh,e']
   rw[sj e,b];exact ih
theorem KV.any {kvs:ab (κ×V)} {vs:ab (κ×av)} (r:KV kvs vs) (k:κ):(kvs.any fun kv=>decide (kv.1=k))=vs.any fun kv=>decide (kv.1=k):=by
 unfold KV at r
 induction r with
 |nil=>rfl
 |cons h t ih=>rw[ni,ni,ih,h.1]
theorem KV.repl {kvs:ab (κ×V)} {vs:ab (κ×av)} (r:KV kvs vs) (k:κ) {y:V} (ry:bO y u) :
  KV (kvs.map fun kv=>if kv.1=k then (kv.1,y) else kv) (vs.map fun kv=>if kv.1=k then (kv.1,u) else kv):=by
 unfold KV at r ⊢
 induction r with
 |nil=>exact .nil
 | @cons p q ps qs h t ih=>
  rw[qm,qm];refine .cons ?_ ih;obtain⟨h1,h2⟩:=h;by_cases e:p.1=k
  .rw[qY e,qY (h1.symm.trans e)];exact⟨h1,ry⟩
  .rw[qZ e,qZ (fun z=>e (h1.trans z))];exact⟨h1,h2⟩
theorem KV.put {kvs:ab (κ×V)} {vs:ab (κ×av)} (r:KV kvs vs) (k:κ) {y:V} (ry:bO y u):KV (c9 kvs k y) (stored vs k u):=by
 unfold c9 stored;rw[r.any k];by_cases e:(vs.any fun kv=>decide (kv.1=k))=al
 .rw[qY e,qY e];exact r.repl k ry
 .rw[qZ e,qZ e];exact Paired.snoc r ⟨rfl,ry⟩
theorem KV.length {kvs:ab (κ×V)} {vs:ab (κ×av)} (r:KV kvs vs):kvs.length=vs.length:=Paired.length r
end
theorem nI {k:Key} (r:bO (kV k) u):(dc P w).is k u=al:=by
 cases k with
 |inl i=>obtain⟨t,e⟩:=(show ∃t,u=oh i t from r);subst e;exact Js P w i t
 |inr x=>obtain⟨t,e⟩:=(show ∃t,u=ro x t from r);subst e;exact HE P w x t
theorem DY {P:dS} {w:cQ}:∀{ks:ab Key} {us:ab av},bi (ks.map kV) us->ItemsAre (dc P w) ks us
 |[],_,r=>by rw[qO] at r;cases r;exact .nil
 |k::ks,_,r=>by
  rw[qm] at r;cases r with
  |cons h t=>exact .cons (nI h) (DY t)
abbrev KT (H:Hp):ab (ab Key×V)->ab (ab Key×aw×av)->Prop:=Paired fun p q=>p.1=q.1/\H q.2.1=aa (.tup (p.1.map kV))/\bO p.2 q.2.2
variable {kvs:ab (ab Key×V)}
theorem KT.val {xs:ab (ab Key×aw×av)} (r:KT H kvs xs) (k:ab Key):fS (gr kvs k) ((l9 xs k).map (·.2)):=by
 induction r with
 |nil=>exact fO
 | @cons p q ps qs h t ih=>
  obtain⟨h1,_,h2⟩:=h;by_cases e:p.1=k
  .have e':q.1=k:=h1.symm.trans e;have b:l9 (q::qs) k=aa q.2:=by simp[l9,nh,e']
   rw[ti e,b];exact h2
  .have e':¬q.1=k:=fun z=>e (h1.trans z);have b:l9 (q::qs) k=l9 qs k:=by simp[l9,nh,e']
   rw[sj e,b];exact ih
theorem KT.repl {xs:ab (ab Key×aw×av)} (r:KT H kvs xs) (k:ab Key) {y:V} (ry:bO y u) :
  KT H (kvs.map fun kv=>if kv.1=k then (kv.1,y) else kv) (xs.map (putAt k u)):=by
 induction r with
 |nil=>exact .nil
 | @cons p q ps qs h t ih=>
  rw[qm,qm];refine .cons ?_ ih;obtain⟨h1,h2,h3⟩:=h;unfold putAt;by_cases e:p.1=k
  .rw[qY e,qY (h1.symm.trans e)];exact⟨h1,h2,ry⟩
  .rw[qZ e,qZ (fun z=>e (h1.trans z))];exact⟨h1,h2,h3⟩
theorem KT.put {xs:ab (ab Key×aw×av)} (r:KT H kvs xs) (k:ab Key) {b:aw} {y:V} (hb:H b=aa (.tup (k.map kV))) (ry:bO y u) :
  KT H (c9 kvs k y) (storedH xs k b u):=by
 have e:(kvs.any fun kv=>decide (kv.1=k))=(l9 xs k).isSome:=by rw[D',(r.val k).isSome_eq,Option.isSome_map]
 unfold c9 storedH;rw[e];by_cases q:(l9 xs k).isSome=al
 .rw[qY q,qY q];exact r.repl k ry
 .rw[qZ q,qZ q];exact Paired.snoc r ⟨rfl,hb,ry⟩
theorem KT.keeps {xs:ab (ab Key×aw×av)} (r:KT H kvs xs) (ht:∀b ys,H b=aa (.tup ys)->H' b=aa (.tup ys)):KT H' kvs xs:=
 Paired.mapP r fun _ _ z=>⟨z.1,ht _ _ z.2.1,z.2.2⟩
section
variable {h:Heap}
theorem DX {u:HO} (ok:HOk P w H h) (e:Rd H a u):cO P w H h a u:=e.ok ok
theorem yo {kvs:ab (Key×V)} (ok:HOk P w H h) (e:Rd H a (.dK kvs)):kvs.length<=aM/\(a==lS)=aq/\∃vs,KV kvs vs/\h.DictOf (dc P w) a vs:=
 show cO P w H h a (.dK kvs) from DX ok e
theorem zY {kvs:ab (Key×V)} (ok:HOk P w H h) (e:H a=aa (.dK kvs)):kvs.length<=aM/\(a==lS)=aq/\∃vs,KV kvs vs/\h.DictOf (dc P w) a vs:=yo ok (.inl e)
theorem pe {ks:ab Key} (ok:HOk P w H h) (e:H a=aa (.tup (ks.map kV))):(mV (dc P w)).is h ks a:=by obtain⟨_,its,r,o,h1,h2,n,h3⟩:=(show cO P w H h a (.tup (ks.map kV)) from ok a _ e);exact⟨o,its.toArray,n,h1,h2,h3,by simpa using DY r⟩
theorem vW (ok:HOk P w H h) (e:Rd H a (.dT kvs)):kvs.length<=aM/\(a==lS)=aq /\
  ∃xs,KT H kvs xs/\h.DictOfH (mV (dc P w)) a xs:=by
 obtain⟨z,y,xs,r,o,es,ep,h1,h2,h3,h4,h5⟩:=(show cO P w H h a (.dT kvs) from DX ok e);refine⟨z,y,xs,r,o,es,ep,h1,h2,h3,h4,fun x hx=>?_,h5⟩;have all:∀{l:ab (ab Key×V)} {m:ab (ab Key×aw×av)},KT H l m->∀x∈m,(mV (dc P w)).is h x.1 x.2.1:=by
  intro l m q
  induction q with
  |nil=>intro x hx;exact nomatch hx
  | @cons p q ps qs hq t ih=>
   intro x hx;rcases cG.mp hx with e|hx
   .subst e;exact pe ok (by rw[←hq.1];exact hq.2.1)
   .exact ih x hx
 exact all r x hx
theorem LG (ok:HOk P w H h) (e:H a=aa (.dT kvs)):kvs.length<=aM/\(a==lS)=aq /\
  ∃xs,KT H kvs xs/\h.DictOfH (mV (dc P w)) a xs:=vW ok (.inl e)
end
noncomputable def jf (H:Hp) (a:aw) (y:V) (r:ao V):Prop:=
 (∃kvs k,Rd H a (.dK kvs)/\y=kV k/\r=gr kvs k)\/∃kvs k b,Rd H a (.dT kvs)/\y=.ref b/\H b=aa (.tup (k.map kV))/\r=gr kvs k
noncomputable def pH (H:Hp) (a:aw) (y v:V) (H':Hp):Prop:=
 (∃kvs k,H a=aa (.dK kvs)/\y=kV k/\kvs.length<aM/\H'=upd H a (.dK (c9 kvs k v))) \/
 ∃kvs k b,H a=aa (.dT kvs)/\y=.ref b/\H b=aa (.tup (k.map kV))/\kvs.length<aM/\H'=upd H a (.dT (c9 kvs k v))
theorem jf.k {kvs:ab (Key×V)} {k:Key} (e:H a=aa (.dK kvs)):jf H a (kV k) (gr kvs k):=.inl ⟨kvs,k,.inl e,rfl,rfl⟩
theorem jf.t {b:aw} {k:ab Key} (e:H a=aa (.dT kvs)) (eb:H b=aa (.tup (k.map kV))):jf H a (.ref b) (gr kvs k):=.inr ⟨kvs,k,b,.inl e,rfl,eb,rfl⟩
theorem pH.k {kvs:ab (Key×V)} {k:Key} (e:H a=aa (.dK kvs)) (hl:kvs.length<aM):pH H a (kV k) v (upd H a (.dK (c9 kvs k v))):=.inl ⟨kvs,k,e,rfl,hl,rfl⟩
section
variable {y:V} {r:av} {o:ao V}
theorem Inv.big (I:Inv X pins σ H s):lS<s.heap.objs.size:=by have h:fD<s.heap.objs.size:=(I.mod.glob.keeps I.bk).lt;exact rP (by decide) h
theorem PJ (hu:A.units+1<cT) (I:Inv X pins σ H s) (g:jf H a y (aa v)) (ry:bO y u) (h:∀w' s',Inv X pins σ H s'->bO v w'->Q w' s') :
  aJ (aQ X.prog X.w) A (m9 (.ref a) u) Q E s:=by
 rcases g with⟨kvs,k,e,ey,l⟩|⟨kvs,k,b,e,ey,eb,l⟩
 .subst ey;obtain⟨z,hd,vs,rel,dd⟩:=yo I.hok e;obtain⟨w',hw,rw'⟩:=fS.some_of (v:=v) (o:=ox vs k) (by rw[l];exact rel.val k);exact wpAny_getItem_of (nI ry) dd.mapOf hw (h w' _ (I.tok _) rw')
 .subst ey;cases(show u=ci b from ry);obtain⟨z,hd,xs,rel,dd⟩:=vW I.hok e;obtain⟨w',hw,rw'⟩:=fS.some_of (v:=v) (o:=(l9 xs k).map (·.2)) (by rw[l];exact rel.val k);obtain⟨p,hp,hp2⟩:=oMd hw;refine wpAny_getItem_heap (RA hu) (pe I.hok eb) dd hp ?_;rw[hp2];exact h w' _ (I.tok _) rw'
theorem xZ {ob:HO} (I:Inv X pins σ H s) (mu:Mut (H a)) (hs:jr a s.heap h') (he:∃q,h'.get? a=aa q) (new:cO X.prog X.w (upd H a ob) h' a ob) :
  Inv X pins σ (upd H a ob) {s with heap:=h',toks:=t'} :=
 I.write (x:=a) (e:=a) mu (.inl rfl) (fun b q hb z=>(hs.2 b hb).trans z) he new
theorem BW {kvs:ab (Key×V)} {vs:ab (Key×av)} (z:kvs.length<=aM) (hd:(a==lS)=aq) (rel:KV kvs vs) (dd:h'.DictOf (dc P w) a vs) :
  cO P w H' h' a (.dK kvs):=⟨z,hd,vs,rel,dd⟩
theorem Jl {Q:lT->aI->Prop} (hu:A.units+1<cT) (I:Inv X pins σ H s) (g:pH H a y v H') (ry:bO y u) (rv:bO v r) (h:∀s',Inv X pins σ H' s'->Q () s') :
  aJ (aQ X.prog X.w) A (setItem (.ref a) u r) Q E s:=by
 rcases g with⟨kvs,k,e,ey,l,eH⟩|⟨kvs,k,b,e,ey,eb,l,eH⟩
 .subst ey eH;obtain⟨z,hd,vs,rel,dd⟩:=zY I.hok e;have hz:vs.length<=aM:=by rw[←rel.length];exact z
  have hl:(c9 kvs k v).length<=aM:=by have:=xw kvs k v;omega
  refine wpAny_setItem_pairs (hsz:=hz) (nI ry) dd fun h' dd' hs=>h _ ?_;have he:∃q,h'.get? a=aa q:=let ⟨q,_,_,hq,_⟩:=dd';⟨q,hq⟩
  exact xZ I (by rw[e];exact fO) hs he (BW hl hd (rel.put k rv) dd')
 .subst ey eH;cases(show u=ci b from ry);obtain⟨z,hd,xs,rel,dd⟩:=LG I.hok e;have hz:xs.length<=aM:=by rw[←Paired.length rel];exact z
  have hl:(c9 kvs k v).length<=aM:=by have:=xw kvs k v;omega
  refine wpAny_setItem_heap (hsz:=hz) (RA hu) (pe I.hok eb) dd fun h' dd' hs=>h _ ?_;obtain⟨q,es,ep,hq,h2,h3,h4,_,h5⟩:=dd';refine xZ I (by rw[e];exact fO) hs ⟨q,hq⟩ ⟨hl,hd,_,(rel.put k eb rv).keeps fun c ys ec=>?_,q,es,ep,hq,h2,h3,h4,h5⟩;rw[aW (xN ec e (fun z=>nomatch z))];exact ec
end
noncomputable def sE (i:Expr):Prop:=∀ov iv,yZ i aq ov iv=operate [ov,iv] (m9 ov iv)
theorem Pv {slice:Expr} {id:cH} 
  (hl:yX (.type T) "__getitem__"=bm (aa (.builtin id))) (hs:sE slice)
  (h:aJ (aQ prog w) A (eval value env) (fun o s₁=>aJ (aQ prog w) A (eval slice env) (fun i s₂=>s₂.TypeIs o T/\aJ (aQ prog w) A (m9 o i) Q E s₂) E s₁) E s) :
  aJ (aQ prog w) A (eval (.Subscript value slice pos) env) Q E s:=by
 refine uT (ir h (fun o s₁ h₁=>ir h₁ (fun i s₂ h₂=>?_) fun _ _ x=>x) fun _ _ x=>x);obtain⟨hT,h₂⟩:=h₂;unfold uU;refine qx ?_;rw[getitemInPython_of_ne hT.not_modules];refine qx (Fh hT hl ?_);have fin:aJ (aQ prog w) A (yZ slice aq o i) (fun r s₃=>aJ (aQ prog w) A (letTemporaryGo value o r >>= fun _=>bm r) Q E s₃) E s₂:=by rw[hs o i];exact wpAny_operating (ir h₂ (fun r s₃ h₃=>qx (wpAny_letTemporaryGo (qA h₃))) fun _ _ x=>x)
 first
  |exact qA (qx fin)
  |exact qx (qA (qx fin))
  |exact qx fin
theorem NB {y:V} {o:ao V} (I:Inv X pins σ H s) (g:jf H a y o):s.TypeIs (.ref a) "dict":=by
 rcases g with⟨kvs,k,e,_,_⟩|⟨kvs,k,b,e,_,_,_⟩
 .obtain⟨_,_,vs,_,dd⟩:=yo I.hok e;exact dd.typeIs
 .obtain⟨_,_,xs,_,dd⟩:=vW I.hok e;exact dd.typeIs
noncomputable def O9 (td ty:TE):TE:=fun σ H Q=>td σ H fun x H1=>ty σ H1 fun y H2=>∃a v,x=.ref a/\jf H2 a y (aa v)/\Q v H2
noncomputable def QK (td ty tv:TE):TS:=fun D σ H=>tv σ H fun v H1=>td σ H1 fun x H2=>ty σ H2 fun y H3=>∃a H4,x=.ref a/\pH H3 a y v H4/\D.nx σ H4
section
variable {i:Expr} {td ty:TE}
theorem CI (hu:X.A.units+1<cT) (ho:PE X o td) (hi:PE X i ty) (hs:sE i):PE X (.Subscript o i pos) (O9 td ty):=by intro pins s σ H Q I h;refine Pv PySem.F.slot_dict_getitem.lookup hs (thn (ho pins s σ H _ I h) fun u s1 ⟨x,H1,I1,rx,q1⟩=>thn (hi pins s1 σ H1 _ I1 q1) fun iv s2 ⟨y,H2,I2,ry,a,v,ex,g,q2⟩=>?_);subst ex;obtain rfl:u=ci a:=rx;exact⟨NB I2 g,PJ hu I2 g ry fun w' s3 I3 rw'=>⟨v,H2,I3,rw',q2⟩⟩
theorem GJ (hu:X.A.units+1<cT) (ho:PE X o td) (hi:PE X i ty) (hv:PE X value tv) (hs:eW value (aa (.Subscript o i pos')) pos.line X.env=bm aq) :
  PS X (.Assign [.Subscript o i pos'] value pos) (QK td ty tv):=by
 intro pins s σ H D I h;refine wpAny_Assign_Subscript (thn (hv pins s σ H _ I h) fun r s1 ⟨v,H1,I1,rv,q1⟩=>thn (ho pins s1 σ H1 _ I1 q1) fun u s2 ⟨x,H2,I2,rx,q2⟩=>thn (hi pins s2 σ H2 _ I2 q2) fun iv s3 ⟨y,H3,I3,ry,a,H4,ex,g,q3⟩=>?_) hs;subst ex;obtain rfl:u=ci a:=rx;exact Jl hu I3 g ry rv fun s4 I4=>⟨σ,H4,I4,q3⟩
end
theorem DD (h:Heap) (hb:lS<h.objs.size):cO P w H (h.push {cls:=.type "dict",data:=.dict #[]}) h.objs.size (.dK []):=
 ⟨gd _,oi.mpr (dM (qC hb)),[],.nil,RB h⟩
noncomputable def GG:TE:=fun _ H Q=>∀p,H p=ac->Q (.ref p) (upd H p (.dK []))
theorem K0:PE X (.Dict [] [] pos) GG:=fun pins s σ H Q I h=>
 wpAny_Dict_empty ⟨.ref s.heap.objs.size,_,I.laid (a:=s.heap.objs.size) (o:=.dK []) (t':=s.toks) (fun _ _ q=>qt _ q) (qv _) (DD s.heap I.big),rfl,h _ (I.hok.fresh (qv _))⟩
noncomputable def tt:ab (TE×TE)->St->Hp->(ab (V×V)->Hp->Prop)->Prop
 |[],_,H,Q=>Q [] H
 |(tk,tv)::r,σ,H,Q=>tk σ H fun x H1=>tv σ H1 fun y H2=>tt r σ H2 fun ps H3=>Q ((x,y)::ps) H3
abbrev VV:ab (V×V)->ab (av×av)->Prop:=Paired fun p q=>bO p.1 q.1/\bO p.2 q.2
noncomputable def PPs (X:Cx) (pos:dF) (keys:ab (ao Expr)) (values:ab Expr) (trs:ab (TE×TE)):Prop:=
 ∀(pins:ab (aw×bh)) (s:aI) (σ:St) (H:Hp) (Q:ab (V×V)->Hp->Prop),Inv X pins σ H s->tt trs σ H Q->
  aJ (aQ X.prog X.w) X.A (evalPairs (pairTrees keys values X.env pos)) (fun vs s'=>∃ps H',Inv X pins σ H' s'/\VV ps vs/\Q ps H') X.xe s
theorem M5 :PPs X pos [] [] []:=fun pins s σ H Q I h=>pairTrees_nil_walk ⟨[],H,I,.nil,h⟩
variable {trs:ab (TE×TE)}
theorem O0 {k v:Expr} {ks:ab (ao Expr)} {vs:ab Expr} {tk:TE} (hk:PE X k tk) (hv:PE X v tv) (hr:PPs X pos ks vs trs) :
  PPs X pos (aa k::ks) (v::vs) ((tk,tv)::trs):=fun pins s σ H Q I h=>
 pairTrees_cons_walk (thn (hk pins s σ H _ I h) fun u s1 ⟨x,H1,I1,rx,q1⟩=>thn (hv pins s1 σ H1 _ I1 q1) fun w2 s2 ⟨y,H2,I2,ry,q2⟩=>
  thn (hr pins s2 σ H2 _ I2 q2) fun ws s3 ⟨ps,H3,I3,rel,q3⟩=>⟨(x,y)::ps,H3,I3,.cons ⟨rx,ry⟩ rel,q3⟩)
noncomputable def kL (kvs more:ab (Key×V)):ab (Key×V):=more.foldl (fun acc kv=>c9 acc kv.1 kv.2) kvs
theorem KV.merge:∀{more:ab (Key×V)} {rs:ab (Key×av)} {kvs:ab (Key×V)} {vs:ab (Key×av)},KV more rs->KV kvs vs->KV (kL kvs more) (merged vs rs):=by
 intro more rs kvs vs r;unfold KV at r
 induction r generalizing kvs vs with
 |nil=>intro q;exact q
 | @cons p q ps qs h t ih=>
  intro r0;have e:KV (c9 kvs p.1 p.2) (stored vs q.1 q.2):=by have:=r0.put p.1 h.2;rw[←h.1];exact this
  exact ih e
theorem Ei:∀(more kvs:ab (Key×V)),(kL kvs more).length<=kvs.length+more.length
 |[],kvs=>by show kvs.length<=kvs.length+0;omega
 |p::r,kvs=>by have h1:=Ei r (c9 kvs p.1 p.2);have h2:=xw kvs p.1 p.2;show(kL (c9 kvs p.1 p.2) r).length<=_;rw[qh];omega
theorem Ee {P:dS} {w:cQ}:∀{kvs:ab (Key×V)} {ws:ab (av×av)},VV (kvs.map fun kv=>(kV kv.1,kv.2)) ws->∃rs,Carries (dc P w) ws rs/\KV kvs rs
 |[],_,r=>by rw[qO] at r;cases r;exact⟨[],fO,.nil⟩
 |p::kvs,_,r=>by
  rw[qm] at r;cases r with
  | @cons a b as bs h t=>
   obtain⟨rs,c,q⟩:=Ee (P:=P) (w:=w) t;obtain⟨b1,b2⟩:=b;exact⟨(p.1,b2)::rs,⟨nI h.1,rfl,c⟩,.cons ⟨rfl,h.2⟩ q⟩
noncomputable def Em (trs:ab (TE×TE)):TE:=fun σ H Q=>∀p,H p=ac->tt trs σ (upd H p (.dK [])) fun ps H2=>H2 p=aa (.dK [])/\∃kvs:ab (Key×V),ps=kvs.map (fun kv=>(kV kv.1,kv.2))/\kvs.length<=15/\Q (.ref p) (upd H2 p (.dK (kL [] kvs)))
variable {keys:ab (ao Expr)} {values:ab Expr}
theorem J' (h:PPs X pos keys values trs) (hall:keys.all (·.isSome)=al) (hl:keys.length=values.length) (h0:keys≠[])
  (h15:keys.length<=15):PE X (.Dict keys values pos) (Em trs):=by
 intro pins s σ H Q I q;have hn:=I.hok.fresh (qv s.heap.objs.size);have I1:=I.laid (a:=s.heap.objs.size) (o:=.dK []) (h':=s.heap.push {cls:=.type "dict",data:=.dict #[]}) (t':=s.toks) (fun _ _ q=>qt _ q) (qv _) (DD s.heap I.big);refine wpAny_Dict_walk (knd:=dc X.prog X.w) hall hl h0 h15 (thn (h pins _ σ _ _ I1 (q _ hn)) fun ws s2 ⟨ps,H2,I2,rel,e,kvs,ep,lk,q2⟩=>?_);subst ep;obtain⟨rs,c,rk⟩:=Ee (P:=X.prog) (w:=X.w) rel;obtain⟨z,hd,vs0,r0,dd⟩:=zY I2.hok e;cases r0;refine⟨rs,c,dd,fun h' dd' hs=>⟨.ref s.heap.objs.size,_,?_,rfl,q2⟩⟩;have hz:(kL [] kvs).length<=aM:=by have h1:=Ei kvs [];rw[qk] at h1;rw[fE];omega
 have he:∃q,h'.get? s.heap.objs.size=aa q:=let ⟨q,_,_,hq,_⟩:=dd';⟨q,hq⟩
 exact xZ I2 (by rw[e];exact fO) hs he (BW hz hd (rk.merge .nil) dd')
variable {q:dS} {loose:ab ai} {XP:(ai->ao av)->Heap->Prop} {YP:cQ->Heap->Prop}
namespace Att
open PySem PySem.W PySem.Calls PyProof.Rows
theorem HL {P:zd} {h:Heap} :∀(ns:ab af) (vs:ab av),WellAll P h vs (ns.map RC)->rQ vs ns:=by
 intro ns
 induction ns with
 |nil=>
  intro vs w;rw[qO] at w;cases w;exact .nil
 |cons n ns ih=>
  intro vs w;rw[qm] at w;cases w with
  |cons a b=>
   cases a;exact .cons _ _ (ih _ b)
theorem AV {l:OpenLaw} (hn:l.most=aa n) {P:zd} {h:Heap} {args:ab WData} {vals:ab av} 
  (hpre:l.row.toRowW.claim.pre args=al) (hwl:WellAll P h vals args) :
  ∃a vs ns,vals=[ci a]/\args=[WData.list (ns.map RC)]/\h.get? a=aa {cls:=.type "list",data:=.seq vs.toArray}/\rQ vs ns/\ns.length<=n:=by
 have hsh:WShape.hasAll [] args [.list .int]=al:=(pre_splitW hpre).1;have hc:l.pre.holds [] {args:=args}=al:=(pre_splitW hpre).2;obtain⟨d,r,rfl,h1,h2⟩:=hasAllW_cons hsh;obtain rfl:=hasAllW_nil h2;obtain⟨xs,rfl,h3⟩:=hasW_list h1;obtain⟨ns,rfl⟩:=items_int h3;have hlen:ns.length<=n:=by
  unfold OpenLaw.pre at hc;have h4:(WTm.not (.lt (.lit (.int (n:af))) (.len (.arg 0)))).holds [] {args:=[.list (ns.map .int)]}=al:=by have h4:=(holds_andW hc).1;rw[hn] at h4;exact h4
  have h5:=condW_of h4 (w_not (w_lt w_lit (w_len_list (w_arg rfl))));rw[qe] at h5;refine Nat.le_of_not_lt fun q=>?_;have q':(n:af)<((ns.length:ag):af):=by omega
  first
   |(rw[qS q'] at h5;exact bN h5 (by decide))
   |(simp at h5;omega)
 cases hwl with
 |cons w1 w2=>
  cases w2;cases w1 with
  |list ho hall=>exact⟨_,_,ns,rfl,rfl,ho,HL ns _ hall,hlen⟩
theorem AQ (l:OpenLaw) (args:ab WData):l.row.toRowW.claim.post args (.bool al) args=al:=
 postW_of (r:=l.row.toRowW) (X:=(al==al))
  (show RD [] (.bool al) .bool=al by first|rfl|decide|simp[RD,WShape.arms,WShape.armsAll])
  (show(WTm.eq .res (.lit (.bool al))).value [] {args:=args,res:=aa (.bool al),after:=args}=aa (.bool (al==al)) from w_eq_bool (w_res rfl) w_lit) rfl
theorem Te {l:OpenLaw} {d:ze} 
  (hn:l.most=aa n) (hdf:d.params.defaults=[])
  (hbind:∀pm cd doc v:av,jv (docDef d.name d.params d.body d.scope pm cd doc) ⟨[v],[]⟩=bm [(x,v)])
  (hx:d.scope.names.lookup x=aa .local\/d.scope.names.lookup x=aa .cell)
  (hk:d.scope.kind=.function) (hco:d.scope.isCoroutine=aq) (hgen:d.scope.isGenerator=aq)
  (body:∀(w:cQ) (s₀ s₁ s:aI) (mg mb:ai->ao av) (fa:aw) (o:bh) (pm cd doc:av) (a:aw) (vs:ab av) (ns:ab af),
   Ground q loose [] XP w s₀ mg mb s₁.heap->YP w s₁.heap->
   s₁.heap.get? fa=aa o->o.data=.func (docDef d.name d.params d.body d.scope pm cd doc)->s₁.heap.CodeRec cd d.name->mg d.name=aa (.ref fa)->
   s₁.heap.get? a=aa {cls:=.type "list",data:=.seq vs.toArray}->rQ vs ns->ns.length<=n->
   s.gens=#[]->s.os=s₁.os->
   Fr s₁.heap s₁.heap.objs.size s.heap (lY (eC d.name d.scope s₁.heap.objs.size fa cd).kindOf [(x,.ref a)] fun _=>ac)->
   Cl s₁.heap.objs.size (yQ (s₁.heap.objs.size+1) d.scope.names []) s.heap (lZ (eC d.name d.scope s₁.heap.objs.size fa cd).kindOf [(x,.ref a)] fun _=>ac)->
   aJ (aQ l.prog w) (nj.deeper (eC d.name d.scope s₁.heap.objs.size fa cd)) (execs d.body (eC d.name d.scope s₁.heap.objs.size fa cd))
    (fun f s'=>f=.ret (.bool al)/\OldK s₁.heap s'.heap/\s'.os=s₁.os/\lc s'.gens) (fun _ _=>False) s) :
  WalkO q loose XP YP l.row.toRowW d [] (fun f vs=>zf f vs):=by
 intro w s₀ s₁ mg mb G Y fa o pm cd doc dV kV ho hd hcd hD hmg hg args vals as hpre hlay hrd hwl hlo;obtain rfl:dV=.none:=RE hD hdf;obtain rfl:kV=.none:=RF hD;obtain⟨a,vs,ns,rfl,rfl,hobj,hints,hlen⟩:=AV hn hpre hwl;refine enter_call ?_;refine call_cells_ret (o:=o) (by rw[depth_caller];decide) ho (Fi hd) G.T.nolimit hcd (hbind pm cd doc (.ref a)) (fun y hy=>?_) (fun h₁ tk F X=>?_) hco hgen hk
 .obtain rfl:y=(x,ci a):=bY.mp hy;rcases hx with e|e
  .exact .inl e
  .exact .inr ⟨e,cellsFrom_some _ _ _ (.inl e)⟩
 .refine ir (body w s₀ s₁ {s₁ with heap:=h₁,toks:=tk} mg mb fa o pm cd doc a vs ns G Y ho (Fi hd) hcd hmg hobj hints hlen hg rfl F X) (fun f s' hq=>?_) (fun _ _ hq=>hq);obtain⟨rfl,h2,h3,h4⟩:=hq;exact⟨.inl ⟨.bool al,.bool al,[],rfl,fun _=>rfl,.bool al,AQ l _,fun _=>⟨RG,fun _ hm=>(nomatch hm)⟩⟩,h2,h3,h4⟩
theorem attach_call {l:OpenLaw} {d:ze} 
  (hn:l.most=aa n) (hdf:d.params.defaults=[])
  (call:∀(w:cQ) (s₀ s₁:aI) (mg mb:ai->ao av) (fa:aw) (o:bh) (pm cd doc:av) (a:aw) (vs:ab av) (ns:ab af),
   Ground q loose [] XP w s₀ mg mb s₁.heap->YP w s₁.heap->
   s₁.heap.get? fa=aa o->o.data=.func (docDef d.name d.params d.body d.scope pm cd doc)->s₁.heap.CodeRec cd d.name->mg d.name=aa (.ref fa)->
   s₁.heap.get? a=aa {cls:=.type "list",data:=.seq vs.toArray}->rQ vs ns->ns.length<=n->s₁.gens=#[]->
   ju (aQ l.prog w) nj (.call (.ref fa) ⟨[.ref a],[]⟩) (fun r s'=>r=.ok (.ret (.bool al))/\OldK s₁.heap s'.heap/\s'.os=s₁.os/\lc s'.gens) s₁) :
  WalkO q loose XP YP l.row.toRowW d [] (fun f vs=>zf f vs):=by
 intro w s₀ s₁ mg mb G Y fa o pm cd doc dV kV ho hd hcd hD hmg hg args vals as hpre hlay hrd hwl hlo;obtain rfl:dV=.none:=RE hD hdf;obtain rfl:kV=.none:=RF hD;obtain⟨a,vs,ns,rfl,rfl,hobj,hints,hlen⟩:=AV hn hpre hwl;refine enter_call (rM (call w s₀ s₁ mg mb fa o pm cd doc a vs ns G Y ho (Fi hd) hcd hmg hobj hints hlen hg) fun r s' hq=>?_);obtain⟨rfl,h2,h3,h4⟩:=hq;exact⟨.inl ⟨.bool al,.bool al,[],rfl,fun _=>rfl,.bool al,AQ l _,fun _=>⟨RG,fun _ hm=>(nomatch hm)⟩⟩,h2,h3,h4⟩
section
variable {K:aV}
noncomputable def Ta (h:Heap) (L d:aw):ab (aw×bh):=(bj h.objs.size).filterMap fun a=>if a=L\/a=d then ac else (h.get? a).map fun o=>(a,o)
end
end Att
theorem AM:∀{vs:ab av} {ns:ab af},rQ vs ns->bi (ns.map V.int) vs
 |_,_,.nil=>.nil
 |_,_,.cons n t h=>.cons ⟨t,rfl⟩ (AM h)
noncomputable def vT (H:Hp):Prop:=∀b,H b=ac\/∃o xs,H b=aa (.frz o (.lst xs))
variable {ns:ab af}
theorem OT {mb:ai->ao av} {k:ag} {fa:aw} {s₁:aI} {vs:ab av} 
  (KX:K.In s₁.heap) (hns:s₁.heap.Ns fD mg) (hb:s₁.heap.Ns EL mb) (hbb:∀x:ai,x≠"__name__"->mb x=lb x) (hlim:s₁.heap.NoLimit) (hg:s₁.gens=#[])
  (ha:s₁.heap.get? a=aa {cls:=.type "list",data:=.seq vs.toArray}) (hi:rQ vs ns) (hl:ns.length<=aM) (hr:Room k nj)
  (F:∀base:Heap,K.In base->base.Ns fD mg->FnOk P w K mg base CX k fa fd [x] sp) (hbind:∀(s:aI) (u:av),rH s fd ⟨[u],[]⟩ [(x,u)])
  (hsp:∀H:Hp,vT H->SqL K H a (ns.map V.int)->sp [.ref a] H (fun v _=>v=.bl al) fun _ _ _=>False)
  (hCX:∀H e s',CX [] H s₁ (fun _ _ _=>False) e s'->False) :
  ju (aQ P w) nj (.call (.ref fa) ⟨[.ref a],[]⟩) (fun r s'=>r=.ok (.ret (.bool al))/\OldK s₁.heap s'.heap/\s'.os=s₁.os/\lc s'.gens) s₁:=by
 have rv:=AM hi;have lenV:=hi.length;have core:∀H:Hp,vT H->SqL K H a (ns.map V.int)->HOk P w H s₁.heap->(∀b,H b≠ac->b=a)->(H a≠ac->K.lookup a=ac)->
   ju (aQ P w) nj (.call (.ref fa) ⟨[.ref a],[]⟩) (fun r s'=>r=.ok (.ret (.bool al))/\OldK s₁.heap s'.heap/\s'.os=s₁.os/\lc s'.gens) s₁:=by
  intro H hO hS hok hA hK;have base_of:∀{b:aw} {o:bh},s₁.heap.get? b=aa o->H b=ac->(kP s₁.heap H).get? b=aa o:=fun e n=>Hn e n;have noA:∀{b:aw} {o:bh} {es:b8 DictEntry} {ep:ag},s₁.heap.get? b=aa o->o.data=.dict es ep->H b=ac:=fun {b o es ep} e d=>by
   cases q:H b with
   |none=>rfl
   |some u=>
    have e':b=a:=hA b (by rw[q];simp);subst e';rw[ha] at e;cases e;have d':Data.seq vs.toArray _=Data.dict es ep:=d;cases d'
  have nsK:∀{b:aw} {m:ai->ao av},s₁.heap.Ns b m->(kP s₁.heap H).Ns b m:=fun {b m} ⟨o,es,ep,e,d,r⟩=>⟨o,es,ep,base_of e (noA e d),d,r⟩;have hKb:K.In (kP s₁.heap H):=fun b o e=>base_of (KX b o e) (by
   cases q:H b with
   |none=>rfl
   |some u=>
    have e':b=a:=hA b (by rw[q];simp);subst e';rw[hK (by rw[q];simp)] at e;cases e)
  have hM:Mod K mg (kP s₁.heap H):=⟨hKb,nsK hns,⟨mb,nsK hb,hbb⟩,let ⟨mc,h1,h2⟩:=hlim;⟨mc,nsK h1,h2⟩⟩;have e0:Env0 P w K mg (kP s₁.heap H) nj [] s₁ H:=⟨rfl,hM,fun b o e=>GY e,yM (Oz _ _),trivial,fun b hb=>bN (show b∈([]:ab aw) from hb) (by simp),hok,.of_eq hg⟩;refine rM ((F _ hKb (nsK hns)).run nj [] s₁ H ⟨[.ref a],[]⟩ [.ref a] [.ref a] _ _ hr e0 (hbind s₁ (.ref a)) (.cons rfl .nil) (hsp H hO hS)) fun r s' h=>?_;cases r with
  |error e=>exact(hCX H e s' h).elim
  |ok fl=>
   cases fl with
   |next=>exact iM h
   |brk=>exact iM h
   |cont=>exact iM h
   |ret u=>
    obtain⟨v,H',os,bare,un,hok',r',q⟩:=h;have q':v=.bl al:=q;subst q';obtain rfl:u=la al:=r';refine⟨rfl,OldK.of_keep fun b o e=>?_,os,bare⟩;cases q:H b with
    |none=>exact un.keep b o e q (by intro z;exact bN (show b∈([]:ab aw) from z) (by simp)) (by simp)
    |some u=>
     rcases hO b with z|⟨ob,xs,z⟩
     .rw[q] at z;cases z
     .have z2:=un.frzs b ob _ z;obtain⟨e1,_⟩:=hok b _ z;obtain⟨e2,_⟩:=hok' b _ z2;rw[e] at e1;cases e1;exact e2
 cases hk:K.lookup a with
 |some o=>
  have e:=KX a o hk;rw[ha] at e;cases e;refine core (fun _=>ac) (fun _=>.inl rfl) (.inr ⟨_,vs.toArray,_,hk,rfl,rfl,rfl,by rw[qB,lenV];exact hl,by simpa using rv⟩) (fun b u z=>by have z':(ac:ao HO)=aa u:=z;cases z') (fun b z=>bN rfl z) fun z=>bN rfl z
 |none=>
  refine core (fun b=>if b=a then aa (.frz {cls:=.type "list",data:=.seq vs.toArray} (.lst (ns.map V.int))) else ac) (fun b=>?_) (.inl (.inr ⟨{cls:=.type "list",data:=.seq vs.toArray},qY rfl⟩)) (fun b u z=>?_) (fun b z=>?_) fun _=>hk
  .by_cases hb:b=a
   .exact .inr ⟨_,_,qY hb⟩
   .exact .inl (qZ hb)
  .by_cases hb:b=a
   .have z':=(qY hb).symm.trans z;cases z';subst hb;exact⟨ha,by rw[qe];exact hl,vs,_,rv,ha⟩
   .have z':=(qZ hb).symm.trans z;cases z'
  .by_cases hb:b=a
   .exact hb
   .exact bN (qZ hb) z
abbrev KOf {h:Heap} (_:K.In h):aV:=K
theorem walk_of {l:Fj} {k:ag} {d:ze} {K:zd->aV} {CX:cQ->CXT} {sp:cQ->Sp} 
  (hn:l.most=aa n) (hn2:n<=aM) (hdf:d.params.defaults=[]) (hr:Room k nj)
  (hY:∀(w:cQ) (h:Heap),YP w h->(K w.params).In h)
  (F:∀(w:cQ) (mg:ai->ao av) (fa:aw) (h:Heap),(K w.params).In h->h.Ns fD mg->mg d.name=aa (.ref fa)->
   ∃fd:m5,(∀(s:aI) (u:av),rH s fd ⟨[u],[]⟩ [(x,u)]) /\
    ∀base:Heap,(K w.params).In base->base.Ns fD mg->FnOk l.prog w (K w.params) mg base (CX w) k fa fd [x] (sp w))
  (hsp:∀(w:cQ) (H:Hp) (a:aw) (ns:ab af),ns.length<=n->vT H->SqL (K w.params) H a (ns.map V.int)->sp w [.ref a] H (fun v _=>v=.bl al) fun _ _ _=>False)
  (hCX:∀(w:cQ) (H:Hp) (s:aI) (e:av) (s':aI),CX w [] H s (fun _ _ _=>False) e s'->False) :
  RH q loose XP YP l.row.toRowW d [] (fun f vs=>zf f vs):=by
 refine Att.attach_call hn hdf fun w s₀ s₁ mg mb fa o pm cd doc a vs ns G Y ho hd hcd hmg hobj hints hlen hg=>?_;have KX:=hY w _ Y;obtain⟨fd,hb,hF⟩:=F w mg fa _ KX G.T.g hmg;exact OT KX G.T.g G.T.b G.T.builtins G.T.nolimit hg hobj hints (qM hlen hn2) hr hF hb (fun H hO hS=>hsp w H a ns hlen hO hS) fun H e s'=>hCX w H s₁ e s'
noncomputable def dQ (s:Stmt) (j:ag):Stmt:=match s with
 |.ClassDef _ _ _ body _ _ _ _ _ _ _=>body.getD j (.Pass ⟨0,0,0,0⟩)
 |_=>.Pass ⟨0,0,0,0⟩
noncomputable def gx (s:Stmt):Arguments:=match s with
 |.FunctionDef _ a _ _ _ _ _ _ _ _=>a
 |_=>{posonlyargs:=[],args:=[],vararg:=ac,kwonlyargs:=[],kw_defaults:=[],kwarg:=ac,defaults:=[]}
noncomputable def dq (s:Stmt):ab Stmt:=match s with
 |.FunctionDef _ _ b _ _ _ _ _ _ _=>b
 |_=>[]
noncomputable def aO (s:Stmt):Scope:=match s with
 |.FunctionDef _ _ _ _ _ _ sc _ _ _=>sc
 |_=>{kind:=.function,names:=[],isGenerator:=aq,isCoroutine:=aq}
abbrev CX0:CXT:=fun _ _ _ _ _ _=>False
abbrev E0:XK:=fun _ _ _=>False
theorem nN :mw CX0 X E0:=fun _ _ _ _ _ _ _ h=>h.elim
structure Fun (K:aV) (x qual:ai) (st:Stmt) (f:aw) (fd:m5):Prop where
 ex:∃(oc:av) (od:ao aw) (kV doc pm:av) (an:ao aw) (cdv ct:av) (osl:b8 (ao av)),
  fd=ge x qual (gx st) (dq st) (aO st) .none kV doc pm an cdv ct/\K.lookup f=aa ⟨oc,od,.func fd,osl⟩/\rN K cdv qual=al
 kp:iN K (.ref f)=al
theorem Fun.ok {f:aw} {k:ag} (F:Fun K x qual st f fd) (S:FnScope N ps (aO st)) (len:∀vs H Q E,sp vs H Q E->vs.length=ps.length)
  (hbody:∀(cdv:av) (A:dL) (outer:ab cS) (s:aI) (H:Hp) (vs:ab V) (Q:VK) (E:XK),Room k (A.deeper (eC qual (aO st) s.heap.objs.size f cdv))->sp vs H Q E->
   ∃t,PSs (gz CX0 P w K mg base N qual (aO st) f cdv A outer s H E).nox (dq st) t/\t {nx:=fun _ H'=>Q .non H',rt:=Q} (gH N vs) H):FnOk P w K mg base CX0 (k+1) f fd ps sp:=by
 obtain⟨oc,od,kV,doc,pm,an,cdv,ct,osl,rfl,lk,hcd⟩:=F.ex;refine Ng lk hcd S len fun A outer s H vs Q E hr hsp=>?_;obtain⟨t,h,q⟩:=hbody cdv A outer s H vs Q E hr hsp;exact⟨t,h.nox,q⟩
theorem Fun.binds {f:aw} (F:Fun K x qual st f fd)
  (h:∀(kV doc pm:av) (an:ao aw) (cdv ct:av) (us:ab av),us.length=ps.length->jv (ge x qual (gx st) (dq st) (aO st) .none kV doc pm an cdv ct) ⟨us,[]⟩=bm (ps.zip us)):gj K fd ps []:=by
 obtain⟨oc,od,kV,doc,pm,an,cdv,ct,osl,rfl,lk,hcd⟩:=F.ex;exact .all (h kV doc pm an cdv ct)
theorem vF {f:aw} {kV pm:av} (l:K.lookup f=aa ⟨oc,od,.func (ge x qual (gx st) (dq st) (aO st) .none kV doc pm an cdv ct),osl⟩)
  (c:rN K cdv qual=al) (k:iN K (.ref f)=al):Fun K x qual st f (ge x qual (gx st) (dq st) (aO st) .none kV doc pm an cdv ct):=⟨⟨oc,od,kV,doc,pm,an,cdv,ct,osl,rfl,l,c⟩,k⟩
theorem jO {A B:Prop} (h:B):if aq=al then A else B:=by rw[qZ qr];exact h
theorem jW {A B:Prop} (h:A):if al=al then A else B:=by rw[qY rfl];exact h
noncomputable def bp (H H':Hp):Prop:=∀b o,H b=aa o->H' b=aa o
theorem bp.refl (H:Hp):bp H H:=fun _ _ h=>h
theorem bp.trans (a:bp H H1) (b:bp H1 H2):bp H H2:=fun c o h=>b c o (a c o h)
theorem bp.free (e:bp H H') {l:aw} (h:H' l=ac):H l=ac:=by
 cases q:H l with
 |none=>rfl
 |some o=>
  rw[e l o q] at h;cases h
theorem bp.seq {xs:ab V} (e:bp H H') (h:SqL K H a xs):SqL K H' a xs:=by
 rcases h with(h|⟨o,h⟩)|h
 .exact .inl (.inl (e _ _ h))
 .exact .inl (.inr ⟨o,e _ _ h⟩)
 .exact .inr h
variable {elt:Expr} {ifs:ab Expr}
theorem Ju {target:Expr} {it acc:av} (I:ag->aI->Prop)
  (turn:∀n s,I n s->aJ (aQ prog w) A (mZ it) (fun r s₁=>match r with
   |none=>R (.ok .next) s₁
   |some v=>aJ (aQ prog w) A (uI target it v) (fun _ s₁'=>aJ (aQ prog w) A (ki target env v) (fun _ s₂ =>
     aJ (aQ prog w) A (uV ifs al fun c r=>if r=al then do let ok ←isTrue c env (eval c env);bm (rR ok) else bm (rR r)) (fun ok s₃ =>
      if ok=al then aJ (aQ prog w) A (eval elt env) (fun x s₄ =>
       aJ (aQ prog w) A (call (.builtin "list.append") [acc,x]) (fun _ s₅=>∃m,m<n/\I m s₅) (fun _ _=>False) s₄) (fun _ _=>False) s₃
      else ∃m,m<n/\I m s₃) (fun _ _=>False) s₂) (fun _ _=>False) s₁') (fun _ _=>False) s₁) (fun _ _=>False) s)
  (n:ag) (h:I n s) :
  ju (aQ prog w) A (.compLoop (.ListComp elt [⟨target,iter,ifs,0⟩] scope pos) 0 it acc env) R s:=by
 refine codeAny_loop rfl I (fun n s hI=>?_) n h;show aJ _ A ((compTurn (.ListComp elt [⟨target,iter,ifs,0⟩] scope pos) 0 it acc env).onRaise (fun x=>do noteFrame x env;theTreesLotGoes x)) _ _ s;refine wpAny_noted ?_;rw[compTurn_list];refine qx (Fk (qx (ir (turn n s hI) (fun r s₁ h₁=>?_) fun _ _ h'=>h'.elim)));cases r with
 |none=>exact qA h₁
 |some v=>
  refine qx (ir h₁ (fun _ s₁' h₁'=>?_) fun _ _ h'=>h'.elim);refine qx (ir h₁' (fun _ s₂ h₂=>qx (ir h₂ (fun ok s₃ h₃=>?_) fun _ _ h'=>h'.elim)) fun _ _ h'=>h'.elim);cases ok with
  |false=>exact qA ⟨rfl,h₃⟩
  |true=>
   exact qx (qx (ir h₃ (fun x s₄ h₄=>qx (ir h₄ (fun _ s₅ h₅=>qA (qA ⟨rfl,h₅⟩)) fun _ _ h'=>h'.elim)) fun _ _ h'=>h'.elim))
noncomputable def gO (X:Cx) (N':ab ai) (scope:Scope) (cl:ab (ai×aw)) (C:aw) (s₀:aI) (H₀:Hp) (fp:ab aw):Cx:=
 {X with N:=N',s₀:=s₀,H₀:=H₀,env:=Fm scope cl C X.env,outer:=X.stack,stack:=X.stack,ex:=fp,fn:=fun _=>aq,pn:=[],xe:=fun _ _=>False}
noncomputable def eZ (env:cS):ab (ai×iw)->ab (ai×aw)->ab (ai×aw)
 |[],acc=>acc
 |(n,k)::r,acc=>eZ env r (if k==.free then (match env.cells.lookup n with|some c=>(n,c)::acc|none=>acc) else acc)
theorem K5 (h:∀y∈scope.names,y.2=.free->∃c,env.cells.lookup y.1=aa c):closureFor scope env=bm (eZ env scope.names []):=by
 have all:∀(l:ab (ai×iw)) (acc:ab (ai×aw)),(∀y∈l,y.2=.free->∃c,env.cells.lookup y.1=aa c)->
   (uV l acc fun x r=>match x with
    |(name,kind)=>if kind==.free then do let c ←cellOf env name;bm (rR ((name,c)::r)) else bm (rR r):iL (ab (ai×aw)))=bm (eZ env l acc):=by
  intro l
  induction l with
  |nil=>intro acc _;rfl
  |cons y r ih=>
   intro acc hl;obtain⟨n,k⟩:=y;rw[List.forIn_cons];have hr:∀y∈r,y.2=.free->∃c,env.cells.lookup y.1=aa c:=fun y hy=>hl y (qg _ hy);unfold eZ;cases hk:(k==nq) with
   |false=>
    simp only[hk,qq,cW,pure_bind];exact ih acc hr
   |true=>
    obtain⟨c,hc⟩:=hl (n,k) qf (by simpa using hk);have hc':env.cells.lookup n=aa c:=hc;simp only[hk,cy,cellOf,hc',pure_bind];exact ih _ hr
 have e:=all scope.names [] h;exact Eq.trans (bind_pure _) e
theorem xQ {env:cS}:∀(l:ab (ai×iw)) (acc:ab (ai×aw)),(∀x c,acc.lookup x=aa c->env.cells.lookup x=aa c)->∀x c,(eZ env l acc).lookup x=aa c->env.cells.lookup x=aa c
 |[],_,h=>h
 |(n,k)::r,acc,h=>by
  unfold eZ;refine xQ r _ ?_;split
  .split
   .rename_i c hc;intro x d hx;rw[oy] at hx;cases e:x==n with
    |true=>
     rw[e] at hx;have e':x=n:=by simpa using e
     have e2:c=d:=qH hx;rw[e',←e2];exact hc
    |false=>rw[e] at hx;exact h x d hx
   .exact h
  .exact h
theorem Cg {env:cS}:∀(l:ab (ai×iw)) (acc:ab (ai×aw)) (x:ai),(acc.lookup x).isSome=al->((eZ env l acc).lookup x).isSome=al
 |[],_,_,h=>h
 |(n,k)::r,acc,x,h=>by
  unfold eZ;refine Cg r _ x ?_;split
  .split
   .rw[oy];split
    .rfl
    .exact h
   .exact h
  .exact h
theorem wG {env:cS}:∀(l:ab (ai×iw)) (acc:ab (ai×aw)) (x:ai) (c:aw),(x,nq)∈l->env.cells.lookup x=aa c->((eZ env l acc).lookup x).isSome=al
 |[],_,_,_,h,_=>nomatch h
 |(n,k)::r,acc,x,c,h,hc=>by
  unfold eZ;rcases cG.mp h with e|h
  .injection e with e1 e2;subst e1;subst e2;refine Cg r _ _ ?_;rw[qY (by rfl),hc];simp
  .exact wG r _ x c h hc
theorem uk {env:cS}:∀(names:ab (ai×iw)) (x:ai) (k':iw),
  (names.map fun(n,k)=>if (k==nq && env.scope.kind==.function && env.kindOf n==aa .cell) then (n,zg) else (n,k)).lookup x=aa k'->
  names.lookup x=aa k'\/(k'=.cell/\names.lookup x=aa .free)
 |[],_,_,h=>by simp at h
 |(n,k)::r,x,k',h=>by
  have ih:=@uk env r x k';have h':dw x ((if (k==nq && env.scope.kind==.function && env.kindOf n==aa .cell)=al then (n,zg) else (n,k))::(r.map fun(n,k)=>if (k==nq && env.scope.kind==.function && env.kindOf n==aa .cell) then (n,zg) else (n,k)))=aa k':=h;cases hx:x==n with
  |true=>
   by_cases hc:(k==nq && env.scope.kind==.function && env.kindOf n==aa .cell)=al
   .rw[qY hc] at h';simp only[oy,hx] at h' ⊢;have hk:k=.free:=by simp only[iS,lW] at hc;exact hc.1.1
    right
    exact⟨(qH h').symm,by rw[hk]⟩
   .rw[qZ hc] at h';simp only[oy,hx] at h' ⊢;exact .inl h'
  |false=>
   have h2:dw x (r.map fun(n,k)=>if (k==nq && env.scope.kind==.function && env.kindOf n==aa .cell) then (n,zg) else (n,k))=aa k':=by
    by_cases hc:(k==nq && env.scope.kind==.function && env.kindOf n==aa .cell)=al
    .rw[qY hc] at h';simpa only[oy,hx] using h'
    .rw[qZ hc] at h';simpa only[oy,hx] using h'
   simp only[oy,hx];exact ih h2
structure CompScope (X:Cx) (scope:Scope):Prop where
 kind:scope.kind=.function
 nocell:∀y∈scope.names,y.2≠.cell
 names:∀y∈scope.names,y.2=.local->scope.names.lookup y.1=aa .local
 free:∀y∈scope.names,y.2=.free->X.env.kindOf y.1=aa .cell\/X.env.kindOf y.1=aa .free
noncomputable def i0 (fv:ab (ao ag)) (σ:St):St:=fv.map fun o=>o.bind fun j=>(σ[j]?).join
variable {N':ab ai} {fv:ab (ao ag)}
theorem Do (I:Inv X pins σ H s) (S:CompScope X scope):closureFor scope X.env=bm (eZ X.env scope.names []):=
 K5 fun y hy hf=>I.ok.has y.1 (S.free y hy hf)
theorem Hi (I:Inv X pins σ H s) (S:CompScope X scope) (hf:∀b∈fp,ig X pins H b) (hlt:∀b∈fp,b<s.heap.objs.size) (hC:s.heap.objs.size<=C) :
  (gO X N' scope (eZ X.env scope.names []) C s H fp).Ok:=by
 have sub:=xQ (env:=X.env) scope.names [] (fun x c h=>by simp at h);refine⟨I.ok.mod,S.kind,I.ok.glob,I.ok.blt,hC,fun x y c h1 h2=>I.ok.inj x y c (sub x c h1) (sub y c h2),fun x hx=>?_,fun x c h _=>by simp[gO] at h,I.ok.hd,I.ok.frames,.inl rfl,fun b hb=>⟨?_,fun x c e=>?_⟩,I.bs,qM I.ok.bsz I.sz,
  fun b o e hb=>?_,fun b hb=>?_,I.stack,I.stkFree⟩
 .have hx':((zh scope X.env).names.lookup x=aa .cell\/(zh scope X.env).names.lookup x=aa .free):=hx;have hfr:scope.names.lookup x=aa .free:=by
   rcases hx' with h|h
   .rcases uk _ _ _ h with h|⟨_,h⟩
    .exact bN rfl (S.nocell _ (m6 h))
    .exact h
   .rcases uk _ _ _ h with h|⟨h,_⟩
    .exact h
    .cases h
  have hm:=m6 hfr;obtain⟨c,hc⟩:=I.ok.has x (S.free _ hm rfl);exact E4.mp (wG _ _ x c hm hc)
 .exact qC (qF (hlt b hb) hC)
 .exact(hf b hb).2.2.2.2.1 x c (sub x c e)
 .rcases(hf b hb).2.2.2.1 with z|z
  .exact I.ok.noex b o e z
  .exact bN (qF (qu e) I.ok.bsz) (Fn.mpr z)
 .intro z;rcases cG.mp (I.stkSub b z) with e|e
  .exact(hf b hb).2.1 e
  .exact(hf b hb).2.2.1 e
theorem MT (I:Inv X pins σ H s) (S:CompScope X scope) (hf:∀b∈fp,ig X pins H b) (hlt:∀b∈fp,b<s.heap.objs.size) (hC:C=s.heap.objs.size) (hlen:fv.length=N'.length)
  (hfv:∀(i j:ag) x,N'[i]?=aa x->fv[i]?=aa (aa j)->X.N[j]?=aa x/\(X.env.kindOf x=aa .cell\/X.env.kindOf x=aa .free)/\scope.names.lookup x=aa .free) {m:ai->ao av} (hn:h'.Ns C m) (hk:∀b o,s.heap.get? b=aa o->h'.get? b=aa o) :
  Inv (gO X N' scope (eZ X.env scope.names []) C s H fp) [] (i0 fv σ) H {s with heap:=h',toks:=t'}:=by
 have ok:=Hi (N':=N') I S hf hlt (C:=C) (yM hC.symm);have sub:=xQ (env:=X.env) scope.names [] (fun x c h=>by simp at h);refine⟨ok,rfl,I.bare,Un.kept hk,⟨m,hn,fun i x v e1 e2 e3=>?_⟩,fun x c e=>?_,?_,fun x c e=>I.freeC x c (sub x c e),fun p hp=>?_,I.hok.kept hk,?_⟩
 .have e1':N'[i]?=aa x:=e1;have e2':(i0 fv σ)[i]?=aa (aa v):=e2;unfold i0 at e2';rw[qj] at e2';cases q:fv[i]? with
  |none=>rw[q] at e2';cases e2'
  |some o=>
   rw[q] at e2';cases o with
   |none=>cases e2'
   |some j=>
    have e2'':(σ[j]?).join=aa v:=by simpa using e2'
    obtain⟨hN,hkk,hfree⟩:=hfv i j x e1' q;have hσ:σ[j]?=aa (aa v):=by
     cases z:σ[j]? with
     |none=>rw[z] at e2'';cases e2''
     |some w=>rw[z] at e2'';cases w with
      |none=>cases e2''
      |some w'=>simp at e2'';rw[e2'']
    obtain⟨m0,hn0,hl⟩:=I.loc;obtain⟨u,r,l⟩:=hl j x v hN hσ (.inr hkk);refine⟨u,r,.inr ⟨?_,?_⟩⟩
    .rcases e3 with z|z|z
     .have z':(zh scope X.env).names.lookup x=aa .local:=z;rcases uk _ _ _ z' with y|⟨y,_⟩
      .rw[hfree] at y;cases y
      .cases y
     .exact .inl z
     .exact .inr z
    .rcases l with⟨k,_⟩|⟨_,c,hc,hcell⟩
     .rcases hkk with y|y
      .rw[k] at y;cases y
      .rw[k] at y;cases y
     .obtain⟨c',hc'⟩:=E4.mp (wG scope.names [] x c (m6 hfree) hc);have e:=sub x c' hc';rw[hc] at e;cases e;obtain⟨oc,ho,hd⟩:=hcell;exact⟨c,hc',oc,hk _ _ ho,hd⟩
 .obtain⟨v,oc,ho,hd⟩:=I.cell x c (sub x c e);exact⟨v,oc,hk _ _ ho,hd⟩
 .exact I.hok.fresh (yM hC.symm)
 .exact bN (show p∈([]:ab (aw×bh)) from hp) (by simp)
 .show(i0 fv σ).length=N'.length;unfold i0;rw[qe,hlen]
theorem Ny (I:Inv X pins σ H s) {cl:ab (ai×aw)} (hf:∀b∈fp,ig X pins H b) (hC:s.heap.objs.size<=C) {σ':St} {pl:ab (aw×bh)} 
  (J:Inv (gO X N' scope cl C s H fp) pl σ' H' s') (hs:jr C s'.heap h'):Inv X pins σ H' {s' with heap:=h'}:=by
 have hCn:H' C=ac:=J.free;refine I.call' (ch:=fp) (s':={s' with heap:=h'}) J.os ?_ ?_ J.bare fun b hb=>⟨(hf b hb).2.2.2.1,(hf b hb).2.1,(hf b hb).2.2.2.2.1,(hf b hb).2.2.2.2.2⟩
 .have U:Un (frs X.stack) fp H H' s.heap s'.heap:=J.base;have neC:∀b o,s.heap.get? b=aa o->b≠C:=fun b o e=>qC (qF (qu e) hC);refine⟨fun b o e n h1 h2=>?_,fun b o e n h1 h2=>?_,U.free,fun b o e h2=>?_,U.tups,U.frzs,U.tbls⟩
  .exact(hs.2 b (neC b o e)).trans (U.keep b o e n h1 h2)
  .obtain⟨sl,q⟩:=U.slot b o e n h1 h2;exact⟨sl,(hs.2 b (neC b o e)).trans q⟩
  .obtain⟨o',q⟩:=U.there b o e h2;exact⟨o',(hs.2 b (neC b o e)).trans q⟩
 .intro b u e;refine(J.hok b u e).stay (fun c v hc q=>(hs.2 c ?_).trans q) (fun _ q=>q) fun _ _ q=>q;rintro rfl;rcases hc with z|z
  .rw[←z,hCn] at e;cases e
  .rw[hCn] at z;cases z
noncomputable def PTs (X:Cx) (es:ab Expr) (t:TT):Prop:=
 ∀(pins:ab (aw×bh)) (s:aI) (σ:St) (H:Hp) (Q:bq->Hp->Prop),Inv X pins σ H s->t σ H Q->
  aJ (aQ X.prog X.w) X.A (uV es al fun c r=>if r=al then do let ok ←isTrue c X.env (eval c X.env);bm (rR ok) else bm (rR r)) (TP X pins σ Q) X.xe s
noncomputable def K':TT:=fun _ H Q=>Q al H
theorem Km :PTs X [] K':=fun _ _ _ H _ I h=>wpAny_tests_nil ⟨H,I,h⟩
noncomputable def LcW (J:It) (g:TG) (tc:TT) (te:TE) (acc:aw) (Q:V->Hp->Prop) (σ0:St) (H1:Hp):Prop:=
 ∃W:ag->ag->ab V->St->Hp->Prop,(∃m,W 0 m [] σ0 (upd H1 acc (.lst [])))/\∀i m ys σ' H',W i m ys σ' H'->H' acc=aa (.lst ys) /\
  ((J.stop i H'/\Q (.ref acc) H')\/(J.go i H'/\∀x H2,J.yld i H' x H2->g x σ' H2 fun σ2 H3=>tc σ2 H3 fun b H4=>
   if b=al then te σ2 H4 fun v H5=>H5 acc=aa (.lst ys)/\ys.length<aM/\∃m',m'<m/\W (i+1) m' (ys++[v]) σ2 (upd H5 acc (.lst (ys++[v])))
   else ∃m',m'<m/\W (i+1) m' ys σ2 H4))
noncomputable def tLC (wi:TI) (g:TG) (tc:TT) (te:TE) (fv:ab (ao ag)):TE:=fun σ H Q=>wi σ H fun J H1=>∀acc,H1 acc=ac->LcW J g tc te acc Q (i0 fv σ) H1
noncomputable def PB (X:Cx) (N':ab ai) (scope:Scope) (tg:Expr) (ifs:ab Expr) (elt:Expr) (g:TG) (tc:TT) (te:TE):Prop:=
 ∀(cl:ab (ai×aw)) (C:aw) (s₀:aI) (H₀:Hp) (fp:ab aw),PG (gO X N' scope cl C s₀ H₀ fp) tg g/\PTs (gO X N' scope cl C s₀ H₀ fp) ifs tc/\PE (gO X N' scope cl C s₀ H₀ fp) elt te
structure FvOk (X:Cx) (N':ab ai) (scope:Scope) (fv:ab (ao ag)):Prop where
 len:fv.length=N'.length
 at':∀(i j:ag) x,N'[i]?=aa x->fv[i]?=aa (aa j)->X.N[j]?=aa x/\(X.env.kindOf x=aa .cell\/X.env.kindOf x=aa .free)/\scope.names.lookup x=aa .free
variable {y:ai} {py spos:dF}
section
variable {g:TG}
theorem El {s2:aI} {it:aw} {tn:ag->Heap->Prop} {J:It} {Q:VK} {RR:av->aw->Result->aI->Prop} (hc:X.calm=al) (S:CompScope X scope) (F:FvOk X N' scope fv) (hb:PB X N' scope tg ifs elt g tc te)
  (I2:Inv X pins σ H1 s2) (T:Turn X.prog X.w X.K tg J fp it tn) (st2:tn 0 s2.heap) (f2:∀b∈fp,ig X pins H1 b) (q:∀acc,H1 acc=ac->LcW J g tc te acc Q (i0 fv σ) H1)
  (hRR:∀(a C:aw) (H':Hp) (s':aI) (m:ai->ao av),s'.heap.Ns C m->(∀h',jr C s'.heap h'->Inv X pins σ H' {s' with heap:=h'})->ig X pins H' C->Q (.ref a) H'->RR (.ref a) C (.ok .next) s') :
  aJ (aQ X.prog X.w) X.A (newList []) (fun acc s₃=>aJ (aQ X.prog X.w) X.A (newFunctionEnv scope X.env.globals (eZ X.env scope.names []) [] X.env.qual ac .none (aa X.env)) (fun cenv s₄ =>
   ju (aQ X.prog X.w) X.A (.compStart (.ListComp elt [⟨tg,iter,ifs,0⟩] scope pos) 0 (.ref it) acc {cenv with scope:=zh scope X.env}) (RR acc cenv.locals) s₄) X.xe s₃) X.xe s2:=by
 refine uS ?_;have hacc:H1 s2.heap.objs.size=ac:=I2.fresh;have I3:Inv X pins σ (upd H1 s2.heap.objs.size (.lst [])) {s2 with heap:=s2.heap.push {cls:=.type "list",data:=.seq ([]:ab av).toArray} }:=I2.lnew (t':=s2.toks) .nil (gd _);generalize hs3:({s2 with heap:=s2.heap.push {cls:=.type "list",data:=.seq ([]:ab av).toArray} }:aI)=s3 at I3 ⊢;have up:∀b o,s2.heap.get? b=aa o->s3.heap.get? b=aa o:=fun b o e=>by rw[←hs3];exact qt _ e
 have lt2:∀b∈fp,b<s2.heap.objs.size:=fun b hb=>by obtain⟨o,e,_⟩:=T.obj 0 _ st2 b hb;exact qu e
 have sz3:s2.heap.objs.size<s3.heap.objs.size:=by rw[←hs3];show _<(s2.heap.push _).objs.size;rw[oq];exact ot _
 have lt3:∀b∈fp,b<s3.heap.objs.size:=fun b hb=>rP (lt2 b hb) sz3;have f3:∀b∈fp,ig X pins (upd H1 s2.heap.objs.size (.lst [])) b:=fun b hb=>⟨by rw[aW (qC (lt2 b hb))];exact(f2 b hb).1,(f2 b hb).2⟩;have st3:tn 0 s3.heap:=T.keep _ _ _ st2 fun b _ o e=>up b o e;refine wpAny_newFunctionEnv S.nocell (by intro y hy;simp at hy) (fun h4 hn4 sb4=>?_) S.kind;have k4:∀b o,s3.heap.get? b=aa o->h4.get? b=aa o:=fun b o e=>(sb4.2 b (qC (qu e))).trans (qt _ e);have st4:tn 0 h4:=T.keep _ _ _ st3 fun b _ o e=>k4 b o e;have I4:=MT I3 S f3 lt3 (C:=s3.heap.objs.size) rfl F.len F.at' hn4 k4 (t':=s3.toks+([]:ab (ai×av)).length);generalize hX:gO X N' scope (eZ X.env scope.names []) s3.heap.objs.size s3 (upd H1 s2.heap.objs.size (.lst [])) fp=X' at I4;obtain⟨bg,bt,be⟩:=hb (eZ X.env scope.names []) s3.heap.objs.size s3 (upd H1 s2.heap.objs.size (.lst [])) fp;rw[hX] at bg bt be;have hprog:X'.prog=X.prog:=by rw[←hX];rfl
 have hw:X'.w=X.w:=by rw[←hX];rfl
 have hK:X'.K=X.K:=by rw[←hX];rfl
 have hA:X'.A=X.A:=by rw[←hX];rfl
 have hcalm:X'.calm=al:=by rw[←hX];exact hc
 have hxe:X'.xe=fun _ _=>False:=by rw[←hX];rfl
 have henv:X'.env=Fm scope (eZ X.env scope.names []) s3.heap.objs.size X.env:=by rw[←hX];rfl
 have stat:∀{H':Hp},(∀b∈fp,H' b=ac)->∀b∈fp,ig X' [] H' b:=fun {H'} hn b hb=>by have f:=f3 b hb;have ok:=I4.ok;refine⟨hn b hb,(ok.exf b (by rw[←hX];exact hb)).1,ok.exfs b (by rw[←hX];exact hb),.inl (by rw[←hX];exact hb),fun x c e=>(ok.exf b (by rw[←hX];exact hb)).2 x c e,fun p hp=>?_⟩;rw[←hX] at hp;exact bN (show p∈([]:ab (aw×bh)) from hp) (by simp)
 obtain⟨W,⟨m0,w0⟩,turn⟩:=q s2.heap.objs.size hacc;have loop:∀s5:aI,s5={s3 with heap:=h4,toks:=s3.toks+([]:ab (ai×av)).length} ->
   ju (aQ X.prog X.w) X.A (.compLoop (.ListComp elt [⟨tg,iter,ifs,0⟩] scope pos) 0 (.ref it) (.ref s2.heap.objs.size) (Fm scope (eZ X.env scope.names []) s3.heap.objs.size X.env))
    (RR (.ref s2.heap.objs.size) s3.heap.objs.size) s5:=by
  intro s5 hs5;refine Ju (fun n s'=>∃i ys σ' H',Inv X' [] σ' H' s'/\tn i s'.heap/\(∀b∈fp,H' b=ac)/\W i n ys σ' H') ?_ m0 ⟨0,[],i0 fv σ,_,hs5▸I4,hs5▸st4,fun b hb=>(f3 b hb).1,w0⟩;rintro n s6 ⟨i,ys,σ6,H6,I6,st6,fr6,w6⟩;obtain⟨ha6,turn6⟩:=turn i n ys σ6 H6 w6;rw[←henv];rcases turn6 with⟨stop,qn⟩|⟨go,step⟩
  .have d:=T.done X' hprog hw hK hcalm i [] s6 σ6 H6 (fun _ _=>False) I6 (stat fr6) st6 stop;rw[hA] at d;refine thn d fun r s7 ⟨hr,I7⟩=>?_;subst hr;obtain⟨m7,hn7,_⟩:=I7.loc;have hl:X'.env.locals=s3.heap.objs.size:=by rw[henv];rfl
   refine hRR _ _ H6 s7 m7 (hl▸hn7) (fun h' hs'=>?_) ?_ qn
   .rw[←hX] at I7;exact Ny I3 f3 (qv _) I7 hs'
   .exact I3.fpOk (qv _) (by have:=I7.free;rw[hl] at this;exact this)
  .have d:=T.item X' hprog hw hK hcalm i [] s6 σ6 H6 (fun _ _=>False) I6 (stat fr6) st6 go;rw[hA] at d;refine thn d fun r s7 ⟨u,hr,h7⟩=>?_;subst hr;refine thn h7 fun _ s8 ⟨x,H8,I8,r8,y8,st8,fr8⟩=>?_;have I8':=I8.pinned (stat fr8) (T.obj _ _ st8);have dg:=bg _ s8 σ6 H8 x u _ I8' r8 (step x H8 y8);rw[hprog,hw,hA,hxe] at dg;refine thn dg fun _ s9 ⟨σ9,H9,I9,q9⟩=>?_;have dt:=bt _ s9 σ9 H9 _ I9 q9;rw[hprog,hw,hA,hxe] at dt;refine thn dt fun b s10 ⟨H10,I10,q10⟩=>?_;have again:∀{σ7:St} {H7:Hp} {s7:aI} {ys':ab V},Inv X' ([]++pC fp s8.heap) σ7 H7 s7->(∃m',m'<n/\W (i+1) m' ys' σ7 H7)->∃m,m<n/\∃i ys σ' H',Inv X' [] σ' H' s7/\tn i s7.heap/\(∀b∈fp,H' b=ac)/\W i m ys σ' H':=fun {σ7 H7 s7 ys'} I7 n7=>by obtain⟨m',hm,w7⟩:=n7;refine⟨m',hm,i+1,ys',σ7,H7,I7.unpinned,T.keep _ _ _ st8 fun b hb o e=>(I7.pin (b,o) (qQ _ (qQ _ (tX hb e)))).1,fun b hb=>?_,w7⟩;obtain⟨o,e,_⟩:=T.obj _ _ st8 b hb;exact(I7.pin (b,o) (qQ _ (qQ _ (tX hb e)))).2.1
   cases b with
   |false=>
    rw[qZ qr] at q10 ⊢;exact again I10 q10
   |true=>
    rw[qY rfl] at q10 ⊢;have de:=be _ s10 σ9 H10 _ I10 q10;rw[hprog,hw,hA,hxe] at de;refine thn de fun v s11 ⟨y,H11,I11,r11,ha11,hz11,n11⟩=>?_;have da:=tM _ s11 σ9 H11 (.ref s2.heap.objs.size) [y] (.ref s2.heap.objs.size) [v] (fun _ H'=>H'=upd H11 s2.heap.objs.size (.lst (ys++[y]))) I11 rfl (.cons r11 .nil) ⟨_,ys,y,rfl,rfl,ha11,hz11,rfl⟩;rw[hprog,hw,hA,hxe] at da;refine thn da fun _ s12 ⟨_,H12,I12,_,e12⟩=>?_;subst e12;exact again I12 n11
 exact codeAny_compStart_list (loop _ rfl) (T.self _ 0 _ _ _ st4 (loop _ rfl))
theorem BN (hc:X.calm=al) (S:CompScope X scope) (F:FvOk X N' scope fv) (hi:PI X tg iter wi) (hb:PB X N' scope tg ifs elt g tc te) (hs:∀x,lV iter X.env x=bm x:=by intro _;rfl) :
  PE X (.ListComp elt [⟨tg,iter,ifs,0⟩] scope pos) (tLC wi g tc te fv):=by
 intro pins s σ H Q I h;rw[eval_ListComp];refine RI (use:=ac) rfl hs (Do I S) S.kind S.names (thn (hi pins s σ H _ I h) fun x s1 h1=>thn h1 fun itv s2 h2=>?_);obtain⟨it,fp,tn,J,H1,e,I2,T,st2,f2,q⟩:=h2;subst e;refine El (RR:=fun acc C=>compPost (aQ X.prog X.w) X.A X.xe ac (EP X pins σ Q) acc C) hc S F hb I2 T st2 f2 q ?_;intro a C H' s' m hn hI hCL hq;exact⟨m,hn,fun h' hs'=>⟨.ref a,H',hI h' hs',rfl,hq⟩⟩
theorem Dz (hN:X.N.Nodup) (hy:X.N[i]?=aa y) (hyl:X.env.scope.names.lookup y=aa .local) (hc:X.calm=al) (S:CompScope X scope) (F:FvOk X N' scope fv) (hi:PI X tg iter wi) (hb:PB X N' scope tg ifs elt g tc te)
  (hsw:eW (.ListComp elt [⟨tg,iter,ifs,0⟩] scope pos) (aa (.Name y py)) spos.line X.env=bm al)
  (hs:∀x,lV iter X.env x=bm x:=by intro _;rfl) :
  PS X (.Assign [.Name y py] (.ListComp elt [⟨tg,iter,ifs,0⟩] scope pos) spos) (mO (tLC wi g tc te fv) (mC i)):=by
 intro pins s σ H D I h;rw[exec_Assign_Name_used _ _ _ _ hsw];refine qx (Fk (qx ?_));show aJ _ _ (do let _ ←comprehension (.ListComp elt [⟨tg,iter,ifs,0⟩] scope pos) scope X.env _ (newList []) aq (eval iter X.env) (aa (ki (.Name y py) X.env))) _ _ s;refine qx (ir (RI (use:=aa (ki (.Name y py) X.env)) (Q:=fun _ s'=>SP X pins D .next s') rfl hs (Do I S) S.kind S.names
  (thn (hi pins s σ H _ I h) fun x s1 h1=>thn h1 fun itv s2 h2=>?_)) (fun _ s' hq=>qA (qA hq)) fun _ _ e=>e)
 obtain⟨it,fp,tn,J,H1,e,I2,T,st2,f2,q⟩:=h2;subst e;refine El (RR:=fun acc C=>compPost (aQ X.prog X.w) X.A X.xe (aa (ki (.Name y py) X.env)) (fun _ s'=>SP X pins D .next s') acc C) hc S F hb I2 T st2 f2 q ?_;intro a C H' s' m hn hI hCL hq;show aJ _ _ (ki (.Name y py) X.env (.ref a)) _ _ _;have I':Inv X pins σ H' s':=hI s'.heap (Fp _ _);refine Q3 ?_;refine Bo (v:=.ref a) I' hN hy (.inl hyl) rfl (fun s'' I'' hch=>?_) (.inr hyl);obtain⟨ad,hsb,had⟩:=hch;obtain⟨f0,f1,f2',f3,f4,f5⟩:=hCL;have hne:C≠ad:=by
  rcases had with z|z
  .rw[z];exact f1
  .exact fun e=>f4 y ad z e.symm
 refine⟨m,hn.sameBut hsb hne,fun h' hs'=>?_⟩;exact⟨_,H',I''.turned (t':=s''.toks) (fun b o hb e=>(hs'.2 b hb).trans e) f0 f1 f3 f4 f5,hq⟩
end
noncomputable def Its (x:ai):It:=⟨fun i _=>i<x.cps.size,fun i H v H'=>H'=H/\∃c,x.cps[i]?=aa c/\v=.str ⟨#[c]⟩,fun i _=>i=x.cps.size⟩
theorem HH {M:uG} {n:ai} {it:av} {Q:lT->aI->Prop} (hQ:Q () s):aJ M A (uI (.Name n p) it u) Q E s:=qA hQ
theorem zV {n:ai} {ty:cH} (it:aw) (x:ai) (t:Tok)
  (W:∀A:dL,A.handled=ac->Walks P w A it [it] [it] x.cps.size (SignAt x) (fun i h=>h.IsStrIter it ty x t i))
  (sf:∀(A:dL) (i:ag) (s:aI) (Q:av->aI->Prop) (E:av->aI->Prop),s.heap.IsStrIter it ty x t i->Q (.ref it) s->aJ (aQ P w) A (uJ (.ref it)) Q E s):Turn P w K (.Name n p) (Its x) [it] it (fun i h=>h.IsStrIter it ty x t i) where
 mem:=by simp
 obj:=fun i h st b hb=>by
  have e:b=it:=by simpa using hb
  subst e;obtain⟨o,e,c,d⟩:=st;exact⟨o,e,fun v z=>by rw[d] at z;cases z⟩
 keep:=fun i h h' st k=>by obtain⟨o,e,r⟩:=st;exact⟨o,k it (by simp) o e,r⟩
 item:=by intro X hP hw hK hc i pins s σ H E I hf st hg;subst hP hw hK;obtain⟨f0,f1,f2,f3,f4,f5⟩:=hf it (by simp);refine(W X.A (I.ok.hd hc)).item i s _ _ hg st fun v h' tk hv st' kk=>?_;obtain⟨c,u,hcc,rfl⟩:=hv;have I1:Inv X pins σ H {s with heap:=h',toks:=tk}:=I.turned (fun b o hb e=>kk b o (by simpa using hb) e) f0 f1 f3 f4 f5;exact⟨_,rfl,HH ⟨.str ⟨#[c]⟩,H,I1,⟨_,rfl⟩,⟨rfl,c,hcc,rfl⟩,st',fun b hb=>(hf b hb).1⟩⟩
 done:=by intro X hP hw hK hc i pins s σ H E I hf st hg;subst hP hw hK;obtain⟨f0,f1,f2,f3,f4,f5⟩:=hf it (by simp);have hi:i=x.cps.size:=hg;subst hi;exact(W X.A (I.ok.hd hc)).done s _ _ st fun h' tk kk=>⟨rfl,I.turned (fun b o hb e=>kk b o (by simpa using hb) e) f0 f1 f3 f4 f5⟩
 self:=sf
noncomputable def L5 (te:TE):TI:=fun σ H R=>te σ H fun v H1=>∃x,v=.str x/\R (Its x) H1
theorem GF {n:ai} (he:PE X e te):PI X (.Name n p) e (L5 te):=by
 intro pins s σ H R I h;refine thn (he pins s σ H _ I h) fun v s1 ⟨y,H1,I1,r1,q1⟩=>?_;obtain⟨x,e,q⟩:=q1;subst e;obtain⟨t,rfl⟩:=r1;have fin:∀(ty:cH) (o:bh),(s1.heap.push o).IsStrIter s1.heap.objs.size ty x t 0->Turn X.prog X.w X.K (.Name n p) (Its x) [s1.heap.objs.size] s1.heap.objs.size (fun i h=>h.IsStrIter s1.heap.objs.size ty x t i)->
   PIE X pins σ (.Name n p) R (.ref s1.heap.objs.size) {s1 with heap:=s1.heap.push o}:=fun ty o st T=>by
  refine⟨s1.heap.objs.size,[s1.heap.objs.size],_,_,H1,rfl,I1.kept (t':=s1.toks) fun b o e=>qt _ e,T,st,fun b hb=>?_,q⟩;have e:b=s1.heap.objs.size:=by simpa using hb
  subst e;exact I1.fpOk (qv _) (I1.hok.fresh (qv _))
 cases ha:x.cps.all (· < 128)
 .exact wpAny_pyIter_wide ha (fin _ _ ⟨_,qG _ rfl,rfl,rfl⟩ (zV _ x t (fun A' hA=>Walks.strWide hA _ x t) fun _ _ _ _ _ st h=>wpAny_pyIter_striter_wide st h))
 .exact wpAny_pyIter_ascii ha (fin _ _ ⟨_,qG _ rfl,rfl,rfl⟩ (zV _ x t (fun A' hA=>Walks.strAscii hA _ x t) fun _ _ _ _ _ st h=>wpAny_pyIter_striter_ascii st h))
noncomputable def Ite (K:aV) (a:aw):It:=
 ⟨fun i H=>∃xs x,SqL K H a xs/\xs[i]?=aa x,fun i H v H'=>∃T x,v=.ref T/\H T=ac/\H'=upd H T (.tup [.int i,x])/\∀xs,SqL K H a xs->xs[i]?=aa x,fun i H=>∃xs,SqL K H a xs/\xs.length<=i⟩
variable {elts:ab Expr}
theorem QM {k1:ag} (e it a:aw) (hei:e≠it) :
  Turn P w K (.Tuple elts k1 pos) (Ite K a) [e,it] e (fun i h=>(∃old,IsEnum h e it i old)/\h.IsListIter it a i) where
 mem:=by simp
 obj:=fun i h st b hb=>by
  obtain⟨⟨old,he⟩,o,ho,c,d⟩:=st;rcases cG.mp hb with z|z
  .subst z;exact⟨_,he,fun v z=>by cases z⟩
  .have z':b=it:=by simpa using z
   subst z';exact⟨o,ho,fun v z=>by rw[d] at z;cases z⟩
 keep:=fun i h h' st k=>by obtain⟨⟨old,he⟩,hi⟩:=st;exact⟨⟨old,k e (by simp) _ he⟩,hi.at fun o x=>k it (by simp) o x⟩
 item:=by
  intro X hP hw hK hc i pins s σ H E I hf st hg;subst hP hw hK;obtain⟨xs,x,hq,hx⟩:=hg;obtain⟨its,rv,p,hz⟩:=I.list hq;obtain⟨u,hu,ru⟩:=rv.get hx;obtain⟨⟨old,he⟩,hit⟩:=st;obtain⟨e0,e1,e2,e3,e4,e5⟩:=hf e (by simp);obtain⟨f0,f1,f2,f3,f4,f5⟩:=hf it (by simp);have helt:e<s.heap.objs.size:=qu he;have hilt:it<s.heap.objs.size:=by obtain⟨_,x,_⟩:=hit;exact qu x
  refine wpAny_pyNext_enum_item he hit p.isList (x:=u) (by simpa using hu) hei fun h' ho hit' hT hsz hk=>?_;refine⟨_,rfl,wpAny_letOwnedTupleGo_enum ho fun h2 he2 hs2=>?_⟩;have hs2':jr e h' h2:=hs2;have kk:∀b o,b≠e->b≠it->s.heap.get? b=aa o->h2.get? b=aa o:=fun b o h1 h3 q=>(hs2'.2 b h1).trans (hk b o h1 h3 q);have hT2:h2.get? s.heap.objs.size=aa {cls:=.type "tuple",data:=.seq #[.int i s.toks,u]}:=(hs2'.2 _ (yE helt)).trans hT;have nH:H s.heap.objs.size=ac:=I.fresh;have I1:Inv X pins σ (upd H s.heap.objs.size (.tup [.int i,x])) {s with heap:=h2,toks:=s.toks+1}:=by
   have ne:∀b o,H b=aa o->b≠e/\b≠it:=fun b o q=>⟨fun z=>(by rw[z,e0] at q;cases q),fun z=>(by rw[z,f0] at q;cases q)⟩;refine I.step (g':=s.gens) (d':=s.drawn) (ch:=[e,it]) (fun b hb=>?_) (fun b o _ _ hc q _=>kk b o (fun z=>hc (by simp[z])) (fun z=>hc (by simp[z])) q) (fun b o _ _ hc q _=>⟨o.slots,kk b o (fun z=>hc (by simp[z])) (fun z=>hc (by simp[z])) q⟩) (fun b o _ q n=>?_)
    (fun b o hc q=>⟨o,kk b o (fun z=>hc (by simp[z])) (fun z=>hc (by simp[z])) q⟩) (fun b ys q=>?_) (fun b o y q=>?_) (fun b ps q=>⟨#[],?_⟩) (fun m hm=>?_) (fun b v q=>?_) I.bare
   .rcases cG.mp hb with z|z
    .subst z;exact⟨e3,e1,e4,e5⟩
    .have z':b=it:=by simpa using z
     subst z';exact⟨f3,f1,f4,f5⟩
   .rw[aW (qC (qu q))];exact n
   .rw[aW (ca q nH)];exact q
   .rw[aW (ca q nH)];exact q
   .rw[aW (ca q nH),q];simp
   .obtain⟨o,es,ep,q,r⟩:=hm;exact⟨o,es,ep,kk _ o (dM e1) (dM f1) q,r⟩
   .by_cases hb:b=s.heap.objs.size
    .subst hb;rw[bV] at q;cases q;exact⟨by show 2<=aM;decide,[.int i s.toks,u],.cons ⟨_,rfl⟩ (.cons ru .nil),⟨_,hT2,rfl,_,rfl⟩⟩
    .rw[aW hb] at q;refine(I.hok b v q).stay (fun c v hc r=>?_) (fun c r=>by rw[aW (ca r nH)];exact r) fun c ys r=>by rw[aW (ca r nH)];exact r
     rcases hc with z|z
     .rw[z] at r ⊢;exact kk b v (ne b _ q).1 (ne b _ q).2 r
     .exact kk c v (ne c _ z).1 (ne c _ z).2 r
  refine⟨.ref s.heap.objs.size,_,I1,rfl,⟨_,x,rfl,nH,rfl,fun ys hy=>by rw[I.list_inj hy hq];exact hx⟩,⟨⟨_,by simpa using he2⟩,hit'.at fun o y=>(hs2'.2 it hei.symm).trans y⟩,fun b hb=>?_⟩;rcases cG.mp hb with z|z
  .subst z;rw[aW (qC helt)];exact e0
  .have z':b=it:=by simpa using z
   subst z';rw[aW (qC hilt)];exact f0
 done:=by intro X hP hw hK hc i pins s σ H E I hf st hg;subst hP hw hK;obtain⟨xs,hq,hx⟩:=hg;obtain⟨its,rv,p,hz⟩:=I.list hq;obtain⟨⟨old,he⟩,hit⟩:=st;obtain⟨f0,f1,f2,f3,f4,f5⟩:=hf it (by simp);have hl:=rv.length;exact wpAny_pyNext_enum_end (I.ok.hd hc) he hit p.isList (by simp;omega) fun h' eb=>⟨rfl,I.turned (t':=s.toks) (fun b o hb e=>eb b o hb e) f0 f1 f3 f4 f5⟩
 self:=fun A i s Q E st h=>by obtain⟨⟨old,he⟩,_⟩:=st;exact RJ he h
noncomputable def Ll (K:aV) (ta:TA):TI:=fun σ H R=>ta σ H fun vs H1=>∃a,vs=[.ref a]/\(∃xs,SqL K H1 a xs)/\R (Ite K a) H1
theorem Pq {a:Expr} {ta:TA} {k1:ag} (hg:Gl X "enumerate") (hm:X.mg "enumerate"=ac) (ha:PA X [a] ta) (hs:aS [a] X.env=[(aq,eval a X.env)]:=by rfl) :
  PI X (.Tuple elts k1 tpos) (.Call (.Name "enumerate" p) [a] [] pos) (Ll X.K ta):=by
 intro pins s σ H R I h;refine Call_ (lx I hg hm TZ (rE (thn (ha pos pins s σ H _ I h) fun us s1 ⟨vs,H1,I1,r1,q1⟩=>?_) hs rfl));obtain⟨l,e,⟨xs,hq⟩,q⟩:=q1;subst e;obtain⟨u,rfl,r2⟩:=fY r1;cases r2;obtain⟨its,rv,pl,hz⟩:=I1.list hq;refine call_enumerate_list pl.isList fun h' he hit hsz hk=>?_;have I2:Inv X pins σ H1 {s1 with heap:=h'}:=I1.kept (t':=s1.toks) hk;refine RJ he ?_;refine⟨s1.heap.objs.size+1,[s1.heap.objs.size+1,s1.heap.objs.size],_,_,H1,rfl,I2,QM _ _ l (Nat.succ_ne_self _),⟨⟨_,he⟩,hit⟩,fun b hb=>?_,q⟩;rcases cG.mp hb with z|z
 .subst z;exact I1.fpOk (uO _) (I1.hok.fresh (uO _))
 .have z':b=s1.heap.objs.size:=by simpa using z
  subst z';exact I1.fpOk (qv _) (I1.hok.fresh (qv _))
inductive D where
 |non|bl (b:bq)|int (i:af)|str (x:ai)|tup (l:ab D)|lst (l:ab D)|scr (ns:ab af)
 |dk (l:ab (Key×D))|dt (l:ab (ab Key×D))|ins (c:ai) (fs:ab (ai×D))|ty (n:cH)
structure Cn where
 cls:ai->ao aw
 self:ao aw:=ac
mutual
inductive Rep (Γ:Cn) (K:aV) (G:Hp):V->D->Prop where
 |non:Rep Γ K G .non .non
 |bl (b:bq):Rep Γ K G (.bl b) (.bl b)
 |int (i:af):Rep Γ K G (.int i) (.int i)
 |str (x:ai):Rep Γ K G (.str x) (.str x)
 |ty (n:cH):Rep Γ K G (.ty n) (.ty n)
 |tup {a:aw} {vs:ab V} {ds:ab D}:G a=aa (.tup vs)->Reps Γ K G vs ds->Rep Γ K G (.ref a) (.tup ds)
 |lst {a:aw} {vs:ab V} {ds:ab D}:G a=aa (.lst vs)->Reps Γ K G vs ds->Rep Γ K G (.ref a) (.lst ds)
 |scr {a:aw} {ns:ab af}:SqL K G a (ns.map V.int)->Rep Γ K G (.ref a) (.scr ns)
 |dk {a:aw} {us:ab (Key×V)} {kvs:ab (Key×D)}:G a=aa (.dK us)->us.map (·.1)=kvs.map (·.1)->Reps Γ K G (us.map (·.2)) (kvs.map (·.2))->Rep Γ K G (.ref a) (.dk kvs)
 |dt {a:aw} {us:ab (ab Key×V)} {kvs:ab (ab Key×D)}:G a=aa (.dT us)->us.map (·.1)=kvs.map (·.1)->Reps Γ K G (us.map (·.2)) (kvs.map (·.2))->Rep Γ K G (.ref a) (.dt kvs)
 |ins {a C dx:aw} {c:ai} {us:ab (ai×V)} {fs:ab (ai×D)}:G a=aa (.ins C dx us)->Γ.cls c=aa C->us.map (·.1)=fs.map (·.1)->Reps Γ K G (us.map (·.2)) (fs.map (·.2))->Rep Γ K G (.ref a) (.ins c fs)
inductive Reps (Γ:Cn) (K:aV) (G:Hp):ab V->ab D->Prop where
 |nil:Reps Γ K G [] []
 |cons {v:V} {d:D} {vs:ab V} {ds:ab D}:Rep Γ K G v d->Reps Γ K G vs ds->Reps Γ K G (v::vs) (d::ds)
end
variable {Γ:Cn} {G G' G1:Hp}
section
variable {G2:Hp}
mutual
theorem Rep.mono:∀{v:V} {d:D},Rep Γ K G v d->bp G G'->Rep Γ K G' v d
 |_,_,.non,_=>.non
 |_,_,.bl b,_=>.bl b
 |_,_,.int i,_=>.int i
 |_,_,.str x,_=>.str x
 |_,_,.ty x,_=>.ty x
 |_,_,.tup h r,s=>.tup (s _ _ h) (r.mono s)
 |_,_,.lst h r,s=>.lst (s _ _ h) (r.mono s)
 |_,_,.scr h,s=>.scr (s.seq h)
 |_,_,.dk h e r,s=>.dk (s _ _ h) e (r.mono s)
 |_,_,.dt h e r,s=>.dt (s _ _ h) e (r.mono s)
 |_,_,.ins h c e r,s=>.ins (s _ _ h) c e (r.mono s)
theorem Reps.mono:∀{vs:ab V} {ds:ab D},Reps Γ K G vs ds->bp G G'->Reps Γ K G' vs ds
 |_,_,.nil,_=>.nil
 |_,_,.cons h r,s=>.cons (h.mono s) (r.mono s)
end
mutual
theorem Rep.re {Γ':Cn} (hc:Γ'.cls=Γ.cls):∀{v:V} {d:D},Rep Γ K G v d->Rep Γ' K G v d
 |_,_,.non=>.non
 |_,_,.bl b=>.bl b
 |_,_,.int i=>.int i
 |_,_,.str x=>.str x
 |_,_,.ty x=>.ty x
 |_,_,.tup h r=>.tup h (r.re hc)
 |_,_,.lst h r=>.lst h (r.re hc)
 |_,_,.scr h=>.scr h
 |_,_,.dk h e r=>.dk h e (r.re hc)
 |_,_,.dt h e r=>.dt h e (r.re hc)
 |_,_,.ins h c e r=>.ins h (by rw[hc];exact c) e (r.re hc)
theorem Reps.re {Γ':Cn} (hc:Γ'.cls=Γ.cls):∀{vs:ab V} {ds:ab D},Reps Γ K G vs ds->Reps Γ' K G vs ds
 |_,_,.nil=>.nil
 |_,_,.cons h r=>.cons (h.re hc) (r.re hc)
end
theorem Reps.length:∀{vs:ab V} {ds:ab D},Reps Γ K G vs ds->vs.length=ds.length
 |_,_,.nil=>rfl
 |_,_,.cons _ r=>by rw[qh,qh,r.length]
theorem Reps.get:∀{vs:ab V} {ds:ab D} {i:ag} {d:D},Reps Γ K G vs ds->ds[i]?=aa d->∃v,vs[i]?=aa v/\Rep Γ K G v d
 |_,_,_,_,.nil,e=>by simp at e
 |_,_,0,_,.cons r _,e=>by simp at e;subst e;exact⟨_,rfl,r⟩
 |_,_,i+1,d,.cons _ t,e=>by obtain⟨u,h1,h2⟩:=Reps.get (i:=i) (d:=d) t (by simpa using e);exact⟨u,by simpa using h1,h2⟩
theorem Reps.getV:∀{vs:ab V} {ds:ab D} {i:ag} {v:V},Reps Γ K G vs ds->vs[i]?=aa v->∃d,ds[i]?=aa d/\Rep Γ K G v d
 |_,_,_,_,.nil,e=>by simp at e
 |_,_,0,_,.cons r _,e=>by simp at e;subst e;exact⟨_,rfl,r⟩
 |_,_,i+1,d,.cons _ t,e=>by obtain⟨u,h1,h2⟩:=Reps.getV (i:=i) (v:=d) t (by simpa using e);exact⟨u,by simpa using h1,h2⟩
theorem Reps.append:∀{vs ws:ab V} {ds es:ab D},Reps Γ K G vs ds->Reps Γ K G ws es->Reps Γ K G (vs++ws) (ds++es)
 |_,_,_,_,.nil,s=>s
 |_,_,_,_,.cons r t,s=>.cons r (t.append s)
theorem Reps.take:∀{vs:ab V} {ds:ab D} (n:ag),Reps Γ K G vs ds->Reps Γ K G (vs.take n) (ds.take n)
 |_,_,0,_=>.nil
 |_,_,_+1,.nil=>.nil
 |_,_,n+1,.cons r t=>.cons r (t.take n)
theorem Reps.drop:∀{vs:ab V} {ds:ab D} (n:ag),Reps Γ K G vs ds->Reps Γ K G (vs.drop n) (ds.drop n)
 |_,_,0,r=>r
 |_,_,_+1,.nil=>.nil
 |_,_,n+1,.cons _ t=>t.drop n
theorem Reps.ints:∀(ns:ab af),Reps Γ K G (ns.map V.int) (ns.map D.int)
 |[]=>.nil
 |n::r=>.cons (.int n) (Reps.ints r)
theorem Reps.rep {vs:ab V} {ds:ab D} (h:Reps Γ K G vs ds):∀k:ag,Reps Γ K G (bQ k vs).flatten (bQ k ds).flatten
 |0=>.nil
 |k+1=>by rw[l6,l6,l7,l7];exact h.append (Reps.rep h k)
structure Step (G H G' H':Hp):Prop where
 hh:bp H H'
 gg:bp G G'
 gh:bp G' H'
 out:∀a o,H a=aa o->G' a=G a
theorem Step.refl (gh:bp G H):Step G H G H:=⟨.refl _,.refl _,gh,fun _ _ _=>rfl⟩
theorem Step.trans (a:Step G H G1 H1) (b:Step G1 H1 G2 H2):Step G H G2 H2:=
 ⟨a.hh.trans b.hh,a.gg.trans b.gg,b.gh,fun c o e=>(b.out c o (a.hh c o e)).trans (a.out c o e)⟩
theorem Step.new {p:aw} {o:HO} (gh:bp G H) (hp:H p=ac):Step G H (upd G p o) (upd H p o):=by
 have gp:G p=ac:=gh.free hp;refine⟨fun b u e=>?_,fun b u e=>?_,fun b u e=>?_,fun b u e=>?_⟩
 .rw[aW (ca e hp)];exact e
 .rw[aW (ca e gp)];exact e
 .by_cases hb:b=p
  .subst hb;rw[bV] at e ⊢;exact e
  .rw[aW hb] at e ⊢;exact gh b u e
 .rw[aW (ca e hp)]
theorem Step.newOwn {p:aw} {o:HO} (gh:bp G H) (hp:H p=ac):Step G H G (upd H p o):=by
 refine⟨fun b u e=>?_,.refl _,fun b u e=>?_,fun _ _ _=>rfl⟩
 .rw[aW (ca e hp)];exact e
 .rw[aW (ca (gh b u e) hp)];exact gh b u e
end
noncomputable def xO:D->bq
 |.non=>al
 |.bl _=>al
 |.int _=>al
 |.str _=>al
 |_=>aq
mutual
inductive NewL (H G:Hp):V->D->Prop where
 |flat {v:V} {d:D}:xO d=al->NewL H G v d
 |tup {a:aw} {vs:ab V} {ds:ab D}:G a=aa (.tup vs)->NewLs H G vs ds->NewL H G (.ref a) (.tup ds)
 |lst {a:aw} {vs:ab V} {ds:ab D}:G a=aa (.lst vs)->H a=ac->NewLs H G vs ds->NewL H G (.ref a) (.lst ds)
inductive NewLs (H G:Hp):ab V->ab D->Prop where
 |nil:NewLs H G [] []
 |cons {v:V} {d:D} {vs:ab V} {ds:ab D}:NewL H G v d->NewLs H G vs ds->NewLs H G (v::vs) (d::ds)
end
mutual
theorem NewL.mono:∀{v:V} {d:D},NewL H G v d->bp G G'->bp H' H->NewL H' G' v d
 |_,_,.flat h,_,_=>.flat h
 |_,_,.tup h r,s,t=>.tup (s _ _ h) (r.mono s t)
 |_,_,.lst h n r,s,t=>.lst (s _ _ h) (t.free n) (r.mono s t)
theorem NewLs.mono:∀{vs:ab V} {ds:ab D},NewLs H G vs ds->bp G G'->bp H' H->NewLs H' G' vs ds
 |_,_,.nil,_,_=>.nil
 |_,_,.cons h r,s,t=>.cons (h.mono s t) (r.mono s t)
end
theorem NewLs.append:∀{vs ws:ab V} {ds es:ab D},NewLs H G vs ds->NewLs H G ws es->NewLs H G (vs++ws) (ds++es)
 |_,_,_,_,.nil,s=>s
 |_,_,_,_,.cons r t,s=>.cons r (t.append s)
inductive Slot where
 |sh (d:D)
 |own (ds:ab D)
 |obj (c:ai) (fs:ab (ai×D))
 |objd (c:ai) (fs:ab (ai×D)) (n:ai) (kvs:ab (Key×D))
 |odk (kvs:ab (Key×D))
 |odt (kvs:ab (ab Key×D))
 |tlo (ds es:ab D)
 |pin (a:aw)
 |oll (dss:ab (ab D))
 |odl (ks:ab ai) (dss:ab (ab D))
 |nsh (d:D)
abbrev aX:=ab (ao Slot)
noncomputable def ef (H:Hp):ab aw->ab (ab V)->Prop
 |[],[]=>True
 |p::ps,vs::vss=>H p=aa (.lst vs)/\ef H ps vss
 |_,_=>False
noncomputable def dP (Γ:Cn) (K:aV) (G:Hp):ab (ab V)->ab (ab D)->Prop
 |[],[]=>True
 |vs::vss,ds::dss=>Reps Γ K G vs ds/\dP Γ K G vss dss
 |_,_=>False
theorem ef.mem {H:Hp}:∀{ps:ab aw} {vss:ab (ab V)},ef H ps vss->∀b∈ps,∃o,H b=aa o
 |[],_,_,b,hb=>by cases hb
 |p::ps,[],h,b,hb=>h.elim
 |p::ps,vs::vss,h,b,hb=>by
  rcases cG.mp hb with rfl|hb
  .exact⟨_,h.1⟩
  .exact h.2.mem b hb
theorem ef.stay {H H':Hp}:∀{ps:ab aw} {vss:ab (ab V)},ef H ps vss->(∀b∈ps,H' b=H b)->ef H' ps vss
 |[],[],_,_=>trivial
 |[],_::_,h,_=>h.elim
 |p::ps,[],h,_=>h.elim
 |p::ps,vs::vss,h,e=>⟨(e p qf).trans h.1,h.2.stay fun b hb=>e b (qg _ hb)⟩
theorem dP.map {Γ:Cn} {K:aV} {G G':Hp} (f:∀{vs:ab V} {ds:ab D},Reps Γ K G vs ds->Reps Γ K G' vs ds):∀{vss:ab (ab V)} {dss:ab (ab D)},dP Γ K G vss dss->dP Γ K G' vss dss
 |[],[],_=>trivial
 |[],_::_,h=>h.elim
 |_::_,[],h=>h.elim
 |_::_,_::_,h=>⟨f h.1,h.2.map f⟩
noncomputable def gq (ks:ab ai) (ps:ab aw):ab (Key×V):=(ks.map cK).zip (ps.map V.ref)
theorem Dr:∀{ks:ab ai} {ps qs:ab aw},ks.length=ps.length->ks.length=qs.length->gq ks ps=gq ks qs->ps=qs
 |[],[],[],_,_,_=>rfl
 |[],_::_,_,h,_,_=>by simp at h
 |[],_,_::_,_,h,_=>by simp at h
 |_::_,[],_,h,_,_=>by simp at h
 |_::_,_,[],_,h,_=>by simp at h
 |k::ks,p::ps,q::qs,h1,h2,h=>by have h3:=jx h;rw[V.ref.inj (Fq h3.1).2,Dr (ks:=ks) (by simpa using h1) (by simpa using h2) h3.2]
theorem D8:∀{ps qs:ab aw},ps.map V.ref=qs.map V.ref->ps=qs
 |[],[],_=>rfl
 |[],_::_,h=>by cases h
 |_::_,[],h=>by cases h
 |p::ps,q::qs,h=>by have h1:=jx h;rw[V.ref.inj h1.1,D8 h1.2]
inductive SR (Γ:Cn) (K:aV) (H₀ G H:Hp):Slot->V->ab aw->Prop where
 |sh {d:D} {v:V}:Rep Γ K G v d->SR Γ K H₀ G H (.sh d) v []
 |own {a:aw} {vs:ab V} {ds:ab D}:H₀ a=ac->G a=ac->H a=aa (.lst vs)->Reps Γ K G vs ds->SR Γ K H₀ G H (.own ds) (.ref a) [a]
 |obj {c:ai} {a C dx:aw} {vs:ab (ai×V)} {fs:ab (ai×D)}:Γ.cls c=aa C->H₀ a=ac->G a=ac->H a=aa (.ins C dx vs)->vs.map (·.1)=fs.map (·.1)->Reps Γ K G (vs.map (·.2)) (fs.map (·.2))->Γ.self=aa a->SR Γ K H₀ G H (.obj c fs) (.ref a) [a]
 |objd {c n:ai} {a C dx p:aw} {vs:ab (ai×V)} {fs:ab (ai×D)} {us:ab (Key×V)} {kvs:ab (Key×D)}:Γ.cls c=aa C->H₀ a=ac->G a=ac->H a=aa (.ins C dx (vs++[(n,.ref p)]))->vs.map (·.1)=fs.map (·.1)->Reps Γ K G (vs.map (·.2)) (fs.map (·.2))->
   H₀ p=ac->G p=ac->H p=aa (.dK us)->us.map (·.1)=kvs.map (·.1)->Reps Γ K G (us.map (·.2)) (kvs.map (·.2))->Γ.self=aa a->SR Γ K H₀ G H (.objd c fs n kvs) (.ref a) [a,p]
 |odk {a:aw} {us:ab (Key×V)} {kvs:ab (Key×D)}:H₀ a=ac->G a=ac->H a=aa (.dK us)->us.map (·.1)=kvs.map (·.1)->Reps Γ K G (us.map (·.2)) (kvs.map (·.2))->SR Γ K H₀ G H (.odk kvs) (.ref a) [a]
 |odt {a:aw} {us:ab (ab Key×V)} {kvs:ab (ab Key×D)}:H₀ a=ac->G a=ac->H a=aa (.dT us)->us.map (·.1)=kvs.map (·.1)->Reps Γ K G (us.map (·.2)) (kvs.map (·.2))->SR Γ K H₀ G H (.odt kvs) (.ref a) [a]
 |tlo {t p:aw} {vs ws:ab V} {ds es:ab D}:H₀ p=ac->G p=ac->H p=aa (.lst ws)->G t=aa (.tup (vs++[.ref p]))->Reps Γ K G vs ds->Reps Γ K G ws es->SR Γ K H₀ G H (.tlo ds es) (.ref t) [p]
 |pin (a:aw):SR Γ K H₀ G H (.pin a) (.ref a) []
 |oll {a:aw} {ps:ab aw} {vss:ab (ab V)} {dss:ab (ab D)}:(∀b∈a::ps,H₀ b=ac/\G b=ac)->(a::ps).Nodup->H a=aa (.lst (ps.map V.ref))->ef H ps vss->dP Γ K G vss dss->SR Γ K H₀ G H (.oll dss) (.ref a) (a::ps)
 |odl {a:aw} {ps:ab aw} {ks:ab ai} {vss:ab (ab V)} {dss:ab (ab D)}:(∀b∈a::ps,H₀ b=ac/\G b=ac)->(a::ps).Nodup->H a=aa (.dK (gq ks ps))->ks.length=ps.length->ef H ps vss->dP Γ K G vss dss->SR Γ K H₀ G H (.odl ks dss) (.ref a) (a::ps)
 |nsh {d:D} {v:V}:Rep Γ K G v d->NewL H₀ G v d->SR Γ K H₀ G H (.nsh d) v []
variable {H₀:Hp}
section
variable {s:Slot}
theorem SR.fpt (r:SR Γ K H₀ G H s v fp):∀b∈fp,H₀ b=ac/\G b=ac/\∃o,H b=aa o:=by
 cases r with
 |sh r=>intro b hb;cases hb
 |own h1 h2 h3 _=>intro b hb;rw[bY.mp hb];exact⟨h1,h2,_,h3⟩
 |obj _ h1 h2 h3 _ _ _=>intro b hb;rw[bY.mp hb];exact⟨h1,h2,_,h3⟩
 |objd _ h1 h2 h3 _ _ q1 q2 q3 _ _ _=>
  intro b hb;rcases cG.mp hb with rfl|hb
  .exact⟨h1,h2,_,h3⟩
  .rw[bY.mp hb];exact⟨q1,q2,_,q3⟩
 |odk h1 h2 h3 _ _=>intro b hb;rw[bY.mp hb];exact⟨h1,h2,_,h3⟩
 |odt h1 h2 h3 _ _=>intro b hb;rw[bY.mp hb];exact⟨h1,h2,_,h3⟩
 |tlo h1 h2 h3 _ _ _=>intro b hb;rw[bY.mp hb];exact⟨h1,h2,_,h3⟩
 |pin a=>intro b hb;cases hb
 |nsh _ _=>intro b hb;cases hb
 |oll h1 h2 h3 h4 _=>
  intro b hb;refine⟨(h1 b hb).1,(h1 b hb).2,?_⟩;rcases cG.mp hb with rfl|hb
  .exact⟨_,h3⟩
  .exact h4.mem b hb
 |odl h1 h2 h3 _ h4 _=>
  intro b hb;refine⟨(h1 b hb).1,(h1 b hb).2,?_⟩;rcases cG.mp hb with rfl|hb
  .exact⟨_,h3⟩
  .exact h4.mem b hb
theorem SR.stay (r:SR Γ K H₀ G H s v fp) (gg:bp G G') (hg:∀b∈fp,G' b=ac) (hh:∀b∈fp,H' b=H b):SR Γ K H₀ G' H' s v fp:=by
 cases r with
 |sh r=>exact .sh (r.mono gg)
 |own h1 h2 h3 h4=>exact .own h1 (hg _ (bY.mpr rfl)) ((hh _ (bY.mpr rfl)).trans h3) (h4.mono gg)
 |obj c h1 h2 h3 h4 h5 hs=>exact .obj c h1 (hg _ (bY.mpr rfl)) ((hh _ (bY.mpr rfl)).trans h3) h4 (h5.mono gg) hs
 |objd c h1 h2 h3 h4 h5 q1 q2 q3 q4 q5 hs=>
  exact .objd c h1 (hg _ qf) ((hh _ qf).trans h3) h4 (h5.mono gg) q1 (hg _ (qg _ qf)) ((hh _ (qg _ qf)).trans q3) q4 (q5.mono gg) hs
 |odk h1 h2 h3 h4 h5=>exact .odk h1 (hg _ (bY.mpr rfl)) ((hh _ (bY.mpr rfl)).trans h3) h4 (h5.mono gg)
 |odt h1 h2 h3 h4 h5=>exact .odt h1 (hg _ (bY.mpr rfl)) ((hh _ (bY.mpr rfl)).trans h3) h4 (h5.mono gg)
 |pin a=>exact .pin a
 |nsh r n=>exact .nsh (r.mono gg) (n.mono gg (.refl _))
 |oll h1 h2 h3 h4 h5=>exact .oll (fun b hb=>⟨(h1 b hb).1,hg b hb⟩) h2 ((hh _ qf).trans h3) (h4.stay fun b hb=>hh b (qg _ hb)) (h5.map fun r=>r.mono gg)
 |odl h1 h2 h3 hl h4 h5=>exact .odl (fun b hb=>⟨(h1 b hb).1,hg b hb⟩) h2 ((hh _ qf).trans h3) hl (h4.stay fun b hb=>hh b (qg _ hb)) (h5.map fun r=>r.mono gg)
 |tlo h1 h2 h3 h4 h5 h6=>exact .tlo h1 (hg _ (bY.mpr rfl)) ((hh _ (bY.mpr rfl)).trans h3) (gg _ _ h4) (h5.mono gg) (h6.mono gg)
theorem SR.stepS (r:SR Γ K H₀ G H s v fp) (t:Step G H G' H'):SR Γ K H₀ G' H' s v fp:=r.stay t.gg (fun b hb=>by
 obtain⟨_,h2,o,h3⟩:=r.fpt b hb;exact(t.out b o h3).trans h2) (fun b hb=>by
 obtain⟨_,_,o,h3⟩:=r.fpt b hb;rw[h3];exact t.hh b o h3)
end
theorem SR.uniq {s:Slot} {fq:ab aw} (r:SR Γ K H₀ G H s v fp) (q:SR Γ K H₀ G H s v fq):fp=fq:=by
 cases r with
 |sh r=>cases q;rfl
 |own h1 h2 h3 _=>cases q;rfl
 |obj _ h1 h2 h3 _ _ _=>cases q;rfl
 |objd _ h1 h2 h3 _ _ q1 q2 q3 _ _ _=>
  cases q with
  |objd _ _ _ k3 _ _ _ _ _ _ _ _=>
   rw[h3] at k3;have z:=(HO.ins.inj (qH k3)).2.2;have z2:=(RK z rfl).2;cases z2;rfl
 |odk h1 h2 h3 _ _=>cases q;rfl
 |odt h1 h2 h3 _ _=>cases q;rfl
 |pin a=>cases q;rfl
 |nsh _ _=>cases q;rfl
 |oll _ _ h3 _ _=>
  cases q with
  |oll _ _ k3 _ _=>
   rw[h3] at k3;rw[D8 (HO.lst.inj (qH k3))]
 |odl _ _ h3 hl _ _=>
  cases q with
  |odl _ _ k3 kl _ _=>
   rw[h3] at k3;rw[Dr hl kl (HO.dK.inj (qH k3))]
 |tlo _ _ _ h4 _ _=>
  cases q with
  |tlo _ _ _ k4 _ _=>
   rw[h4] at k4;have z:=HO.tup.inj (qH k4);have z2:=(RK z rfl).2;cases z2;rfl
structure EnvRel (Γ:Cn) (K:aV) (H₀ G H:Hp) (ρ:aX) (σ:St):Prop where
 len:ρ.length=σ.length
 sl:∃fps:ag->ab aw,(∀(i:ag) s,ρ[i]?=aa (aa s)->∃v,σ[i]?=aa (aa v)/\SR Γ K H₀ G H s v (fps i)) /\
  ∀(i j:ag) s t,i≠j->ρ[i]?=aa (aa s)->ρ[j]?=aa (aa t)->∀b∈fps i,b∉fps j
structure At (Γ:Cn) (K:aV) (G₀ H₀ G H:Hp) (ρ:aX) (σ:St):Prop where
 st:Step G₀ H₀ G H
 env:EnvRel Γ K H₀ G H ρ σ
noncomputable def eQ (ρ:aX):Prop:=∀(i:ag) s,ρ[i]?=aa (aa s)->∃d,s=.sh d
variable {G₀:Hp} {ρ:aX} {fp':ab aw} {d:D} {ds:ab D}
theorem EnvRel.ofSh (len:ρ.length=σ.length) (no:eQ ρ) (sh:∀(i:ag) d,ρ[i]?=aa (aa (.sh d))->∃v,σ[i]?=aa (aa v)/\Rep Γ K G v d):EnvRel Γ K H₀ G H ρ σ :=
 ⟨len,fun _=>[],fun i s e=>by obtain⟨d,rfl⟩:=no i s e;obtain⟨v,h1,h2⟩:=sh i d e;exact⟨v,h1,.sh h2⟩,fun _ _ _ _ _ _ _ b hb=>by cases hb⟩
theorem EnvRel.sh (E:EnvRel Γ K H₀ G H ρ σ) (i:ag) (d:D) (e:ρ[i]?=aa (aa (.sh d))):∃v,σ[i]?=aa (aa v)/\Rep Γ K G v d:=by
 obtain⟨fps,h,_⟩:=E.sl;obtain⟨v,h1,h2⟩:=h i _ e;generalize fps i=fp at h2;cases h2 with
 |sh r=>exact⟨v,h1,r⟩
theorem EnvRel.own (E:EnvRel Γ K H₀ G H ρ σ) (i:ag) (ds:ab D) (e:ρ[i]?=aa (aa (.own ds))):∃a vs,σ[i]?=aa (aa (.ref a))/\H₀ a=ac/\G a=ac/\H a=aa (.lst vs)/\Reps Γ K G vs ds:=by
 obtain⟨fps,h,_⟩:=E.sl;obtain⟨v,h1,h2⟩:=h i _ e;generalize fps i=fp at h2;cases h2 with
 |own q1 q2 q3 q4=>exact⟨_,_,h1,q1,q2,q3,q4⟩
theorem At.gh (A:At Γ K G₀ H₀ G H ρ σ):bp G H:=A.st.gh
theorem At.step (A:At Γ K G₀ H₀ G H ρ σ) (s:Step G H G' H'):At Γ K G₀ H₀ G' H' ρ σ:=by
 obtain⟨fps,h,ap⟩:=A.env.sl;exact⟨A.st.trans s,A.env.len,fps,fun i t e=>by obtain⟨v,h1,h2⟩:=h i t e;exact⟨v,h1,h2.stepS s⟩,ap⟩
theorem At.put (A:At Γ K G₀ H₀ G H ρ σ) {s':Slot} {v':V} 
  (hfp:fp=[]\/∃s v,ρ[i]?=aa (aa s)/\σ[i]?=aa (aa v)/\SR Γ K H₀ G H s v fp)
  (hH:∀b o,H b=aa o->b∉fp->H' b=aa o) (hS:SR Γ K H₀ G' H' s' v' fp') (hn:∀b∈fp',b∈fp\/H b=ac)
  (gg:bp G G') (gh:bp G' H') (out:∀b o,H b=aa o->b∉fp->G' b=G b) (out2:∀b∈fp,H₀ b=ac):At Γ K G₀ H₀ G' H' (ρ.set i (aa s')) (σ.set i (aa v')):=by
 obtain⟨fps,h,ap⟩:=A.env.sl;have hl:=A.env.len;have old:∀b∈fp,∀j t,j≠i->ρ[j]?=aa (aa t)->b∉fps j:=fun b hb j t hj e=>by
  rcases hfp with rfl|⟨s,v,h1,h2,h3⟩
  .cases hb
  .obtain⟨v2,h4,h5⟩:=h i s h1;rw[h2] at h4;cases h4;have efp:fp=fps i:=h3.uniq h5;subst efp;exact ap i j s t (dM hj) h1 e b hb
 have slj:∀(j:ag) t,j≠i->ρ[j]?=aa (aa t)->∃v,σ[j]?=aa (aa v)/\SR Γ K H₀ G' H' t v (fps j):=fun j t hj e=>by
  obtain⟨v,h1,h2⟩:=h j t e;refine⟨v,h1,h2.stay gg (fun b hb=>?_) (fun b hb=>?_)⟩
  .obtain⟨_,q2,o,q3⟩:=h2.fpt b hb;exact(out b o q3 fun z=>old b z j t hj e hb).trans q2
  .obtain⟨_,_,o,q3⟩:=h2.fpt b hb;rw[q3];exact hH b o q3 fun z=>old b z j t hj e hb
 have no2:∀b o,H₀ b=aa o->b∉fp:=fun b o e z=>by rw[out2 b z] at e;cases e
 have hst:Step G₀ H₀ G' H':=⟨fun b o e=>hH b o (A.st.hh b o e) (no2 b o e),A.st.gg.trans gg,gh,fun b o e=>(out b o (A.st.hh b o e) (no2 b o e)).trans (A.st.out b o e)⟩;refine⟨hst,by simp[hl],fun j=>if j=i then fp' else fps j,fun j t e=>?_,fun j k t u hjk e1 e2 b hb=>?_⟩
 .by_cases hj:j=i
  .subst hj;have hlt:j < ρ.length:=by
    rcases lg j ρ.length with q|q
    .exact q
    .rw[lh (by simp;omega)] at e;cases e
   rw[mX hlt] at e;cases e;show ∃v,_/\SR _ _ _ _ _ _ v (if j=j then fp' else fps j);rw[qY rfl];exact⟨v',by rw[mX (by omega)],hS⟩
  .rw[qy (dM hj)] at e ⊢;show ∃v,_/\SR _ _ _ _ _ _ v (if j=i then fp' else fps j);rw[qZ hj];exact slj j t hj e
 .have cross:∀{k:ag} {u:Slot},k≠i->ρ[k]?=aa (aa u)->∀b∈fp',b∉fps k:=fun {k u} hk e b hb hb2=>by
   rcases hn b hb with z|z
   .exact old b z k u hk e hb2
   .obtain⟨v,_,q⟩:=h k u e;obtain⟨_,_,o,q3⟩:=q.fpt b hb2;rw[z] at q3;cases q3
  replace hb:b∈(if j=i then fp' else fps j):=hb
  show b∉(if k=i then fp' else fps k);by_cases hj:j=i
  .subst hj;have hk:k≠j:=dM hjk;rw[qY rfl] at hb;rw[qZ hk];rw[qy hjk] at e2;exact cross hk e2 b hb
  .rw[qZ hj] at hb;rw[qy (dM hj)] at e1;by_cases hk:k=i
   .subst hk;rw[qY rfl];exact fun z=>cross hj e1 b z hb
   .rw[qZ hk];rw[qy (dM hk)] at e2;exact ap j k t u hjk e1 e2 b hb
theorem At.setSh (A:At Γ K G₀ H₀ G H ρ σ) (r:Rep Γ K G v d):At Γ K G₀ H₀ G H (ρ.set i (aa (.sh d))) (σ.set i (aa v)):=
 A.put (fp:=[]) (fp':=[]) (.inl rfl) (fun b o e _=>e) (.sh r) (fun b hb=>by cases hb) (.refl _) A.gh (fun _ _ _ _=>rfl) (fun b hb=>by cases hb)
theorem At.setOwn (A:At Γ K G₀ H₀ G H ρ σ) (ha:H a=ac) (r:Reps Γ K G vs ds):At Γ K G₀ H₀ G (upd H a (.lst vs)) (ρ.set i (aa (.own ds))) (σ.set i (aa (.ref a))):=by have h0:H₀ a=ac:=A.st.hh.free ha;have hg:G a=ac:=A.gh.free ha;refine A.put (fp:=[]) (fp':=[a]) (.inl rfl) (fun b o e _=>by rw[aW (ca e ha)];exact e) (.own h0 hg bV r) (fun b hb=>.inr (by rw[bY.mp hb];exact ha)) (.refl _) (fun b o e=>?_) (fun _ _ _ _=>rfl) (fun b hb=>by cases hb);rw[aW (ca e hg)];exact A.gh b o e
theorem PQ {l:ab α} {x:α} (h:l[i]?=aa x):l.set i x=l:=by
 apply Fs;intro j;by_cases hj:j=i
 .subst hj;rw[mX (cR.mp h).1,h]
 .rw[qy (dM hj)]
theorem At.ch (A:At Γ K G₀ H₀ G H ρ σ) {s s':Slot} (hi:ρ[i]?=aa (aa s)) (hv:σ[i]?=aa (aa v)) (hs:SR Γ K H₀ G H s v fp)
  (hH:∀b o,H b=aa o->b∉fp->H' b=aa o) (hS:SR Γ K H₀ G' H' s' v fp') (hn:∀b∈fp',b∈fp\/H b=ac)
  (gg:bp G G') (gh:bp G' H') (out:∀b o,H b=aa o->b∉fp->G' b=G b):At Γ K G₀ H₀ G' H' (ρ.set i (aa s')) σ:=by
 have:=A.put (i:=i) (.inr ⟨s,v,hi,hv,hs⟩) hH hS hn gg gh out fun b hb=>(hs.fpt b hb).1
 rwa [PQ hv] at this
theorem At.get (A:At Γ K G₀ H₀ G H ρ σ) {s:Slot} (hi:ρ[i]?=aa (aa s)):∃v fp,σ[i]?=aa (aa v)/\SR Γ K H₀ G H s v fp:=by obtain⟨fps,h,_⟩:=A.env.sl;obtain⟨v,h1,h2⟩:=h i s hi;exact⟨v,_,h1,h2⟩
theorem At.chOwn (A:At Γ K G₀ H₀ G H ρ σ) {es:ab D} {ws:ab V} (hi:ρ[i]?=aa (aa (.own ds))) (ha:σ[i]?=aa (aa (.ref a))) (r:Reps Γ K G ws es):At Γ K G₀ H₀ G (upd H a (.lst ws)) (ρ.set i (aa (.own es))) σ:=by
 obtain⟨v,fp,h1,h2⟩:=A.get hi;rw[ha] at h1;cases h1;cases h2 with
 |own q1 q2 q3 q4=>
  refine A.ch hi ha (.own q1 q2 q3 q4) (fun b o e hb=>?_) (.own q1 q2 bV r) (fun b hb=>.inl hb) (.refl _) (fun b o e=>?_) (fun _ _ _ _=>rfl)
  .rw[aW (fun z=>hb (bY.mpr z))];exact e
  .rw[aW (ca e q2)];exact A.gh b o e
theorem At.freeze (A:At Γ K G₀ H₀ G H ρ σ) (hi:ρ[i]?=aa (aa (.own ds))):∃G',bp G G'/\At Γ K G₀ H₀ G' H (ρ.set i (aa (.sh (.lst ds)))) σ:=by
 obtain⟨v,fp,h1,h2⟩:=A.get hi;cases h2 with
 |own q1 q2 q3 q4=>
  rename_i a vs;have sm:bp G (upd G a (.lst vs)):=fun b o e=>by rw[aW (ca e q2)];exact e
  refine⟨upd G a (.lst vs),sm,A.ch hi h1 (.own q1 q2 q3 q4) (fun b o e hb=>e) (.sh (.lst bV (q4.mono sm))) (fun b hb=>by cases hb) sm (fun b o e=>?_) (fun b o e hb=>?_)⟩
  .by_cases hb:b=a
   .subst hb;rw[bV] at e;cases e;exact q3
   .rw[aW hb] at e;exact A.gh b o e
  .rw[aW (fun z=>hb (bY.mpr z))]
inductive Fl where
 |nx|bk|ct|rt (d:D)|ow (ds:ab D)|nw (d:D)|od (kvs:ab (Key×D))
abbrev FE:=aX->ao D
abbrev FT:=aX->ao bq
abbrev FA:=aX->ao (ab D)
abbrev FS:=aX->ao (Fl×aX)
noncomputable def TD (Γ:Cn) (K:aV) (f:FE):TE:=fun σ H Q=>∃G₀ H₀ G ρ d,At Γ K G₀ H₀ G H ρ σ/\f ρ=aa d/\∀v G' H',Step G H G' H'->Rep Γ K G' v d->Q v H'
noncomputable def TDt (Γ:Cn) (K:aV) (f:FT):TT:=fun σ H Q=>∃G₀ H₀ G ρ b,At Γ K G₀ H₀ G H ρ σ/\f ρ=aa b/\∀G' H',Step G H G' H'->Q b H'
noncomputable def TDa (Γ:Cn) (K:aV) (f:FA):TA:=fun σ H Q=>∃G₀ H₀ G ρ ds,At Γ K G₀ H₀ G H ρ σ/\f ρ=aa ds/\∀vs G' H',Step G H G' H'->Reps Γ K G' vs ds->Q vs H'
noncomputable def HU (Γ:Cn) (K:aV) (E:Ends) (H₀ G' H':Hp) (σ':St):Fl->Prop
 |.nx=>E.nx σ' H'
 |.bk=>E.bk σ' H'
 |.ct=>E.ct σ' H'
 |.rt d=>∀v,Rep Γ K G' v d->E.rt v H'
 |.ow ds=>∀p vs,H₀ p=ac->G' p=ac->H' p=aa (.lst vs)->Reps Γ K G' vs ds->E.rt (.ref p) H'
 |.nw d=>∀v,Rep Γ K G' v d->NewL H₀ G' v d->E.rt v H'
 |.od kvs=>∀p us,H₀ p=ac->G' p=ac->H' p=aa (.dK us)->us.map (·.1)=kvs.map (·.1)->Reps Γ K G' (us.map (·.2)) (kvs.map (·.2))->E.rt (.ref p) H'
noncomputable def TDs (Γ:Cn) (K:aV) (g:FS):TS:=fun E σ H=>∃G₀ H₀ G ρ fl ρ',At Γ K G₀ H₀ G H ρ σ/\g ρ=aa (fl,ρ')/\∀σ' G' H',bp G G'->At Γ K G₀ H₀ G' H' ρ' σ'->HU Γ K E H₀ G' H' σ' fl
noncomputable def TDo (Γ:Cn) (K:aV) (f:FA):TE:=fun σ H Q=>∃G₀ H₀ G ρ ds,At Γ K G₀ H₀ G H ρ σ/\f ρ=aa ds/\∀p vs G' H',Step G H G' H'->H' p=ac->Reps Γ K G' vs ds->Q (.ref p) (upd H' p (.lst vs))
structure DE (Γ:Cn) (X:Cx) (e:Expr) (f:FE):Prop where
 out:PE X e (TD Γ X.K f)
structure DT (Γ:Cn) (X:Cx) (e:Expr) (f:FT):Prop where
 out:PT X e (TDt Γ X.K f)
structure DW (Γ:Cn) (X:Cx) (e:Expr) (f:FT):Prop where
 out:PW X e (TDt Γ X.K f)
structure DA (Γ:Cn) (X:Cx) (es:ab Expr) (f:FA):Prop where
 out:PA X es (TDa Γ X.K f)
structure DS (Γ:Cn) (X:Cx) (st:Stmt) (g:FS):Prop where
 out:PS X st (TDs Γ X.K g)
structure DSs (Γ:Cn) (X:Cx) (st:ab Stmt) (g:FS):Prop where
 out:PSs X st (TDs Γ X.K g)
structure DO (Γ:Cn) (X:Cx) (e:Expr) (f:FA):Prop where
 out:PE X e (TDo Γ X.K f)
variable {fa fb fc f:FE}
section
variable {a:Expr}
theorem PE.imp {t t':TE} (h:PE X e t) (i:∀σ H Q,t' σ H Q->t σ H Q):PE X e t':=fun pins s σ H Q I q=>h pins s σ H Q I (i _ _ _ q)
theorem PT.imp {t t':TT} (h:PT X e t) (i:∀σ H Q,t' σ H Q->t σ H Q):PT X e t':=fun pins s σ H Q I q=>h pins s σ H Q I (i _ _ _ q)
theorem PW.imp {t t':TT} (h:PW X e t) (i:∀σ H Q,t' σ H Q->t σ H Q):PW X e t':=fun wh pins s σ H Q I q=>h wh pins s σ H Q I (i _ _ _ q)
theorem PA.imp {t t':TA} (h:PA X es t) (i:∀σ H Q,t' σ H Q->t σ H Q):PA X es t':=fun p pins s σ H Q I q=>h p pins s σ H Q I (i _ _ _ q)
theorem PS.imp {t t':TS} (h:PS X st t) (i:∀E σ H,t' E σ H->t E σ H):PS X st t':=fun pins s σ H E I q=>h pins s σ H E I (i _ _ _ q)
theorem PSs.imp {st:ab Stmt} {t t':TS} (h:PSs X st t) (i:∀E σ H,t' E σ H->t E σ H):PSs X st t':=fun pins s σ H E I q=>h pins s σ H E I (i _ _ _ q)
noncomputable def vSh (i:ag):FE:=fun ρ=>match ρ[i]? with
 |some (aa (.sh d))=>aa d
 |_=>ac
theorem NC (h:vSh i ρ=aa d):ρ[i]?=aa (aa (.sh d)):=by
 unfold vSh at h;split at h
 .rename_i e;cases h;exact e
 .cases h
theorem ah (i:ag) (hN:X.N[i]?=aa x:=by rfl) (hv:Vis X.env.scope x:=by first|exact c6 rfl|exact cB (c6 rfl)|exact cB (cB rfl)) (hd:(x==("__debug__":ai))=aq:=by decide)
  (hcd:(x==("__classdict__":ai))=aq:=by decide):DE Γ X (.Name x pos) (vSh i):=⟨(iX hN hv hd hcd).imp fun σ H Q ⟨G₀,H₀,G,ρ,d,A,h,k⟩=>by
 obtain⟨v,h1,h2⟩:=A.env.sh i d (NC h);exact⟨v,h1,k v G H (.refl A.gh) h2⟩⟩
noncomputable def vC (d:D):FE:=fun _=>aa d
theorem TD.const (r:∀G,Rep Γ X.K G v d) (h:PE X e (tC v)):DE Γ X e (vC d):=⟨h.imp fun σ H Q ⟨G₀,H₀,G,ρ,d',A,h,k⟩=>by cases h;exact k v G H (.refl A.gh) (r G)⟩
theorem ar {i j}:DE Γ X (.Constant (.int i) j pos) (vC (.int i)):=TD.const (fun _=>.int i) xn
theorem eF {i j}:DE Γ X (.Constant (.bool i) j pos) (vC (.bl i)):=TD.const (fun _=>.bl i) OU
theorem dN {j}:DE Γ X (.Constant .none j pos) (vC .non):=TD.const (fun _=>.non) My
theorem bL {i j}:DE Γ X (.Constant (.str i) j pos) (vC (.str i)):=TD.const (fun _=>.str i) Dk
theorem hV {i:af} {t:Tok} (hg:Gl X x) (hm:X.mg x=aa (.int i t)) (hd:(x==("__debug__":ai))=aq:=by decide):DE Γ X (.Name x pos) (vC (.int i)):=TD.const (fun _=>.int i) (vB hg hm ⟨t,rfl⟩ hd)
noncomputable def b2 (g:D->D->ao D) (fa fb:FE):FE:=fun ρ=>(fa ρ).bind fun x=>(fb ρ).bind fun y=>g x y
noncomputable def b1 (g:D->ao D) (fa:FE):FE:=fun ρ=>(fa ρ).bind g
noncomputable def gb (Γ:Cn) (K:aV) (g:D->D->ao D) (r:R2):Prop:=
 ∀{G H v u x y z},bp G H->Rep Γ K G v x->Rep Γ K G u y->g x y=aa z->∀Q:VK,(∀w G' H',Step G H G' H'->Rep Γ K G' w z->Q w H')->r v u H Q
theorem TD.two {g:D->D->ao D} (hr:gb Γ X.K g r):∀σ H Q,TD Γ X.K (b2 g fa fb) σ H Q->tOp r (TD Γ X.K fa) (TD Γ X.K fb) σ H Q:=by
 rintro σ H Q ⟨G₀,H₀,G,ρ,d,A,h,k⟩;unfold b2 at h;cases ha:fa ρ with
 |none=>rw[ha] at h;cases h
 |some x=>
  cases hb:fb ρ with
  |none=>rw[ha] at h;simp only[qa,hb,Option.bind_none] at h;cases h
  |some y=>
   simp only[ha,hb,qa] at h;refine⟨G₀,H₀,G,ρ,x,A,ha,fun v G1 H1 s1 r1=>⟨G₀,H₀,G1,ρ,y,A.step s1,hb,fun u G2 H2 s2 r2=>?_⟩⟩;exact hr s2.gh (r1.mono s2.gg) r2 h Q fun w G' H' s r=>k w G' H' ((s1.trans s2).trans s) r
theorem ky {op:Operator} {g:D->D->ao D} (ho:OpR X (gc op) r) (hr:gb Γ X.K g r) (ha:DE Γ X a fa) (hb:DE Γ X b fb):DE Γ X (.BinOp a op b pos) (b2 g fa fb):=⟨(Es ho ha.1 hb.1).imp (TD.two hr)⟩
noncomputable def aF:D->D->ao D
 |.int i,.int j=>aa (.int (i+j))
 |.str x,.str y=>if x.length+y.length<=aM then aa (.str (x++y)) else ac
 |.lst x,.lst y=>if x.length+y.length<=aM then aa (.lst (x++y)) else ac
 |_,_=>ac
noncomputable def kZ:D->D->ao D
 |.int i,.int j=>aa (.int (i-j))
 |_,_=>ac
noncomputable def j7 (x:ai) (n:ag):ai:=⟨(bQ n x.cps.toList).flatten.toArray⟩
noncomputable def cv:D->D->ao D
 |.int i,.int j=>if (-(2 ^ 64)<i/\i<2 ^ 64)\/(-(2 ^ 64)<j/\j<2 ^ 64) then aa (.int (i*j)) else ac
 |.lst x,.int j=>if -(2 ^ 63)<=j/\j<2 ^ 63/\x.length*j.toNat<=aM then aa (.lst (bQ j.toNat x).flatten) else ac
 |.str x,.int j=>if 0<=j/\j<1000/\x.length<1000 then aa (.str (j7 x j.toNat)) else ac
 |_,_=>ac
noncomputable def eY:D->D->ao D
 |.int i,.int j=>if 0<j/\j<1073741824 then aa (.int (i / j)) else ac
 |_,_=>ac
noncomputable def bA:D->D->ao D
 |.int i,.int j=>if 0<j then aa (.int (i%j)) else ac
 |_,_=>ac
noncomputable def ce:D->D->ao D
 |.int i,.int j=>if 0<=j/\j<=1000000/\i.natAbs<2 ^ 64 then aa (.int (i ^ j.toNat)) else ac
 |_,_=>ac
theorem Rep.int_inv {i:af} (r:Rep Γ K G v (.int i)):v=.int i:=by cases r;rfl
theorem Rep.str_inv {i:ai} (r:Rep Γ K G v (.str i)):v=.str i:=by cases r;rfl
theorem Rep.bl_inv {i:bq} (r:Rep Γ K G v (.bl i)):v=.bl i:=by cases r;rfl
theorem Rep.lst_inv (r:Rep Γ K G v (.lst ds)):∃a vs,v=.ref a/\G a=aa (.lst vs)/\Reps Γ K G vs ds:=by cases r;exact⟨_,_,rfl,by assumption,by assumption⟩
theorem Rep.tup_inv (r:Rep Γ K G v (.tup ds)):∃a vs,v=.ref a/\G a=aa (.tup vs)/\Reps Γ K G vs ds:=by cases r;exact⟨_,_,rfl,by assumption,by assumption⟩
theorem Rep.scr_inv (r:Rep Γ K G v (.scr ns)):∃a,v=.ref a/\SqL K G a (ns.map V.int):=by cases r;exact⟨_,rfl,by assumption⟩
theorem iI {Q:VK} (gh:bp G H) (r:Reps Γ K G vs ds) (k:∀w G' H',Step G H G' H'->Rep Γ K G' w (.lst ds)->Q w H'):∀p,H p=ac->Q (.ref p) (upd H p (.lst vs)):=fun p hp=>by have s:=Step.new (o:=.lst vs) gh hp;exact k _ _ _ s (.lst bV (r.mono s.gg))
theorem sW {Q:VK} (gh:bp G H) (r:Reps Γ K G vs ds) (k:∀w G' H',Step G H G' H'->Rep Γ K G' w (.tup ds)->Q w H'):∀p,H p=ac->Q (.ref p) (upd H p (.tup vs)):=fun p hp=>by have s:=Step.new (o:=.tup vs) gh hp;exact k _ _ _ s (.tup bV (r.mono s.gg))
theorem KM :gb Γ K aF (fun x y H Q=>(rI0 (fun i j=>V.int (i+j)) x y H Q\/(∃i j,x=.str i/\y=.str j/\i.length+j.length<=aM/\Q (.str (i++j)) H))\/wa x y H Q):=by
 intro G H v u x y z gh r1 r2 h Q k;unfold aF at h;split at h
 .cases h;cases r1.int_inv;cases r2.int_inv;exact .inl (.inl ⟨_,_,rfl,rfl,k _ G H (.refl gh) (.int _)⟩)
 .split at h
  .cases h;cases r1.str_inv;cases r2.str_inv;exact .inl (.inr ⟨_,_,rfl,rfl,by assumption,k _ G H (.refl gh) (.str _)⟩)
  .cases h
 .split at h
  .rename_i hz;cases h;obtain⟨a,vs,rfl,ha,ra⟩:=r1.lst_inv;obtain⟨b,us,rfl,hb,rb⟩:=r2.lst_inv;exact .inr ⟨a,b,vs,us,rfl,rfl,gh _ _ ha,gh _ _ hb,by rw[ra.length,rb.length];exact hz,iI gh (ra.append rb) k⟩
  .cases h
 .cases h
theorem JX:OpR X (gc .Add) (fun x y H Q=>(rI0 (fun i j=>V.int (i+j)) x y H Q\/(∃i j,x=.str i/\y=.str j/\i.length+j.length<=aM/\Q (.str (i++j)) H))\/wa x y H Q):=(PY.or Nh).or EB
theorem bu (ha:DE Γ X a fa) (hb:DE Γ X b fb):DE Γ X (.BinOp a .Add b pos) (b2 aF fa fb):=ky JX KM ha hb
theorem Op {g:D->D->ao D} {o:af->af->af} (hg:∀x y z,g x y=aa z->∃i j,x=.int i/\y=.int j/\z=.int (o i j)):gb Γ K g (rI0 fun i j=>V.int (o i j)):=by intro G H v u x y z gh r1 r2 h Q k;obtain⟨i,j,rfl,rfl,rfl⟩:=hg x y z h;cases r1.int_inv;cases r2.int_inv;exact⟨_,_,rfl,rfl,k _ G H (.refl gh) (.int _)⟩
theorem pX {g:D->D->ao D} {C:af->af->Prop} {o:af->af->af} (hg:∀x y z,g x y=aa z->∃i j,x=.int i/\y=.int j/\C i j/\z=.int (o i j)):gb Γ K g (rI C fun i j=>V.int (o i j)):=by intro G H v u x y z gh r1 r2 h Q k;obtain⟨i,j,rfl,rfl,hc,rfl⟩:=hg x y z h;cases r1.int_inv;cases r2.int_inv;exact⟨_,_,rfl,rfl,hc,k _ G H (.refl gh) (.int _)⟩
theorem BP (ha:DE Γ X a fa) (hb:DE Γ X b fb):DE Γ X (.BinOp a .Sub b pos) (b2 kZ fa fb):=ky O4 (Op fun x y z h=>by unfold kZ at h;split at h<;>cases h;exact⟨_,_,rfl,rfl,rfl⟩) ha hb
theorem lA (ha:DE Γ X a fa) (hb:DE Γ X b fb):DE Γ X (.BinOp a .FloorDiv b pos) (b2 eY fa fb):=ky GA (pX fun x y z h=>by
 unfold eY at h;split at h
 .split at h<;>cases h;exact⟨_,_,rfl,rfl,by assumption,rfl⟩
 .cases h) ha hb
theorem cM (ha:DE Γ X a fa) (hb:DE Γ X b fb):DE Γ X (.BinOp a .Mod b pos) (b2 bA fa fb):=ky Jq (pX fun x y z h=>by
 unfold bA at h;split at h
 .split at h<;>cases h;exact⟨_,_,rfl,rfl,by assumption,rfl⟩
 .cases h) ha hb
theorem dR (ha:DE Γ X a fa) (hb:DE Γ X b fb):DE Γ X (.BinOp a .Pow b pos) (b2 ce fa fb):=ky Jn (pX fun x y z h=>by
 unfold ce at h;split at h
 .split at h<;>cases h;exact⟨_,_,rfl,rfl,by assumption,rfl⟩
 .cases h) ha hb
theorem AH (a:b8 ag):∀(k:ag) (acc:ab ag),(bQ k a).foldl (·++·) acc.toArray=(acc++(bQ k a.toList).flatten).toArray
 |0,acc=>by simp
 |k+1,acc=>by
  rw[l6,nc,l6,l7,←qw,←AH a k (acc++a.toList)]
  congr 1
  simp
noncomputable def z7:R2:=fun x y H Q=>∃z n,x=.str z/\y=.int n/\0<=n/\n<1000/\z.length<1000/\Q (.str (j7 z n.toNat)) H
theorem Gk:OpR X (gc .Mult) z7:=by
 intro pins s σ H x y v u Q I rx ry h;obtain⟨z,n,rfl,rfl,h0,h1,h2,q⟩:=h;obtain⟨t,rfl⟩:=rx;obtain⟨t',rfl⟩:=ry;have hl:z.length*n.toNat<=1000000:=qM (zi (rC h2) (show n.toNat<=1000 by omega)) (by decide);have e0:(bQ n.toNat z.cps).foldl (·++·) #[]=(j7 z n.toNat).cps:=by have:=AH z.cps n.toNat [];simpa[j7] using this
 refine PySem.P.mul_str ?_ (fun h _=>?_) (fun _ _=>?_) ?_
 .rw[qN (by omega),qN (by omega)];rfl
 .have e:(z.length:af)*n=((z.length*n.toNat:ag):af):=by rw[Int.natCast_mul];congr 1;omega
  have:(z.length:af)<=(2 ^ 63-1:af) / n:=Int.le_ediv_of_mul_le (by omega) (by rw[e];omega);omega
 .unfold T0;exact qN (by have:=fE;omega)
 .split
  .have:n=0:=by omega
   subst this;exact⟨by decide,⟨.str _,H,I.tok _,⟨_,rfl⟩,by simpa[j7,yL] using q⟩⟩
  .split
   .rename_i hc;have ez:j7 z n.toNat=z:=by
     rcases Ft _ _▸hc with e|e
     .have:n=1:=by simpa using e
      subst this;simp[j7]
     .have hz:z.cps=#[]:=by
       have:z.cps.size=0:=by simpa[gU] using e
       exact Array.eq_empty_of_size_eq_zero this
      cases z;simp only at hz;subst hz;simp[j7]
    exact⟨.str _,H,I,⟨_,rfl⟩,by rw[←ez];exact q⟩
   .rw[e0];refine⟨?_,⟨.str _,H,I.tok _,⟨_,rfl⟩,q⟩⟩;have e1:(j7 z n.toNat).length=n.toNat*z.length:=by show(bQ n.toNat z.cps.toList).flatten.toArray.size=_;rw[qB,Au];simp[gU]
    show(j7 z n.toNat).length<=aM;rw[e1,Rz];have:=fE;omega
theorem Iq :gb Γ K cv (fun x y H Q=>(rI uC (fun i j=>V.int (i*j)) x y H Q\/Bh x y H Q)\/z7 x y H Q):=by
 intro G H v u x y z gh r1 r2 h Q k;unfold cv at h;split at h
 .split at h
  .cases h;cases r1.int_inv;cases r2.int_inv;exact .inl (.inl ⟨_,_,rfl,rfl,by assumption,k _ G H (.refl gh) (.int _)⟩)
  .cases h
 .split at h
  .rename_i hz;cases h;obtain⟨a,vs,rfl,ha,ra⟩:=r1.lst_inv;cases r2.int_inv;exact .inl (.inr ⟨a,_,vs,rfl,rfl,gh _ _ ha,hz.1,hz.2.1,by rw[ra.length];exact hz.2.2,iI gh (ra.rep _) k⟩)
  .cases h
 .split at h
  .rename_i hz;cases h;cases r1.str_inv;cases r2.int_inv;exact .inr ⟨_,_,rfl,rfl,hz.1,hz.2.1,hz.2.2,k _ G H (.refl gh) (.str _)⟩
  .cases h
 .cases h
theorem fA (ha:DE Γ X a fa) (hb:DE Γ X b fb):DE Γ X (.BinOp a .Mult b pos) (b2 cv fa fb):=ky ((JS.or Pp).or Gk) Iq ha hb
end
variable {g':D->D->ao D} {ft:FT} {fr:FA}
section
variable {a:Expr}
theorem Rep.non_inv (r:Rep Γ K G v .non):v=.non:=by cases r;rfl
noncomputable def ltS (x y:ai):bq:=decide (x.cps.toList<y.cps.toList)
noncomputable def ltD:D->D->ao D
 |.int i,.int j=>aa (.bl (decide (i<j)))
 |.str x,.str y=>aa (.bl (ltS x y))
 |_,_=>ac
noncomputable def leD:D->D->ao D
 |.int i,.int j=>aa (.bl (decide (i<=j)))
 |.str x,.str y=>aa (.bl (!ltS y x))
 |_,_=>ac
noncomputable def gtD:D->D->ao D
 |.int i,.int j=>aa (.bl (decide (j<i)))
 |_,_=>ac
noncomputable def eqS:D->D->ao bq
 |.int i,.int j=>aa (decide (i=j))
 |.bl i,.bl j=>aa (decide (i=j))
 |.str i,.str j=>aa (decide (i=j))
 |.non,.non=>aa al
 |.non,.int _=>aa aq|.int _,.non=>aa aq|.non,.bl _=>aa aq|.bl _,.non=>aa aq|.non,.str _=>aa aq|.str _,.non=>aa aq
 |.int _,.str _=>aa aq|.str _,.int _=>aa aq|.bl _,.str _=>aa aq|.str _,.bl _=>aa aq
 |_,_=>ac
noncomputable def eqD (x y:D):ao D:=(eqS x y).map D.bl
noncomputable def neD (x y:D):ao D:=(eqS x y).map fun b=>D.bl (!b)
theorem DJ {u:V} {x y:D} {k:bq} (r1:Rep Γ K G v x) (r2:Rep Γ K G u y) (h:eqS x y=aa k):xF v u=al/\decide (v=u)=k:=by
 unfold eqS at h;split at h<;>cases h
 .cases r1.int_inv;cases r2.int_inv;exact⟨rfl,by simp⟩
 .cases r1.bl_inv;cases r2.bl_inv;exact⟨rfl,by simp⟩
 .cases r1.str_inv;cases r2.str_inv;exact⟨rfl,by simp⟩
 .cases r1.non_inv;cases r2.non_inv;exact⟨rfl,by simp⟩
 .cases r1.non_inv;cases r2.int_inv;exact⟨rfl,by simp⟩
 .cases r1.int_inv;cases r2.non_inv;exact⟨rfl,by simp⟩
 .cases r1.non_inv;cases r2.bl_inv;exact⟨rfl,by simp⟩
 .cases r1.bl_inv;cases r2.non_inv;exact⟨rfl,by simp⟩
 .cases r1.non_inv;cases r2.str_inv;exact⟨rfl,by simp⟩
 .cases r1.str_inv;cases r2.non_inv;exact⟨rfl,by simp⟩
 .cases r1.int_inv;cases r2.str_inv;exact⟨rfl,by simp⟩
 .cases r1.str_inv;cases r2.int_inv;exact⟨rfl,by simp⟩
 .cases r1.bl_inv;cases r2.str_inv;exact⟨rfl,by simp⟩
 .cases r1.str_inv;cases r2.bl_inv;exact⟨rfl,by simp⟩
theorem JR :gb Γ K eqD rEq:=by
 intro G H v u x y z gh r1 r2 h Q k;unfold eqD at h;cases e:eqS x y with
 |none=>rw[e] at h;cases h
 |some b=>
  rw[e] at h;cases h;obtain⟨h1,h2⟩:=DJ r1 r2 e;exact⟨h1,by rw[h2];exact k _ G H (.refl gh) (.bl _)⟩
theorem JU :gb Γ K neD rNe:=by
 intro G H v u x y z gh r1 r2 h Q k;unfold neD at h;cases e:eqS x y with
 |none=>rw[e] at h;cases h
 |some b=>
  rw[e] at h;cases h;obtain⟨h1,h2⟩:=DJ r1 r2 e;exact⟨h1,by rw[h2];exact k _ G H (.refl gh) (.bl _)⟩
theorem LI {g:D->D->ao D} {o:af->af->bq} (hg:∀x y z,g x y=aa z->∃i j,x=.int i/\y=.int j/\z=.bl (o i j)):gb Γ K g (rI0 fun i j=>V.bl (o i j)):=by intro G H v u x y z gh r1 r2 h Q k;obtain⟨i,j,rfl,rfl,rfl⟩:=hg x y z h;cases r1.int_inv;cases r2.int_inv;exact⟨_,_,rfl,rfl,k _ G H (.refl gh) (.bl _)⟩
theorem QG:OpR X (dX .LtE) (fun x y H Q=>∃i j,x=.str i/\y=.str j/\Q (.bl (!ltS j i)) H):=by intro pins s σ H x y v u Q I rx ry h;obtain⟨i,j,rfl,rfl,q⟩:=h;obtain⟨t,rfl⟩:=rx;obtain⟨t',rfl⟩:=ry;exact PySem.P.le_str (cE I q (by simp[ltS]))
theorem Qp :gb Γ K ltD (fun x y H Q=>rI0 (fun i j=>V.bl (decide (i<j))) x y H Q\/∃i j,x=.str i/\y=.str j/\Q (.bl (decide (i.cps.toList<j.cps.toList))) H):=by
 intro G H v u x y z gh r1 r2 h Q k;unfold ltD at h;split at h<;>cases h
 .cases r1.int_inv;cases r2.int_inv;exact .inl ⟨_,_,rfl,rfl,k _ G H (.refl gh) (.bl _)⟩
 .cases r1.str_inv;cases r2.str_inv;exact .inr ⟨_,_,rfl,rfl,k _ G H (.refl gh) (.bl _)⟩
theorem MA :gb Γ K leD (fun x y H Q=>rI0 (fun i j=>V.bl (decide (i<=j))) x y H Q\/∃i j,x=.str i/\y=.str j/\Q (.bl (!ltS j i)) H):=by
 intro G H v u x y z gh r1 r2 h Q k;unfold leD at h;split at h<;>cases h
 .cases r1.int_inv;cases r2.int_inv;exact .inl ⟨_,_,rfl,rfl,k _ G H (.refl gh) (.bl _)⟩
 .cases r1.str_inv;cases r2.str_inv;exact .inr ⟨_,_,rfl,rfl,k _ G H (.refl gh) (.bl _)⟩
structure CmpD (Γ:Cn) (X:Cx) (op:CmpOp) (g:D->D->ao D):Prop where
 ex:∃r,OpR X (dX op) r/\gb Γ X.K g r
theorem kt:CmpD Γ X .Lt ltD:=⟨_,Li.or Qq,Qp⟩
theorem kh:CmpD Γ X .LtE leD:=⟨_,GE.or QG,MA⟩
theorem pT:CmpD Γ X .Gt gtD:=⟨_,Iw,LI fun x y z h=>by unfold gtD at h;split at h<;>cases h;exact⟨_,_,rfl,rfl,rfl⟩⟩
theorem ee:CmpD Γ X .Eq eqD:=⟨_,IB,JR⟩
theorem mz:CmpD Γ X .NotEq neD:=⟨_,M9,JU⟩
theorem gP {g:D->D->ao D} (h:CmpD Γ X op g) (ha:DE Γ X a fa) (hb:DE Γ X b fb) (hm:lU op b=aq):DE Γ X (.Compare a [op] [b] pos) (b2 g fa fb):=⟨by obtain⟨r,ho,hr⟩:=h.ex;exact(IV ho ha.1 hb.1 hm).imp (TD.two hr)⟩
noncomputable def chD (g g':D->D->ao D) (fa fb fc:FE):FE:=fun ρ=>(fa ρ).bind fun x=>(fb ρ).bind fun y=>(g x y).bind fun z=>match z with
 |.bl al=>(fc ρ).bind fun w=>g' y w
 |.bl aq=>aa (.bl aq)
 |_=>ac
theorem TD.chain {g:D->D->ao D} (hr:gb Γ X.K g r) (hr':gb Γ X.K g' r'):∀σ H Q,TD Γ X.K (chD g g' fa fb fc) σ H Q->vV r r' (TD Γ X.K fa) (TD Γ X.K fb) (TD Γ X.K fc) σ H Q:=by
 rintro σ H Q ⟨G₀,H₀,G,ρ,d,A,h,k⟩;unfold chD at h;obtain⟨x,ha,h⟩:=oBd h;obtain⟨y,hb,h⟩:=oBd h;obtain⟨z,hz,h⟩:=oBd h;refine⟨G₀,H₀,G,ρ,x,A,ha,fun v G1 H1 s1 r1=>⟨G₀,H₀,G1,ρ,y,A.step s1,hb,fun u G2 H2 s2 r2=>?_⟩⟩;refine hr s2.gh (r1.mono s2.gg) r2 hz _ fun w G3 H3 s3 r3=>?_;split at h
 .cases r3.bl_inv;obtain⟨w,hc,h⟩:=oBd h;refine⟨al,rfl,jW ⟨G₀,H₀,G3,ρ,w,((A.step s1).step s2).step s3,hc,fun q G4 H4 s4 r4=>?_⟩⟩;exact hr' s4.gh ((r2.mono s3.gg).mono s4.gg) r4 h Q fun w' G' H' s r=>k w' G' H' ((((s1.trans s2).trans s3).trans s4).trans s) r
 .cases r3.bl_inv;cases h;exact⟨aq,rfl,jO (k _ G3 H3 ((s1.trans s2).trans s3) (.bl _))⟩
 .cases h
theorem vP {g:D->D->ao D} (h:CmpD Γ X op g) (h':CmpD Γ X op' g') (ha:DE Γ X a fa) (hb:DE Γ X b fb) (hc:DE Γ X c fc) (hm:yG [op,op'] [b,c]=aq:=by with_unfolding_all rfl) :
  DE Γ X (.Compare a [op,op'] [b,c] pos) (chD g g' fa fb fc):=⟨by
 obtain⟨r,ho,hr⟩:=h.ex;obtain⟨r',ho',hr'⟩:=h'.ex;exact(Nq ho ho' ha.1 hb.1 hc.1 hm).imp (TD.chain hr hr')⟩
noncomputable def toB (f:FE):FT:=fun ρ=>(f ρ).bind fun d=>match d with
 |.bl b=>aa b
 |_=>ac
theorem TDt.val :∀σ H Q,TDt Γ X.K (toB f) σ H Q->TD Γ X.K f σ H fun x H'=>∃k,x=.bl k/\Q k H':=by rintro σ H Q ⟨G₀,H₀,G,ρ,b,A,h,k⟩;unfold toB at h;obtain⟨d,hd,h⟩:=oBd h;split at h<;>cases h;exact⟨G₀,H₀,G,ρ,_,A,hd,fun v G' H' s r=>⟨b,r.bl_inv,k G' H' s⟩⟩
theorem b7 {g:D->D->ao D} (h:CmpD Γ X op g) (ha:DE Γ X a fa) (hb:DE Γ X b fb) (hm:lU op b=aq):DT Γ X (.Compare a [op] [b] pos) (toB (b2 g fa fb)):=⟨by obtain⟨r,ho,hr⟩:=h.ex;exact(Kc ho ha.1 hb.1 hm).imp fun σ H Q q=>TD.two hr σ H _ (TDt.val σ H Q q)⟩
theorem Ly {g:D->D->ao D} (h:CmpD Γ X op g) (h':CmpD Γ X op' g') (ha:DE Γ X a fa) (hb:DE Γ X b fb) (hc:DE Γ X c fc) (hm:yG [op,op'] [b,c]=aq:=by with_unfolding_all rfl) :
  DT Γ X (.Compare a [op,op'] [b,c] pos) (toB (chD g g' fa fb fc)):=⟨by
 obtain⟨r,ho,hr⟩:=h.ex;obtain⟨r',ho',hr'⟩:=h'.ex;exact(Gm ho ho' ha.1 hb.1 hc.1 hm).imp fun σ H Q q=>TD.chain hr hr' σ H _ (TDt.val σ H Q q)⟩
theorem bC (h:DE Γ X e f) (he:∀whole,isTrue e X.env whole=(do let v ←whole;mY e.pos;jt [v] (truthy v)):=by intro _;rfl):DT Γ X e (toB f):=⟨(IJ h.1 he).imp TDt.val⟩
noncomputable def ba (f:FT):FT:=fun ρ=>(f ρ).map (!·)
noncomputable def eT (f g:FT):FT:=fun ρ=>(f ρ).bind fun b=>if b=al then g ρ else aa aq
noncomputable def orT (f g:FT):FT:=fun ρ=>(f ρ).bind fun b=>if b=al then aa al else g ρ
variable {gt:FT} {bS:ab Expr}
theorem DW.dt (h:DW Γ X e ft):DT Γ X e ft:=⟨h.1.pt⟩
theorem bJ (h:DT Γ X a ft):DT Γ X (.UnaryOp .Not a pos) (ba ft):=⟨(M2 h.1).imp fun σ H Q=>by rintro⟨G₀,H₀,G,ρ,b,A,h,k⟩;unfold ba at h;obtain⟨c,hc,h⟩:=oMd h;exact⟨G₀,H₀,G,ρ,c,A,hc,fun G' H' s=>by show Q (!c) H';rw[h];exact k G' H' s⟩⟩
theorem p6 (h:DT Γ X a ft):DW Γ X (.BoolOp .And [a] pos) ft:=⟨Qk h.1⟩
theorem cN (h:DT Γ X a ft):DW Γ X (.BoolOp .Or [a] pos) ft:=⟨Nn h.1⟩
theorem rg (h:DT Γ X a ft) (h':DW Γ X (.BoolOp .And (b::bS) pos) gt):DW Γ X (.BoolOp .And (a::b::bS) pos) (eT ft gt):=⟨(HS h.1 h'.1).imp fun σ H Q=>by
 rintro⟨G₀,H₀,G,ρ,r,A,h,k⟩;unfold eT at h;obtain⟨c,hc,h⟩:=oBd h;refine⟨G₀,H₀,G,ρ,c,A,hc,fun G1 H1 s1=>?_⟩;cases c with
 |true=>exact jW ⟨G₀,H₀,G1,ρ,r,A.step s1,by simpa using h,fun G' H' s=>k G' H' (s1.trans s)⟩
 |false=>
  rw[qZ qr] at h;cases h;exact jO (k _ _ s1)⟩
theorem cj (h:DT Γ X a ft) (h':DW Γ X (.BoolOp .Or (b::bS) pos) gt):DW Γ X (.BoolOp .Or (a::b::bS) pos) (orT ft gt):=⟨(KU h.1 h'.1).imp fun σ H Q=>by
 rintro⟨G₀,H₀,G,ρ,r,A,h,k⟩;unfold orT at h;obtain⟨c,hc,h⟩:=oBd h;refine⟨G₀,H₀,G,ρ,c,A,hc,fun G1 H1 s1=>?_⟩;cases c with
 |false=>exact jO ⟨G₀,H₀,G1,ρ,r,A.step s1,by simpa using h,fun G' H' s=>k G' H' (s1.trans s)⟩
 |true=>
  rw[qY rfl] at h;cases h;exact jW (k _ _ s1)⟩
noncomputable def cJ (fa fb:FE):FE:=fun ρ=>(fa ρ).bind fun d=>match d with
 |.bl al=>fb ρ
 |.bl aq=>aa (.bl aq)
 |_=>ac
noncomputable def orD (fa fb:FE):FE:=fun ρ=>(fa ρ).bind fun d=>match d with
 |.bl al=>aa (.bl al)
 |.bl aq=>fb ρ
 |_=>ac
noncomputable def sH (fa:FE):FE:=fun ρ=>(fa ρ).bind fun d=>match d with
 |.bl b=>aa (.bl (!b))
 |_=>ac
theorem fV {op} (h:DE Γ X a fa):DE Γ X (.BoolOp op [a] pos) fa:=⟨GO h.1⟩
theorem eM (ha:DE Γ X a fa) (hb:DE Γ X (.BoolOp .And (b::bS) pos) fb):DE Γ X (.BoolOp .And (a::b::bS) pos) (cJ fa fb):=⟨(JP ha.1 hb.1).imp fun σ H Q=>by
 rintro⟨G₀,H₀,G,ρ,d,A,h,k⟩;unfold cJ at h;obtain⟨x,hx,h⟩:=oBd h;refine⟨G₀,H₀,G,ρ,x,A,hx,fun v G1 H1 s1 r1=>?_⟩;split at h
 .cases r1.bl_inv;exact⟨al,rfl,jW ⟨G₀,H₀,G1,ρ,d,A.step s1,h,fun w G' H' s r=>k w G' H' (s1.trans s) r⟩⟩
 .cases r1.bl_inv;cases h;exact⟨aq,rfl,jO (k _ G1 H1 s1 (.bl _))⟩
 .cases h⟩
theorem IW (ha:DE Γ X a fa) (hb:DE Γ X (.BoolOp .Or (b::bS) pos) fb):DE Γ X (.BoolOp .Or (a::b::bS) pos) (orD fa fb):=⟨(NN ha.1 hb.1).imp fun σ H Q=>by
 rintro⟨G₀,H₀,G,ρ,d,A,h,k⟩;unfold orD at h;obtain⟨x,hx,h⟩:=oBd h;refine⟨G₀,H₀,G,ρ,x,A,hx,fun v G1 H1 s1 r1=>?_⟩;split at h
 .cases r1.bl_inv;cases h;exact⟨al,rfl,jW (k _ G1 H1 s1 (.bl _))⟩
 .cases r1.bl_inv;exact⟨aq,rfl,jO ⟨G₀,H₀,G1,ρ,d,A.step s1,h,fun w G' H' s r=>k w G' H' (s1.trans s) r⟩⟩
 .cases h⟩
theorem Oo (ha:DE Γ X a fa):DE Γ X (.UnaryOp .Not a pos) (sH fa):=⟨(G7 ha.1).imp fun σ H Q=>by
 rintro⟨G₀,H₀,G,ρ,d,A,h,k⟩;unfold sH at h;obtain⟨x,hx,h⟩:=oBd h;refine⟨G₀,H₀,G,ρ,x,A,hx,fun v G1 H1 s1 r1=>?_⟩;split at h
 .cases r1.bl_inv;cases h;exact⟨_,rfl,k _ G1 H1 s1 (.bl _)⟩
 .cases h⟩
noncomputable def ak:FA:=fun _=>aa []
noncomputable def ae (fa:FE) (fr:FA):FA:=fun ρ=>(fa ρ).bind fun x=>(fr ρ).map (x::·)
theorem au:DA Γ X [] ak:=⟨gI.imp fun σ H Q=>by rintro⟨G₀,H₀,G,ρ,d,A,h,k⟩;cases h;exact k _ G H (.refl A.gh) .nil⟩
theorem aj (ha:DE Γ X e fa) (hr:DA Γ X es fr) (hs:aS (e::es) X.env=(aq,eval e X.env)::aS es X.env:=by rfl):DA Γ X (e::es) (ae fa fr):=⟨(gR ha.1 hr.1 hs).imp fun σ H Q=>by rintro⟨G₀,H₀,G,ρ,d,A,h,k⟩;unfold ae at h;obtain⟨x,hx,h⟩:=oBd h;obtain⟨xs,hxs,h⟩:=oMd h;subst h;exact⟨G₀,H₀,G,ρ,x,A,hx,fun v G1 H1 s1 r1=>⟨G₀,H₀,G1,ρ,xs,A.step s1,hxs,fun vs G2 H2 s2 r2=>k _ G2 H2 (s1.trans s2) (.cons (r1.mono s2.gg) r2)⟩⟩⟩
noncomputable def szF (fr:FA):FA:=fun ρ=>(fr ρ).bind fun l=>if l.length<=aM then aa l else ac
noncomputable def aD (fr:FA):FE:=fun ρ=>(fr ρ).map D.lst
noncomputable def bK (fr:FA):FE:=fun ρ=>(fr ρ).map D.tup
theorem DO.de (h:DO Γ X e fr):DE Γ X e (aD fr):=⟨h.1.imp fun σ H Q=>by rintro⟨G₀,H₀,G,ρ,d,A,h,k⟩;unfold aD at h;obtain⟨ds,hd,rfl⟩:=oMd h;exact⟨G₀,H₀,G,ρ,ds,A,hd,fun p vs G' H' s hp r=>iI s.gh r (fun w G2 H2 s2 r2=>k w G2 H2 (s.trans s2) r2) p hp⟩⟩
theorem bW (h:DA Γ X es fr):DO Γ X (.List es pos) (szF fr):=⟨(sU h.1).imp fun σ H Q=>by
 rintro⟨G₀,H₀,G,ρ,d,A,h,k⟩;unfold szF at h;obtain⟨ds,hd,h⟩:=oBd h;split at h
 .rename_i hz;cases h;exact⟨G₀,H₀,G,ρ,d,A,hd,fun vs G' H' s r=>⟨by rw[r.length];exact hz,fun p hp=>k p vs G' H' s hp r⟩⟩
 .cases h⟩
theorem cY {x1} (h:DA Γ X es fr):DE Γ X (.Tuple es x1 pos) (bK (szF fr)):=⟨(Lk h.1).imp fun σ H Q=>by
 rintro⟨G₀,H₀,G,ρ,d,A,h,k⟩;unfold bK szF at h;obtain⟨ds',hd',rfl⟩:=oMd h;obtain⟨ds,hd,h⟩:=oBd hd';split at h
 .rename_i hz;cases h;exact⟨G₀,H₀,G,ρ,ds',A,hd,fun vs G' H' s r=>⟨by rw[r.length];exact hz,sW s.gh r fun w G2 H2 s2 r2=>k w G2 H2 (s.trans s2) r2⟩⟩
 .cases h⟩
noncomputable def xg (Γ:Cn) (K:aV) (g:ab D->ao D) (r:ab V->Hp->VK->Prop):Prop:=
 ∀{G H vs ds z},bp G H->Reps Γ K G vs ds->g ds=aa z->∀Q:VK,(∀w G' H',Step G H G' H'->Rep Γ K G' w z->Q w H')->r vs H Q
noncomputable def cF (g:ab D->ao D) (fr:FA):FE:=fun ρ=>(fr ρ).bind g
theorem TD.call {g:ab D->ao D} {r:ab V->Hp->VK->Prop} (hr:xg Γ X.K g r):∀σ H Q,TD Γ X.K (cF g fr) σ H Q->tCB r (TDa Γ X.K fr) σ H Q:=by rintro σ H Q ⟨G₀,H₀,G,ρ,d,A,h,k⟩;unfold cF at h;obtain⟨ds,hd,h⟩:=oBd h;exact⟨G₀,H₀,G,ρ,ds,A,hd,fun vs G1 H1 s1 r1=>hr s1.gh r1 h Q fun w G' H' s r=>k w G' H' (s1.trans s) r⟩
structure BltD (Γ:Cn) (X:Cx) (id:cH) (g:ab D->ao D):Prop where
 ex:∃r,fU X (.builtin id) r/\xg Γ X.K g r
structure TyD (Γ:Cn) (X:Cx) (id:cH) (g:ab D->ao D):Prop where
 ex:∃r,fU X (.type id) r/\xg Γ X.K g r
theorem bI {id:cH} {g:ab D->ao D} (hc:BltD Γ X id g) (hg:Gl X x) (hm:X.mg x=ac) (hv:lb x=aa (.builtin id)) (ha:DA Γ X (e::es) fr) (hn:x≠"__name__":=by decide) (hdb:(x==("__debug__":ai))=aq:=by decide)
  (he:aS (e::es) X.env=(aq,eval e X.env)::aS es X.env:=by rfl) (hpl:(cz pos (aS es X.env)).any (·.1)=aq:=by rfl):DE Γ X (.Call (.Name x p) (e::es) [] pos) (cF g fr):=⟨by
 obtain⟨r,h1,h2⟩:=hc.ex;exact(wj h1 hg hm hv ha.1 hn hdb he hpl).imp (TD.call h2)⟩
theorem c5 {id:cH} {g:ab D->ao D} (hc:TyD Γ X id g) (hg:Gl X x) (hm:X.mg x=ac) (hv:lb x=aa (.type id)) (ha:DA Γ X (e::es) fr) (hn:x≠"__name__":=by decide) (hdb:(x==("__debug__":ai))=aq:=by decide)
  (he:aS (e::es) X.env=(aq,eval e X.env)::aS es X.env:=by rfl) (hpl:(cz pos (aS es X.env)).any (·.1)=aq:=by rfl):DE Γ X (.Call (.Name x p) (e::es) [] pos) (cF g fr):=⟨by
 obtain⟨r,h1,h2⟩:=hc.ex;exact(xG h1 hg hm hv ha.1 hn hdb he hpl).imp (TD.call h2)⟩
theorem fJ {n:cH} (hg:Gl X x) (hm:X.mg x=ac) (hv:lb x=aa (.type n)) (hn:x≠"__name__":=by decide) (hd:(x==("__debug__":ai))=aq:=by decide):DE Γ X (.Name x pos) (vC (.ty n)):=TD.const (fun _=>.ty n) (GK hg hm hv rfl hn hd)
theorem Reps.one (r:Reps Γ K G vs [d]):∃v,vs=[v]/\Rep Γ K G v d:=by
 cases r with
 |cons h t=>cases t;exact⟨_,rfl,h⟩
theorem Reps.two {d':D} (r:Reps Γ K G vs [d,d']):∃v u,vs=[v,u]/\Rep Γ K G v d/\Rep Γ K G u d':=by
 cases r with
 |cons h t=>cases t with
  |cons h2 t2=>cases t2;exact⟨_,_,rfl,h,h2⟩
noncomputable def Td:ab D->ao D
 |[.int i]=>aa (.int (if i<0 then -i else i))
 |_=>ac
noncomputable def Tf:ab D->ao D
 |[.int i,.int j]=>aa (.int (if j > i then j else i))
 |_=>ac
noncomputable def eO:ab D->ao D
 |[.int i,.int j]=>aa (.int (if j<i then j else i))
 |_=>ac
theorem oZ (hc:X.calm=al):BltD Γ X "min" eO:=⟨_,Nd hc,fun {G H vs ds z} gh r h Q k=>by unfold eO at h;split at h<;>cases h;obtain⟨v,u,rfl,r1,r2⟩:=r.two;cases r1.int_inv;cases r2.int_inv;exact⟨_,_,rfl,k _ G H (.refl gh) (.int _)⟩⟩
noncomputable def bT:ab D->ao D
 |[.str x]=>if x.length<=aM then aa (.int (x.length:ag)) else ac
 |[.lst l]=>aa (.int (l.length:ag))
 |[.tup l]=>aa (.int (l.length:ag))
 |[.scr l]=>aa (.int (l.length:ag))
 |_=>ac
theorem cX:BltD Γ X "len" bT:=⟨_,KP,fun {G H vs ds z} gh r h Q k=>by
 unfold bT at h;split at h
 .split at h
  .cases h;obtain⟨v,rfl,r1⟩:=r.one;cases r1.str_inv;exact⟨_,_,rfl,⟨by assumption,rfl⟩,k _ G H (.refl gh) (.int _)⟩
  .cases h
 .cases h;obtain⟨v,rfl,r1⟩:=r.one;obtain⟨a,vs,rfl,ha,rv⟩:=r1.lst_inv;exact⟨_,_,rfl,.inl ⟨vs,.inl (.inl (gh _ _ ha)),rfl⟩,k _ G H (.refl gh) (by rw[rv.length];exact .int _)⟩
 .cases h;obtain⟨v,rfl,r1⟩:=r.one;obtain⟨a,vs,rfl,ha,rv⟩:=r1.tup_inv;exact⟨_,_,rfl,.inr ⟨vs,.inl (.inl (gh _ _ ha)),rfl⟩,k _ G H (.refl gh) (by rw[rv.length];exact .int _)⟩
 .cases h;obtain⟨v,rfl,r1⟩:=r.one;obtain⟨a,rfl,ha⟩:=r1.scr_inv;exact⟨_,_,rfl,.inl ⟨_,gh.seq ha,rfl⟩,k _ G H (.refl gh) (by rw[qe];exact .int _)⟩
 .cases h⟩
noncomputable def tyD:D->ao cH
 |.non=>aa "NoneType"
 |.bl _=>aa "bool"
 |.int _=>aa "int"
 |.str _=>aa "str"
 |.lst _=>aa "list"
 |.tup _=>aa "tuple"
 |.dk _=>aa "dict"
 |.dt _=>aa "dict"
 |_=>ac
noncomputable def fj (t c:cH):ao bq:=if (jq t==jq c)=al then aa al else if PySem.W.kitMeta c=al then zj (fun x=>x.contains (jq c)) (PySem.fastBuiltinMro t) else ac
theorem Ms (K:aV) (t c:cH):uM K (.type t) (.type c)=fj t c:=rfl
noncomputable def cU:ab D->ao D
 |[d,.ty c]=>(tyD d).bind fun t=>(fj t c).map D.bl
 |_=>ac
theorem B' {t:cH} (gh:bp G H) (r:Rep Γ K G v d) (h:tyD d=aa t):TyOf K H v (.type t):=by
 unfold tyD at h;split at h<;>cases h
 .cases r.non_inv;exact .non
 .cases r.bl_inv;exact .bl _
 .cases r.int_inv;exact .int _
 .cases r.str_inv;exact .str _
 .obtain⟨a,vs,rfl,ha,_⟩:=r.lst_inv;exact .lst (gh _ _ ha)
 .obtain⟨a,vs,rfl,ha,_⟩:=r.tup_inv;exact .tup (gh _ _ ha)
 .cases r with
  |dk h _ _=>exact .dK (gh _ _ h)
 .cases r with
  |dt h _ _=>exact .dT (gh _ _ h)
theorem gi:BltD Γ X "isinstance" cU:=by
 refine⟨fun vs H Q=>∃v t c b,vs=[v,.ty c]/\TyOf X.K H v (.type t)/\uM X.K (.type t) (.type c)=aa b/\Q (.bl b) H,?_,?_⟩
 .intro pins s σ H xs us Q I r h;obtain⟨v,t,c,b,rfl,ty,hk,q⟩:=h;obtain⟨u,w',rfl,r1,r2⟩:=tQ r;cases r2;exact Df I r1 ty hk fun tk=>⟨.bl b,H,I.tok tk,rfl,q⟩
 .intro G H vs ds z gh r h Q k;unfold cU at h;split at h
  .obtain⟨t,ht,h⟩:=oBd h;obtain⟨b,hb,rfl⟩:=oMd h;obtain⟨v,u,rfl,r1,r2⟩:=r.two;cases r2;exact⟨v,t,_,b,rfl,B' gh r1 ht,hb,k _ G H (.refl gh) (.bl _)⟩
  .cases h
end
variable {β:Type} {fh:aX->ao (ao af)} {fo:FE}
section
variable {a:Expr}
theorem Reps.atI {K:aV} {G:Hp} {vs:ab V} {ds:ab D} {i:af} {d:D} (r:Reps Γ K G vs ds) (h:L2.atI ds i=aa d):∃v,L2.atI vs i=aa v/\Rep Γ K G v d:=by
 unfold L2.atI at h ⊢;rw[r.length];cases e:ixN ds.length i with
 |none=>rw[e] at h;cases h
 |some j=>
  rw[e] at h;obtain⟨v,h1,h2⟩:=r.get (i:=j) (d:=d) h;exact⟨v,h1,h2⟩
theorem Ib (g:α->β) (xs:ab α) (i:af):L2.atI (xs.map g) i=(L2.atI xs i).map g:=by
 unfold L2.atI;rw[qe];cases ixN xs.length i with
 |none=>rfl
 |some j=>simp
noncomputable def ixD:D->D->ao D
 |.lst l,.int i=>atI l i
 |.tup l,.int i=>atI l i
 |.scr l,.int i=>(atI l i).map D.int
 |.str x,.int i=>if x.length<=aM then (atI x.cps.toList i).map fun c=>D.str ⟨#[c]⟩ else ac
 |_,_=>ac
theorem IZ :gb Γ K ixD (rIx K):=by
 intro G H v u x y z gh r1 r2 h Q k;unfold ixD at h;split at h
 .obtain⟨a,vs,rfl,ha,rv⟩:=r1.lst_inv;cases r2.int_inv;obtain⟨w,hw,rw'⟩:=rv.atI h;exact .inl ⟨a,vs,_,w,rfl,rfl,.inl (.inl (gh _ _ ha)),hw,k w G H (.refl gh) rw'⟩
 .obtain⟨a,vs,rfl,ha,rv⟩:=r1.tup_inv;cases r2.int_inv;obtain⟨w,hw,rw'⟩:=rv.atI h;exact .inr (.inl ⟨a,vs,_,w,rfl,rfl,.inl (.inl (gh _ _ ha)),hw,k w G H (.refl gh) rw'⟩)
 .obtain⟨a,rfl,ha⟩:=r1.scr_inv;cases r2.int_inv;obtain⟨n,hn,rfl⟩:=oMd h;exact .inl ⟨a,_,_,.int n,rfl,rfl,gh.seq ha,by rw[Ib,hn];rfl,k _ G H (.refl gh) (.int _)⟩
 .split at h
  .cases r1.str_inv;cases r2.int_inv;obtain⟨n,hn,rfl⟩:=oMd h;exact .inr (.inr ⟨_,_,n,rfl,rfl,by assumption,hn,k _ G H (.refl gh) (.str _)⟩)
  .cases h
 .cases h
theorem aG (ha:DE Γ X a fa) (hb:DE Γ X b fb) (hs:xt b:=by intro _ _;rfl):DE Γ X (.Subscript a b pos) (b2 ixD fa fb):=⟨(AZ BA ha.1 hb.1 hs).imp (TD.two IZ)⟩
noncomputable def eK (xs:ab α) (lo hi:ao af):ab α:=(xs.drop (HT.sIx xs.length 0 lo)).take (HT.sIx xs.length xs.length hi-HT.sIx xs.length 0 lo)
theorem Gn (g:α->β) (xs:ab α) (lo hi:ao af):eK (xs.map g) lo hi=(eK xs lo hi).map g:=by unfold eK;simp
theorem Reps.cut (r:Reps Γ K G vs ds) (lo hi:ao af):Reps Γ K G (jJ vs lo hi) (eK ds lo hi):=by unfold jJ eK;rw[r.length];exact(r.drop _).take _
noncomputable def n6 (x:ai) (lo hi:ao af):ai:=⟨(eK x.cps.toList lo hi).toArray⟩
theorem CP (lo hi:ao af) (n:ag):zk lo hi 1 n=(bj (HT.sIx n n hi-HT.sIx n 0 lo)).map (HT.sIx n 0 lo+·):=by
 rw[←Rs];unfold zk;have h1:∀(o:ao af) (d:ag),d<=n->(match o with|none=>(d:af)|some i=>if (1:af) > 0 then max 0 (min (if i<0 then i+(n:af) else i) n) else max (-1) (min (if i<0 then i+(n:af) else i) ((n:af)-1)))=((HT.sIx n d o:ag):af):=fun o d hd=>by
  cases o with
  |none=>simp[HT.sIx]
  |some i=>
   simp only[HT.sIx,show(1:af) > 0 by decide,cy];by_cases h:i<0
   .simp only[h,cy];omega
   .simp only[h,cW];omega
 have e0:=h1 lo 0 (gd _);have e1:=h1 hi n (qv _);rw[←e0,←e1];rfl
theorem CZ (x:ai) (lo hi:ao af):Fu x lo hi=n6 x lo hi:=by
 have key:(zk lo hi 1 x.length).filterMap (x.cps[·]?)=eK x.cps.toList lo hi:=by rw[CP,yU];unfold eK;rw[show x.cps.toList.length=x.length by simp[gU]]
 unfold Fu n6;split
 .rename_i h;rw[←key];have hl:(zk lo hi 1 x.length).length=x.length:=by simpa using h
  rw[CP] at hl ⊢;rw[yU];rw[qe,qU] at hl;have hb:HT.sIx x.length x.length hi<=x.length:=by
   cases hi with
   |none=>simp[HT.sIx]
   |some i=>simp only[HT.sIx];split<;>omega
  have h0:HT.sIx x.length 0 lo=0\/x.length=0:=by omega
  have hx:x.cps.toList.length=x.length:=by simp[gU]
  have e:(x.cps.toList.drop (HT.sIx x.length 0 lo)).take (HT.sIx x.length x.length hi-HT.sIx x.length 0 lo)=x.cps.toList:=by
   rcases h0 with h0|h0
   .rw[h0,l'];rw[h0] at hl;exact km (by omega)
   .have:x.cps.toList=[]:=zl.mp (by omega);rw[this];simp
  rw[e]
 .rw[key]
noncomputable def pN:aX->ao (ao af):=fun _=>aa ac
noncomputable def pS (f:FE):aX->ao (ao af):=fun ρ=>(f ρ).bind fun d=>match d with
 |.int i=>aa (aa i)
 |_=>ac
noncomputable def TDp (Γ:Cn) (K:aV) (f:aX->ao (ao af)):TO:=fun σ H Q=>∃G₀ H₀ G ρ o,At Γ K G₀ H₀ G H ρ σ/\f ρ=aa o/\∀G' H',Step G H G' H'->Q o H'
structure DP (Γ:Cn) (X:Cx) (e:ao Expr) (f:aX->ao (ao af)):Prop where
 out:PO X e (TDp Γ X.K f)
theorem iC:DP Γ X ac pN:=⟨fun pins s σ H Q I ⟨G₀,H₀,G,ρ,o,A,h,k⟩=>by cases h;exact Am pins s σ H Q I (k G H (.refl A.gh))⟩
theorem dA (h:DE Γ X e f):DP Γ X (aa e) (pS f):=⟨fun pins s σ H Q I ⟨G₀,H₀,G,ρ,o,A,q,k⟩=>by unfold pS at q;obtain⟨d,hd,q⟩:=oBd q;split at q<;>cases q;exact tR h.1 pins s σ H Q I ⟨G₀,H₀,G,ρ,_,A,hd,fun v G' H' s r=>⟨_,r.int_inv,k G' H' s⟩⟩⟩
theorem Na:SlR X (fun x lo hi H Q=>∃z,x=.str z/\z.length<=aM/\Q (.str (n6 z lo hi)) H):=by
 intro pins s σ H x v vl vu lo hi sl Q I rx hs pl pu h;obtain⟨z,rfl,hz,q⟩:=h;obtain⟨t,rfl⟩:=rx;refine⟨"str",_,PySem.F.slot_str_getitem.lookup,rO _ _ _,?_⟩;obtain⟨l,rfl,el⟩:∃l:ao (af×Tok),vl=partValue l/\l.map (·.1)=lo:=by
  cases pl with
  |none=>exact⟨ac,rfl,rfl⟩
  |int i t=>exact⟨aa (i,t),rfl,rfl⟩
 obtain⟨u,rfl,eu⟩:∃l:ao (af×Tok),vu=partValue l/\l.map (·.1)=hi:=by
  cases pu with
  |none=>exact⟨ac,rfl,rfl⟩
  |int i t=>exact⟨aa (i,t),rfl,rfl⟩
 refine wpAny_getItem_str_slice (l:=l) (u:=u) (st:=ac) hs rfl ?_;have e:(if ((zj (fun x=>x.fst) (ac:ao (af×Tok))).getD 1==1 && (slicePicked z l u ac).length==z.length)=al then z else {cps:=(List.filterMap (fun x=>z.cps[x]?) (slicePicked z l u ac)).toArray})=n6 z lo hi:=by
  have e0:Fu z (l.map (·.1)) (u.map (·.1))=n6 z lo hi:=by rw[el,eu];exact CZ z lo hi
  exact e0
 refine post_val_or_str ⟨?_,fun t' k=>?_⟩
 .rw[e,←CZ];exact qM (Txt.slice_le z _ _) hz
 .rw[e];exact⟨.str _,H,I.tok k,⟨_,rfl⟩,q⟩
noncomputable def sD (lo hi:ao af):D->ao D
 |.lst l=>aa (.lst (eK l lo hi))
 |.scr l=>aa (.lst ((eK l lo hi).map D.int))
 |.tup l=>if HT.sIx l.length 0 lo=0/\HT.sIx l.length l.length hi=l.length then ac else aa (.tup (eK l lo hi))
 |.str x=>if x.length<=aM then aa (.str (n6 x lo hi)) else ac
 |_=>ac
noncomputable def slF (f:FE) (fl fh:aX->ao (ao af)):FE:=fun ρ=>(f ρ).bind fun d=>(fl ρ).bind fun l=>(fh ρ).bind fun h=>sD l h d
variable {fl:aX->ao (ao af)} {lo hi:ao Expr}
theorem fB (he:DE Γ X e f) (hl:DP Γ X lo fl) (hh:DP Γ X hi fh):DE Γ X (.Subscript e (.Slice lo hi ac p2) pos) (slF f fl fh):=⟨(A6 (Ep.or (Kd.or Na)) he.1 hl.1 hh.1).imp fun σ H Q=>by
 rintro⟨G₀,H₀,G,ρ,d,A,h,k⟩;unfold slF at h;obtain⟨x,hx,h⟩:=oBd h;obtain⟨l,hl,h⟩:=oBd h;obtain⟨u,hu,h⟩:=oBd h;refine⟨G₀,H₀,G,ρ,x,A,hx,fun v G1 H1 s1 r1=>⟨G₀,H₀,G1,ρ,l,A.step s1,hl,fun G2 H2 s2=>⟨G₀,H₀,G2,ρ,u,(A.step s1).step s2,hu,fun G3 H3 s3=>?_⟩⟩⟩;have s:=(s1.trans s2).trans s3;have r:=r1.mono (s2.gg.trans s3.gg);have gh:=s3.gh;unfold sD at h;split at h
 .cases h;obtain⟨a,vs,rfl,ha,rv⟩:=r.lst_inv;exact .inl ⟨a,vs,rfl,.inl (.inl (gh _ _ ha)),iI gh (rv.cut l u) fun w G4 H4 s4 r4=>k w G4 H4 (s.trans s4) r4⟩
 .cases h;obtain⟨a,rfl,ha⟩:=r.scr_inv;refine .inl ⟨a,_,rfl,gh.seq ha,iI gh ?_ fun w G4 H4 s4 r4=>k w G4 H4 (s.trans s4) r4⟩;show Reps Γ X.K G3 (eK _ l u) _;rw[Gn];exact Reps.ints _
 .split at h
  .cases h
  .rename_i hw;cases h;obtain⟨a,vs,rfl,ha,rv⟩:=r.tup_inv;exact .inr (.inl ⟨a,vs,rfl,.inl (.inl (gh _ _ ha)),by rw[rv.length];exact hw,sW gh (rv.cut l u) fun w G4 H4 s4 r4=>k w G4 H4 (s.trans s4) r4⟩)
 .split at h
  .cases h;cases r.str_inv;exact .inr (.inr ⟨_,rfl,by assumption,k _ _ _ s (.str _)⟩)
  .cases h
 .cases h⟩
structure MtD (Γ:Cn) (X:Cx) (T id:cH) (g:D->ab D->ao D):Prop where
 ex:∃r,MtR X id r/\∀{G H v x vs ds z},bp G H->Rep Γ X.K G v x->Reps Γ X.K G vs ds->g x ds=aa z->∀Q:VK,(∀w G' H',Step G H G' H'->Rep Γ X.K G' w z->Q w H')->r v vs H Q
 ty:∀{G H v x ds z},bp G H->Rep Γ X.K G v x->g x ds=aa z->tyV X.K T v H
noncomputable def mF (g:D->ab D->ao D) (f:FE) (fr:FA):FE:=fun ρ=>(f ρ).bind fun d=>(fr ρ).bind fun ds=>g d ds
theorem kg {id:cH} {g:D->ab D->ao D} (pa:Ff T) (slot:PySem.Slot T name id) (hty:typeOf (.builtin id)=bm (.type "method_descriptor")) (hm:MtD Γ X T id g) (ho:DE Γ X o fo) (ha:DA Γ X (e::es) fr)
  (hbase:iO o name X.env (eval o X.env)=eval o X.env:=by rfl)
  (hfew:((cz cpos (aS (e::es) X.env)).all (fun x=>!x.1) && (iP cpos (iQ [] X.env)).all (fun x=>x.1.isSome)
   && decide ((e::es).length+([]:ab jw).length+(if ([]:ab jw).isEmpty then 0 else 1)<30))=al:=by rfl)
  (hline:(apos.endLine==cpos.line)=al:=by rfl) (hs:aS (e::es) X.env=(aq,eval e X.env)::aS es X.env:=by rfl) (hplain:(cz cpos (aS es X.env)).any (·.1)=aq:=by rfl) :
  DE Γ X (.Call (.Attribute o name apos) (e::es) [] cpos) (mF g fo fr):=⟨by
 obtain⟨r,h1,h2⟩:=hm.ex;refine(pG pa slot hty h1 ho.1 ha.1 hbase hfew hline hs hplain).imp fun σ H Q=>?_;rintro⟨G₀,H₀,G,ρ,d,A,h,k⟩;unfold mF at h;obtain⟨x,hx,h⟩:=oBd h;obtain⟨ds,hd,h⟩:=oBd h;exact⟨G₀,H₀,G,ρ,x,A,hx,fun v G1 H1 s1 r1=>⟨hm.ty s1.gh r1 h,G₀,H₀,G1,ρ,ds,A.step s1,hd,fun vs G2 H2 s2 r2=>h2 s2.gh (r1.mono s2.gg) r2 h Q fun w G3 H3 s3 r3=>k w G3 H3 ((s1.trans s2).trans s3) r3⟩⟩⟩
noncomputable def mH:ab D->ao (ab ai)
 |[]=>aa []
 |.str x::r=>(mH r).map (x::·)
 |_::_=>ac
noncomputable def fK:D->ab D->ao D
 |.str sep,[.lst l]=>(mH l).bind fun ys=>if (ys.map (·.length)).sum+ys.length*sep.length<=16777216 then aa (.str (dY sep ys)) else ac
 |_,_=>ac
theorem Eh {K:aV} {G:Hp}:∀{vs:ab V} {ds:ab D} {ys:ab ai},Reps Γ K G vs ds->mH ds=aa ys->vs=ys.map V.str
 |_,[],ys,r,h=>by cases r;cases h;rfl
 |_,d::ds,ys,.cons h1 h2,h=>by
  cases d with
  |str x=>
   obtain⟨zs,hz,rfl⟩:=oMd (show(mH ds).map (x::·)=aa ys from h);rw[h1.str_inv,Eh h2 hz];rfl
  |_=>cases h
theorem Cq:∀{ys:ab ai} {us:ab av},bi (ys.map V.str) us->StrsAre us ys
 |[],_,r=>by rw[qO] at r;cases r;exact .nil
 |y::ys,_,r=>by
  rw[qm] at r;cases r with
  |cons r1 r2=>
   obtain⟨t,e⟩:=r1;subst e;exact .cons y t (Cq r2)
theorem nO:MtD Γ X "str" "str.join" fK:=by
 refine⟨⟨fun v vs H Q=>∃sep a ys,v=.str sep/\vs=[.ref a]/\H a=aa (.lst (ys.map V.str))/\(ys.map (·.length)).sum+ys.length*sep.length<=16777216/\Q (.str (dY sep ys)) H,?_,?_⟩,?_⟩
 .intro pins s σ H x xs v us Q I rx rs h;obtain⟨sep,a,ys,rfl,rfl,ha,hz,q⟩:=h;obtain⟨t,rfl⟩:=rx;obtain⟨u,rfl,ru⟩:=fY rs;cases ru;obtain⟨its,rv,pl,_⟩:=I.list (.inl (.inl ha));exact join_list pl.isList (Cq rv) hz fun t' k=>⟨.str _,H,I.tok k,⟨_,rfl⟩,q⟩
 .intro G H v x vs ds z gh r1 r2 h Q k;unfold fK at h;split at h
  .obtain⟨ys,hy,h⟩:=oBd h;split at h
   .cases h;cases r1.str_inv;obtain⟨v,rfl,r3⟩:=r2.one;obtain⟨a,ws,rfl,ha,rw'⟩:=r3.lst_inv;refine⟨_,a,ys,rfl,rfl,?_,by assumption,k _ G H (.refl gh) (.str _)⟩;rw[←Eh rw' hy];exact gh _ _ ha
   .cases h
  .cases h
 .intro G H v x ds z gh r h;unfold fK at h;split at h
  .cases r.str_inv;exact rfl
  .cases h
noncomputable def nF:ab D->ao (ab bq)
 |[]=>aa []
 |.bl x::r=>(nF r).map (x::·)
 |_::_=>ac
theorem B6 {K:aV} {G:Hp}:∀{vs:ab V} {ds:ab D} {ys:ab bq},Reps Γ K G vs ds->nF ds=aa ys->vs=ys.map V.bl
 |_,[],ys,r,h=>by cases r;cases h;rfl
 |_,d::ds,ys,.cons h1 h2,h=>by
  cases d with
  |bl x=>
   obtain⟨zs,hz,rfl⟩:=oMd (show(nF ds).map (x::·)=aa ys from h);rw[h1.bl_inv,B6 h2 hz];rfl
  |_=>cases h
noncomputable def eG:ab D->ao D
 |[.lst l]=>(nF l).map fun bs=>D.bl (bs.all id)
 |_=>ac
theorem BX:∀{bs:ab bq} {us:ab av},bi (bs.map V.bl) us->us=bs.map la
 |[],_,r=>by rw[qO] at r;cases r;rfl
 |y::ys,_,r=>by
  rw[qm] at r;cases r with
  |cons r1 r2=>cases r1;rw[BX r2];rfl
theorem K8 (bs:ab bq):(bj bs.length).all (fun i=>bs.getD i aq)=bs.all id:=by
 rw[rF,ma,ma];constructor
 .intro h x hx;obtain⟨i,hi,e⟩:=Fv.mp hx;have:=h i (dU.mpr hi);simp[Fw,hi] at this;rw[←e];exact this
 .intro h i hi;have hi':=dU.mp hi;have:=h (bs[i]) (zm hi');simp[Fw,hi'];exact this
theorem Py {bs:ab bq} :TruthOf prog w A (fun i v=>(bs.map la).toArray[i]?=aa v) (fun i=>bs.getD i aq):=fun i v s Q E hP hQ=>by
 have hP':(bs.map la)[i]?=aa v:=by simpa using hP
 rw[qj] at hP';obtain⟨b,hb,rfl⟩:=oMd hP';have:bs.getD i aq=b:=by simp[Fw,hb]
 have hQ':Q (bs.getD i aq) s:=hQ;rw[this] at hQ';exact lf hQ'
theorem gf (hc:X.calm=al):BltD Γ X "all" eG:=by
 refine⟨fun vs H Q=>∃(a:aw) (bs:ab bq),vs=[.ref a]/\H a=aa (.lst (bs.map V.bl))/\Q (.bl (bs.all id)) H,?_,?_⟩
 .intro pins s σ H xs us Q I r h;obtain⟨a,bs,rfl,ha,q⟩:=h;obtain⟨u,rfl,ru⟩:=fY r;cases ru;obtain⟨its,rv,pl,_⟩:=I.list (.inl (.inl ha));have e:=BX rv;subst e;refine call_all_walk (uW pl.isList ?_);have ne:a≠s.heap.objs.size:=by obtain⟨o,_,h1,_⟩:=pl;exact qC (qu h1)
  refine⟨s.heap.objs.size,_,_,_,_,_,fun i=>bs.getD i aq,rfl,Fx (A:=X.A.in1) (show X.A.in1.handled=ac from I.ok.hd hc) s.heap.objs.size a ne (bs.map la).toArray,⟨⟨_,qG _ rfl,rfl,rfl⟩,pl.isList.at fun o q=>qt _ q⟩,Py,fun h' tk hk=>?_⟩;have e2:(bs.map la).toArray.size=bs.length:=by simp
  rw[e2,K8];refine⟨.bl _,H,I.kept fun b o z=>hk b o ?_ (qt _ z),rfl,q⟩;intro z';have:b=s.heap.objs.size:=by simpa using z'
  exact bN (qu z) (by rw[this];exact rA _)
 .intro G H vs ds z gh r h Q k;unfold eG at h;split at h
  .obtain⟨bs,hb,rfl⟩:=oMd h;obtain⟨v,rfl,r1⟩:=r.one;obtain⟨a,ws,rfl,ha,rw'⟩:=r1.lst_inv;refine⟨a,bs,rfl,?_,k _ G H (.refl gh) (.bl _)⟩;rw[←B6 rw' hb];exact gh _ _ ha
  .cases h
end
structure Yd (Γ:Cn) (K:aV) (J:It) (G:Hp) (ds:ab D):Prop where
 go:∀(i:ag) d G2 H2,ds[i]?=aa d->bp G G2->bp G2 H2->J.go i H2/\∀x H3,J.yld i H2 x H3->∃G3,Step G2 H2 G3 H3/\Rep Γ K G3 x d
 stop:∀G2 H2,bp G G2->bp G2 H2->J.stop ds.length H2
noncomputable def TDi (Γ:Cn) (K:aV) (f:FA):TI:=fun σ H R=>∃G₀ H₀ G ρ ds,At Γ K G₀ H₀ G H ρ σ/\f ρ=aa ds/\∀J G' H',Step G H G' H'->Yd Γ K J G' ds->R J H'
structure DI (Γ:Cn) (X:Cx) (tg e:Expr) (f:FA):Prop where
 out:PI X tg e (TDi Γ X.K f)
theorem PI.imp {t t':TI} (h:PI X tg e t) (i:∀σ H R,t' σ H R->t σ H R):PI X tg e t':=fun pins s σ H R I q=>h pins s σ H R I (i _ _ _ q)
variable {fi:FA} {ts:ab Expr} {fe:FE}
section
variable {a:Expr}
theorem Io {a:aw} (h:G a=aa (.tup vs)) (r:Reps Γ K G vs ds):Yd Γ K (Itt K a) G ds:=by refine⟨fun i d G2 H2 hd g1 g2=>?_,fun G2 H2 g1 g2=>⟨vs,.inl (.inl (g2 _ _ (g1 _ _ h))),by rw[r.length];exact qv _⟩⟩;obtain⟨v,hv,rv⟩:=r.get hd;refine⟨⟨vs,v,.inl (.inl (g2 _ _ (g1 _ _ h))),hv⟩,fun x H3 ⟨e1,e2⟩=>?_⟩;subst e1;have:=e2 vs (.inl (.inl (g2 _ _ (g1 _ _ h))));rw[hv] at this;cases this;exact⟨G2,.refl g2,rv.mono g1⟩
theorem EF {a:aw} (h:SqL K G a vs) (r:Reps Γ K G vs ds):Yd Γ K (Ite K a) G (ds.mapIdx fun i d=>D.tup [.int i,d]):=by refine⟨fun i d G2 H2 hd g1 g2=>?_,fun G2 H2 g1 g2=>⟨vs,g2.seq (g1.seq h),by rw[oz,r.length];exact qv _⟩⟩;rw[zn] at hd;obtain⟨d',hd',rfl⟩:=oMd hd;obtain⟨v,hv,rv⟩:=r.get hd';refine⟨⟨vs,v,g2.seq (g1.seq h),hv⟩,fun x H3 ⟨T,y,e0,hT,e1,e2⟩=>?_⟩;subst e0;have:=e2 vs (g2.seq (g1.seq h));rw[hv] at this;cases this;subst e1;have s:=Step.new (o:=.tup [.int i,v]) g2 hT;exact⟨_,s,.tup bV (.cons (.int _) (.cons ((rv.mono g1).mono s.gg) .nil))⟩
noncomputable def oM:D->ao (ab D)
 |.lst l=>aa l
 |.tup l=>aa l
 |.scr l=>aa (l.map D.int)
 |_=>ac
noncomputable def itF (f:FE):FA:=fun ρ=>(f ρ).bind oM
theorem ED {l:Expr} {tl:TE} (hl:PE X l tl):PI X tg l (fun σ H R=>tl σ H fun x H1=>(∃a,x=.ref a/\(∃xs,SqL X.K H1 a xs)/\R (Itl X.K a) H1)\/(∃a,x=.ref a/\(∃xs,SqT X.K H1 a xs)/\R (Itt X.K a) H1)):=by
 intro pins s σ H R I h;refine thn (hl pins s σ H _ I h) fun v s1 ⟨x,H1,I1,r1,q1⟩=>?_;rcases q1 with⟨a,e,⟨xs,hq⟩,q⟩|⟨a,e,⟨xs,hq⟩,q⟩
 .subst e;cases r1;obtain⟨its,rv,p,hz⟩:=I1.list hq;refine uW p.isList ?_;refine⟨s1.heap.objs.size,[s1.heap.objs.size],_,_,H1,rfl,I1.kept (t':=s1.toks) fun b o e=>qt _ e,HK a _,⟨_,qG _ rfl,rfl,rfl⟩,fun b hb=>?_,q⟩;have e:b=s1.heap.objs.size:=by simpa using hb
  subst e;exact I1.fpOk (qv _) (I1.hok.fresh (qv _))
 .subst e;cases r1;obtain⟨its,rv,p,hz⟩:=I1.tuple hq;refine wpAny_pyIter_tuple (show s1.heap.IsTuple a its.toArray from p) ?_;refine⟨s1.heap.objs.size,[s1.heap.objs.size],_,_,H1,rfl,I1.kept (t':=s1.toks) fun b o e=>qt _ e,HC a _,⟨_,qG _ rfl,rfl,rfl⟩,fun b hb=>?_,q⟩;have e:b=s1.heap.objs.size:=by simpa using hb
  subst e;exact I1.fpOk (qv _) (I1.hok.fresh (qv _))
theorem bZ (h:DE Γ X iter f):DI Γ X tg iter (itF f):=⟨(ED h.1).imp fun σ H R=>by
 rintro⟨G₀,H₀,G,ρ,ds,A,h,k⟩;unfold itF at h;obtain⟨d,hd,h⟩:=oBd h;refine⟨G₀,H₀,G,ρ,d,A,hd,fun v G' H' s r=>?_⟩;unfold oM at h;split at h
 .cases h;obtain⟨a,vs,rfl,ha,rv⟩:=r.lst_inv;refine .inl ⟨a,rfl,⟨vs,.inl (.inl (s.gh _ _ ha))⟩,k _ G' H' s ?_⟩;refine⟨fun i d G2 H2 hd g1 g2=>?_,fun G2 H2 g1 g2=>⟨vs,.inl (.inl (g2 _ _ (g1 _ _ ha))),by rw[rv.length];exact qv _⟩⟩;obtain⟨v,hv,rv'⟩:=rv.get hd;refine⟨⟨vs,v,.inl (.inl (g2 _ _ (g1 _ _ ha))),hv⟩,fun x H3 ⟨e1,e2⟩=>?_⟩;subst e1;have:=e2 vs (.inl (.inl (g2 _ _ (g1 _ _ ha))));rw[hv] at this;cases this;exact⟨G2,.refl g2,rv'.mono g1⟩
 .cases h;obtain⟨a,vs,rfl,ha,rv⟩:=r.tup_inv;exact .inr ⟨a,rfl,⟨vs,.inl (.inl (s.gh _ _ ha))⟩,k _ G' H' s (Io ha rv)⟩
 .rename_i l;cases h;obtain⟨a,rfl,ha⟩:=r.scr_inv;refine .inl ⟨a,rfl,⟨_,s.gh.seq ha⟩,k _ G' H' s ?_⟩;refine⟨fun i d G2 H2 hd g1 g2=>?_,fun G2 H2 g1 g2=>⟨_,g2.seq (g1.seq ha),by simp⟩⟩;rw[qj] at hd;obtain⟨n,hn,rfl⟩:=oMd hd;have hv:(List.map V.int l)[i]?=aa (V.int n):=by rw[qj,hn];rfl
  refine⟨⟨_,_,g2.seq (g1.seq ha),hv⟩,fun x H3 ⟨e1,e2⟩=>?_⟩;subst e1;have:=e2 _ (g2.seq (g1.seq ha));rw[hv] at this;cases this;exact⟨G2,.refl g2,.int _⟩
 .cases h⟩
noncomputable def uj:D->ao (ab D)
 |.str x=>aa (x.cps.toList.map fun c=>D.str ⟨#[c]⟩)
 |_=>ac
noncomputable def itS (f:FE):FA:=fun ρ=>(f ρ).bind uj
theorem Dn {n:ai} {q:dF} (h:DE Γ X iter f):DI Γ X (.Name n q) iter (itS f):=⟨(GF h.1).imp fun σ H R=>by
 rintro⟨G₀,H₀,G,ρ,ds,A,h,k⟩;unfold itS at h;obtain⟨d,hd,h⟩:=oBd h;refine⟨G₀,H₀,G,ρ,d,A,hd,fun v G' H' s r=>?_⟩;unfold uj at h;split at h<;>cases h;cases r.str_inv;rename_i x;refine⟨x,rfl,k _ G' H' s ⟨fun i d G2 H2 hd g1 g2=>?_,fun G2 H2 g1 g2=>?_⟩⟩
 .rw[qj] at hd;obtain⟨c,hc,rfl⟩:=oMd hd;have hc':x.cps[i]?=aa c:=by simpa using hc
  refine⟨(iU.mp hc').1,fun y H3 ⟨e1,c2,h2,e2⟩=>?_⟩;subst e1;subst e2;rw[hc'] at h2;cases h2;exact⟨G2,.refl g2,.str _⟩
 .show _=x.cps.size;simp⟩
noncomputable def Ci:D->ao (ab D)
 |.lst l=>aa (l.mapIdx fun i d=>D.tup [.int i,d])
 |.scr l=>aa ((l.map D.int).mapIdx fun i d=>D.tup [.int i,d])
 |_=>ac
noncomputable def itE (f:FE):FA:=fun ρ=>(f ρ).bind Ci
theorem nK {k1:ag} (hg:Gl X "enumerate") (hm:X.mg "enumerate"=ac) (h:DE Γ X a f) (hs:aS [a] X.env=[(aq,eval a X.env)]:=by rfl) (hs0:aS ([a]:ab Expr) X.env=(aq,eval a X.env)::aS [] X.env:=by rfl) :
  DI Γ X (.Tuple elts k1 tpos) (.Call (.Name "enumerate" p) [a] [] pos) (itE f):=⟨(Pq hg hm (gR h.1 gI hs0) hs).imp fun σ H R=>by
 rintro⟨G₀,H₀,G,ρ,ds,A,h,k⟩;unfold itE at h;obtain⟨d,hd,h⟩:=oBd h;refine⟨G₀,H₀,G,ρ,d,A,hd,fun v G' H' s r=>?_⟩;unfold Ci at h;split at h
 .cases h;obtain⟨a,vs,rfl,ha,rv⟩:=r.lst_inv;exact⟨a,rfl,⟨vs,.inl (.inl (s.gh _ _ ha))⟩,k _ G' H' s (EF (.inl (.inl ha)) rv)⟩
 .cases h;obtain⟨a,rfl,ha⟩:=r.scr_inv;exact⟨a,rfl,⟨_,s.gh.seq ha⟩,k _ G' H' s (EF ha (Reps.ints _))⟩
 .cases h⟩
theorem Aa :Yd Γ K (Itr lo n) G ((bj n).map fun i:ag=>D.int (lo+i)):=by
 refine⟨fun i d G2 H2 hd g1 g2=>?_,fun G2 H2 g1 g2=>?_⟩
 .rw[qj] at hd;obtain⟨j,hj,rfl⟩:=oMd hd;have hi:i<n:=by have:=(cR.mp hj).1;simpa using this
  have e:j=i:=by simpa[hi] using hj.symm
  subst e;refine⟨hi,fun x H3 ⟨e1,e2⟩=>?_⟩;subst e1;subst e2;exact⟨G2,.refl g2,.int _⟩
 .show n<=_;simp
noncomputable def ff:ab D->ao (ab D)
 |[.int j]=>if -(2 ^ 62)<=j/\j<2 ^ 62 then aa ((bj j.toNat).map fun i:ag=>D.int (0+i)) else ac
 |_=>ac
noncomputable def mJ:ab D->ao (ab D)
 |[.int i,.int j]=>if -(2 ^ 62)<=i/\i<2 ^ 62 /\ -(2 ^ 62)<=j/\j<2 ^ 62 then aa ((bj (j-i).toNat).map fun k:ag=>D.int (i+k)) else ac
 |_=>ac
noncomputable def itR (g:ab D->ao (ab D)) (fr:FA):FA:=fun ρ=>(fr ρ).bind g
theorem kG (hg:Gl X "range") (hm:X.mg "range"=ac) (h:DA Γ X [a] fr) (hs:aS [a] X.env=[(aq,eval a X.env)]:=by rfl):DI Γ X tg (.Call (.Name "range" p) [a] [] pos) (itR ff fr):=⟨(JM hg hm h.1 hs).imp fun σ H R=>by
 rintro⟨G₀,H₀,G,ρ,ds,A,h,k⟩;unfold itR at h;obtain⟨d,hd,h⟩:=oBd h;refine⟨G₀,H₀,G,ρ,d,A,hd,fun v G' H' s r=>?_⟩;unfold ff at h;split at h
 .split at h
  .rename_i hz;cases h;obtain⟨v,rfl,r1⟩:=r.one;cases r1.int_inv;exact⟨_,rfl,hz.1,hz.2,k _ G' H' s Aa⟩
  .cases h
 .cases h⟩
theorem K3 (hg:Gl X "range") (hm:X.mg "range"=ac) (h:DA Γ X [a,b] fr) (hs:aS [a,b] X.env=[(aq,eval a X.env),(aq,eval b X.env)]:=by rfl) (hs2:aS [b] X.env=[(aq,eval b X.env)]:=by rfl):DI Γ X tg (.Call (.Name "range" p) [a,b] [] pos) (itR mJ fr):=⟨(IK hg hm h.1 hs hs2).imp fun σ H R=>by
 rintro⟨G₀,H₀,G,ρ,ds,A,h,k⟩;unfold itR at h;obtain⟨d,hd,h⟩:=oBd h;refine⟨G₀,H₀,G,ρ,d,A,hd,fun v G' H' s r=>?_⟩;unfold mJ at h;split at h
 .split at h
  .rename_i hz;cases h;obtain⟨v,u,rfl,r1,r2⟩:=r.two;cases r1.int_inv;cases r2.int_inv;exact⟨_,_,rfl,hz,k _ G' H' s Aa⟩
  .cases h
 .cases h⟩
abbrev FG:=D->aX->ao aX
abbrev FGs:=ab D->aX->ao aX
noncomputable def TDg (Γ:Cn) (K:aV) (g:FG):TG:=fun v σ H Q=>∃G₀ H₀ G ρ d ρ',At Γ K G₀ H₀ G H ρ σ/\Rep Γ K G v d/\g d ρ=aa ρ'/\∀σ',At Γ K G₀ H₀ G H ρ' σ'->Q σ' H
noncomputable def OQ (Γ:Cn) (K:aV) (g:FGs):TGs:=fun vs σ H Q=>∃G₀ H₀ G ρ ds ρ',At Γ K G₀ H₀ G H ρ σ/\Reps Γ K G vs ds/\g ds ρ=aa ρ'/\∀σ',At Γ K G₀ H₀ G H ρ' σ'->Q σ' H
structure DG (Γ:Cn) (X:Cx) (tg:Expr) (g:FG):Prop where
 pg:PG X tg (TDg Γ X.K g)
 no:∀d ρ ρ',g d ρ=aa ρ'->eQ ρ->eQ ρ'
structure DGs (Γ:Cn) (X:Cx) (ts:ab Expr) (g:FGs):Prop where
 pg:PGs X ts (OQ Γ X.K g)
 no:∀d ρ ρ',g d ρ=aa ρ'->eQ ρ->eQ ρ'
theorem PG.imp {t t':TG} (h:PG X tg t) (i:∀v σ H Q,t' v σ H Q->t v σ H Q):PG X tg t':=fun pins s σ H v u Q I r q=>h pins s σ H v u Q I r (i _ _ _ _ q)
theorem PGs.imp {t t':TGs} (h:PGs X ts t) (i:∀v σ H Q,t' v σ H Q->t v σ H Q):PGs X ts t':=fun pins s σ H v u Q I r q=>h pins s σ H v u Q I r (i _ _ _ _ q)
noncomputable def ay (i:ag):FG:=fun d ρ=>aa (ρ.set i (aa (.sh d)))
theorem N7 (h:eQ ρ):eQ (ρ.set i (aa (.sh d))):=fun j ds e=>by
 by_cases hj:j=i
 .subst hj;rw[RL,qY rfl] at e;split at e<;>cases e;exact⟨_,rfl⟩
 .rw[qy (dM hj)] at e;exact h j ds e
theorem aP (i:ag) (hN:X.N.Nodup) (hi:X.N[i]?=aa x:=by rfl) (hx:Loc X.env.scope x:=by first|exact c6 rfl|exact cB rfl) (hf:X.fn x=al\/X.env.scope.names.lookup x=aa .local:=by first|exact .inl rfl|exact .inr rfl|assumption):DG Γ X (.Name x pos) (ay i):=by
 refine⟨(Bz hN hi hx hf).imp fun v σ H Q=>?_,fun d ρ ρ' e h=>?_⟩
 .rintro⟨G₀,H₀,G,ρ,d,ρ',A,r,h,k⟩;cases h;exact k _ (A.setSh r)
 .cases e;exact N7 h
noncomputable def cr:FGs:=fun ds ρ=>match ds with
 |[]=>aa ρ
 |_=>ac
noncomputable def aN (g:FG) (gs:FGs):FGs:=fun ds ρ=>match ds with
 |d::r=>(g d ρ).bind fun ρ'=>gs r ρ'
 |_=>ac
theorem eE:DGs Γ X [] cr:=by
 refine⟨NW.imp fun vs σ H Q=>?_,fun d ρ ρ' e h=>?_⟩
 .rintro⟨G₀,H₀,G,ρ,ds,ρ',A,r,h,k⟩;unfold cr at h;split at h<;>cases h;cases r;exact⟨rfl,k σ A⟩
 .unfold cr at e;split at e<;>cases e;exact h
theorem bM {g:FG} {gs:FGs} (h1:DG Γ X e g) (h2:DGs Γ X ts gs) (hs:(fN (e::ts) X.env).map (·.2)=ki e X.env::(fN ts X.env).map (·.2):=by rfl):DGs Γ X (e::ts) (aN g gs):=by
 refine⟨(MX h1.pg h2.pg hs).imp fun vs σ H Q=>?_,fun ds ρ ρ' e h=>?_⟩
 .rintro⟨G₀,H₀,G,ρ,ds,ρ',A,r,h,k⟩;unfold aN at h;split at h
  .obtain⟨ρ1,h1,h⟩:=oBd h;cases r with
   |cons r1 r2=>exact⟨_,_,rfl,G₀,H₀,G,ρ,_,ρ1,A,r1,h1,fun σ1 A1=>⟨G₀,H₀,G,ρ1,_,ρ',A1,r2,h,k⟩⟩
  .cases h
 .unfold aN at e;split at e
  .obtain⟨ρ1,e1,e⟩:=oBd e;exact h2.no _ _ _ e (h1.no _ _ _ e1 h)
  .cases e
noncomputable def cD (n:ag) (gs:FGs):FG:=fun d ρ=>match d with
 |.tup ds=>if ds.length=n then gs ds ρ else ac
 |_=>ac
theorem gA {k:ag} {gs:FGs} (hc:X.calm=al) (h:DGs Γ X ts gs) (hn:(fN ts X.env).length=n:=by rfl) (hst:(fN ts X.env).findIdx? (·.1)=ac:=by rfl):DG Γ X (.Tuple ts k pos) (cD n gs):=by
 refine⟨(GI hc h.pg hn hst).imp fun v σ H Q=>?_,fun ds ρ ρ' e q=>?_⟩
 .rintro⟨G₀,H₀,G,ρ,d,ρ',A,r,h,k⟩;unfold cD at h;split at h
  .split at h
   .rename_i hl;obtain⟨a,vs,rfl,ha,rv⟩:=r.tup_inv;exact⟨a,vs,rfl,.inl (.inl (A.gh _ _ ha)),by rw[rv.length];exact hl,G₀,H₀,G,ρ,_,ρ',A,rv,h,k⟩
   .cases h
  .cases h
 .unfold cD at e;split at e
  .split at e
   .exact h.no _ _ _ e q
   .cases e
  .cases e
noncomputable def gy (g:FG) (ft:FT) (fe:FE):ab D->aX->ao (ab D)
 |[],_=>aa []
 |x::xs,ρ=>(g x ρ).bind fun ρ1=>(ft ρ1).bind fun b=>if b=al then (fe ρ1).bind fun d=>(gy g ft fe xs ρ1).map (d::·) else gy g ft fe xs ρ1
noncomputable def gw (fv:ab (ao ag)) (ρ:aX):aX:=fv.map fun o=>o.bind fun j=>match ρ[j]? with
 |some (aa (.sh d))=>aa (.sh d)
 |_=>ac
noncomputable def bc (fi:FA) (g:FG) (ft:FT) (fe:FE) (fv:ab (ao ag)):FA:=fun ρ=>(fi ρ).bind fun xs=>if xs.length<=aM then gy g ft fe xs (gw fv ρ) else ac
structure DTs (Γ:Cn) (X:Cx) (es:ab Expr) (f:FT):Prop where
 out:PTs X es (TDt Γ X.K f)
theorem PTs.imp {t t':TT} (h:PTs X es t) (i:∀σ H Q,t' σ H Q->t σ H Q):PTs X es t':=fun pins s σ H Q I q=>h pins s σ H Q I (i _ _ _ q)
noncomputable def tT:FT:=fun _=>aa al
theorem cq:DTs Γ X [] tT:=⟨Km.imp fun σ H Q=>by rintro⟨G₀,H₀,G,ρ,b,A,h,k⟩;cases h;exact k G H (.refl A.gh)⟩
variable {g:FG}
structure DB (Γ:Cn) (X:Cx) (N':ab ai) (scope:Scope) (tg:Expr) (ifs:ab Expr) (elt:Expr) (g:FG) (ft:FT) (fe:FE):Prop where
 out:∀(cl:ab (ai×aw)) (C:aw) (s₀:aI) (H₀:Hp) (fp:ab aw),DG Γ (gO X N' scope cl C s₀ H₀ fp) tg g/\DTs Γ (gO X N' scope cl C s₀ H₀ fp) ifs ft/\DE Γ (gO X N' scope cl C s₀ H₀ fp) elt fe
theorem DB.pb (h:DB Γ X N' scope tg ifs elt g ft fe):PB X N' scope tg ifs elt (TDg Γ X.K g) (TDt Γ X.K ft) (TD Γ X.K fe):=fun cl C s₀ H₀ fp=>⟨(h.1 cl C s₀ H₀ fp).1.pg,(h.1 cl C s₀ H₀ fp).2.1.1,(h.1 cl C s₀ H₀ fp).2.2.1⟩
theorem xM (A:At Γ K G₀ H₀ G H ρ σ):At Γ K G H G H (gw fv ρ) (i0 fv σ)/\eQ (gw fv ρ):=by
 have no:eQ (gw fv ρ):=fun i ds e=>by
  unfold gw at e;rw[qj] at e;obtain⟨o,ho,e⟩:=oMd e;cases o with
  |none=>cases e
  |some j=>
   simp only[qa] at e;split at e<;>cases e;exact⟨_,rfl⟩
 refine⟨⟨.refl A.gh,.ofSh (by simp[gw,i0]) no fun i d e=>?_⟩,no⟩;unfold gw at e;unfold i0;rw[qj] at e ⊢;obtain⟨o,ho,e⟩:=oMd e;rw[ho];cases o with
 |none=>cases e
 |some j=>
  simp only[qa] at e;split at e
  .rename_i d' hd';cases e;obtain⟨v,h1,h2⟩:=A.env.sh j d hd';exact⟨v,by simp[h1],h2⟩
  .cases e
theorem Dt (no:∀d ρ ρ',g d ρ=aa ρ'->eQ ρ->eQ ρ'):∀σ H Q,TDo Γ X.K (bc fi g ft fe fv) σ H Q->tLC (TDi Γ X.K fi) (TDg Γ X.K g) (TDt Γ X.K ft) (TD Γ X.K fe) fv σ H Q:=by
 rintro σ H Q ⟨G₀,H₀,G,ρ,ds,A,h,k⟩;unfold bc at h;obtain⟨xs,hx,h⟩:=oBd h;split at h
 case isFalse=>cases h
 rename_i hz;refine⟨G₀,H₀,G,ρ,xs,A,hx,fun J G1 H1 s1 Y acc hacc=>?_⟩;have gacc:G1 acc=ac:=s1.gh.free hacc;obtain⟨A0,no0⟩:=xM (fv:=fv) (A.step s1);refine⟨fun i m ys σ' H'=>m=xs.length-i/\i<=xs.length/\ys.length<=i/\∃G' ρ' done bS,At Γ X.K G1 H1 G' H' ρ' σ'/\eQ ρ'/\H' acc=aa (.lst ys)/\G' acc=ac/\Reps Γ X.K G' ys done/\gy g ft fe (xs.drop i) ρ'=aa bS/\done++bS=ds,?_,?_⟩
 .refine⟨xs.length,rfl,gd _,qv _,G1,gw fv ρ,[],ds,?_,no0,bV,gacc,.nil,by rw[l'];exact h,rfl⟩;have sn:=Step.newOwn (o:=.lst []) s1.gh hacc;exact⟨sn,.ofSh A0.env.len no0 A0.env.sh⟩
 .rintro i m ys σ' H' ⟨hm,hi,hyi,G',ρ',done,bS,A',no',hacc',gacc',ry,hr,hd⟩;subst hm;refine⟨hacc',?_⟩;by_cases hlt:i<xs.length
  .right
   have hxi:xs[i]?=aa xs[i]:=by simp[hlt]
   obtain⟨go,yl⟩:=Y.go i _ G' H' hxi A'.st.gg A'.gh;refine⟨go,fun x H2 hy=>?_⟩;obtain⟨G2,s2,r2⟩:=yl x H2 hy;have A2:=A'.step s2;have hdr:xs.drop i=xs[i]::xs.drop (i+1):=uX hlt;rw[hdr] at hr;unfold gy at hr;obtain⟨ρ1,h1,hr⟩:=oBd hr;obtain⟨b,h2,hr⟩:=oBd hr;refine⟨G1,H1,G2,ρ',_,ρ1,A2,r2,h1,fun σ2 A3=>⟨G1,H1,G2,ρ1,b,A3,h2,fun G4 H4 s4=>?_⟩⟩;have no1:=no _ _ _ h1 no';have hH4:H4 acc=aa (.lst ys):=s4.hh _ _ (s2.hh _ _ hacc');have hG4:G4 acc=ac:=(s4.out _ _ (s2.hh _ _ hacc')).trans ((s2.out _ _ hacc').trans gacc');cases b with
   |false=>
    rw[qZ qr] at hr;refine jO ⟨xs.length-(i+1),by omega,rfl,hlt,by omega,G4,ρ1,done,bS,A3.step s4,no1,hH4,hG4,(ry.mono s2.gg).mono s4.gg,hr,hd⟩
   |true=>
    rw[qY rfl] at hr;obtain⟨d,h3,hr⟩:=oBd hr;obtain⟨zs,h5,rfl⟩:=oMd hr;refine jW ⟨G1,H1,G4,ρ1,d,A3.step s4,h3,fun v G5 H5 s5 r5=>?_⟩;have A5:=(A3.step s4).step s5;have hH5:H5 acc=aa (.lst ys):=s5.hh _ _ hH4;have hG5:G5 acc=ac:=(s5.out _ _ hH4).trans hG4;refine⟨hH5,by omega,xs.length-(i+1),by omega,rfl,hlt,by rw[qi,qW];omega,G5,ρ1,done++[d],zs,?_,no1,bV,hG5,((((ry.mono s2.gg).mono s4.gg).mono s5.gg).append (.cons r5 .nil)),h5,by rw[qw];exact hd⟩;refine⟨⟨fun b o e=>?_,A5.st.gg,fun b o e=>?_,A5.st.out⟩,.ofSh A5.env.len no1 A5.env.sh⟩
    .rw[aW (ca e hacc)];exact A5.st.hh b o e
    .rw[aW (ca e hG5)];exact A5.st.gh b o e
  .left
   have e:i=xs.length:=by omega
   subst e;rw[zo] at hr;cases hr;rw[iR] at hd;subst hd;refine⟨Y.stop G' H' A'.st.gg A'.gh,?_⟩;have hf:H'=upd (fun b=>if b=acc then ac else H' b) acc (.lst ys):=by
    funext b
    by_cases hb:b=acc
    .subst hb;rw[bV];exact hacc'
    .rw[aW hb,qZ hb]
   rw[hf];refine k acc ys G' (fun b=>if b=acc then ac else H' b) (s1.trans ⟨fun b o e=>?_,A'.st.gg,fun b o e=>?_,A'.st.out⟩) (qY rfl) ry
   .show(if b=acc then ac else H' b)=aa o;rw[qZ (ca e hacc)];exact A'.st.hh b o e
   .show(if b=acc then ac else H' b)=aa o;rw[qZ (ca e gacc')];exact A'.st.gh b o e
theorem cP (hc:X.calm=al) (S:CompScope X scope) (F:FvOk X N' scope fv) (hi:DI Γ X tg iter fi) (hb:DB Γ X N' scope tg ifs elt g ft fe) (hs:∀x,lV iter X.env x=bm x:=by intro _;rfl) :
  DO Γ X (.ListComp elt [⟨tg,iter,ifs,0⟩] scope pos) (bc fi g ft fe fv):=⟨(BN hc S F hi.1 hb.pb hs).imp (Dt (hb.1 [] 0 X.s₀ X.H₀ []).1.no)⟩
end
variable {g:FS} {sts:ab Stmt} {gg:FG} {vp:dF}
section
variable {a:Expr} {g':FS}
noncomputable def aU:FS:=fun ρ=>aa (.nx,ρ)
noncomputable def ax (g g':FS):FS:=fun ρ=>(g ρ).bind fun r=>match r.1 with
 |.nx=>g' r.2
 |fl=>aa (fl,r.2)
theorem bF:DSs Γ X [] aU:=⟨Pk.imp fun E σ H=>by rintro⟨G₀,H₀,G,ρ,fl,ρ',A,h,k⟩;cases h;exact k σ G H (.refl _) A⟩
theorem aE (h:DS Γ X st g):DSs Γ X [st] g:=⟨Aj h.1⟩
theorem aA (h1:DS Γ X st g) (h2:DSs Γ X sts g'):DSs Γ X (st::sts) (ax g g'):=⟨(Qu h1.1 h2.1).imp fun E σ H=>by
 rintro⟨G₀,H₀,G,ρ,fl,ρ',A,h,k⟩;unfold ax at h;obtain⟨⟨fl1,ρ1⟩,h1,h⟩:=oBd h;refine⟨G₀,H₀,G,ρ,fl1,ρ1,A,h1,fun σ1 G1 H1 sm A1=>?_⟩;cases fl1 with
 |nx=>exact⟨G₀,H₀,G1,ρ1,fl,ρ',A1,h,fun σ' G' H' sm' A'=>k σ' G' H' (sm.trans sm') A'⟩
 |bk=>cases h;exact k σ1 G1 H1 sm A1
 |ct=>cases h;exact k σ1 G1 H1 sm A1
 |rt d=>cases h;exact k σ1 G1 H1 sm A1
 |ow d=>cases h;exact k σ1 G1 H1 sm A1
 |nw d=>cases h;exact k σ1 G1 H1 sm A1
 |od d=>cases h;exact k σ1 G1 H1 sm A1⟩
noncomputable def aK (f:FE):FS:=fun ρ=>(f ρ).map fun d=>(.rt d,ρ)
theorem aR (h:DE Γ X e f):DS Γ X (.Return (aa e) pos) (aK f):=⟨(wp h.1).imp fun E σ H=>by rintro⟨G₀,H₀,G,ρ,fl,ρ',A,h,k⟩;unfold aK at h;obtain⟨d,hd,h⟩:=oMd h;cases h;exact⟨G₀,H₀,G,ρ,d,A,hd,fun v G' H' s r=>k σ G' H' s.gg (A.step s) v r⟩⟩
noncomputable def aH (i:ag) (f:FE):FS:=fun ρ=>(f ρ).map fun d=>(.nx,ρ.set i (aa (.sh d)))
theorem bB (i:ag) (hN:X.N.Nodup) (h:DE Γ X e f) (hi:X.N[i]?=aa x:=by rfl) (hx:Loc X.env.scope x:=by first|exact c6 rfl|exact cB rfl) (hs:eW e (aa (.Name x pos')) pos.line X.env=bm aq:=by rfl) (hf:X.fn x=al\/X.env.scope.names.lookup x=aa .local:=by first|exact .inl rfl|exact .inr rfl|assumption) :
  DS Γ X (.Assign [.Name x pos'] e pos) (aH i f):=⟨(pQ hN hi hx h.1 hs hf).imp fun E σ H=>by
 rintro⟨G₀,H₀,G,ρ,fl,ρ',A,h,k⟩;unfold aH at h;obtain⟨d,hd,h⟩:=oMd h;cases h;exact⟨G₀,H₀,G,ρ,d,A,hd,fun v G' H' s r=>k _ G' H' s.gg ((A.step s).setSh r)⟩⟩
noncomputable def dI (i:ag) (f:FA):FS:=fun ρ=>(f ρ).map fun d=>(.nx,ρ.set i (aa (.own d)))
theorem JH :∀E σ H,TDs Γ X.K (dI i fr) E σ H->mO (TDo Γ X.K fr) (mC i) E σ H:=by rintro E σ H ⟨G₀,H₀,G,ρ,fl,ρ',A,h,k⟩;unfold dI at h;obtain⟨d,hd,h⟩:=oMd h;cases h;exact⟨G₀,H₀,G,ρ,d,A,hd,fun p vs G' H' s hp r=>k _ G' _ s.gg ((A.step s).setOwn hp r)⟩
theorem hU (i:ag) (hN:X.N.Nodup) (h:DO Γ X e fr) (hi:X.N[i]?=aa x:=by rfl) (hx:Loc X.env.scope x:=by first|exact c6 rfl|exact cB rfl) (hs:eW e (aa (.Name x pos')) pos.line X.env=bm aq:=by rfl) (hf:X.fn x=al\/X.env.scope.names.lookup x=aa .local:=by first|exact .inl rfl|exact .inr rfl|assumption) :
  DS Γ X (.Assign [.Name x pos'] e pos) (dI i fr):=⟨(pQ hN hi hx h.1 hs hf).imp JH⟩
theorem Hc :∀E σ H,TDs Γ X.K (aH i (aD fr)) E σ H->mO (TDo Γ X.K fr) (mC i) E σ H:=by rintro E σ H ⟨G₀,H₀,G,ρ,fl,ρ',A,h,k⟩;unfold aH aD at h;obtain⟨d,hd,h⟩:=oMd h;obtain⟨ds,hd',rfl⟩:=oMd hd;cases h;refine⟨G₀,H₀,G,ρ,ds,A,hd',fun p vs G' H' s hp r=>?_⟩;have s2:=Step.new (o:=.lst vs) s.gh hp;exact k _ _ _ (s.gg.trans s2.gg) (((A.step s).step s2).setSh (.lst bV (r.mono s2.gg)))
theorem lz (i:ag) (hN:X.N.Nodup) (hc:X.calm=al) (S:CompScope X scope) (F:FvOk X N' scope fv) (hi:DI Γ X tg iter fi) (hb:DB Γ X N' scope tg ifs elt gg ft fe)
  (hy:X.N[i]?=aa y:=by rfl) (hyl:X.env.scope.names.lookup y=aa .local:=by rfl) (hsw:eW (.ListComp elt [⟨tg,iter,ifs,0⟩] scope pos) (aa (.Name y py)) spos.line X.env=bm al:=by rfl) (hs:∀x,lV iter X.env x=bm x:=by intro _;rfl) :
  DS Γ X (.Assign [.Name y py] (.ListComp elt [⟨tg,iter,ifs,0⟩] scope pos) spos) (aH i (aD (bc fi gg ft fe fv))):=⟨(Dz hN hy hyl hc S F hi.1 hb.pb hsw hs).imp fun E σ H q=>Dt (hb.1 [] 0 X.s₀ X.H₀ []).1.no σ H _ (Hc E σ H q)⟩
noncomputable def b9 (i:ag) (f:FE):FS:=fun ρ=>match ρ[i]? with
 |some (aa (.own ds))=>(f ρ).bind fun d=>if ds.length<aM then aa (.nx,ρ.set i (aa (.own (ds++[d])))) else ac
 |_=>ac
theorem fu (i:ag) (h:DE Γ X e f) (hN:X.N[i]?=aa x:=by rfl) (hv:Vis X.env.scope x:=by first|exact c6 rfl|exact cB (c6 rfl)|exact cB (cB rfl)) (hd:(x==("__debug__":ai))=aq:=by decide)
  (hcd:(x==("__classdict__":ai))=aq:=by decide)
  (hbase:iO (.Name x vp) "append" X.env (eval (.Name x vp) X.env)=eval (.Name x vp) X.env:=by rfl)
  (hfew:((cz cpos (aS [e] X.env)).all (fun x=>!x.1) && (iP cpos (iQ [] X.env)).all (fun x=>x.1.isSome)
   && decide ([e].length+([]:ab jw).length+(if ([]:ab jw).isEmpty then 0 else 1)<30))=al:=by rfl)
  (hline:(apos.endLine==cpos.line)=al:=by rfl) (hs:aS [e] X.env=(aq,eval e X.env)::aS [] X.env:=by rfl) (hplain:(cz cpos (aS [] X.env)).any (·.1)=aq:=by rfl)
  (hsw:eW (.Call (.Attribute (.Name x vp) "append" apos) [e] [] cpos) ac pos.line X.env=bm aq:=by rfl) :
  DS Γ X (.Expr (.Call (.Attribute (.Name x vp) "append" apos) [e] [] cpos) pos) (b9 i f):=⟨(p7 (pG uY zb Fy tM (iX hN hv hd hcd) (gR h.1 gI hs) hbase hfew hline hs hplain) hsw).imp fun E σ H=>by
  rintro⟨G₀,H₀,G,ρ,fl,ρ',A,h,k⟩;unfold b9 at h;split at h
  .rename_i ds hi;obtain⟨d,hd,h⟩:=oBd h;split at h
   .rename_i hz;cases h;obtain⟨a,vs,h1,h2,h3,h4,h5⟩:=A.env.own i ds hi;refine⟨.ref a,h1,.inl ⟨rfl,vs,.inl (.inl h4)⟩,G₀,H₀,G,ρ,d,A,hd,fun v G1 H1 s1 r1=>?_⟩;have A1:=A.step s1;refine⟨a,vs,v,rfl,rfl,s1.hh _ _ h4,by rw[h5.length];exact hz,?_⟩;exact k σ G1 _ s1.gg (A1.chOwn hi h1 ((h5.mono s1.gg).append (.cons r1 .nil)))
   .cases h
  .cases h⟩
noncomputable def eR (i:ag) (g:FS):FS:=fun ρ=>match ρ[i]? with
 |some (aa (.own ds))=>g (ρ.set i (aa (.sh (.lst ds))))
 |_=>ac
theorem TDs.frz (i:ag):∀E σ H,TDs Γ X.K (eR i g) E σ H->TDs Γ X.K g E σ H:=by
 rintro E σ H ⟨G₀,H₀,G,ρ,fl,ρ',A,h,k⟩;unfold eR at h;split at h
 .rename_i ds hi;obtain⟨G',sm,A'⟩:=A.freeze hi;exact⟨G₀,H₀,G',_,fl,ρ',A',h,fun σ1 G1 H1 sm1 A1=>k σ1 G1 H1 (sm.trans sm1) A1⟩
 .cases h
theorem jh (i:ag) (h:DSs Γ X sts g):DSs Γ X sts (eR i g):=⟨h.1.imp (TDs.frz i)⟩
noncomputable def sIf (ft:FT) (g g':FS):FS:=fun ρ=>(ft ρ).bind fun c=>if c=al then g ρ else g' ρ
theorem bD {sa sb:ab Stmt} (hc:DT Γ X c ft) (ha:DSs Γ X sa g) (hb:DSs Γ X sb g'):DS Γ X (.If c sa sb pos) (sIf ft g g'):=⟨(Mv hc.1 ha.1 hb.1).imp fun E σ H=>by
 rintro⟨G₀,H₀,G,ρ,fl,ρ',A,h,k⟩;unfold sIf at h;obtain⟨x,hx,h⟩:=oBd h;refine⟨G₀,H₀,G,ρ,x,A,hx,fun G1 H1 s1=>?_⟩;cases x with
 |true=>exact jW ⟨G₀,H₀,G1,ρ,fl,ρ',A.step s1,by simpa using h,fun σ2 G2 H2 sm2 A2=>k σ2 G2 H2 (s1.gg.trans sm2) A2⟩
 |false=>exact jO ⟨G₀,H₀,G1,ρ,fl,ρ',A.step s1,by simpa using h,fun σ2 G2 H2 sm2 A2=>k σ2 G2 H2 (s1.gg.trans sm2) A2⟩⟩
noncomputable def iH (gg:FG) (f:FE):FS:=fun ρ=>(f ρ).bind fun d=>(gg d ρ).map fun ρ'=>(.nx,ρ')
theorem o4 (h:DE Γ X e f) (hg:DG Γ X tg gg) (hs:swapsWithSole [tg] e pos.line X.env=bm aq:=by rfl) (hw:swappedStores [tg] e X.env=bm ac:=by rfl)
  (h1:(fN [tg] X.env).map (·.2)=[ki tg X.env]:=by rfl):DS Γ X (.Assign [tg] e pos) (iH gg f):=⟨(LO h.1 hg.pg hs hw h1).imp fun E σ H=>by
 rintro⟨G₀,H₀,G,ρ,fl,ρ',A,h,k⟩;unfold iH at h;obtain⟨d,hd,h⟩:=oBd h;obtain⟨ρ1,h1,h⟩:=oMd h;cases h;exact⟨G₀,H₀,G,ρ,d,A,hd,fun v G' H' s r=>⟨G₀,H₀,G',ρ,d,ρ',A.step s,r,h1,fun σ' A'=>k σ' G' H' s.gg A'⟩⟩⟩
noncomputable def dD (gg:FG) (body:FS):ab D->FS
 |[],ρ=>aa (.nx,ρ)
 |x::xs,ρ=>(gg x ρ).bind fun ρ1=>(body ρ1).bind fun r=>match r.1 with
  |.nx=>dD gg body xs r.2
  |.ct=>dD gg body xs r.2
  |.bk=>aa (.nx,r.2)
  |.rt d=>aa (.rt d,r.2)
  |.ow d=>aa (.ow d,r.2)
  |.nw d=>aa (.nw d,r.2)
  |.od d=>aa (.od d,r.2)
noncomputable def ck (fi:FA) (gg:FG) (body:FS):FS:=fun ρ=>(fi ρ).bind fun xs=>dD gg body xs ρ
theorem dB (hp:uH (aQ X.prog X.w) X.A X.env X.xe) (hc:X.calm=al) (hi:DI Γ X tg iter fi) (hg:DG Γ X tg gg) (hb:DSs Γ X body g) (hs:∀x,lV iter X.env x=bm x:=by intro _;rfl) :
  DS Γ X (.For tg iter body [] pos) (ck fi gg g):=⟨(C1 hp hc hi.1 hg.pg hb.1 hs).imp fun E σ H=>by
 rintro⟨G₀,H₀,G,ρ,fl,ρ',A,h,k⟩;unfold ck at h;obtain⟨xs,hx,h⟩:=oBd h;refine⟨G₀,H₀,G,ρ,xs,A,hx,fun J G1 H1 s1 Y=>?_⟩;refine⟨fun i m σ' H'=>m=xs.length-i/\i<=xs.length/\∃G' ρ1,bp G1 G'/\At Γ X.K G₀ H₀ G' H' ρ1 σ'/\dD gg g (xs.drop i) ρ1=aa (fl,ρ'),⟨xs.length,rfl,gd _,G1,ρ,.refl _,A.step s1,by rw[l'];exact h⟩,?_⟩;rintro i m σ' H' ⟨rfl,hi,G',ρ1,sm,A',hr⟩;by_cases hlt:i<xs.length
 .right
  have hxi:xs[i]?=aa xs[i]:=by simp[hlt]
  obtain⟨go,yl⟩:=Y.go i _ G' H' hxi sm A'.gh;have hdr:xs.drop i=xs[i]::xs.drop (i+1):=uX hlt;rw[hdr] at hr;unfold dD at hr;obtain⟨ρ2,h2,hr⟩:=oBd hr;obtain⟨⟨fl3,ρ3⟩,h3,hr⟩:=oBd hr;refine⟨go,fun σ3 H3=>(fl3=.nx\/fl3=.ct)/\∃G3,bp G1 G3/\At Γ X.K G₀ H₀ G3 H3 ρ3 σ3,fun σ3 H3 ⟨hfl,G3,sm3,A3⟩=>?_,fun x H2 hy=>?_⟩
  .refine⟨xs.length-(i+1),by omega,rfl,hlt,G3,ρ3,sm3,A3,?_⟩;rcases hfl with e|e<;>subst e<;>exact hr
  .obtain⟨G2,s2,r2⟩:=yl x H2 hy;refine⟨G₀,H₀,G2,ρ1,_,ρ2,A'.step s2,r2,h2,fun σ2 A2=>⟨G₀,H₀,G2,ρ2,fl3,ρ3,A2,h3,fun σ3 G3 H3 sm3 A3=>?_⟩⟩;have smm:bp G1 G3:=(sm.trans s2.gg).trans sm3;cases fl3 with
   |nx=>exact⟨.inl rfl,G3,smm,A3⟩
   |ct=>exact⟨.inr rfl,G3,smm,A3⟩
   |bk=>cases hr;exact k σ3 G3 H3 (s1.gg.trans smm) A3
   |rt d=>cases hr;exact k σ3 G3 H3 (s1.gg.trans smm) A3
   |ow d=>cases hr;exact k σ3 G3 H3 (s1.gg.trans smm) A3
   |nw d=>cases hr;exact k σ3 G3 H3 (s1.gg.trans smm) A3
   |od d=>cases hr;exact k σ3 G3 H3 (s1.gg.trans smm) A3
 .left
  have e:i=xs.length:=by omega
  subst e;rw[zo] at hr;cases hr;exact⟨Y.stop G' H' sm A'.gh,k σ' G' H' (s1.gg.trans sm) A'⟩⟩
end
variable {fk:FE} {F:ab D->ao D}
section
variable {a:Expr} {fw:FE}
noncomputable def spF (Γ:Cn) (K:aV) (n:ag) (F:ab D->ao D):Sp:=fun vs H Q _=>∃G ds d,bp G H/\Reps Γ K G vs ds/\ds.length=n/\F ds=aa d/\∀v G' H',Step G H G' H'->Rep Γ K G' v d->Q v H'
noncomputable def aZ (n:ag) (g:FS):ab D->ao D:=fun ds=>(g (ds.map (fun d=>aa (Slot.sh d))++bQ n ac)).bind fun r=>match r.1 with
 |.rt d=>aa d
 |.nx=>aa .non
 |_=>ac
theorem Eg {m:ag} (gh:bp G H) (r:Reps Γ K G vs ds) (hm:m=N.length-vs.length):At Γ K G H G H (ds.map (fun d=>aa (Slot.sh d))++bQ m ac) (gH N vs):=by
 have no:eQ (ds.map (fun d=>aa (Slot.sh d))++bQ m ac):=fun i es e=>by
  by_cases hi:i<ds.length
  .rw[qz (by simpa using hi),qj] at e;obtain⟨d,_,e⟩:=oMd e;cases e;exact⟨_,rfl⟩
  .rw[qK (by simpa using hi),yR] at e;split at e<;>cases e
 refine⟨.refl gh,.ofSh (by simp[gH,r.length,hm]) no fun i d e=>?_⟩;by_cases hi:i<ds.length
 .rw[qz (by simpa using hi),qj] at e;obtain⟨d',hd,e⟩:=oMd e;cases e;obtain⟨v,hv,rv⟩:=r.get hd;refine⟨v,?_,rv⟩;unfold gH;rw[qz (by rw[qe,r.length];exact hi),qj,hv];rfl
 .rw[qK (by simpa using hi),yR] at e;split at e<;>cases e
theorem Fun.okD {f:aw} {k:ag} (F:Fun K x qual st f fd) (S:FnScope N ps (aO st))
  (hbody:∀(cdv:av) (A:dL) (outer:ab cS) (s:aI) (H:Hp) (E:XK),Room k (A.deeper (eC qual (aO st) s.heap.objs.size f cdv))->
   DSs Γ (gz CX0 P w K mg base N qual (aO st) f cdv A outer s H E).nox (dq st) g):FnOk P w K mg base CX0 (k+1) f fd ps (spF Γ K ps.length (aZ (N.length-ps.length) g)):=by
 refine F.ok S (fun vs H Q E h=>?_) (fun cdv A outer s H vs Q E hr h=>?_)
 .obtain⟨G,ds,d,_,r,hl,_⟩:=h;rw[r.length,hl]
 .obtain⟨G,ds,d,gh,r,hl,hd,k⟩:=h;refine⟨_,(hbody cdv A outer s H E hr).1,?_⟩;unfold aZ at hd;obtain⟨⟨fl,ρ'⟩,hg,hd⟩:=oBd hd;refine⟨G,H,G,_,fl,ρ',Eg gh r (by rw[r.length,hl]),hg,fun σ' G' H' sm A'=>?_⟩;cases fl with
  |rt d'=>cases hd;exact fun v rv=>k v G' H' A'.st rv
  |nx=>cases hd;exact k .non G' H' A'.st .non
  |bk=>cases hd
  |ct=>cases hd
  |ow d=>cases hd
  |nw d=>cases hd
  |od d=>cases hd
theorem JW {k:ag} {fx:aw} (Fo:FnOk X.prog X.w X.K X.mg X.base CX0 k fx fd ps (spF Γ X.K n F)) (hr:Room k X.A) (hg:Gl X x) (hm:X.mg x=aa (.ref fx)) (hk:iN X.K (.ref fx)=al) (hb:gj X.K fd ps [])
  (ha:DA Γ X (e::es) fr) (hn:∀ρ ds,fr ρ=aa ds->ds.length=n) (hdb:(x==("__debug__":ai))=aq:=by decide) (he:aS (e::es) X.env=(aq,eval e X.env)::aS es X.env:=by rfl) (hpl:(cz pos (aS es X.env)).any (·.1)=aq:=by rfl) :
  DE Γ X (.Call (.Name x p) (e::es) [] pos) (cF F fr):=⟨(B7 Fo hr hg hm hk hb .nil nN ha.1 hdb he hpl).imp fun σ H Q=>by
 rintro⟨G₀,H₀,G,ρ,d,A,h,k⟩;unfold cF at h;obtain⟨ds,hd,h⟩:=oBd h;refine⟨G₀,H₀,G,ρ,ds,A,hd,fun vs G1 H1 s1 r1=>?_⟩;show spF Γ X.K n F (vs++[]) H1 Q E0;rw[iR];exact⟨G1,ds,d,s1.gh,r1,hn ρ ds hd,h,fun v G' H' s r=>k v G' H' (s1.trans s) r⟩⟩
theorem IM (h:ak ρ=aa ds):ds.length=0:=by cases h;rfl
theorem mD (hn:∀ρ ds,fr ρ=aa ds->ds.length=n):∀ρ ds,ae fa fr ρ=aa ds->ds.length=n+1:=fun ρ ds h=>by unfold ae at h;obtain⟨x,hx,h⟩:=oBd h;obtain⟨xs,hxs,rfl⟩:=oMd h;rw[qh,hn ρ xs hxs]
end
structure Cal (Γ:Cn) (P:dS) (w:cQ) (K:aV) (mg:ai->ao av) (base:Heap) (x:ai) (n k:ag) (F:ab D->ao D):Prop where
 ex:∃f fd ps,FnOk P w K mg base CX0 k f fd ps (spF Γ K n F)/\mg x=aa (.ref f)/\iN K (.ref f)=al/\gj K fd ps []
structure Dfn (K:aV) (mg:ai->ao av) (x:ai) (st:Stmt):Prop where
 ex:∃f fd,Fun K x x st f fd/\mg x=aa (.ref f)
theorem i9 {k:ag} (C:Cal Γ X.prog X.w X.K X.mg X.base x n k F) (hr:Room j X.A) (hk:k<=j) (hg:Gl X x) (ha:DA Γ X (e::es) fr) (hn:∀ρ ds,fr ρ=aa ds->ds.length=n)
  (hdb:(x==("__debug__":ai))=aq:=by decide) (he:aS (e::es) X.env=(aq,eval e X.env)::aS es X.env:=by rfl) (hpl:(cz pos (aS es X.env)).any (·.1)=aq:=by rfl) :
  DE Γ X (.Call (.Name x p) (e::es) [] pos) (cF F fr):=by
 obtain⟨f,fd,ps,h1,h2,h3,h4⟩:=C.ex;exact JW h1 (hr.mono hk) hg h2 h3 h4 ha hn hdb he hpl
theorem Dfn.cal {k:ag} (F:Dfn K mg x st) (S:FnScope N ps (aO st))
  (hb:∀(kV doc pm:av) (an:ao aw) (cdv ct:av) (us:ab av),us.length=ps.length->jv (ge x x (gx st) (dq st) (aO st) .none kV doc pm an cdv ct) ⟨us,[]⟩=bm (ps.zip us))
  (hbody:∀(f:aw) (cdv:av) (A:dL) (outer:ab cS) (s:aI) (H:Hp) (E:XK),Room k (A.deeper (eC x (aO st) s.heap.objs.size f cdv))->
   DSs Γ (gz CX0 P w K mg base N x (aO st) f cdv A outer s H E).nox (dq st) g):Cal Γ P w K mg base x ps.length (k+1) (aZ (N.length-ps.length) g):=by
 obtain⟨f,fd,h1,h2⟩:=F.ex;exact⟨f,fd,ps,h1.okD S (hbody f),h2,h1.kp,h1.binds hb⟩
theorem Dfn.mk' {h:Heap} {f:aw} {kV pm:av} (X:K.In h) (G:h.Ns fD mg) (a:uZ K fD x=aa (aa (.ref f)))
  (l:K.lookup f=aa ⟨oc,od,.func (ge x x (gx st) (dq st) (aO st) .none kV doc pm an cdv ct),osl⟩) (c:rN K cdv x=al) (k:iN K (.ref f)=al):Dfn K mg x st:=
 ⟨f,_,vF l c k,u0 X G a⟩
noncomputable def Ew (names:ab (ai×iw)) (outer:ab (ai×iw)):bq:=
 names.all fun y=>y.2 != .cell && (y.2 != .local || names.lookup y.1==aa .local) && (y.2 != .free || outer.lookup y.1==aa .cell || outer.lookup y.1==aa .free)
theorem CompScope.of (hk:scope.kind=.function) (h:Ew scope.names X.env.scope.names=al):CompScope X scope:=by
 unfold Ew at h;rw[ma] at h;refine⟨hk,fun y hy e=>?_,fun y hy e=>?_,fun y hy e=>?_⟩
 .have:=h y hy;rw[e] at this;simp at this
 .have:=h y hy;rw[e] at this;simpa using this
 .have:=h y hy;rw[e] at this;simpa[Env.kindOf] using this
noncomputable def Ey (N':ab ai) (fv:ab (ao ag)) (N:ab ai) (outer names:ab (ai×iw)):bq:=
 fv.length==N'.length && (N'.zip fv).all fun y=>match y.2 with
  |none=>al
  |some j=>N[j]?==aa y.1 && (outer.lookup y.1==aa .cell || outer.lookup y.1==aa .free) && names.lookup y.1==aa .free
theorem FvOk.of (h:Ey N' fv X.N X.env.scope.names scope.names=al):FvOk X N' scope fv:=by
 unfold Ey at h;rw[iS,ma] at h;obtain⟨h1,h2⟩:=h;refine⟨by simpa using h1,fun i j x e1 e2=>?_⟩;have hm:(x,aa j)∈N'.zip fv:=by refine u5.mpr ⟨i,?_⟩;rw[List.getElem?_zip_eq_some];exact⟨e1,e2⟩
 have:=h2 _ hm;simp only[iS,Ft,lW] at this;exact⟨this.1.1,this.1.2,this.2⟩
mutual
noncomputable def pdD:D->ao u6
 |.non=>aa .none
 |.bl b=>aa (.bool b)
 |.int i=>aa (.int i)
 |.str x=>aa (.str x)
 |.tup l=>(eL l).map RM
 |.lst l=>(eL l).map PyData.list
 |.scr ns=>aa (.list (ns.map oA))
 |_=>ac
noncomputable def eL:ab D->ao (ab u6)
 |[]=>aa []
 |d::r=>(pdD d).bind fun p=>(eL r).map (p::·)
end
theorem zT {h:Heap}:∀{ns:ab af} {us:ab av},bi (ns.map V.int) us->∃as,ReadsAll h us (ns.map oA) as
 |[],_,r=>by rw[qO] at r;cases r;exact⟨_,.nil⟩
 |n::ns,_,r=>by
  rw[qm] at r;cases r with
  |cons r1 r2=>
   obtain⟨t,e⟩:=r1;subst e;obtain⟨as,q⟩:=zT r2;exact⟨_,.cons (.int n t) q⟩
mutual
theorem Rep.reads (I:Inv X pins σ H s) (gh:bp G H):∀{v:V} {d:D} {u:av} {p:u6},Rep Γ X.K G v d->bO v u->pdD d=aa p->∃as,Reads s.heap u p as
 |_,_,u,p,.non,r,h=>by cases r;rw[pdD] at h;cases h;exact⟨_,.none⟩
 |_,_,u,p,.bl b,r,h=>by cases r;rw[pdD] at h;cases h;exact⟨_,.bool b⟩
 |_,_,u,p,.int i,r,h=>by obtain⟨t,rfl⟩:=r;rw[pdD] at h;cases h;exact⟨_,.int i t⟩
 |_,_,u,p,.str x,r,h=>by obtain⟨t,rfl⟩:=r;rw[pdD] at h;cases h;exact⟨_,.str x t⟩
 |_,_,u,p,.ty n,r,h=>by rw[pdD] at h;cases h;all_goals (intros;contradiction)
 |_,_,u,p,.tup ha rs,r,h=>by
  cases r;rw[pdD] at h;obtain⟨ps,hp,rfl⟩:=oMd h;obtain⟨its,rv,⟨o,e1,e2,n,e3⟩,_⟩:=I.tuple (.inl (.inl (gh _ _ ha)));obtain⟨as,q⟩:=Reps.reads I gh rs rv hp;exact⟨_,.tuple e1 e2 e3 (by simpa using q)⟩
 |_,_,u,p,.lst ha rs,r,h=>by
  cases r;rw[pdD] at h;obtain⟨ps,hp,rfl⟩:=oMd h;obtain⟨its,rv,⟨o,n,e1,e2,_,e3⟩,_⟩:=I.list (.inl (.inl (gh _ _ ha)));obtain⟨as,q⟩:=Reps.reads I gh rs rv hp;exact⟨_,.list e1 e2 e3 (by simpa using q)⟩
 |_,_,u,p,.scr hs,r,h=>by
  cases r;rw[pdD] at h;cases h;obtain⟨its,rv,⟨o,n,e1,e2,_,e3⟩,_⟩:=I.list (gh.seq hs);obtain⟨as,q⟩:=zT (h:=s.heap) rv;exact⟨_,.list e1 e2 e3 (by simpa using q)⟩
 |_,_,u,p,.dk ha _ _,r,h=>by rw[pdD] at h;cases h;all_goals (intros;contradiction)
 |_,_,u,p,.dt ha _ _,r,h=>by rw[pdD] at h;cases h;all_goals (intros;contradiction)
 |_,_,u,p,.ins ha _ _ _,r,h=>by rw[pdD] at h;cases h;all_goals (intros;contradiction)
theorem Reps.reads (I:Inv X pins σ H s) (gh:bp G H):∀{vs:ab V} {ds:ab D} {us:ab av} {ps:ab u6},Reps Γ X.K G vs ds->bi vs us->eL ds=aa ps->∃as,ReadsAll s.heap us ps as
 |_,_,_,_,.nil,r,h=>by cases r;rw[eL] at h;cases h;exact⟨_,.nil⟩
 |_,_,_,_,.cons r1 r2,r,h=>by
  cases r with
  |cons q1 q2=>
   rw[eL] at h;obtain⟨p,hp,h⟩:=oBd h;obtain⟨ps,hps,rfl⟩:=oMd h;obtain⟨as,a1⟩:=Rep.reads I gh r1 q1 hp;obtain⟨bs,a2⟩:=Reps.reads I gh r2 q2 hps;exact⟨_,.cons a1 a2⟩
end
section
variable {a:Expr}
noncomputable def eqX (x y:D):ao bq:=(pdD x).bind fun p=>(pdD y).bind fun q=>if dH p=al/\dH q=al then aa (eX p q) else ac
noncomputable def rn (x y:D):ao D:=(eqX x y).map D.bl
noncomputable def mB (x y:D):ao D:=(eqX x y).map fun b=>D.bl (!b)
noncomputable def rX (Γ:Cn) (K:aV) (neg:bq):R2:=fun x y H Q=>∃G d e b,bp G H/\Rep Γ K G x d/\Rep Γ K G y e/\eqX d e=aa b/\Q (.bl (if neg then !b else b)) H
theorem Az {x y:D} {b:bq} (h:eqX x y=aa b):∃p q,pdD x=aa p/\pdD y=aa q/\dH p=al/\dH q=al/\b=eX p q:=by
 unfold eqX at h;obtain⟨p,hp,h⟩:=oBd h;obtain⟨q,hq,h⟩:=oBd h;split at h
 .rename_i hz;cases h;exact⟨p,q,hp,hq,hz.1,hz.2,rfl⟩
 .cases h
theorem PF (hu:X.A.units+64<cT):OpR X (dX .Eq) (rX Γ X.K aq):=by intro pins s σ H x y v u Q I rx ry h;obtain⟨G,d,e,b,gh,r1,r2,hb,q⟩:=h;obtain⟨p,q',hp,hq,s1,s2,rfl⟩:=Az hb;obtain⟨as,a1⟩:=r1.reads I gh rx hp;obtain⟨bs,a2⟩:=r2.reads I gh ry hq;exact eq_dataH a1 a2 s1 s2 hu ⟨.bl _,H,I,rfl,q⟩
theorem NI (hu:X.A.units+64<cT):OpR X (dX .NotEq) (rX Γ X.K al):=by intro pins s σ H x y v u Q I rx ry h;obtain⟨G,d,e,b,gh,r1,r2,hb,q⟩:=h;obtain⟨p,q',hp,hq,s1,s2,rfl⟩:=Az hb;obtain⟨as,a1⟩:=r1.reads I gh rx hp;obtain⟨bs,a2⟩:=r2.reads I gh ry hq;exact ne_dataH a1 a2 s1 s2 hu ⟨.bl _,H,I,rfl,q⟩
theorem Hk (hu:X.A.units+64<cT):CmpD Γ X .Eq rn:=⟨_,PF (Γ:=Γ) hu,fun {G H v u x y z} gh r1 r2 h Q k=>by unfold rn at h;obtain⟨b,hb,rfl⟩:=oMd h;exact⟨G,x,y,b,gh,r1,r2,hb,k _ G H (.refl gh) (.bl _)⟩⟩
theorem Pa (hu:X.A.units+64<cT):CmpD Γ X .NotEq mB:=⟨_,NI (Γ:=Γ) hu,fun {G H v u x y z} gh r1 r2 h Q k=>by unfold mB at h;obtain⟨b,hb,rfl⟩:=oMd h;exact⟨G,x,y,b,gh,r1,r2,hb,k _ G H (.refl gh) (.bl _)⟩⟩
noncomputable def inX (x y:D):ao bq:=(pdD x).bind fun p=>(pdD y).bind fun q=>match q with
 |.list l=>if dH p=al/\fP l=al then aa (l.any fun z=>eX z p) else ac
 |_=>ac
noncomputable def jb (x y:D):ao D:=(inX x y).map D.bl
noncomputable def i8 (x y:D):ao D:=(inX x y).map fun b=>D.bl (!b)
noncomputable def AF (Γ:Cn) (K:aV) (neg:bq):R2:=fun x y H Q=>∃G d e b,bp G H/\Rep Γ K G x d/\Rep Γ K G y e/\inX d e=aa b/\Q (.bl (if neg then !b else b)) H
theorem C6 {x y:D} {b:bq} (h:inX x y=aa b):∃p l,pdD x=aa p/\pdD y=aa (.list l)/\dH p=al/\fP l=al/\b=l.any fun z=>eX z p:=by
 unfold inX at h;obtain⟨p,hp,h⟩:=oBd h;obtain⟨q,hq,h⟩:=oBd h;split at h
 .split at h
  .rename_i hz;cases h;exact⟨p,_,hp,hq,hz.1,hz.2,rfl⟩
  .cases h
 .cases h
theorem vL {p:u6} (h:dH p=al):p.canLay0=al/\p.depth<=64:=by unfold dH at h;rw[iS] at h;exact⟨h.1,zp h.2⟩
theorem KF (hu:X.A.units+66<cT):OpR X (dX .In) (AF Γ X.K aq):=by intro pins s σ H x y v u Q I rx ry h;obtain⟨G,d,e,b,gh,r1,r2,hb,q⟩:=h;obtain⟨p,l,hp,hq,s1,s2,rfl⟩:=C6 hb;obtain⟨as,a1⟩:=r1.reads I gh rx hp;obtain⟨bs,a2⟩:=r2.reads I gh ry hq;obtain⟨c1,c2⟩:=vL s1;have:=yS (jy l) p.depth;exact SeqAt.in_list_reads a2 a1 s2 c1 (by omega) ⟨.bl _,H,I,rfl,q⟩
theorem P3 (hu:X.A.units+66<cT):OpR X (dX .NotIn) (AF Γ X.K al):=by intro pins s σ H x y v u Q I rx ry h;obtain⟨G,d,e,b,gh,r1,r2,hb,q⟩:=h;obtain⟨p,l,hp,hq,s1,s2,rfl⟩:=C6 hb;obtain⟨as,a1⟩:=r1.reads I gh rx hp;obtain⟨bs,a2⟩:=r2.reads I gh ry hq;obtain⟨c1,c2⟩:=vL s1;have:=yS (jy l) p.depth;exact SeqAt.notIn_list_reads a2 a1 s2 c1 (by omega) ⟨.bl _,H,I,rfl,q⟩
theorem pU (hu:X.A.units+66<cT):CmpD Γ X .In jb:=⟨_,KF (Γ:=Γ) hu,fun {G H v u x y z} gh r1 r2 h Q k=>by unfold jb at h;obtain⟨b,hb,rfl⟩:=oMd h;exact⟨G,x,y,b,gh,r1,r2,hb,k _ G H (.refl gh) (.bl _)⟩⟩
theorem zS (hu:X.A.units+66<cT):CmpD Γ X .NotIn i8:=⟨_,P3 (Γ:=Γ) hu,fun {G H v u x y z} gh r1 r2 h Q k=>by unfold i8 at h;obtain⟨b,hb,rfl⟩:=oMd h;exact⟨G,x,y,b,gh,r1,r2,hb,k _ G H (.refl gh) (.bl _)⟩⟩
theorem dJ {k:ag} (hr:Room k X.A):X.A.units+66<cT:=by have:=hr.un;omega
theorem kT {k:ag} (hr:Room k X.A):X.A.units+64<cT:=by have:=hr.un;omega
noncomputable def my (d:D):bq:=match d with
 |.non=>al
 |_=>aq
noncomputable def isD (x y:D):ao D:=match y with
 |.non=>aa (.bl (my x))
 |_=>ac
noncomputable def nD (x y:D):ao D:=match y with
 |.non=>aa (.bl (!my x))
 |_=>ac
theorem z8 (r:Rep Γ K G v d):decide (v=.non)=my d:=by cases r<;>simp[my]
theorem N4:CmpD Γ X .Is isD:=⟨_,ND,fun {G H v u x y z} gh r1 r2 h Q k=>by unfold isD at h;split at h<;>cases h;exact⟨r2.non_inv,by rw[z8 r1];exact k _ G H (.refl gh) (.bl _)⟩⟩
theorem Db:CmpD Γ X .IsNot nD:=⟨_,HB,fun {G H v u x y z} gh r1 r2 h Q k=>by unfold nD at h;split at h<;>cases h;exact⟨r2.non_inv,by rw[z8 r1];exact k _ G H (.refl gh) (.bl _)⟩⟩
end
variable {fx:FE}
section
variable {a i:Expr}
noncomputable def bwT (i:ag) (ft:FT):FT:=fun ρ=>match ρ[i]? with
 |some (aa (.own ds))=>ft (ρ.set i (aa (.sh (.lst ds))))
 |_=>ac
theorem Step.back (gh:bp G H) (s1:bp G G1) (s:Step G1 H G' H'):Step G H G H':=⟨s.hh,.refl _,(s1.trans s.gg).trans s.gh,fun _ _ _=>rfl⟩
theorem Du (i:ag) (h:DT Γ X c ft):DT Γ X c (bwT i ft):=⟨h.1.imp fun σ H Q=>by
 rintro⟨G₀,H₀,G,ρ,b,A,h,k⟩;unfold bwT at h;split at h
 .rename_i ds hi;obtain⟨G1,sm,A1⟩:=A.freeze hi;exact⟨G₀,H₀,G1,_,b,A1,h,fun G' H' s=>k G H' (s.back A.gh sm)⟩
 .cases h⟩
noncomputable def nC (i:ag) (f:FE):FS:=fun ρ=>match ρ[i]? with
 |some (aa (.own ds))=>(f ρ).bind fun d=>match d with
  |.lst l=>if ds.length+l.length<=aM then aa (.nx,ρ.set i (aa (.own (ds++l)))) else ac
  |_=>ac
 |_=>ac
theorem MP (i:ag) (h:DE Γ X e f) (hN:X.N[i]?=aa x:=by rfl) (hv:Vis X.env.scope x:=by first|exact c6 rfl|exact cB (c6 rfl)|exact cB (cB rfl)) (hd:(x==("__debug__":ai))=aq:=by decide)
  (hcd:(x==("__classdict__":ai))=aq:=by decide)
  (hbase:iO (.Name x vp) "extend" X.env (eval (.Name x vp) X.env)=eval (.Name x vp) X.env:=by rfl)
  (hfew:((cz cpos (aS [e] X.env)).all (fun x=>!x.1) && (iP cpos (iQ [] X.env)).all (fun x=>x.1.isSome)
   && decide ([e].length+([]:ab jw).length+(if ([]:ab jw).isEmpty then 0 else 1)<30))=al:=by rfl)
  (hline:(apos.endLine==cpos.line)=al:=by rfl) (hs:aS [e] X.env=(aq,eval e X.env)::aS [] X.env:=by rfl) (hplain:(cz cpos (aS [] X.env)).any (·.1)=aq:=by rfl)
  (hsw:eW (.Call (.Attribute (.Name x vp) "extend" apos) [e] [] cpos) ac pos.line X.env=bm aq:=by rfl) :
  DS Γ X (.Expr (.Call (.Attribute (.Name x vp) "extend" apos) [e] [] cpos) pos) (nC i f):=⟨(p7 (pG uY Rw PySem.F.type_list_extend LP (iX hN hv hd hcd) (gR h.1 gI hs) hbase hfew hline hs hplain) hsw).imp fun E σ H=>by
  rintro⟨G₀,H₀,G,ρ,fl,ρ',A,h,k⟩;unfold nC at h;split at h
  .rename_i ds hi;obtain⟨d,hd,h⟩:=oBd h;split at h
   .rename_i l;split at h
    .rename_i hz;cases h;obtain⟨a,vs,h1,h2,h3,h4,h5⟩:=A.env.own i ds hi;refine⟨.ref a,h1,.inl ⟨rfl,vs,.inl (.inl h4)⟩,G₀,H₀,G,ρ,_,A,hd,fun v G1 H1 s1 r1=>?_⟩;have A1:=A.step s1;obtain⟨b,us,rfl,hb,rb⟩:=r1.lst_inv;refine⟨a,b,vs,us,rfl,rfl,s1.hh _ _ h4,s1.gh _ _ hb,by rw[h5.length,rb.length];exact hz,?_⟩;exact k σ G1 _ s1.gg (A1.chOwn hi h1 ((h5.mono s1.gg).append rb))
    .cases h
   .cases h
  .cases h⟩
noncomputable def tp:ab D->ao D
 |[.int i]=>aa (.int i)
 |[.bl k]=>aa (.int (if k then 1 else 0))
 |_=>ac
theorem JJ:TyD Γ X "int" tp:=⟨_,M7,fun {G H vs ds z} gh r h Q k=>by
 unfold tp at h;split at h<;>cases h
 .obtain⟨v,rfl,r1⟩:=r.one;cases r1.int_inv;exact .inl ⟨_,rfl,k _ G H (.refl gh) (.int _)⟩
 .obtain⟨v,rfl,r1⟩:=r.one;cases r1.bl_inv;exact .inr ⟨_,rfl,k _ G H (.refl gh) (.int _)⟩⟩
noncomputable def xl:ab D->ao D
 |[.lst l]=>aa (.tup l)
 |[.tup l]=>aa (.tup l)
 |_=>ac
theorem QQ:TyD Γ X "tuple" xl:=⟨_,B1,fun {G H vs ds z} gh r h Q k=>by
 unfold xl at h;split at h<;>cases h
 .obtain⟨v,rfl,r1⟩:=r.one;obtain⟨a,us,rfl,ha,ra⟩:=r1.lst_inv;exact⟨a,us,rfl,.inl ⟨.inl (.inl (gh _ _ ha)),sW gh ra k⟩⟩
 .obtain⟨v,rfl,r1⟩:=r.one;obtain⟨a,us,rfl,ha,ra⟩:=r1.tup_inv;exact⟨a,us,rfl,.inr ⟨.inl (.inl (gh _ _ ha)),k _ G H (.refl gh) (.tup ha ra)⟩⟩⟩
noncomputable def sV:ab D->ao D
 |[.lst l]=>aa (.lst l)
 |[.tup l]=>aa (.lst l)
 |[.scr l]=>aa (.lst (l.map D.int))
 |_=>ac
theorem Hb:TyD Γ X "list" sV:=⟨_,IQ,fun {G H vs ds z} gh r h Q k=>by
 unfold sV at h;split at h<;>cases h
 .obtain⟨v,rfl,r1⟩:=r.one;obtain⟨a,us,rfl,ha,ra⟩:=r1.lst_inv;exact⟨a,us,rfl,.inl (.inl (.inl (gh _ _ ha))),iI gh ra k⟩
 .obtain⟨v,rfl,r1⟩:=r.one;obtain⟨a,us,rfl,ha,ra⟩:=r1.tup_inv;exact⟨a,us,rfl,.inr (.inl (.inl (gh _ _ ha))),iI gh ra k⟩
 .obtain⟨v,rfl,r1⟩:=r.one;obtain⟨a,rfl,ha⟩:=r1.scr_inv;exact⟨a,_,rfl,.inl (gh.seq ha),iI gh (Reps.ints _) k⟩⟩
noncomputable def lI [fC κ] (kvs:ab (κ×α)) (k:κ):ao α:=(kvs.find? fun kv=>decide (kv.1=k)).map (·.2)
noncomputable def iq [fC κ] (kvs:ab (κ×α)) (k:κ) (v:α):ab (κ×α):=
 if (kvs.any fun kv=>decide (kv.1=k))=al then kvs.map (fun kv=>if kv.1=k then (kv.1,v) else kv) else kvs++[(k,v)]
theorem yA {κ:Type} [fC κ] {K:aV} {G:Hp} {k:κ}:∀{us:ab (κ×V)} {kvs:ab (κ×D)},us.map (·.1)=kvs.map (·.1)->Reps Γ K G (us.map (·.2)) (kvs.map (·.2))->
  (lI kvs k=ac/\gr us k=ac)\/∃d v,lI kvs k=aa d/\gr us k=aa v/\Rep Γ K G v d
 |[],[],_,_=>.inl ⟨rfl,rfl⟩
 |[],_::_,e,_=>by cases e
 |_::_,[],e,_=>by cases e
 |(k1,v)::us,(k2,d)::kvs,e,r=>by
  have e1:k1=k2:=(jx e).1;have e2:us.map (·.1)=kvs.map (·.1):=(jx e).2;subst e1;have r:Reps Γ K G (v::us.map (·.2)) (d::kvs.map (·.2)):=r;cases r with
  |cons r1 r2=>
   by_cases h:k1=k
   .exact .inr ⟨d,v,by simp[lI,nh,h],ti h,r1⟩
   .have:=yA (k:=k) e2 r2;rw[sj (p:=(k1,v)) h];simpa[lI,nh,h] using this
theorem C7 {κ:Type} [fC κ] {k:κ} {α β:Type}:∀{us:ab (κ×α)} {kvs:ab (κ×β)},us.map (·.1)=kvs.map (·.1)->(us.any fun kv=>decide (kv.1=k))=(kvs.any fun kv=>decide (kv.1=k))
 |[],[],_=>rfl
 |[],_::_,e=>by cases e
 |_::_,[],e=>by cases e
 |(k1,v)::us,(k2,d)::kvs,e=>by have e1:k1=k2:=(jx e).1;subst e1;rw[ni,ni,C7 (us:=us) (kvs:=kvs) (jx e).2]
theorem BQ {κ:Type} [fC κ] {K:aV} {G:Hp} {k:κ} {v:V} {d:D} (rv:Rep Γ K G v d):∀{us:ab (κ×V)} {kvs:ab (κ×D)},us.map (·.1)=kvs.map (·.1)->Reps Γ K G (us.map (·.2)) (kvs.map (·.2))->
  (us.map fun kv=>if kv.1=k then (kv.1,v) else kv).map (·.1)=(kvs.map fun kv=>if kv.1=k then (kv.1,d) else kv).map (·.1)/\Reps Γ K G ((us.map fun kv=>if kv.1=k then (kv.1,v) else kv).map (·.2)) ((kvs.map fun kv=>if kv.1=k then (kv.1,d) else kv).map (·.2))
 |[],[],_,_=>⟨rfl,.nil⟩
 |[],_::_,e,_=>by cases e
 |_::_,[],e,_=>by cases e
 |(k1,u)::us,(k2,x)::kvs,e,r=>by
  have e1:k1=k2:=(jx e).1;have e2:us.map (·.1)=kvs.map (·.1):=(jx e).2;subst e1;have r:Reps Γ K G (u::us.map (·.2)) (x::kvs.map (·.2)):=r;cases r with
  |cons r1 r2=>
   obtain⟨h1,h2⟩:=BQ (k:=k) rv e2 r2;by_cases h:k1=k
   .subst h;simp only[qm,cy];exact⟨by rw[h1],.cons rv h2⟩
   .simp only[qm,qZ h];exact⟨by rw[h1],.cons r1 h2⟩
theorem DV [fC κ] {k:κ} (rv:Rep Γ K G v d) {us:ab (κ×V)} {kvs:ab (κ×D)} (e:us.map (·.1)=kvs.map (·.1)) (r:Reps Γ K G (us.map (·.2)) (kvs.map (·.2))) :
  (c9 us k v).map (·.1)=(iq kvs k d).map (·.1)/\Reps Γ K G ((c9 us k v).map (·.2)) ((iq kvs k d).map (·.2)):=by
 unfold c9 iq;rw[C7 (k:=k) e];split
 .exact BQ rv e r
 .simp only[dZ,qm,qO];exact⟨by rw[e],r.append (.cons rv .nil)⟩
noncomputable def jP:D->ao Key
 |.int i=>aa (.inl i)
 |.str x=>aa (.inr x)
 |_=>ac
noncomputable def ia:ab D->ao (ab Key)
 |[]=>aa []
 |d::r=>(jP d).bind fun k=>(ia r).map (k::·)
theorem uB {k:Key} (r:Rep Γ K G v d) (h:jP d=aa k):v=kV k:=by
 unfold jP at h;split at h<;>cases h
 .exact r.int_inv
 .exact r.str_inv
theorem nU {K:aV} {G:Hp}:∀{vs:ab V} {ds:ab D} {ks:ab Key},Reps Γ K G vs ds->ia ds=aa ks->vs=ks.map kV
 |_,[],ks,r,h=>by cases r;cases h;rfl
 |_,d::ds,ks,.cons h1 h2,h=>by unfold ia at h;obtain⟨k,hk,h⟩:=oBd h;obtain⟨zs,hz,rfl⟩:=oMd h;rw[uB h1 hk,nU h2 hz];rfl
noncomputable def wO (d k:D):ao (ao D):=match d,k with
 |.dk l,k=>(jP k).map (lI l)
 |.dt l,.tup t=>(ia t).map (lI l)
 |_,_=>ac
theorem GD {y:V} {k:D} {r:ao D} (gh:bp G H) (rv:Rep Γ K G v d) (ry:Rep Γ K G y k) (h:wO d k=aa r) :
  ∃a o,v=.ref a/\jf H a y o/\((r=ac/\o=ac)\/∃w z,r=aa z/\o=aa w/\Rep Γ K G w z):=by
 unfold wO at h;split at h
 .obtain⟨kk,hk,rfl⟩:=oMd h;cases rv with
  |dk h1 h2 h3=>
   have ey:=uB ry hk;subst ey;refine⟨_,_,rfl,jf.k (gh _ _ h1),?_⟩;rcases yA (k:=kk) h2 h3 with⟨q1,q2⟩|⟨z,w,q1,q2,q3⟩
   .exact .inl ⟨q1,q2⟩
   .exact .inr ⟨w,z,q1,q2,q3⟩
 .obtain⟨kk,hk,rfl⟩:=oMd h;cases rv with
  |dt h1 h2 h3=>
   obtain⟨b,ys,rfl,hb,rb⟩:=ry.tup_inv;have ey:=nU rb hk;subst ey;refine⟨_,_,rfl,jf.t (gh _ _ h1) (gh _ _ hb),?_⟩;rcases yA (k:=kk) h2 h3 with⟨q1,q2⟩|⟨z,w,q1,q2,q3⟩
   .exact .inl ⟨q1,q2⟩
   .exact .inr ⟨w,z,q1,q2,q3⟩
 .cases h
noncomputable def gQ (d k:D):ao D:=(wO d k).bind id
theorem kN (hu:X.A.units+66<cT) (ho:DE Γ X o fo) (hi:DE Γ X i fi') (hs:sE i:=by intro _ _;rfl):DE Γ X (.Subscript o i pos) (b2 gQ fo fi'):=⟨(CI (by omega) ho.1 hi.1 hs).imp fun σ H Q=>by
 rintro⟨G₀,H₀,G,ρ,d,A,h,k⟩;unfold b2 at h;obtain⟨x,hx,h⟩:=oBd h;obtain⟨y,hy,h⟩:=oBd h;refine⟨G₀,H₀,G,ρ,x,A,hx,fun v G1 H1 s1 r1=>⟨G₀,H₀,G1,ρ,y,A.step s1,hy,fun u G2 H2 s2 r2=>?_⟩⟩;unfold gQ at h;obtain⟨r,hr,h⟩:=oBd h;obtain⟨a,ov,rfl,hg,hc⟩:=GD s2.gh (r1.mono s2.gg) r2 hr;rcases hc with⟨rfl,_⟩|⟨w,z,rfl,rfl,rw'⟩
 .cases h
 .cases h;exact⟨a,w,rfl,hg,k w G2 H2 (s1.trans s2) rw'⟩⟩
noncomputable def b3 (g:D->D->D->ao D) (fa fb fc:FE):FE:=fun ρ=>(fa ρ).bind fun x=>(fb ρ).bind fun y=>(fc ρ).bind fun z=>g x y z
noncomputable def sNo:FS:=fun _=>ac
theorem sB :DS Γ X st sNo:=⟨fun pins s σ H E I q=>by obtain⟨G₀,H₀,G,ρ,fl,ρ',A,h,k⟩:=q;cases h⟩
end
structure CF (Γ:Cn) (K:aV) (c:ai) (attrs:ab ai):Prop where
 ex:∃C,Γ.cls c=aa C/\Cls K C/\∀f∈attrs,lG K C f
variable {attrs:ab ai} {dp:dF}
section
variable {a i:Expr} {fv:FE} {cl fl n:ai}
theorem ka {K:aV} {G:Hp} {k:ai}:∀{us:ab (ai×V)} {fs:ab (ai×D)},us.map (·.1)=fs.map (·.1)->Reps Γ K G (us.map (·.2)) (fs.map (·.2))->
  (fs.lookup k=ac/\us.lookup k=ac)\/∃d v,fs.lookup k=aa d/\us.lookup k=aa v/\Rep Γ K G v d
 |[],[],_,_=>.inl ⟨rfl,rfl⟩
 |[],_::_,e,_=>by cases e
 |_::_,[],e,_=>by cases e
 |(k1,v)::us,(k2,d)::fs,e,r=>by
  have e1:k1=k2:=(jx e).1;have e2:us.map (·.1)=fs.map (·.1):=(jx e).2;subst e1;have r:Reps Γ K G (v::us.map (·.2)) (d::fs.map (·.2)):=r;cases r with
  |cons r1 r2=>
   by_cases h:k=k1
   .subst h;exact .inr ⟨d,v,by simp[dw],by simp[dw],r1⟩
   .have hb:(k==k1)=aq:=by simpa using h
    have:=ka (k:=k) e2 r2;simpa[dw,hb] using this
theorem xP {f:ai} {v:V}:∀{fs:ab (ai×V)},fs.lookup f=ac->fm f v fs=fs++[(f,v)]
 |[],_=>rfl
 |(g,x)::r,h=>by
  by_cases e:f=g
  .subst e;simp[dw] at h
  .have hb:(f==g)=aq:=by simpa using e
   rw[fm,qZ (fun z=>e z.symm),xP (by simpa[dw,hb] using h)];rfl
noncomputable def CK (c f:ai):D->ao D
 |.ins c' fs=>if c'=c then fs.lookup f else ac
 |_=>ac
noncomputable def fL (c f:ai) (fo:FE):FE:=fun ρ=>(fo ρ).bind (CK c f)
theorem ii (hc:CF Γ X.K cl attrs) (hf:fl∈attrs) (ho:DE Γ X o fo) (hb:iO o fl X.env (eval o X.env)=eval o X.env:=by rfl):DE Γ X (.Attribute o fl pos) (fL cl fl fo):=⟨(wk ho.1 hb).imp fun σ H Q=>by
 rintro⟨G₀,H₀,G,ρ,d,A,h,k⟩;unfold fL at h;obtain⟨x,hx,hq⟩:=oBd h;clear h;refine⟨G₀,H₀,G,ρ,x,A,hx,fun v G1 H1 s1 r1=>?_⟩;unfold CK at hq;split at hq
 .split at hq
  .rename_i ec;subst ec;obtain⟨C,q1,q2,q3⟩:=hc.ex;cases r1 with
   |ins h1 h2 h3 h4=>
    rw[q1] at h2;cases h2;rcases ka (k:=fl) h3 h4 with⟨z1,_⟩|⟨d',v',z1,z2,z3⟩
    .rw[z1] at hq;cases hq
    .rw[z1] at hq;cases hq;exact⟨_,C,_,_,v',rfl,s1.gh _ _ h1,q2,q3 fl hf,z2,k v' G1 H1 s1 z3⟩
  .cases hq
 .cases hq⟩
noncomputable def Bb (f:ai):Slot->ao D
 |.obj _ fs=>fs.lookup f
 |.objd _ fs n _=>if f=n then ac else fs.lookup f
 |_=>ac
noncomputable def QI:Slot->ao ai
 |.obj c _=>aa c
 |.objd c _ _ _=>aa c
 |_=>ac
noncomputable def kc (c f:ai) (i:ag):FE:=fun ρ=>match ρ[i]? with
 |some (aa s)=>if QI s=aa c then Bb f s else ac
 |_=>ac
theorem Hg {vs:ab (ai×V)} {f:ai} {w:V} (h:vs.lookup f=aa v):(vs++[(n,w)]).lookup f=aa v:=by
 induction vs with
 |nil=>cases h
 |cons p r ih=>
  obtain⟨g,x⟩:=p;by_cases e:f=g
  .subst e;simpa[dw] using h
  .have hb:(f==g)=aq:=by simpa using e
   simp only[qp,dw,hb] at h ⊢;exact ih h
theorem tO (i:ag) (hc:CF Γ X.K cl attrs) (hf:fl∈attrs) (hN:X.N[i]?=aa x:=by rfl) (hv:Vis X.env.scope x:=by first|exact c6 rfl|exact cB (c6 rfl)|exact cB (cB rfl)) (hd:(x==("__debug__":ai))=aq:=by decide)
  (hcd:(x==("__classdict__":ai))=aq:=by decide) (hb:iO (.Name x vp) fl X.env (eval (.Name x vp) X.env)=eval (.Name x vp) X.env:=by rfl):DE Γ X (.Attribute (.Name x vp) fl pos) (kc cl fl i):=⟨(wk (iX hN hv hd hcd) hb).imp fun σ H Q=>by
 rintro⟨G₀,H₀,G,ρ,d,A,h,k⟩;unfold kc at h;split at h
 .rename_i s hi;split at h
  .rename_i hcl;obtain⟨C,q1,q2,q3⟩:=hc.ex;obtain⟨v,fp,h1,h2⟩:=A.get hi;cases h2 with
   |sh _=>cases h
   |own _ _ _ _=>cases h
   |odk _ _ _ _ _=>cases h
   |odt _ _ _ _ _=>cases h
   |tlo _ _ _ _ _ _=>cases h
   |oll _ _ _ _ _=>cases h
   |odl _ _ _ _ _ _=>cases h
   |pin _=>cases h
   |nsh _ _=>cases h
   |obj g1 g2 g3 g4 g5 g6 g7=>
    cases hcl;rw[q1] at g1;cases g1;have h:dw fl _=aa d:=h;rcases ka (k:=fl) g5 g6 with⟨z1,_⟩|⟨d',v',z1,z2,z3⟩
    .rw[z1] at h;cases h
    .rw[z1] at h;cases h;exact⟨_,h1,_,C,_,_,v',rfl,g4,q2,q3 fl hf,z2,k v' G H (.refl A.gh) z3⟩
   |objd g1 g2 g3 g4 g5 g6 _ _ _ _ _ g7=>
    cases hcl;rw[q1] at g1;cases g1;unfold Bb at h;simp only at h;split at h
    .cases h
    .rcases ka (k:=fl) g5 g6 with⟨z1,_⟩|⟨d',v',z1,z2,z3⟩
     .rw[z1] at h;cases h
     .rw[z1] at h;cases h;exact⟨_,h1,_,C,_,_,v',rfl,g4,q2,q3 fl hf,Hg z2,k v' G H (.refl A.gh) z3⟩
  .cases h
 .cases h⟩
noncomputable def gT (c f:ai) (i:ag) (fv:FE):FS:=fun ρ=>(fv ρ).bind fun d=>match ρ[i]? with
 |some (aa (.obj c' fs))=>if c'=c/\fs.lookup f=ac/\fs.length<100 then aa (.nx,ρ.set i (aa (.obj c (fs++[(f,d)])))) else ac
 |_=>ac
theorem jV (i:ag) (hc:CF Γ X.K cl attrs) (hf:fl∈attrs) (hv':DE Γ X value fv) (hN:X.N[i]?=aa x:=by rfl) (hv:Vis X.env.scope x:=by first|exact c6 rfl|exact cB (c6 rfl)|exact cB (cB rfl)) (hd:(x==("__debug__":ai))=aq:=by decide)
  (hcd:(x==("__classdict__":ai))=aq:=by decide) (hs:eW value (aa (.Attribute (.Name x vp) fl pos')) pos.line X.env=bm aq:=by rfl):DS Γ X (.Assign [.Attribute (.Name x vp) fl pos'] value pos) (gT cl fl i fv):=⟨(Bg (iX hN hv hd hcd) hv'.1 hs).imp fun E σ H=>by
 rintro⟨G₀,H₀,G,ρ,flw,ρ',A,h,k⟩;unfold gT at h;obtain⟨d,hd,h⟩:=oBd h;split at h
 .rename_i c' fs hi;split at h
  .rename_i hz;obtain⟨rfl,hz2,hz3⟩:=hz;cases h;obtain⟨C,q1,q2,q3⟩:=hc.ex;refine⟨G₀,H₀,G,ρ,d,A,hd,fun v G1 H1 s1 r1=>?_⟩;have A1:=A.step s1;obtain⟨w,fp,h1,h2⟩:=A1.get hi;cases h2 with
   |obj g1 g2 g3 g4 g5 g6 g7=>
    rename_i a C' dx vs;have g1':=g1;rw[q1] at g1;cases g1;have hl:vs.lookup fl=ac:=by
     rcases ka (k:=fl) g5 g6 with⟨_,z2⟩|⟨d',v',z1,_,_⟩
     .exact z2
     .rw[z1] at hz2;cases hz2
    have hlen:vs.length=fs.length:=by simpa using df fF g5
    refine⟨_,h1,a,C,dx,vs,rfl,g4,q2,q3 fl hf,by omega,?_⟩;rw[xP hl];refine k σ G1 _ s1.gg (A1.ch hi h1 (.obj g1' g2 g3 g4 g5 g6 g7) (fun b o e hb=>?_) (.obj (vs:=vs++[(fl,v)]) g1' g2 g3 bV (by simp[g5]) (by simpa using g6.append (.cons r1 .nil)) g7) (fun b hb=>.inl hb) (.refl _) (fun b o e=>?_) (fun _ _ _ _=>rfl))
    .rw[aW (fun z=>hb (bY.mpr z))];exact e
    .rw[aW (ca e g3)];exact A1.gh b o e
  .cases h
 .cases h⟩
noncomputable def nS (c f:ai) (i:ag):FS:=fun ρ=>match ρ[i]? with
 |some (aa (.obj c' fs))=>if c'=c/\fs.lookup f=ac/\fs.length<100 then aa (.nx,ρ.set i (aa (.objd c fs f []))) else ac
 |_=>ac
theorem M3 (i:ag) (hc:CF Γ X.K cl attrs) (hf:fl∈attrs) (hN:X.N[i]?=aa x:=by rfl) (hv:Vis X.env.scope x:=by first|exact c6 rfl|exact cB (c6 rfl)|exact cB (cB rfl)) (hd:(x==("__debug__":ai))=aq:=by decide)
  (hcd:(x==("__classdict__":ai))=aq:=by decide) (hs:eW (.Dict [] [] dp) (aa (.Attribute (.Name x vp) fl pos')) pos.line X.env=bm aq:=by rfl):DS Γ X (.Assign [.Attribute (.Name x vp) fl pos'] (.Dict [] [] dp) pos) (nS cl fl i):=⟨(Bg (iX hN hv hd hcd) K0 hs).imp fun E σ H=>by
 rintro⟨G₀,H₀,G,ρ,flw,ρ',A,h,k⟩ p hp;unfold nS at h;split at h
 .rename_i c' fs hi;split at h
  .rename_i hz;obtain⟨rfl,hz2,hz3⟩:=hz;cases h;obtain⟨C,q1,q2,q3⟩:=hc.ex;obtain⟨w,fp,h1,h2⟩:=A.get hi;cases h2 with
   |obj g1 g2 g3 g4 g5 g6 g7=>
    rename_i a C' dx vs;have g1':=g1;rw[q1] at g1;cases g1;have hl:vs.lookup fl=ac:=by
     rcases ka (k:=fl) g5 g6 with⟨_,z2⟩|⟨d',v',z1,_,_⟩
     .exact z2
     .rw[z1] at hz2;cases hz2
    have hlen:vs.length=fs.length:=by simpa using df fF g5
    have npa:a≠p:=ca g4 hp;refine⟨_,h1,a,C,dx,vs,rfl,by rw[aW npa];exact g4,q2,q3 fl hf,by omega,?_⟩;rw[xP hl];have hp0:H₀ p=ac:=A.st.hh.free hp;have hpg:G p=ac:=A.gh.free hp;refine k σ G _ (.refl _) (A.ch hi h1 (.obj g1' g2 g3 g4 g5 g6 g7) (fun b o e hb=>?_) (.objd (vs:=vs) (p:=p) (us:=[]) (kvs:=[]) g1' g2 g3 bV g5 g6 hp0 hpg (by rw[aW npa.symm,bV]) rfl .nil g7) (fun b hb=>?_) (.refl _) (fun b o e=>?_) (fun _ _ _ _=>rfl))
    .rw[aW (fun z=>hb (bY.mpr z)),aW (ca e hp)];exact e
    .rcases cG.mp hb with rfl|hb
     .exact .inl (bY.mpr rfl)
     .rw[bY.mp hb];exact .inr hp
    .rw[aW (ca e g3),aW (ca e hpg)];exact A.gh b o e
  .cases h
 .cases h⟩
noncomputable def jL (c f:ai) (i:ag) (fk fv:FE):FS:=fun ρ=>(fv ρ).bind fun d=>(fk ρ).bind fun kd=>(jP kd).bind fun k=>match ρ[i]? with
 |some (aa (.objd c' fs n kvs))=>if c'=c/\n=f/\fs.lookup f=ac/\kvs.length<100000 then aa (.nx,ρ.set i (aa (.objd c fs n (iq kvs k d)))) else ac
 |_=>ac
theorem Pw {vs:ab (ai×V)} {f:ai} {w:V} (h:vs.lookup f=ac):(vs++[(f,w)]).lookup f=aa w:=by
 induction vs with
 |nil=>simp[dw]
 |cons p r ih=>
  obtain⟨g,x⟩:=p;by_cases e:f=g
  .subst e;simp[dw] at h
  .have hb:(f==g)=aq:=by simpa using e
   simp only[qp,dw,hb] at h ⊢;exact ih h
theorem J9 (i:ag) (hu:X.A.units+66<cT) (hc:CF Γ X.K cl attrs) (hf:fl∈attrs) {ap:dF} {ke:Expr} (hk:DE Γ X ke fk) (hv':DE Γ X value fv) (hN:X.N[i]?=aa x:=by rfl) (hv:Vis X.env.scope x:=by first|exact c6 rfl|exact cB (c6 rfl)|exact cB (cB rfl)) (hd:(x==("__debug__":ai))=aq:=by decide)
  (hcd:(x==("__classdict__":ai))=aq:=by decide) (hb:iO (.Name x vp) fl X.env (eval (.Name x vp) X.env)=eval (.Name x vp) X.env:=by rfl) (hs:eW value (aa (.Subscript (.Attribute (.Name x vp) fl ap) ke pos')) pos.line X.env=bm aq:=by rfl) :
  DS Γ X (.Assign [.Subscript (.Attribute (.Name x vp) fl ap) ke pos'] value pos) (jL cl fl i fk fv):=⟨(GJ (by omega) (wk (iX hN hv hd hcd) hb) hk.1 hv'.1 hs).imp fun E σ H=>by
 rintro⟨G₀,H₀,G,ρ,flw,ρ',A,h,k⟩;unfold jL at h;obtain⟨d,hd,ha⟩:=oBd h;clear h;obtain⟨kd,hkd,hb1⟩:=oBd ha;clear ha;obtain⟨kk,hkk,hq⟩:=oBd hb1;clear hb1;split at hq
 .rename_i c' fs n kvs hi;split at hq
  .rename_i hz;obtain⟨rfl,rfl,hz2,hz3⟩:=hz;cases hq;obtain⟨C,q1,q2,q3⟩:=hc.ex;refine⟨G₀,H₀,G,ρ,d,A,hd,fun v G1 H1 s1 r1=>?_⟩;have A1:=A.step s1;obtain⟨w,fp,h1,h2⟩:=A1.get hi;cases h2 with
   |objd g1 g2 g3 g4 g5 g6 y1 y2 y3 y4 y5 g7=>
    rename_i a C' dx p vs us;have g1':=g1;rw[q1] at g1;cases g1;have hl:vs.lookup n=ac:=by
     rcases ka (k:=n) g5 g6 with⟨_,z2⟩|⟨d',v',z1,_,_⟩
     .exact z2
     .rw[z1] at hz2;cases hz2
    refine⟨_,h1,a,C,dx,_,.ref p,rfl,g4,q2,q3 n hf,Pw hl,G₀,H₀,G1,ρ,kd,A1,hkd,fun u G2 H2 s2 r2=>?_⟩;have A2:=A1.step s2;have eu:=uB r2 hkk;subst eu;have hp2:H2 p=aa (.dK us):=s2.hh _ _ y3;have ha2:H2 a=aa (.ins C dx (vs++[(n,.ref p)])):=s2.hh _ _ g4;have ga2:G2 a=ac:=(s2.out _ _ g4).trans g3;have gp2:G2 p=ac:=(s2.out _ _ y3).trans y2;have npa:a≠p:=xN ha2 hp2 (by intro z;cases z);have hlen:us.length=kvs.length:=by simpa using df fF y4
    obtain⟨w1,w2⟩:=DV (k:=kk) (r1.mono s2.gg) y4 (y5.mono s2.gg);refine⟨p,_,rfl,pH.k hp2 (by have:=fE;omega),?_⟩;refine k σ G2 _ (s1.gg.trans s2.gg) (A2.ch hi h1 (.objd g1' g2 ga2 ha2 g5 (g6.mono s2.gg) y1 gp2 hp2 y4 (y5.mono s2.gg) g7) (fun b o e hb=>?_) (.objd (p:=p) g1' g2 ga2 (by rw[aW npa];exact ha2) g5 (g6.mono s2.gg) y1 gp2 bV w1 w2 g7) (fun b hb=>.inl hb) (.refl _) (fun b o e=>?_) (fun _ _ _ _=>rfl))
    .rw[aW (fun z=>hb (by rw[z];exact qg _ qf))];exact e
    .rw[aW (ca e gp2)];exact A2.gh b o e
  .cases hq
 .cases hq⟩
noncomputable def Ao:Slot->ao D
 |.obj c fs=>aa (.ins c fs)
 |.objd c fs n kvs=>aa (.ins c (fs++[(n,.dk kvs)]))
 |_=>ac
theorem At.done (A:At Γ K G₀ H₀ G H ρ σ) {i:ag} {s:Slot} (hi:ρ[i]?=aa (aa s)) (hd:Ao s=aa d):∃a G',Γ.self=aa a/\Step G₀ H₀ G' H/\Rep Γ K G' (.ref a) d:=by
 obtain⟨v,fp,h1,h2⟩:=A.get hi;cases h2 with
 |sh _=>cases hd
 |own _ _ _ _=>cases hd
 |odk _ _ _ _ _=>cases hd
 |odt _ _ _ _ _=>cases hd
 |tlo _ _ _ _ _ _=>cases hd
 |oll _ _ _ _ _=>cases hd
 |odl _ _ _ _ _ _=>cases hd
 |pin _=>cases hd
 |nsh _ _=>cases hd
 |obj g1 g2 g3 g4 g5 g6 g7=>
  cases hd;rename_i a C dx vs fs;have sm:bp G (upd G a (.ins C dx vs)):=fun b o e=>by rw[aW (ca e g3)];exact e
  refine⟨a,upd G a (.ins C dx vs),g7,⟨A.st.hh,A.st.gg.trans sm,fun b o e=>?_,fun b o e=>?_⟩,.ins bV g1 g5 (g6.mono sm)⟩
  .by_cases hb:b=a
   .subst hb;rw[bV] at e;cases e;exact g4
   .rw[aW hb] at e;exact A.gh b o e
  .rw[aW (ca e g2)];exact A.st.out b o e
 |objd g1 g2 g3 g4 g5 g6 y1 y2 y3 y4 y5 g7=>
  cases hd;rename_i n a C dx p vs fs us kvs;have npa:a≠p:=xN g4 y3 (by intro z;cases z);have sm:bp G (upd (upd G p (.dK us)) a (.ins C dx (vs++[(n,.ref p)]))):=fun b o e=>by rw[aW (ca e g3),aW (ca e y2)];exact e
  refine⟨a,_,g7,⟨A.st.hh,A.st.gg.trans sm,fun b o e=>?_,fun b o e=>?_⟩,.ins (us:=vs++[(n,.ref p)]) (fs:=fs++[(n,.dk kvs)]) bV g1 (by simp[g5]) ?_⟩
  .by_cases hb:b=a
   .subst hb;rw[bV] at e;cases e;exact g4
   .rw[aW hb] at e;by_cases hb':b=p
    .subst hb';rw[bV] at e;cases e;exact y3
    .rw[aW hb'] at e;exact A.gh b o e
  .rw[aW (ca e g2),aW (ca e y1)];exact A.st.out b o e
  .have r2:Rep Γ K (upd (upd G p (.dK us)) a (.ins C dx (vs++[(n,.ref p)]))) (.ref p) (.dk kvs):=.dk (us:=us) (by rw[aW npa.symm,bV]) y4 (y5.mono sm);simpa using(g6.mono sm).append (.cons r2 .nil)
end
noncomputable def Cn.mk1 (Γ:Cn) (x:aw):Cn:=⟨Γ.cls,aa x⟩
section
variable {c:ai} {x:aw}
theorem Rep.to1 (x:aw) (r:Rep Γ K G v d):Rep (Γ.mk1 x) K G v d:=Rep.re (Γ:=Γ) (Γ':=Γ.mk1 x) rfl r
theorem Rep.of1 (r:Rep (Γ.mk1 x) K G v d):Rep Γ K G v d:=Rep.re (Γ:=Γ.mk1 x) (Γ':=Γ) rfl r
theorem Reps.of1 {v:ab V} {d:ab D} (r:Reps (Γ.mk1 x) K G v d):Reps Γ K G v d:=Reps.re (Γ:=Γ.mk1 x) (Γ':=Γ) rfl r
theorem CF.re (h:CF Γ K c attrs) (x:aw):CF (Γ.mk1 x) K c attrs:=⟨h.ex⟩
theorem MN {Q:VK} {E:XK} (x:aw) (h:spF (Γ.mk1 x) K n F vs H Q E):spF Γ K n F vs H Q E:=by obtain⟨G,ds,d,h1,h2,h3,h4,k⟩:=h;exact⟨G,ds,d,h1,h2.of1,h3,h4,fun v G' H' s r=>k v G' H' s (r.to1 x)⟩
theorem Cal.re {k:ag} (C:Cal Γ P w K mg base y n k F) (x:aw):Cal (Γ.mk1 x) P w K mg base y n k F:=by obtain⟨f,fd,ps,h1,h2,h3,h4⟩:=C.ex;exact⟨f,fd,ps,h1.imp fun vs H Q E q=>MN x q,h2,h3,h4⟩
structure CalM (Γ:Cn) (P:dS) (w:cQ) (K:aV) (mg:ai->ao av) (base:Heap) (c m:ai) (n k:ag) (F:ab D->ao D):Prop where
 ex:∃C f fd ps,Γ.cls c=aa C/\Cls K C/\Meth K C m f/\FnOk P w K mg base CX0 k f fd ps (spF Γ K n F)/\gj K fd ps []
noncomputable def spI (Γ:Cn) (K:aV) (C:aw) (n:ag) (F:ab D->ao D):Sp:=fun vs H Q _=>∃x dx H1 G ds d us,vs=.ref x::us/\H=upd (upd H1 dx (.own x)) x (.ins C dx [])/\H1 x=ac/\H1 dx=ac/\dx≠x/\bp G H1/\Reps Γ K G us ds/\ds.length=n/\F ds=aa d /\
 ∀G' H',Step G H1 G' H'->Rep Γ K G' (.ref x) d->Q .non H'
structure CalI (Γ:Cn) (P:dS) (w:cQ) (K:aV) (mg:ai->ao av) (base:Heap) (c:ai) (n k:ag) (F:ab D->ao D):Prop where
 ex:∃C f fd ps,Γ.cls c=aa C/\Mk K C f/\mg c=aa (.ref C)/\FnOk P w K mg base CX0 k f fd ps (spI Γ K C n F)/\gj K fd ps []
end
section
variable {c:ai}
noncomputable def dE (c m:ai) (F:ab D->ao D) (fo:FE) (fr:FA):FE:=fun ρ=>(fo ρ).bind fun d=>match d with
 |.ins c' fs=>if c'=c/\fs.lookup m=ac then (fr ρ).bind fun ds=>F (d::ds) else ac
 |_=>ac
theorem Tg {k:ag} (C:CalM Γ X.prog X.w X.K X.mg X.base c m (n+1) k F) (hr:Room j X.A) (hk:k<=j) (ho:DE Γ X o fo) (ha:DA Γ X (e::es) fr) (hn:∀ρ ds,fr ρ=aa ds->ds.length=n)
  (hst:aS (e::es) X.env=(aq,eval e X.env)::aS es X.env:=by rfl) (hpl:(cz pos (aS es X.env)).any (·.1)=aq:=by rfl)
  (ht:eval (.Call (.Attribute o m apos) (e::es) [] pos) X.env=(do
   let ov ←eval o X.env
   mY apos.atName
   let (f,first) ←jt [ov] (m4 ov m pl)
   ou pos f first (cz pos (aS (e::es) X.env)) (iP pos (iQ [] X.env))):=by rfl) :
  DE Γ X (.Call (.Attribute o m apos) (e::es) [] pos) (dE c m F fo fr):=⟨by
 obtain⟨Ca,f,fd,ps,h0,h1,h2,h3,h4⟩:=C.ex;refine(GP ho.1 h1 h2 h3 (hr.mono hk) h4 .nil nN ha.1 hst hpl ht).imp fun σ H Q=>?_;rintro⟨G₀,H₀,G,ρ,d,A,h,k⟩;unfold dE at h;obtain⟨x,hx,hq⟩:=oBd h;clear h;refine⟨G₀,H₀,G,ρ,x,A,hx,fun v G1 H1 s1 r1=>?_⟩;split at hq
 .rename_i c' fs;split at hq
  .rename_i hz;obtain⟨rfl,hz2⟩:=hz;obtain⟨ds,hds,hF⟩:=oBd hq;have r1':=r1;cases r1 with
   |ins g1 g2 g3 g4=>
    rw[h0] at g2;cases g2;rename_i _ _ us0;have hl:dw m us0=ac:=by
     rcases ka (k:=m) g3 g4 with⟨_,z2⟩|⟨d',v',z1,_,_⟩
     .exact z2
     .rw[z1] at hz2;cases hz2
    refine⟨_,_,_,rfl,s1.gh _ _ g1,hl,G₀,H₀,G1,ρ,ds,A.step s1,hds,fun vs G2 H2 s2 r2=>?_⟩;show spF Γ X.K (n+1) F (_::(vs++[])) H2 Q E0;rw[iR];exact⟨G2,_,d,s2.gh,.cons (r1'.mono s2.gg) r2,by rw[qh,hn ρ ds hds],hF,fun v G' H' s r=>k v G' H' ((s1.trans s2).trans s) r⟩
  .cases hq
 .cases hq⟩
theorem lJ {k:ag} (C:CalM Γ X.prog X.w X.K X.mg X.base c m 1 k F) (hr:Room j X.A) (hk:k<=j) (ho:DE Γ X o fo)
  (ht:eval (.Call (.Attribute o m apos) [] [] pos) X.env=(do
   let ov ←eval o X.env
   mY apos.atName
   let (f,first) ←jt [ov] (m4 ov m pl)
   ou pos f first (cz pos (aS [] X.env)) (iP pos (iQ [] X.env))):=by rfl) :
  DE Γ X (.Call (.Attribute o m apos) [] [] pos) (dE c m F fo ak):=⟨by
 obtain⟨Ca,f,fd,ps,h0,h1,h2,h3,h4⟩:=C.ex;refine(AG ho.1 h1 h2 h3 (hr.mono hk) h4 .nil nN ht).imp fun σ H Q=>?_;rintro⟨G₀,H₀,G,ρ,d,A,h,k⟩;unfold dE at h;obtain⟨x,hx,hq⟩:=oBd h;clear h;refine⟨G₀,H₀,G,ρ,x,A,hx,fun v G1 H1 s1 r1=>?_⟩;split at hq
 .rename_i c' fs;split at hq
  .rename_i hz;obtain⟨rfl,hz2⟩:=hz;obtain⟨ds,hds,hF⟩:=oBd hq;cases hds;have r1':=r1;cases r1 with
   |ins g1 g2 g3 g4=>
    rw[h0] at g2;cases g2;rename_i _ _ us0;have hl:dw m us0=ac:=by
     rcases ka (k:=m) g3 g4 with⟨_,z2⟩|⟨d',v',z1,_,_⟩
     .exact z2
     .rw[z1] at hz2;cases hz2
    refine⟨_,_,_,rfl,s1.gh _ _ g1,hl,?_⟩;exact⟨G1,_,d,s1.gh,.cons r1' .nil,rfl,hF,fun v G' H' s r=>k v G' H' (s1.trans s) r⟩
  .cases hq
 .cases hq⟩
theorem KD {k:ag} (C:CalI Γ X.prog X.w X.K X.mg X.base c n k F) (hr:Room j X.A) (hk:k+1<=j) (hg:Gl X c) (ha:DA Γ X (e::es) fr) (hn:∀ρ ds,fr ρ=aa ds->ds.length=n)
  (hdb:(c==("__debug__":ai))=aq:=by decide) (he:aS (e::es) X.env=(aq,eval e X.env)::aS es X.env:=by rfl) (hpl:(cz pos (aS es X.env)).any (·.1)=aq:=by rfl) :
  DE Γ X (.Call (.Name c p) (e::es) [] pos) (cF F fr):=⟨by
 obtain⟨Ca,f,fd,ps,h0,h1,h2,h3,h4⟩:=C.ex;refine(Oy h1 h3 (hr.mono hk) hg h2 h4 .nil nN ha.1 hdb he hpl).imp fun σ H Q=>?_;rintro⟨G₀,H₀,G,ρ,d,A,h,k⟩;unfold cF at h;obtain⟨ds,hd,hq⟩:=oBd h;refine⟨G₀,H₀,G,ρ,ds,A,hd,fun vs G1 H1 s1 r1 x dx hx hdx hne=>?_⟩;rw[iR];exact⟨x,dx,H1,G1,ds,d,vs,rfl,rfl,hx,hdx,hne,s1.gh,r1,hn ρ ds hd,hq,fun G' H' s r=>⟨rfl,k _ G' H' (s1.trans s) r⟩⟩⟩
end
noncomputable def nR (n:ag) (c:ai) (g:FS):ab D->ao D:=fun ds=>(g (aa (.obj c [])::ds.map (fun d=>aa (Slot.sh d))++bQ n ac)).bind fun r=>match r.1 with
 |.nx=>match r.2[0]? with
  |some (aa s)=>Ao s
  |_=>ac
 |_=>ac
variable {s0:ai}
section
variable {c:ai}
theorem Fun.okI {f:aw} {k:ag} (F:Fun K x qual st f fd) (S:FnScope N (s0::ps) (aO st)) (hC:Γ.cls c=aa C)
  (hbody:∀(y:aw) (cdv:av) (A:dL) (outer:ab cS) (s:aI) (H:Hp) (E:XK),Room k (A.deeper (eC qual (aO st) s.heap.objs.size f cdv))->
   DSs (Γ.mk1 y) (gz CX0 P w K mg base N qual (aO st) f cdv A outer s H E).nox (dq st) g):FnOk P w K mg base CX0 (k+1) f fd (s0::ps) (spI Γ K C ps.length (nR (N.length-(ps.length+1)) c g)):=by
 refine F.ok S (fun vs H Q E h=>?_) (fun cdv A outer s H vs Q E hr h=>?_)
 .obtain⟨y,dx,H1,G,ds,d,us,rfl,_,_,_,_,_,r,hl,_⟩:=h;rw[qh,r.length,hl,qh]
 .obtain⟨y,dx,H1,G,ds,d,us,rfl,rfl,hx,hdx,hne,gh,r,hl,hd,k⟩:=h;refine⟨_,(hbody y cdv A outer s _ E hr).1,?_⟩;unfold nR at hd;obtain⟨⟨fl,ρ'⟩,hg,hd⟩:=oBd hd;have s1:=Step.newOwn (o:=.own y) gh hdx;have hx1:(upd H1 dx (.own y)) y=ac:=by rw[aW (dM hne)];exact hx
  have s2:=s1.trans (Step.newOwn (o:=.ins C dx []) s1.gh hx1);have hlen:us.length=ds.length:=r.length;have A0:At (Γ.mk1 y) K G H1 G (upd (upd H1 dx (.own y)) y (.ins C dx [])) (aa (.obj c [])::ds.map (fun d=>aa (Slot.sh d))++bQ (N.length-(ps.length+1)) ac) (gH N (.ref y::us)):=by
   refine⟨s2,by simp[gH,hlen,hl],fun i=>if i=0 then [y] else [],fun i t e=>?_,fun i j t u hij e1 e2 b hb=>?_⟩
   .cases i with
    |zero=>
     cases e;exact⟨.ref y,rfl,.obj (vs:=[]) (fs:=[]) hC hx (gh.free hx) bV rfl .nil rfl⟩
    |succ i=>
     have e:(ds.map (fun d=>aa (Slot.sh d))++bQ (N.length-(ps.length+1)) ac)[i]?=aa (aa t):=e;by_cases hi:i<ds.length
     .rw[qz (by simpa using hi),qj] at e;obtain⟨d',hd',e⟩:=oMd e;cases e;obtain⟨v,hv,rv⟩:=r.get hd';refine⟨v,?_,.sh (rv.to1 y)⟩;unfold gH;show((us.map aa)++_)[i]?=aa (aa v);rw[qz (by rw[qe,hlen];exact hi),qj,hv];rfl
     .rw[qK (by simpa using hi),yR] at e;split at e<;>cases e
   .have hb:b∈(if i=0 then [y] else []):=hb;show b∉(if j=0 then [y] else []);by_cases hi:i=0
    .subst hi;rw[qZ (dM hij)];exact fun z=>by cases z
    .rw[qZ hi] at hb;cases hb
  refine⟨G,H1,G,_,fl,ρ',A0,hg,fun σ' G' H' sm A'=>?_⟩;cases fl with
  |nx=>
   simp only at hd;split at hd
   .rename_i sl hs;obtain⟨a,G2,e1,st2,rp⟩:=A'.done hs hd;cases e1;exact k G2 H' st2 rp.of1
   .cases hd
  |rt d'=>cases hd
  |ow d'=>cases hd
  |nw d'=>cases hd
  |od d'=>cases hd
  |bk=>cases hd
  |ct=>cases hd
structure DfnM (K:aV) (C:aw) (c m qual:ai) (st:Stmt):Prop where
 ex:∃f fd,Fun K m qual st f fd/\dv K (.ref C) m=aa (aa (.ref f))/\uL K (.ref f)=al
structure ClsOk (Γ:Cn) (K:aV) (mg:ai->ao av) (c:ai) (C:aw):Prop where
 cn:Γ.cls c=aa C
 cl:Cls K C
 mgC:mg c=aa (.ref C)
 makes:yK K C=al
 kp:iN K (.ref C)=al
theorem DfnM.cal {k:ag} (O:ClsOk Γ K mg c C) (F:DfnM K C c m qual st) (S:FnScope N ps (aO st))
  (hb:∀(kV doc pm:av) (an:ao aw) (cdv ct:av) (us:ab av),us.length=ps.length->jv (ge m qual (gx st) (dq st) (aO st) .none kV doc pm an cdv ct) ⟨us,[]⟩=bm (ps.zip us))
  (hbody:∀(f:aw) (cdv:av) (A:dL) (outer:ab cS) (s:aI) (H:Hp) (E:XK),Room k (A.deeper (eC qual (aO st) s.heap.objs.size f cdv))->
   DSs Γ (gz CX0 P w K mg base N qual (aO st) f cdv A outer s H E).nox (dq st) g):CalM Γ P w K mg base c m ps.length (k+1) (aZ (N.length-ps.length) g):=by
 obtain⟨f,fd,h1,h2,h3⟩:=F.ex;exact⟨C,f,fd,ps,O.cn,O.cl,⟨h2,h3,h1.kp⟩,h1.okD S (hbody f),h1.binds hb⟩
theorem DfnM.calI {k:ag} (O:ClsOk Γ K mg c C) (F:DfnM K C c "__init__" qual st) (S:FnScope N (s0::ps) (aO st))
  (hb:∀(kV doc pm:av) (an:ao aw) (cdv ct:av) (us:ab av),us.length=(s0::ps).length->jv (ge "__init__" qual (gx st) (dq st) (aO st) .none kV doc pm an cdv ct) ⟨us,[]⟩=bm ((s0::ps).zip us))
  (hbody:∀(f y:aw) (cdv:av) (A:dL) (outer:ab cS) (s:aI) (H:Hp) (E:XK),Room k (A.deeper (eC qual (aO st) s.heap.objs.size f cdv))->
   DSs (Γ.mk1 y) (gz CX0 P w K mg base N qual (aO st) f cdv A outer s H E).nox (dq st) g):CalI Γ P w K mg base c ps.length (k+1) (nR (N.length-(ps.length+1)) c g):=by
 obtain⟨f,fd,h1,h2,h3⟩:=F.ex;exact⟨C,f,fd,s0::ps,O.cn,⟨O.makes,h2,h3,O.kp⟩,O.mgC,h1.okI S O.cn (hbody f),h1.binds hb⟩
theorem ClsOk.cf (O:ClsOk Γ K mg c C) (h:∀f∈attrs,lG K C f):CF Γ K c attrs:=⟨C,O.cn,O.cl,h⟩
end
variable {M n0 ep:ag} {h:af} {owner:b8 (ao ag)} {I:aw} {wr:ab aw} {hashAt:ag->af} {h0:Heap} {es':b8 (af×av)}
namespace ST
structure Pr where
 j:ag
 more:ag
 i:ag
 pt:ag
noncomputable def adv (M:ag) (p:Pr):Pr:=if p.more > 0 then {p with j:=p.j+1,more:=p.more-1} else
 {j:=(jz M p.i p.pt).1,more:=dh M (jz M p.i p.pt).1-(jz M p.i p.pt).1,i:=(jz M p.i p.pt).1,pt:=(jz M p.i p.pt).2}
noncomputable def st0 (M:ag) (h:af):Pr:={j:=fQ h%(M+1),more:=dh M (fQ h%(M+1))-fQ h%(M+1),i:=fQ h%(M+1),pt:=fQ h}
noncomputable def it (M:ag) (h:af):ag->Pr
 |0=>st0 M h
 |n+1=>adv M (it M h n)
noncomputable def J (M:ag) (h:af) (n:ag):ag:=(it M h n).j
noncomputable def lp (M:ag) (h:af):ag->ag×ag
 |0=>(fQ h%(M+1),fQ h)
 |r+1=>jz M (lp M h r).1 (lp M h r).2
noncomputable def mr (M:ag) (x:ag×ag):Pr:={j:=x.1,more:=dh M x.1-x.1,i:=x.1,pt:=x.2}
theorem ux (M:ag) (h:af) (n:ag):∀k,it M h (n+k)=(Nat.repeat (adv M) k (it M h n))
 |0=>rfl
 |k+1=>by rw[←Fz,it,ux M h n k];rfl
theorem NT (M i:ag):dh M i-i<=9:=by unfold dh;split<;>omega
theorem tN (M:ag):∀(k:ag) (p:Pr),k<=p.more->Nat.repeat (adv M) k p={p with j:=p.j+k,more:=p.more-k}
 |0,p,_=>rfl
 |k+1,p,h=>by rw[Nat.repeat,tN M k p (by omega)];unfold adv;rw[qY (by show p.more-k > 0;omega)];simp only[Nat.sub_sub,Fz]
theorem Ad (M:ag) (h:af):∀r,∃n,n<=10*r/\it M h n=mr M (lp M h r)
 |0=>⟨0,qv _,rfl⟩
 |r+1=>by obtain⟨n,hn,e⟩:=Ad M h r;have hl:=NT M (lp M h r).1;refine⟨n+(dh M (lp M h r).1-(lp M h r).1)+1,by omega,?_⟩;have e2:=tN M (dh M (lp M h r).1-(lp M h r).1) (mr M (lp M h r)) (qv _);rw[it,ux,e,e2];unfold adv;rw[qZ (by show ¬((dh M (lp M h r).1-(lp M h r).1)-(dh M (lp M h r).1-(lp M h r).1) > 0);omega)];rfl
theorem MD (h:af):fQ h<2 ^ 64:=by unfold fQ;have h1:=qX h (show(2 ^ 64:af)≠0 by decide);have h2:=qV h (show(0:af)<2 ^ 64 by decide);omega
theorem CO (M:ag) (h:af):∀r,(lp M h r).2=fQ h / 32 ^ r
 |0=>by simp[lp]
 |r+1=>by show(lp M h r).2 / 32=_;rw[CO M h r,Nat.div_div_eq_div_mul,Nat.pow_succ]
theorem KN (M:ag) (h:af) {r:ag} (hr:13<=r):(lp M h r).2=0:=by rw[CO];refine u7 (qF (MD h) ?_);exact qM (show 2 ^ 64<=32 ^ 13 by decide) (Nat.pow_le_pow_right (by decide) hr)
noncomputable def fl (M i:ag):ag:=(i*5+1)%(M+1)
noncomputable def orb (M:ag):ag->ag->ag
 |0,i=>i
 |m+1,i=>fl M (orb M m i)
theorem v9 (M:ag) (h:af):∀m,(lp M h (13+m)).1=orb M m (lp M h 13).1
 |0=>rfl
 |m+1=>by show(jz M (lp M h (13+m)).1 (lp M h (13+m)).2).1=_;rw[KN M h (by omega),v9 M h m];simp[jz,orb,fl]
theorem uq (M i:ag) (a:ag):∀b,orb M (a+b) i=orb M b (orb M a i)
 |0=>rfl
 |b+1=>by rw[←Fz,orb,uq M i a b];rfl
noncomputable def xD (M:ag):ag->ag->ab ag
 |0,_=>[]
 |n+1,i=>i::xD M n (fl M i)
theorem A9 (M:ag):∀m i,orb M (m+1) i=orb M m (fl M i)
 |0,_=>rfl
 |m+1,i=>by rw[orb,A9 M m i];rfl
theorem Bf (M:ag):∀(n i j:ag),j∈xD M n i->∃m,m<n/\orb M m i=j
 |0,_,_,h=>nomatch h
 |n+1,i,j,h=>by
  rcases cG.mp h with e|h
  .exact⟨0,zq _,e.symm⟩
  .obtain⟨m,hm,e⟩:=Bf M n (fl M i) j h;exact⟨m+1,by omega,by rw[A9];exact e⟩
structure Full (M:ag):Prop where
 all:∀j,j<=M->∃m,m<M+1/\orb M m 0=j
 back:orb M (M+1) 0=0
noncomputable def chk (M:ag):bq:=(bj (M+1)).all (fun j=>(xD M (M+1) 0).contains j) && orb M (M+1) 0==0
theorem sv (h:chk M=al):Full M:=by unfold chk at h;rw[iS,ma] at h;refine⟨fun j hj=>?_,by simpa using h.2⟩;have:=h.1 j (dU.mpr (by omega));exact Bf M (M+1) 0 j (by simpa using this)
theorem DC:Full 7:=sv (by decide +kernel)
theorem Lv:Full 31:=sv (by decide +kernel)
theorem Lr:Full 127:=sv (by decide +kernel)
theorem Lp:Full 511:=sv (by decide +kernel)
theorem Full.reach (F:Full M) (hi:i<=M) (hj:j<=M):∃m,m<=M/\orb M m i=j:=by
 obtain⟨a,ha,ea⟩:=F.all i hi;obtain⟨b,hb,eb⟩:=F.all j hj;by_cases h:a<=b
 .refine⟨b-a,by omega,?_⟩;rw[←ea,←uq,show a+(b-a)=b by omega,eb]
 .refine⟨M+1-a+b,by omega,?_⟩;rw[←ea,←uq,show a+(M+1-a+b)=(M+1)+b by omega,uq,F.back,eb]
theorem vS (M:ag) (h:af):∀r,(lp M h r).1<=M
 |0=>FB.mp (iV _ (zq _))
 |r+1=>FB.mp (iV _ (zq _))
theorem Full.covers (F:Full M) (h:af) (hj:j<=M):∃n,n<10*(M+15)/\J M h n=j:=by obtain⟨m,hm,e⟩:=F.reach (vS M h 13) hj;obtain⟨n,hn,en⟩:=Ad M h (13+m);refine⟨n,by omega,?_⟩;unfold J;rw[en];show(lp M h (13+m)).1=j;rw[v9,e]
theorem B2 (M:ag) (h:af):∀n,(it M h n).j+(it M h n).more<=M
 |0=>by
  have:=vS M h 0;show(lp M h 0).1+(dh M (lp M h 0).1-(lp M h 0).1)<=M;unfold dh;split<;>omega
 |n+1=>by
  have ih:=B2 M h n;rw[it];unfold adv;split
  .show(it M h n).j+1+((it M h n).more-1)<=M;omega
  .show(jz M (it M h n).i (it M h n).pt).1+(dh M (jz M (it M h n).i (it M h n).pt).1-(jz M (it M h n).i (it M h n).pt).1)<=M;have:(jz M (it M h n).i (it M h n).pt).1<=M:=FB.mp (iV _ (zq _));unfold dh;split<;>omega
theorem we (M:ag) (h:af) (n:ag):J M h n<=M:=qM (u8 _ _) (B2 M h n)
theorem Full.first (F:Full M) (h:af) (occ:ag->bq) (hf:∃j,j<=M/\occ j=aq):∃n,n<10*(M+15)/\occ (J M h n)=aq/\∀m,m<n->occ (J M h m)=al:=by
 obtain⟨j,hj,hof⟩:=hf;obtain⟨n,hn,e⟩:=F.covers h hj;have key:∀n,n<10*(M+15)->occ (J M h n)=aq->∃n,n<10*(M+15)/\occ (J M h n)=aq/\∀m,m<n->occ (J M h m)=al:=by
  intro n
  induction n using RN with
  |ind n ih=>
   intro hn ho;by_cases hx:∃m,m<n/\occ (J M h m)=aq
   .obtain⟨m,hm,hm2⟩:=hx;exact ih m hm (by omega) hm2
   .refine⟨n,hn,ho,fun m hm=>?_⟩;cases q:occ (J M h m) with
    |true=>rfl
    |false=>exact bN ⟨m,hm,q⟩ hx
 exact key n hn (by rw[e];exact hof)
theorem vz (xs:b8 ag) (j:ag) (hs:xs.toList.Pairwise (· < ·)):∀(fuel lo hi:ag),hi-lo<=fuel->lo<=hi->hi<=xs.size->(∀i,i<lo->∀v,xs[i]?=aa v->v<j)->(∀i,hi<=i->∀v,xs[i]?=aa v->j<=v)->
  (zr xs j fuel lo hi<=xs.size)/\(∀i,i<zr xs j fuel lo hi->∀v,xs[i]?=aa v->v<j)/\∀i,zr xs j fuel lo hi<=i->∀v,xs[i]?=aa v->j<=v
 |0,lo,hi,hf,hl,hh,h1,h2=>by
  have e:lo=hi:=by omega
  subst e;exact⟨hh,h1,h2⟩
 |fuel+1,lo,hi,hf,hl,hh,h1,h2=>by
  have mono:∀a b va vb,a<b->xs[a]?=aa va->xs[b]?=aa vb->va<vb:=fun a b va vb hab ha hb=>by have:=FC.mp hs a b;obtain⟨a1,a2⟩:=iU.mp ha;obtain⟨b1,b2⟩:=iU.mp hb;have q:=this (by simpa using a1) (by simpa using b1) hab;simpa[a2,b2] using q
  unfold zr;by_cases hlt:lo<hi
  .rw[qY hlt];have hm1:lo<=(lo+hi) / 2:=by omega
   have hm2:(lo+hi) / 2<hi:=by omega
   have hget:∃v,xs[(lo+hi) / 2]?=aa v:=⟨xs[(lo+hi) / 2]'(by omega),by simp[show(lo+hi) / 2<xs.size by omega]⟩;obtain⟨v,hv⟩:=hget;have hd:xs.getD ((lo+hi) / 2) j=v:=by simp[zt,hv]
   dsimp only;rw[hd];by_cases hvj:v<j
   .rw[qY hvj];refine vz xs j hs fuel _ _ (by omega) (by omega) hh (fun i hi' w hw=>?_) h2;rcases lg i ((lo+hi) / 2) with hi2|hi2
    .exact rP (mono i _ w v hi2 hw hv) hvj
    .have e:i=(lo+hi) / 2:=by omega
     subst e;rw[hv] at hw;cases hw;exact hvj
   .rw[qZ hvj];refine vz xs j hs fuel _ _ (by omega) (by omega) (by omega) h1 fun i hi' w hw=>?_;rcases lg ((lo+hi) / 2) i with hi2|hi2
    .exact qM (by omega) (rC (mono _ i v w hi2 hv hw))
    .have e:i=(lo+hi) / 2:=by omega
     subst e;rw[hv] at hw;cases hw;omega
  .rw[qZ hlt];have e:lo=hi:=by omega
   subst e;exact⟨hh,h1,h2⟩
theorem xY (xs:b8 ag) (j:ag) (hs:xs.toList.Pairwise (· < ·)):cI xs j<=xs.size/\(∀i,i<cI xs j->∀v,xs[i]?=aa v->v<j)/\∀i,cI xs j<=i->∀v,xs[i]?=aa v->j<=v:=
 vz xs j hs xs.size 0 xs.size (qv _) (gd _) (qv _) (fun i h=>bN h (FD _)) fun i h v hv=>by have:=(iU.mp hv).1;omega
theorem yh (xs:b8 ag) (j i:ag) (hs:xs.toList.Pairwise (· < ·)) (h:xs[i]?=aa j):cI xs j=i:=by
 obtain⟨h0,h1,h2⟩:=xY xs j hs;rcases RO (cI xs j) i with hl|hl|hl
 .have hi:=(iU.mp h).1;have hg:xs[cI xs j]?=aa (xs[cI xs j]'(by omega)):=by simp[show cI xs j<xs.size by omega]
  have q1:=h2 _ (qv _) _ hg;have:=FC.mp hs (cI xs j) i (by simp;omega) (by simpa using hi) hl;obtain⟨_,e⟩:=iU.mp h;simp only[Array.getElem_toList] at this;omega
 .exact hl
 .have:=h1 i hl j h;omega
structure Tb (t:md) (es:b8 (af×av)):Prop where
 full:Full t.mask
 sz:t.place.size=es.size
 dm:t.dummies=#[]
 ri:t.place.toList.Pairwise (· < ·)
 le:∀j∈t.place.toList,j<=t.mask
 few:es.size*5<t.mask*3
 rc:∀(i j:ag) (h:af) (x:av),t.place[i]?=aa j->es[i]?=aa (h,x)->∃n,J t.mask h n=j/\∀m,m<n->J t.mask h m∈t.place.toList
section
variable {t:md} {es:b8 (af×av)}
theorem Tb.live (T:Tb t es) (h:t.place[i]?=aa j):t.slot j=.live i:=by unfold RP;rw[yh _ _ _ T.ri h];simp[h]
theorem Tb.empty (T:Tb t es) (h:j∉t.place.toList):t.slot j=.empty:=by
 unfold RP;have h1:t.place[cI t.place j]?≠aa j:=fun e=>h (by rw[←qI] at e;exact qP e)
 have h2:FF t.dummies j=aq:=by rw[T.dm];rfl
 simp[h1,h2]
theorem Tb.occ (T:Tb t es) (h:j∈t.place.toList):∃i:ag,t.place[i]?=aa j:=by obtain⟨i,hi⟩:=u5.mp h;exact⟨i,by rw[←qI];exact hi⟩
theorem Tb.fits (T:Tb t es):t.fits es.size=al:=by have h1:=T.sz;have h2:=T.few;simp only[FH,RQ,T.dm,Array.size_empty,iS,lW,u9];omega
theorem pD:∀(a b:ab ag),a.Nodup->(∀x∈a,x∈b)->a.length<=b.length
 |[],_,_,_=>gd _
 |x::r,b,nd,h=>by have hx:=h x qf;have nd':=dG.mp nd;have:=pD r (b.erase x) nd'.2 fun y hy=>(List.mem_erase_of_ne (show y≠x from fun e=>nd'.1 (by rw[←e];exact hy))).mpr (h y (qg _ hy));have hl:=List.length_erase_of_mem hx;have hp:0<b.length:=List.length_pos_of_mem hx;rw[qh];omega
theorem Tb.free (T:Tb t es):∃j,j<=t.mask/\decide (j∈t.place.toList)=aq:=by
 by_cases hx:∃j,j<=t.mask/\j∉t.place.toList
 .obtain⟨j,h1,h2⟩:=hx;exact⟨j,h1,qN h2⟩
 .exfalso;have all:∀j,j<=t.mask->j∈t.place.toList:=fun j hj=>Classical.byContradiction fun hn=>hx ⟨j,hj,hn⟩;have h1:=pD (bj (t.mask+1)) t.place.toList zu fun j hj=>all j (by have:=dU.mp hj;omega);have h2:=T.sz;have h3:=T.few;simp only[qU,iu] at h1;omega
theorem Tb.first (T:Tb t es) (h:af):∃n,n<10*(t.mask+15)/\J t.mask h n∉t.place.toList/\∀m,m<n->J t.mask h m∈t.place.toList:=by obtain⟨n,h1,h2,h3⟩:=T.full.first h (fun j=>decide (j∈t.place.toList)) T.free;exact⟨n,h1,of_decide_eq_false h2,fun m hm=>zp (h3 m hm)⟩
noncomputable def ij (p:Pr):zv:={j:=p.j,more:=p.more,i:=p.i,perturb:=p.pt,dummy:=ac}
theorem AT (t:md) (p:Pr):t.advance (ij p)=ij (adv t.mask p):=by
 unfold SetTable.advance adv ij;by_cases h:p.more > 0
 .simp only[h,cy]
 .simp only[h,cW]
theorem Tb.probe_go (T:Tb t es) (hashAt:ag->af) (h:af) {n0:ag} (hf:J t.mask h n0∉t.place.toList) (ho:∀m,m<n0->J t.mask h m∈t.place.toList):∀(fuel n:ag),n<=n0->n0<n+fuel->
  (∃n' i,n<=n'/\n'<n0/\t.place[i]?=aa (J t.mask h n')/\hashAt i=h/\(∀m i,n<=m->m<n'->t.place[i]?=aa (J t.mask h m)->hashAt i≠h)/\FI t hashAt h fuel (ij (it t.mask h n))=aa (.candidate (J t.mask h n') i (ij (it t.mask h (n'+1))))) \/
  ((∀m i,n<=m->m<n0->t.place[i]?=aa (J t.mask h m)->hashAt i≠h)/\FI t hashAt h fuel (ij (it t.mask h n))=aa (.empty (J t.mask h n0) ac))
 |0,n,h1,h2=>by omega
 |fuel+1,n,h1,h2=>by
  unfold FI;by_cases hn:n=n0
  .subst hn
   right
   refine⟨fun m i a b=>by omega,?_⟩;have hs:t.slot (ij (it t.mask h n)).j=.empty:=T.empty hf;rw[hs];rfl
  .obtain⟨i,hi⟩:=T.occ (ho n (by omega));have hs:t.slot (ij (it t.mask h n)).j=.live i:=T.live hi;rw[hs];dsimp only;by_cases hh:hashAt i=h
   .left
    refine⟨n,i,qv _,by omega,hi,hh,fun m i a b=>by omega,?_⟩;rw[qY (by simpa using hh),AT];rfl
   .rw[qZ (by simpa using hh),AT];have inj:∀i',t.place[i']?=aa (J t.mask h n)->i'=i:=fun i' h'=>by rw[←yh _ _ _ T.ri h',←yh _ _ _ T.ri hi]
    have ext:∀{b:ag},(∀m i,n+1<=m->m<b->t.place[i]?=aa (J t.mask h m)->hashAt i≠h)->∀m i,n<=m->m<b->t.place[i]?=aa (J t.mask h m)->hashAt i≠h:=fun {b} q m i' a c d=>by
     by_cases e:m=n
     .subst e;rw[inj i' d];exact hh
     .exact q m i' (by omega) c d
    rcases T.probe_go hashAt h hf ho fuel (n+1) (by omega) (by omega) with⟨n',i',a,b,c,d,e,f⟩|⟨e,f⟩
    .exact .inl ⟨n',i',by omega,b,c,d,ext e,f⟩
    .exact .inr ⟨ext e,f⟩
theorem oW (xs:b8 α) (p:ag) (x:α) (hp:p<=xs.size):(di xs p x).toList=xs.toList.take p++x::xs.toList.drop p:=by unfold di;simp[Array.toList_extract,List.extract_eq_take_drop];exact km (by simp)
theorem D2 (l:ab α) (p:ag) (x:α) (hp:p<=l.length) (i:ag):(l.take p++x::l.drop p)[i]?=if i<p then l[i]? else if i=p then aa x else l[i-1]?:=by
 by_cases h1:i<p
 .rw[qY h1,qz (by rw[qE];omega),uP h1]
 .rw[qZ h1,qK (by rw[qE];omega),qE,ko hp];by_cases h2:i=p
  .rw[qY h2,h2];simp
  .rw[qZ h2];obtain⟨k,hk⟩:∃k,i-p=k+1:=⟨i-p-1,by omega⟩;rw[hk,qc,vc]
   congr 1
   omega
theorem wd (l:ab α) (p:ag) (x y:α):y∈l.take p++x::l.drop p↔y=x\/y∈l:=by
 rw[cL,qL];constructor
 .rintro(h|h|h)
  .exact .inr (oB h)
  .exact .inl h
  .exact .inr (List.mem_of_mem_drop h)
 .rintro(h|h)
  .exact .inr (.inl h)
  .have:y∈l.take p++l.drop p:=by rw[FJ];exact h
   rcases cL.mp this with h|h
   .exact .inl h
   .exact .inr (.inr h)
theorem Tb.put (T:Tb t es) {x:av} (hf:J t.mask h n0∉t.place.toList) (ho:∀m,m<n0->J t.mask h m∈t.place.toList) (few:(es.size+1)*5<t.mask*3) (pl:bq) :
  Tb { (t.put (J t.mask h n0)).1 with plain:=pl} (di es (t.put (J t.mask h n0)).2 (h,x)):=by
 obtain⟨b0,b1,b2⟩:=xY t.place (J t.mask h n0) T.ri;have bes:cI t.place (J t.mask h n0)<=es.size:=by rw[←T.sz];exact b0
 have pl1:(di t.place (cI t.place (J t.mask h n0)) (J t.mask h n0)).toList=t.place.toList.take (cI t.place (J t.mask h n0))++J t.mask h n0::t.place.toList.drop (cI t.place (J t.mask h n0)):=oW _ _ _ b0;have el1:(di es (cI t.place (J t.mask h n0)) (h,x)).toList=es.toList.take (cI t.place (J t.mask h n0))++(h,x)::es.toList.drop (cI t.place (J t.mask h n0)):=oW _ _ _ bes;have szp:(di t.place (cI t.place (J t.mask h n0)) (J t.mask h n0)).size=t.place.size+1:=by rw[←iu,pl1];simp;omega
 have sze:(di es (cI t.place (J t.mask h n0)) (h,x)).size=es.size+1:=by rw[←iu,el1];simp;omega
 refine⟨T.full,?_,?_,?_,?_,?_,?_⟩
 .show(di t.place _ _).size=_;rw[szp];show _=(di es (cI t.place (J t.mask h n0)) (h,x)).size;rw[sze,T.sz]
 .show(if FF t.dummies (J t.mask h n0)=al then _ else t.dummies)=#[];rw[T.dm];rfl
 .show(di t.place (cI t.place (J t.mask h n0)) (J t.mask h n0)).toList.Pairwise (· < ·);rw[pl1,List.pairwise_append,List.pairwise_cons];have tk:∀a∈t.place.toList.take (cI t.place (J t.mask h n0)),a<J t.mask h n0:=fun a ha=>by
   obtain⟨i,hi⟩:=u5.mp ha;have hi':i<cI t.place (J t.mask h n0):=by have:=(cR.mp hi).1;rw[qE] at this;omega
   rw[uP hi',qI] at hi;exact b1 i hi' a hi
  have dr:∀a∈t.place.toList.drop (cI t.place (J t.mask h n0)),J t.mask h n0<a:=fun a ha=>by
   obtain⟨i,hi⟩:=u5.mp ha;rw[vc,qI] at hi;have h1:=b2 _ (u8 _ i) a hi;rcases lg (J t.mask h n0) a with q|q
   .exact q
   .exact bN (by rw[←qI] at hi;have e:a=J t.mask h n0:=(by omega);rw[e] at hi;exact qP hi) hf
  refine⟨T.ri.sublist (uQ _ _),⟨dr,T.ri.sublist (List.drop_sublist _ _)⟩,fun a ha b hb=>?_⟩;rcases cG.mp hb with e|hb
  .rw[e];exact tk a ha
  .exact rP (tk a ha) (dr b hb)
 .intro j hj;have hj':j∈(di t.place (cI t.place (J t.mask h n0)) (J t.mask h n0)).toList:=hj;rw[pl1,wd] at hj';rcases hj' with e|hj'
  .rw[e];exact we _ _ _
  .exact T.le j hj'
 .show(di es (cI t.place (J t.mask h n0)) (h,x)).size*5<t.mask*3;rw[sze];exact few
 .intro i j h' x' e1 e2;have e1':(di t.place (cI t.place (J t.mask h n0)) (J t.mask h n0)).toList[i]?=aa j:=by rw[qI];exact e1
  have e2':(di es (cI t.place (J t.mask h n0)) (h,x)).toList[i]?=aa (h',x'):=by rw[qI];exact e2
  rw[pl1,D2 _ _ _ (by simpa using b0)] at e1';rw[el1,D2 _ _ _ (by simpa using bes)] at e2';have up:∀{n:ag},(∀m,m<n->J t.mask h' m∈t.place.toList)->∀m,m<n->J t.mask h' m∈(di t.place (cI t.place (J t.mask h n0)) (J t.mask h n0)).toList:=fun q m hm=>by rw[pl1,wd];exact .inr (q m hm)
  by_cases c1:i<cI t.place (J t.mask h n0)
  .rw[qY c1] at e1' e2';rw[qI] at e1' e2';obtain⟨n,hn,q⟩:=T.rc i j h' x' e1' e2';exact⟨n,hn,up q⟩
  .rw[qZ c1] at e1' e2';by_cases c2:i=cI t.place (J t.mask h n0)
   .rw[qY c2] at e1' e2';cases e1';cases e2';exact⟨n0,rfl,up ho⟩
   .rw[qZ c2] at e1' e2';rw[qI] at e1' e2';obtain⟨n,hn,q⟩:=T.rc _ j h' x' e1' e2';exact⟨n,hn,up q⟩
end
noncomputable def eU (owner:b8 (ao ag)) (j:ag):bq:=(owner.getD j (aa 0)).isNone
theorem pV {r:ag} (e:it M h n=mr M (lp M h r)) {k:ag} (hk:k<dh M (lp M h r).1+1-(lp M h r).1):J M h (n+k)=(lp M h r).1+k:=by unfold J;rw[ux,e,tN M k _ (by show k<=dh M (lp M h r).1-(lp M h r).1;omega)];rfl
theorem Ob {r:ag} (e:it M h n=mr M (lp M h r)):it M h (n+(dh M (lp M h r).1+1-(lp M h r).1))=mr M (lp M h (r+1)):=by
 have hge:(lp M h r).1<=dh M (lp M h r).1:=by unfold dh;split<;>omega
 have e2:=tN M (dh M (lp M h r).1-(lp M h r).1) (mr M (lp M h r)) (qv _);rw[show n+(dh M (lp M h r).1+1-(lp M h r).1)=n+(dh M (lp M h r).1-(lp M h r).1)+1 by omega,it,ux,e,e2];unfold adv;rw[qZ (by show ¬((dh M (lp M h r).1-(lp M h r).1)-(dh M (lp M h r).1-(lp M h r).1) > 0);omega)];rfl
theorem Br {M:ag} {h:af} (owner:b8 (ao ag)) {rs:ag} (hfr:eU owner (lp M h rs).1=al):∀(fuel r n:ag),it M h n=mr M (lp M h r)->r<=rs->rs<r+fuel->(∀m,m<n->eU owner (J M h m)=aq)->
  ∃n',eU owner (J M h n')=al/\(∀m,m<n'->eU owner (J M h m)=aq)/\rT M owner fuel (lp M h r).1 (lp M h r).2=aa (J M h n')
 |0,r,n,_,h1,h2,_=>by omega
 |fuel+1,r,n,e,h1,h2,h3=>by
  unfold rT;cases hf:(bj (dh M (lp M h r).1+1-(lp M h r).1)).find? (fun k=>(owner.getD ((lp M h r).1+k) (aa 0)).isNone) with
  |some k=>
   have hk:=dU.mp (List.mem_of_find?_eq_some hf);have hp:eU owner ((lp M h r).1+k)=al:=by have:=List.find?_some hf;exact this
   refine⟨n+k,by rw[pV e hk];exact hp,fun m hm=>?_,?_⟩
   .rcases lg m n with c|c
    .exact h3 m c
    .obtain⟨d,rfl⟩:∃d,m=n+d:=⟨m-n,by omega⟩;rw[pV e (by omega)];obtain⟨as,bs,hab,hno⟩:=(List.find?_eq_some_iff_append.mp hf).2;have hd:d∈as:=by
      have hl:as=bj k:=by
       have hlen:as.length=k:=by
        have:(bj (dh M (lp M h r).1+1-(lp M h r).1))[as.length]?=aa k:=by rw[hab];simp
        rw[kq] at this
        .exact qH this
        .have:=df fF hab;simp at this;omega
       have:=df (rV k) hab;rw[List.take_range,ko (by omega),←hlen,List.take_left'] at this
       .rw[hlen] at this;exact this.symm
       .rfl
      rw[hl];exact dU.mpr (by omega)
     have:=hno d hd;exact FK.mpr (fun z=>by rw[show(owner.getD ((lp M h r).1+d) (aa 0)).isNone=al from z] at this;cases this)
   .rw[pV e hk]
  |none=>
   have hn:∀k,k<dh M (lp M h r).1+1-(lp M h r).1->eU owner (J M h (n+k))=aq:=fun k hk=>by rw[pV e hk];have:=List.find?_eq_none.mp hf k (dU.mpr hk);exact FK.mpr this
   have hge:(lp M h r).1<=dh M (lp M h r).1:=by unfold dh;split<;>omega
   have hr:r≠rs:=fun z=>by subst z;have:=hn 0 (by omega);rw[pV e (by omega),RS,hfr] at this;cases this
   exact Br owner hfr fuel (r+1) _ (Ob e) (by omega) (by omega) fun m hm=>by
    rcases lg m n with c|c
    .exact h3 m c
    .obtain⟨d,rfl⟩:∃d,m=n+d:=⟨m-n,by omega⟩;exact hn d (by omega)
theorem Full.free (F:Full M) (h:af) (owner:b8 (ao ag)) (hf:∃j,j<=M/\eU owner j=al) :
  ∃n,eU owner (J M h n)=al/\(∀m,m<n->eU owner (J M h m)=aq)/\rT M owner (nr M) (fQ h%(M+1)) (fQ h)=aa (J M h n):=by
 obtain⟨j,hj,hjf⟩:=hf;obtain⟨m,hm,e⟩:=F.reach (vS M h 13) hj;have hl:(lp M h (13+m)).1=j:=by rw[v9,e]
 exact Br owner (rs:=13+m) (by rw[hl];exact hjf) (nr M) 0 0 rfl (gd _) (by unfold nr;omega) fun m hm=>bN hm (FD _)
structure Own (M:ag) (hs:ab af) (owner:b8 (ao ag)):Prop where
 sz:owner.size=M+1
 lt:∀(j k:ag),owner[j]?=aa (aa k)->k<hs.length
 on:∀k,k<hs.length->∃j:ag,owner[j]?=aa (aa k)
 inj:∀(j j' k:ag),owner[j]?=aa (aa k)->owner[j']?=aa (aa k)->j=j'
 rc:∀(j k:ag) h,owner[j]?=aa (aa k)->hs[k]?=aa h->∃n,J M h n=j/\∀m,m<n->eU owner (J M h m)=aq
theorem o3 :eU owner j=al↔owner[j]?=aa ac:=by
 unfold eU;rw[zt];cases e:owner[j]? with
 |none=>simp
 |some o=>cases o<;>simp
theorem Own.empty (M:ag):Own M [] (RT (M+1) ac):=by
 have no:∀(j k:ag),(RT (M+1) (ac:ao ag))[j]?=aa (aa k)->False:=fun j k h=>by rw[Array.getElem?_replicate] at h;split at h<;>cases h
 exact⟨by simp,fun j k h=>(no j k h).elim,fun k h=>bN h (FD _),fun j _ k h _=>(no j k h).elim,fun j k _ h _=>(no j k h).elim⟩
theorem Own.room {hs:ab af} (O:Own M hs owner) (hr:hs.length<=M):∃j,j<=M/\eU owner j=al:=by
 by_cases hx:∃j,j<=M/\eU owner j=al
 .exact hx
 .exfalso;have all:∀j,j<=M->∃k,owner[j]?=aa (aa k):=fun j hj=>by
   have h1:eU owner j≠al:=fun z=>hx ⟨j,hj,z⟩;have h2:j<owner.size:=by rw[O.sz];omega
   cases q:owner[j] with
   |none=>exact bN (o3.mpr (by simp[h2,q])) h1
   |some k=>exact⟨k,by simp[h2,q]⟩
  have pig:=pD ((bj (M+1)).map fun j=>((owner[j]?).join).getD 0) (bj hs.length) ?_ ?_
  .rw[qe,qU,qU] at pig;omega
  .refine FM.mpr (zw.mpr (RU ?_ zu));intro a b ha hb hab e;obtain⟨k,hk⟩:=all a (by have:=dU.mp ha;omega);obtain⟨k',hk'⟩:=all b (by have:=dU.mp hb;omega);simp only[hk,hk',RV,RW] at e;subst e;exact hab (O.inj a b k hk hk')
  .intro x hx';obtain⟨j,hj,rfl⟩:=bP.mp hx';obtain⟨k,hk⟩:=all j (by have:=dU.mp hj;omega);simp only[hk,RV,RW];exact dU.mpr (O.lt j k hk)
theorem Own.more {hs:ab af} (O:Own M hs owner) (hf:eU owner (J M h n)=al) (ho:∀m,m<n->eU owner (J M h m)=aq) :
  Own M (hs++[h]) (owner.setIfInBounds (J M h n) (aa hs.length)):=by
 have hlt:J M h n<owner.size:=by rw[O.sz];have:=we M h n;omega
 have hold:=o3.mp hf;have get:∀j:ag,(owner.setIfInBounds (J M h n) (aa hs.length))[j]?=if j=J M h n then aa (aa hs.length) else owner[j]?:=fun j=>by
  rw[Array.getElem?_setIfInBounds];by_cases e:J M h n=j
  .subst e;simp[hlt]
  .rw[qZ e,qZ (dM e)]
 have stay:∀{j k:ag},owner[j]?=aa (aa k)->(owner.setIfInBounds (J M h n) (aa hs.length))[j]?=aa (aa k):=fun {j k} q=>by
  rw[get,qZ]
  .exact q
  .intro e;rw[e,hold] at q;cases q
 have notfree:∀{j:ag},eU owner j=aq->eU (owner.setIfInBounds (J M h n) (aa hs.length)) j=aq:=fun {j} q=>by
  refine FK.mpr fun z=>?_;have z':=o3.mp z;rw[get] at z';split at z'
  .cases z'
  .rw[o3.mpr z'] at q;cases q
 refine⟨by simp[O.sz],fun j k q=>?_,fun k hk=>?_,fun j j' k q q'=>?_,fun j k h' q q'=>?_⟩
 .rw[get] at q;rw[qi,qW];split at q
  .cases q;omega
  .have:=O.lt j k q;omega
 .rw[qi,qW] at hk;by_cases e:k=hs.length
  .exact⟨J M h n,by rw[get,qY rfl,e]⟩
  .obtain⟨j,hj⟩:=O.on k (by omega);exact⟨j,stay hj⟩
 .rw[get] at q q';split at q
  .rename_i c;cases q;split at q'
   .rename_i c';rw[c,c']
   .have:=O.lt j' _ q';omega
  .split at q'
   .cases q';have:=O.lt j _ q;omega
   .exact O.inj j j' k q q'
 .rw[get] at q;split at q
  .rename_i c;cases q;rw[qK (qv _)] at q';simp at q';subst q';exact⟨n,c.symm,fun m hm=>notfree (ho m hm)⟩
  .have hk:=O.lt j k q;rw[qz hk] at q';obtain⟨n',e,r⟩:=O.rc j k h' q q';exact⟨n',e,fun m hm=>notfree (r m hm)⟩
theorem Full.lays (F:Full M) (hs:b8 af) (hr:hs.size<=M):∃owner,RX M hs=aa owner/\Own M hs.toList owner:=by
 have all:∀(bS done:ab af) (owner:b8 (ao ag)),Own M done owner->(done++bS).length<=M->∃owner',Own M (done++bS) owner' /\
   bS.foldl (fun(acc:ao (b8 (ao ag)×ag)) h=>do
    let (owner,k) ←acc
    let j ←rT M owner (nr M) (fQ h%(M+1)) (fQ h)
    bm (owner.setIfInBounds j (aa k),k+1)) (aa (owner,done.length))=aa (owner',(done++bS).length):=by
  intro bS
  induction bS with
  |nil=>intro done owner O _;exact⟨owner,by rw[iR];exact O,by simp⟩
  |cons h r ih=>
   intro done owner O hl;obtain⟨n,h1,h2,h3⟩:=F.free h owner (O.room (by simp at hl;omega));have O':=O.more h1 h2;obtain⟨owner',O2,e⟩:=ih (done++[h]) _ O' (by simpa using hl);refine⟨owner',by simpa using O2,?_⟩;rw[nc];have e1:(do
    let (owner,k) ←aa (owner,done.length)
    let j ←rT M owner (nr M) (fQ h%(M+1)) (fQ h)
    bm (owner.setIfInBounds j (aa k),k+1):ao (b8 (ao ag)×ag))=aa (owner.setIfInBounds (J M h n) (aa done.length),done.length+1):=by
    show(rT M owner (nr M) (fQ h%(M+1)) (fQ h) >>= fun j=>bm (owner.setIfInBounds j (aa done.length),done.length+1))=_;rw[h3];rfl
   rw[e1];rw[qi,qW] at e;rw[e];simp
 obtain⟨owner',O,e⟩:=all hs.toList [] _ (Own.empty M) (by simpa using hr);refine⟨owner',?_,by simpa using O⟩;unfold RX;rw[←Array.foldl_toList];have e':=df (zj (·.1)) e;exact e'
theorem BD {α β:Type} (f:α->ao β):∀(l:ab α),(∀k∈l,∃y,f k=aa y)->∀i:ag,(l.filterMap f)[i]?=(l[i]?).bind f
 |[],_,i=>by simp
 |k::r,h,i=>by
  obtain⟨y,hy⟩:=h k qf;rw[nt hy];cases i with
  |zero=>simp[hy]
  |succ i=>simp only[qc];exact BD f r (fun k hk=>h k (qg _ hk)) i
theorem ue {α β:Type} (f:α->ao β):∀(l:ab α),(∀k∈l,∃y,f k=aa y)->(l.filterMap f).length=l.length
 |[],_=>rfl
 |k::r,h=>by obtain⟨y,hy⟩:=h k qf;rw[nt hy,qh,qh,ue f r fun k hk=>h k (qg _ hk)]
noncomputable def eV (M:ag) (owner:b8 (ao ag)):ab (ag×ag):=(bj (M+1)).filterMap fun j=>(owner.getD j ac).map (j,·)
theorem kQ (hsz:owner.size=M+1) {k:ag} :(j,k)∈eV M owner↔owner[j]?=aa (aa k):=by
 unfold eV;rw[yF];constructor
 .rintro⟨j',hj',e⟩;rw[zt] at e;cases q:owner[j']? with
  |none=>rw[q] at e;cases e
  |some o=>
   rw[q] at e;cases o with
   |none=>cases e
   |some k'=>cases e;exact q
 .intro q;have hj:j<owner.size:=(iU.mp q).1;exact⟨j,dU.mpr (by omega),by rw[zt,q];rfl⟩
theorem Bi (M:ag) (owner:b8 (ao ag)):((eV M owner).map (·.1)).Pairwise (· < ·):=by unfold eV;rw[zw];refine T1 _ ?_ (List.pairwise_lt_range (n:=M+1));intro a a' haa b hb b' hb';obtain⟨k,_,rfl⟩:=oMd hb;obtain⟨k',_,rfl⟩:=oMd hb';exact haa
theorem Lf {hs:ab af} (O:Own M hs owner):((eV M owner).map (·.2)).Nodup:=by have h1:=zw.mp (Bi M owner);refine FM.mpr (zw.mpr (RU ?_ h1));rintro⟨j,k⟩ ⟨j',k'⟩ ha hb hlt e;have e':k=k':=e;subst e';have:=O.inj j j' k ((kQ O.sz).mp ha) ((kQ O.sz).mp hb);have hlt':j<j':=hlt;omega
theorem MY {hs:ab af} (O:Own M hs owner):(eV M owner).length=hs.length:=by
 have h1:=pD ((eV M owner).map (·.2)) (bj hs.length) (Lf O) fun k hk=>by obtain⟨⟨j,k'⟩,hm,rfl⟩:=bP.mp hk;exact dU.mpr (O.lt j k' ((kQ O.sz).mp hm))
 have h2:=pD (bj hs.length) ((eV M owner).map (·.2)) zu fun k hk=>by obtain⟨j,hj⟩:=O.on k (dU.mp hk);exact bP.mpr ⟨(j,k),(kQ O.sz).mpr hj,rfl⟩
 rw[qe,qU] at h1 h2;omega
theorem Full.relaid {t:md} {es:b8 (af×av)} {wanted:ag} (F:Full (oC wanted-1)) (few:es.size*5<(oC wanted-1)*3) :
  ∃t' order,t.relaid (es.map (·.1)) wanted=aa (t',order)/\(order.filterMap (es[·]?)).size=es.size/\Tb t' (order.filterMap (es[·]?))/\(∀e,e∈(order.filterMap (es[·]?)).toList↔e∈es.toList)/\t'.mask=oC wanted-1/\t'.led=t.led:=by
 generalize hM:oC wanted-1=M at F few;obtain⟨owner,hl,O⟩:=F.lays (es.map (·.1)) (by simp;omega);have hlen:(es.map (·.1)).toList.length=es.size:=by simp
 have llen:(eV M owner).length=es.size:=by rw[MY O,hlen]
 refine⟨{mask:=M,place:=((eV M owner).map (·.1)).toArray,dummies:=#[],finger:=t.finger,led:=t.led,moves:=t.movedTo M,plain:=t.plain},((eV M owner).map (·.2)).toArray,?_,?_⟩
 .unfold SetTable.relaid;rw[hM];unfold SetTable.laid;rw[hl];rfl
 .have hall:∀k∈(eV M owner).map (·.2),∃y,es[k]?=aa y:=fun k hk=>by obtain⟨⟨j,k'⟩,hm,rfl⟩:=bP.mp hk;have:=O.lt j k' ((kQ O.sz).mp hm);rw[hlen] at this;exact⟨es[k'],by simp[this]⟩
  have etl:(RY (fun x=>es[x]?) ((eV M owner).map (·.2)).toArray).toList=((eV M owner).map (·.2)).filterMap (fun x=>es[x]?):=by simp
  have esz:(RY (fun x=>es[x]?) ((eV M owner).map (·.2)).toArray).size=es.size:=by rw[←iu,etl,ue _ _ hall,qe,llen]
  refine⟨esz,⟨F,?_,rfl,?_,?_,?_,?_⟩,fun e=>?_,rfl,rfl⟩
  .rw[esz];simp[llen]
  .show((eV M owner).map (·.1)).toArray.toList.Pairwise (· < ·);exact Bi M owner
  .intro j hj;have hj':j∈(eV M owner).map (·.1):=hj;obtain⟨⟨j',k⟩,hm,rfl⟩:=bP.mp hj';have:=(iU.mp ((kQ O.sz).mp hm)).1;rw[O.sz] at this;show j'<=M;omega
  .rw[esz];exact few
  .intro i j h x e1 e2;have e1':((eV M owner).map (·.1))[i]?=aa j:=by simpa using e1
   rw[←qI,etl,BD _ _ hall,qj] at e2;rw[qj] at e1';obtain⟨⟨j',k⟩,hm,rfl⟩:=oMd e1';rw[hm] at e2;have e2':es[k]?=aa (h,x):=e2;have ho:=(kQ O.sz).mp (qP hm);obtain⟨n,hn,q⟩:=O.rc j' k h ho (by simp[e2']);refine⟨n,hn,fun m hm'=>?_⟩;have hnf:=q m hm';have hle:=we M h m;have hlt:J M h m<owner.size:=by rw[O.sz];omega
   cases c:owner[J M h m] with
   |none=>
    rw[o3.mpr (by simp[hlt,c])] at hnf;cases hnf
   |some k'=>
    show J M h m∈(eV M owner).map (·.1);exact bP.mpr ⟨(J M h m,k'),(kQ O.sz).mpr (by simp[hlt,c]),rfl⟩
  .rw[etl,yF];constructor
   .rintro⟨k,_,hk⟩;rw[←qI] at hk;exact qP hk
   .intro he;obtain⟨k,hk⟩:=u5.mp he;rw[qI] at hk;have hlt:=(iU.mp hk).1;obtain⟨j,hj⟩:=O.on k (by rw[hlen];exact hlt);exact⟨k,bP.mpr ⟨(j,k),(kQ O.sz).mpr hj,rfl⟩,hk⟩
noncomputable def Mk (M:ag):Prop:=M=7\/M=31\/M=127\/M=511
theorem Mk.full (h:Mk M):Full M:=by
 rcases h with h|h|h|h<;>subst h
 .exact DC
 .exact Lv
 .exact Lr
 .exact Lp
theorem Mk.grow (h:Mk M) (h1:n*5<M*3) (h2:¬(n+1)*5<M*3) (hn:n<=300):Mk (oC (zx (n+1))-1)/\(n+1)*5<(oC (zx (n+1))-1)*3/\oC (zx (n+1))<=512:=by
 rcases h with h|h|h|h<;>subst h
 .have:n=4:=by omega
  subst this;exact⟨.inr (.inl (by decide)),by decide,by decide⟩
 .have:n=18:=by omega
  subst this;exact⟨.inr (.inr (.inl (by decide))),by decide,by decide⟩
 .have:n=76:=by omega
  subst this;exact⟨.inr (.inr (.inr (by decide))),by decide,by decide⟩
 .omega
section
variable {G:b8 rD->b8 rD->Prop} {P:ag->av->Prop} {St:ag->aI->Prop}
noncomputable def BB (prog:dS) (w:cQ) (A:dL) (S:aw) (Ba:Heap->Prop) (P:ag->av->Prop) (n:ag) (J:ag->bh->Prop):Prop:=
 ∀(i:ag) (v:av) (s:aI) (o:bh) (Q:bq->aI->Prop) (E:av->aI->Prop),i<n->P i v->s.heap.get? S=aa o->J i o->Ba s.heap->
  (∀b h' tk o',s.toks<=tk->jr S s.heap h'->h'.get? S=aa o'->J (i+1) o'->Q b {s with heap:=h',toks:=tk})->aJ (aQ prog w) A (vd S v) Q E s
theorem KS (W:WalksS prog w A.in1 I fp wr G n P St) (S:aw) (hSf:S∉fp) (Ba:Heap->Prop) (hBa:∀h h',Ba h->(∀b o,b∉S::wr->h.get? b=aa o->h'.get? b=aa o)->Ba h') (J:ag->bh->Prop) (hadd:BB prog w A.in1 S Ba P n J) :
  ∀(k i:ag) (s:aI) (o:bh),n-i=k->i<=n->St i s->s.heap.get? S=aa o->J i o->Ba s.heap->
   (∀s' o',Moved (S::wr) G s s'->s'.heap.get? S=aa o'->J n o'->R (.ok (.ret .none)) s')->
   ju (aQ prog w) A (.builtin "set.update.loop" ⟨[.ref S,.ref I],[]⟩) R s:=by
 have hSw:S∉wr:=fun h=>hSf (W.sub _ h);have hsub:∀b∈wr,b∈S::wr:=fun b hb=>qg _ hb;intro k
 induction k with
 |zero=>
  intro i s o hk hi hst hS hJ hB hR;have hin:i=n:=by omega
  subst hin;refine ve RZ ?_;rw[zy FN _];show aJ _ A.in1 (mZ (.ref I) >>= _) _ _ s;refine qx (W.done s _ _ hst fun s' hm=>?_);show aJ _ A.in1 (ret oj) _ _ s';exact qA (hR s' o (hm.mono hsub) (hm.heap S _ hSw hS) hJ)
 |succ k ih=>
  intro i s o hk hi hst hS hJ hB hR;have hlt:i<n:=by omega
  refine ve RZ ?_;rw[zy FN _];show aJ _ A.in1 (mZ (.ref I) >>= _) _ _ s;refine qx (W.item i s _ _ hlt hst fun v s' hP hst' hm=>?_);show aJ _ A.in1 (jt [v] (vd S v) >>= _) _ _ s';refine qx (qT ?_);refine hadd i v s' o _ _ hlt hP (hm.heap S _ hSw hS) hJ (hBa _ _ hB fun b o hb e=>hm.heap b o (fun z=>hb (hsub b z)) e) fun b h' tk o' htk hsb hS' hJ'=>?_;refine qA ⟨FO FN _,ih (i+1) _ o' (by omega) hlt (W.frame _ s' _ _ hst' htk fun b hb o e=>?_) hS' hJ' ?_ fun s'' o'' hm'' hS'' hJ''=>?_⟩
  .rw[hsb.2 b (fun h:b=S=>hSf (by rw[←h];exact hb))];exact e
  .refine hBa _ _ (hBa _ _ hB fun b o hb e=>hm.heap b o (fun z=>hb (hsub b z)) e) fun b o hb e=>?_;show h'.get? b=aa o;rw[hsb.2 b (fun h:b=S=>hb (by rw[h];exact qf))];exact e
  .refine hR s'' o'' (R0 W.gtrans ((hm.mono hsub).then_heap htk fun b o hb e=>?_) hm'') hS'' hJ'';rw[hsb.2 b (fun h:b=S=>hb (by rw[h];exact qf))];exact e
end
set_option maxRecDepth 100000 in
set_option maxHeartbeats 3200000 in
theorem AJ {l:aw} (hh:A.handled=ac) (hl:s.heap.IsList l items) (J:ag->bh->Prop)
  (hJ0:∀led:bq,J 0 {cls:=.type "set",dict:=ac,data:=.set #[] 0 (.fresh 0 0 led)})
  (hadd:∀A':dL,A'.units<=A.units+16->BB prog w A' s.heap.objs.size (fun h=>∀b o,b<s.heap.objs.size->s.heap.get? b=aa o->h.get? b=aa o) (fun i v=>items[i]?=aa v) items.size J)
  (h:∀(h':Heap) (tk:ag) (o:bh),h'.get? s.heap.objs.size=aa o->J items.size o->
   (∀b o,b<s.heap.objs.size->s.heap.get? b=aa o->h'.get? b=aa o)->Q (.ref s.heap.objs.size) {s with heap:=h',toks:=tk}) :
  aJ (aQ prog w) A (call (.type "set") [.ref l]) Q E s:=by
 obtain⟨c,tl,hmro⟩:=nu.mro;have hmade:=nu.made;have hsub:=nu.sub;refine yP (codeAny_of_tree ?_);show aJ _ _ (callAny (.type "set") _) _ _ _;refine qA ⟨Code.quiet_builtin _ (by decide +kernel),ve F.entry_type_call ?_⟩;rw[Around.under_plain (weight_type_call_type "set" [.ref l] []) rfl];have h1:=nu.notType;have h2:=nu.canCreate;have hct:=F.typeCall_set_1 (.ref l)
 repeat (any_goals (first|assumption|wp_step))
 refine rM (code_set_new_1 (.ref l) (E:=E) (Q₁:=fun obj s₁=>∃led:bq,obj=.ref s.heap.objs.size/\s₁={s with heap:=s.heap.push {cls:=.type "set",dict:=ac,data:=.set #[] 0 (.fresh 0 0 led)} }) fun led=>⟨led,rfl,rfl⟩) fun r s₁ hr=>?_;cases r with
 |error e=>exact hr
 |ok fl=>
  cases fl with
  |ret obj=>
   obtain⟨led,rfl,rfl⟩:=hr;have hS:(s.heap.push {cls:=.type "set",dict:=ac,data:=.set #[] 0 (.fresh 0 0 led)}).get? s.heap.objs.size=aa {cls:=.type "set",dict:=ac,data:=.set #[] 0 (.fresh 0 0 led)}:=qG _ rfl;have hT:zz {s with heap:=s.heap.push {cls:=.type "set",dict:=ac,data:=.set #[] 0 (.fresh 0 0 led)} } (.ref s.heap.objs.size) "set":=⟨_,hS,rfl⟩;have hli:=nu.init.lookup;have hbi:=nu.init.bind (.ref s.heap.objs.size)
   repeat (any_goals (first|assumption|wp_step))
   refine rM (R1 (R:=wants (fun r s₂=>r=.none/\∃h' tk o,s₂={s with heap:=h',toks:=tk}/\h'.get? s.heap.objs.size=aa o/\J items.size o /\
     (∀b o,b<s.heap.objs.size->s.heap.get? b=aa o->h'.get? b=aa o)) E) nu.init.plain F.entry_set_init (check_set_init_1 hT ?_)) fun r₂ s₂ hr₂=>?_
   .obtain⟨ol,hol,hcl,nl,hdl⟩:=hl;obtain⟨ocls,odict,odata,oslots⟩:=ol;simp only at hcl hdl;subst hcl;subst hdl;have hol':(s.heap.push {cls:=.type "set",dict:=ac,data:=.set #[] 0 (.fresh 0 0 led)}).get? l=aa {cls:=.type "list",dict:=odict,data:=.seq items nl,slots:=oslots}:=qt _ hol;have hsls:=F.sub_list_set;have hslf:=F.sub_list_frozenset;have hne:(jq "list"==jq "dict")=aq:=by decide
    have hl1:(s.heap.push {cls:=.type "set",dict:=ac,data:=.set #[] 0 (.fresh 0 0 led)}).IsList l items:=⟨_,hol',rfl,nl,rfl⟩;unfold Builtin.«set.__init__» noKeywords T2;generalize hPI:uJ=PI
    wp_walk
    subst hPI;refine uW hl1 ?_;refine qx (wpAny_runValue ?_);have hlS:l<s.heap.objs.size:=qu hol;have hh3:A.in1.in1.in1.handled=ac:=by simp[hh]
    have hneI:l≠(s.heap.push {cls:=.type "set",dict:=ac,data:=.set #[] 0 (.fresh 0 0 led)}).objs.size:=by rw[oq];exact qC (rW hlS)
    have hSf:s.heap.objs.size∉[(s.heap.push {cls:=.type "set",dict:=ac,data:=.set #[] 0 (.fresh 0 0 led)}).objs.size,l]:=by rw[oq];simp only[qL,bY,qJ,or_false,oE];exact⟨qC (ot _),yE hlS⟩
    have hget:((s.heap.push {cls:=.type "set",dict:=ac,data:=.set #[] 0 (.fresh 0 0 led)}).push {cls:=.type "list_iterator",data:=.fields #[.ref l,.int 0 0]}).get? s.heap.objs.size
       = aa {cls:=.type "set",dict:=ac,data:=.set #[] 0 (.fresh 0 0 led)}:=qt _ hS
    refine KS ((Fx hh3 _ l hneI items).toS) s.heap.objs.size
     hSf (fun h=>∀b o,b<s.heap.objs.size->s.heap.get? b=aa o->h.get? b=aa o) (fun h h' hB hk b o hb e=>hk b o ?_ (hB b o hb e)) J (hadd _ (by show A.units+3<=_;omega)) (items.size-0) 0 _ _ (by omega) (gd _)
     ⟨⟨_,qG _ rfl,rfl,rfl⟩,(hl1.push _)⟩ hget (hJ0 led) (fun b o hb e=>qt _ (qt _ e)) ?hR
    .have hb1:b≠s.heap.objs.size:=qC hb;have hb2:b≠(s.heap.push {cls:=.type "set",dict:=ac,data:=.set #[] 0 (.fresh 0 0 led)}).objs.size:=by rw[oq];exact qC (rW hb)
     simp only[qL,bY,qJ,or_false,oE];exact⟨hb1,hb2⟩
    case hR=>
     intro s' o' hm hS' hJ';obtain⟨h',g',d',tk',os'⟩:=s';have eg:g'=s.gens:=hm.gens;have ed:d'=s.drawn:=hm.drawn;have eo:os'=s.os:=hm.os;subst eg;subst ed;subst eo;show aJ _ _ _ _ _ _;refine qA ?_;show aJ _ _ (ret oj) _ _ _;refine qA ⟨rfl,h',tk',o',rfl,hS',hJ',fun b o hb e=>?_⟩;have hb1:b≠s.heap.objs.size:=qC hb;have hb2:b≠(s.heap.push {cls:=.type "set",dict:=ac,data:=.set #[] 0 (.fresh 0 0 led)}).objs.size:=by rw[oq];exact qC (rW hb)
     exact hm.heap b o (by simp only[qL,bY,qJ,or_false,oE];exact⟨hb1,hb2⟩) (qt _ (qt _ e))
   .cases r₂ with
    |error e=>exact hr₂
    |ok fl₂ =>
     cases fl₂ with
     |ret r=>
      obtain⟨rfl,h',tk,o',rfl,hS',hJ',hk'⟩:=hr₂
      repeat (any_goals (first|assumption|wp_step))
      exact h _ _ _ hS' hJ' hk'
     |_=>exact hr₂.elim
  |_=>exact hr.elim
noncomputable def dd [fC κ] (l:ab κ):ab κ:=l.foldl (fun a k=>if k∈a then a else a++[k]) []
theorem xI [fC κ] (l:ab κ) (k:κ):dd (l++[k])=if k∈dd l then dd l else dd l++[k]:=by unfold dd;rw[zA];rfl
theorem oP [fC κ] (l:ab κ):(dd l).length<=l.length:=by
 have key:∀(l a:ab κ),(l.foldl (fun a k=>if k∈a then a else a++[k]) a).length<=a.length+l.length:=by
  intro l
  induction l with
  |nil=>intro a;exact qv _
  |cons k r ih=>
   intro a;rw[nc];refine qM (ih _) ?_;split
   .simp only[qh];omega
   .simp only[qi,qh,qk];omega
 have:=key l [];simpa[dd] using this
section
variable [fC κ] {knd:KeyKind prog w κ}
theorem QN {ks:ab κ} {Q:bq->aI->Prop} (hk:IsTupleKey knd s.heap ks a) (hsc:∀v k,knd.is k v=al->v.scannable=al) (h:∀b,Q b s):aJ (aQ prog w) A (hashByValue 8 (.ref a)) Q E s:=by
 have hT:=hk.typeIs;obtain⟨o,items,n,ho,_,hd,hi⟩:=hk;unfold hashByValue;refine qx (Fh hT F.slot_tuple_hash.lookup ?_);refine qx (FP ho hd ?_);refine qx ?_;show aJ _ _ (uV items _ _) _ _ s;rw[←R3];have hall:∀v∈items.toList,v.scannable=al:=by
  have:∀{x:ab κ} {vs:ab av},ItemsAre knd x vs->∀v∈vs,v.scannable=al:=by
   intro x vs q
   induction q with
   |nil=>intro v hv;cases hv
   |cons h1 _ ih=>
    intro v hv;rcases cG.mp hv with rfl|hv
    .exact hsc _ _ h1
    .exact ih v hv
  exact this hi
 refine FR _ (fun bS r s'=>s'=s/\∀v∈bS,v.scannable=al) _ ?_ ?_ _ _ ⟨rfl,hall⟩
 .rintro v bS r s' ⟨rfl,hv⟩;rw[hashByValue_scannable _ (hv v qf)];refine qx (qA ?_);cases hp:plainKind v with
  |true=>
   simp only[iW,qq,cW];exact qA ⟨rfl,fun u hu'=>hv u (qg _ hu')⟩
  |false=>
   simp only[oF,cy]
   first|exact qA (qA (h _))|exact qA (h _)|exact qx (qA (qA (qA (h _))))
 .rintro⟨r1,r2⟩ s' ⟨rfl,_⟩
  first|exact qA (h _)|(cases r1<;>exact qA (h _))
theorem Cr {ks:ab κ} {Q:bq->aI->Prop} (hk:IsTupleKey knd s.heap ks a) (h:Q aq s):aJ (aQ prog w) A (FU 8 (.ref a)) Q E s:=by
 have hT:=hk.typeIs;obtain⟨o,items,n,ho,_,hd,hi⟩:=hk;unfold FU;refine qx (uR hT ?_);dsimp only;rw[qY (by decide)];refine qx (qA ?_);simp only[iW,qq,cW];refine qx (FP ho hd ?_);refine qx ?_;show aJ _ _ (uV items _ _) _ _ s;rw[←R3];refine FR _ (fun bS r s'=>r.1=ac/\s'=s/\∀v∈bS,R4 v=al) _ ?_ ?_ _ _ ⟨rfl,rfl,hi.byValue⟩
 .rintro v bS r s' ⟨hr,rfl,hv⟩;have e:FU 7 v=bm aq:=by
   have:=hv v qf;cases v with
   |ref b=>simp[R4] at this
   |_=>rfl
  rw[e];refine qx (qA ?_);simp only[qq,cW];exact qA ⟨rfl,rfl,fun u hu'=>hv u (qg _ hu')⟩
 .rintro⟨r1,r2⟩ s' ⟨hr,rfl,_⟩;simp only at hr;subst hr;exact qA h
theorem Kk {ks:ab κ} {Q:bq->aI->Prop} (hk:IsTupleKey knd s.heap ks a) (st:ab av) (hst:∀y∈st,∃k b,y=.ref b/\IsTupleKey knd s.heap k b) (h:Q aq s):aJ (aQ prog w) A (R5 (.ref a) st) Q E s:=by
 unfold R5;refine qx ?_;refine FR _ (fun bS r s'=>r.1=ac/\s'=s/\∀y∈bS,∃k b,y=.ref b/\IsTupleKey knd s.heap k b) _ ?_ ?_ _ _ ⟨rfl,rfl,hst⟩
 .rintro v bS r s' ⟨hr,rfl,hv⟩;obtain⟨k,b,rfl,hb⟩:=hv v qf;dsimp only;split
  .exact qA ⟨rfl,rfl,fun u hu'=>hv u (qg _ hu')⟩
  .refine qx (R6 hk ?_);simp only[iW,qq,cW];refine qx (R6 hb ?_);simp only[iW,qq,cW];refine qx (Cr hk ?_);simp only[qq,cW];refine qx (Cr hb ?_);simp only[qq,cW];exact qA ⟨rfl,rfl,fun u hu'=>hv u (qg _ hu')⟩
 .rintro⟨r1,r2⟩ s' ⟨hr,rfl,_⟩;simp only at hr;subst hr;exact qA h
end
theorem BC {t:md} {es:b8 (af×av)} (T:Tb t es) {p:zv} {r:ao SetTable.Met} (hp:t.probe hashAt h p=r) (hpp:p=ij (it t.mask h n)) (hn:n<=n0) (hn0:n0<10*(t.mask+15))
  (hf:J t.mask h n0∉t.place.toList) (ho:∀m,m<n0->J t.mask h m∈t.place.toList) :
  (∃n' i,n<=n'/\n'<n0/\t.place[i]?=aa (J t.mask h n')/\hashAt i=h/\(∀m i,n<=m->m<n'->t.place[i]?=aa (J t.mask h m)->hashAt i≠h)/\r=aa (.candidate (J t.mask h n') i (ij (it t.mask h (n'+1))))) \/
  ((∀m i,n<=m->m<n0->t.place[i]?=aa (J t.mask h m)->hashAt i≠h)/\r=aa (.empty (J t.mask h n0) ac)):=by
 subst hpp;subst hp;unfold SetTable.probe;exact T.probe_go hashAt h hf ho (10*nr t.mask) n hn (by unfold nr;omega)
theorem MR {t:md} {es:b8 (af×av)} (T:Tb t es) {p:zv} (hp:∀met,t.probe hashAt h p=aa met->False) (hpp:p=ij (it t.mask h n)) (hn:n<=n0) (hn0:n0<10*(t.mask+15))
  (hf:J t.mask h n0∉t.place.toList) (ho:∀m,m<n0->J t.mask h m∈t.place.toList):False:=by
 rcases BC T (r:=t.probe hashAt h p) rfl hpp hn hn0 hf ho with⟨n',i,_,_,_,_,_,g6⟩|⟨_,g2⟩
 .exact hp _ g6
 .exact hp _ g2
section
variable [fC κ] {knd:KeyKind prog w κ}
noncomputable def pB (knd:KeyKind prog w κ) (h:Heap) (es:b8 (af×av)):Prop:=∀(i:ag) e,es[i]?=aa e->∃k b,e=(bG knd k,.ref b)/\IsTupleKey knd h k b
theorem Mk.odd (h:Mk M):(M%2==0)=aq:=by rcases h with rfl|rfl|rfl|rfl<;>rfl
theorem Om {S:aw} {o:bh} {es:b8 (af×av)} {t:md} {k:ab κ} {Q:SetFound->aI->Prop} (hu:A.units<cT) (ho:s.heap.get? S=aa o) (hd:o.data=.set es ep t) (T:Tb t es) (hM:Mk t.mask)
  (hk:IsTupleKey knd s.heap k a) (he:pB knd s.heap es) (hf:J t.mask (bG knd k) n0∉t.place.toList) (hocc:∀m,m<n0->J t.mask (bG knd k) m∈t.place.toList) (hn0:n0<10*(t.mask+15))
  (hyes:∀(i:ag) (b:aw),es[i]?=aa (bG knd k,.ref b)->IsTupleKey knd s.heap k b->Q (.there ac) s)
  (hno:(∀(i:ag) (b:aw),es[i]?=aa (bG knd k,.ref b)->¬IsTupleKey knd s.heap k b)->Q (.free (J t.mask (bG knd k) n0) aq) s) :
  ∀(fuel n:ag) (stand:ao zv),n0-n<fuel->n<=n0->(stand.getD (t.probeStart (bG knd k))=ij (it t.mask (bG knd k) n))->
   (∀(m i:ag) (b:aw),m<n->t.place[i]?=aa (J t.mask (bG knd k) m)->es[i]?=aa (bG knd k,.ref b)->¬IsTupleKey knd s.heap k b)->
   aJ (aQ prog w) A (zB S (.ref a) (bG knd k) al fuel stand) Q E s:=by
 intro fuel
 induction fuel with
 |zero=>intro n stand h1;omega
 |succ fuel ih=>
  intro n stand h1 h2 hs hw;unfold zB;refine qx (vf ho hd T.fits ?_);dsimp only;have hg:t.gaveWay=aq:=hM.odd;rw[hg];simp only[qq,cW];split
  .rename_i met hp;rcases BC T hp hs h2 hn0 hf hocc with⟨n',i,g1,g2,g3,g4,g5,g6⟩|⟨g1,g2⟩
   .cases g6;have hi:i<es.size:=by have:=(iU.mp g3).1;rw[T.sz] at this;exact this
    have hei:es[i]?=aa es[i]:=by simp[hi]
    obtain⟨k',b,e1,hb⟩:=he i _ hei;rw[e1] at hei;have hh:bG knd k'=bG knd k:=by have g4':((es[i]?).map (·.1)).getD 0=bG knd k:=g4;rw[hei] at g4';exact g4'
    rw[hh] at hei;have bS:aJ (aQ prog w) A (do
      let aa (_,y):=es[i]? | unsupported "internal:set-entry"
      let equal ←jt [y] (eqBool y (.ref a))
      let (es',_,t') ←setState S
      if al && equal then return .there ac
      let aa same:=t'.sameMemory t.moves t.mask|unsupported "set.changed-during-lookup:is-the-new-block-at-the-old-address"
      let still ←match (if same then t'.slot (J t.mask (bG knd k) n') else .empty) with
       |.live i'=>match es'[i']? with
        |some (_,y')=>do bm (if ←isSame y' y then aa i' else ac)
        |none=>bm ac
       |_=>bm ac
      match still with
      |none=>rule "set.search.anew";zB S (.ref a) (bG knd k) al fuel ac
      |some i'=>if equal then return .there (aa i') else zB S (.ref a) (bG knd k) al fuel (aa (ij (it t.mask (bG knd k) (n'+1))))) Q E s:=by
     rw[hei];dsimp only;refine qx (qT (wpAny_eqBool_tuple hu hb hk ?_));refine qx (vf ho hd T.fits ?_);dsimp only;by_cases hkk:k'=k
     .subst hkk;rw[qS rfl];simp only[zC,cy];exact qA (hyes i b hei hb)
     .rw[qN hkk];simp only[zC,qq,cW];have hsm:t.sameMemory t.moves t.mask=aa al:=by unfold SetTable.sameMemory;simp
      rw[hsm];dsimp only;simp only[cy];rw[T.live g3];dsimp only;rw[hei];dsimp only;refine qx (wpAny_isSame_ref_self ?_);simp only[cy];refine qx (qA ?_);dsimp only;refine ih (n'+1) _ (by omega) (by omega) rfl ?_;intro m i2 b2 hm hp2 he2;by_cases h3:m<n
      .exact hw m i2 b2 h3 hp2 he2
      .by_cases h4:m=n'
       .subst h4;have ei:i2=i:=by have q1:=T.live hp2;have q2:=T.live g3;rw[q1] at q2;injection q2
        subst ei;rw[hei] at he2;cases he2;exact fun z=>hkk (hb.inj z)
       .exfalso;refine g5 m i2 (by omega) (by omega) hp2 ?_;show((es[i2]?).map (·.1)).getD 0=_;rw[he2];rfl
    cases hled:t.led with
    |true=>
     simp only[iW,qq,cW];exact bS
    |false=>
     simp only[oF,cy];refine qx (Kk hk _ (fun y hy=>?_) ?_)
     .obtain⟨e,he1,rfl⟩:=bP.mp hy;have he2:e∈es.toList:=by have:=ER.mp he1;rw[Array.mem_filter] at this;exact ER.mpr this.1
      obtain⟨j,hj,ej⟩:=Fv.mp he2;obtain⟨k2,b2,q1,q2⟩:=he j e (by rw[←qI,qD hj,ej]);exact⟨k2,b2,by rw[q1],q2⟩
     .simp only[qq,cW];exact bS
   .cases g2;dsimp only;refine qA (hno fun i b hei hb=>?_);have hi:i<es.size:=(iU.mp hei).1;have hpi:t.place[i]?=aa t.place[i]! := by
     have:i<t.place.size:=by rw[T.sz];exact hi
     simp[this]
    obtain⟨m,q1,q2⟩:=T.rc i _ _ _ hpi hei;have hmem:J t.mask (bG knd k) m∈t.place.toList:=by rw[q1];rw[←qI] at hpi;exact qP hpi
    have hm:m<n0:=by
     rcases RO m n0 with z|z|z
     .exact z
     .subst z;exact bN hmem hf
     .exact bN (q2 n0 z) hf
    by_cases h3:m<n
    .exact hw m i b h3 (by rw[q1];exact hpi) hei hb
    .refine g1 m i (by omega) hm (by rw[q1];exact hpi) ?_;show((es[i]?).map (·.1)).getD 0=_;rw[hei];rfl
  .rename_i hp;exact(MR T hp hs h2 hn0 hf hocc).elim
structure TS (knd:KeyKind prog w κ) (h:Heap) (ks:ab (ab κ)) (o:bh):Prop where
 cls:o.ExactSet
 ex:∃es ep t,o.data=.set es ep t/\Tb t es/\Mk t.mask/\pB knd h es/\es.size=(dd ks).length/\(∀k∈dd ks,∃(i:ag) (b:aw),es[i]?=aa (bG knd k,.ref b)/\IsTupleKey knd h k b)/\∀(i:ag) (k:ab κ) (b:aw),es[i]?=aa (bG knd k,.ref b)->IsTupleKey knd h k b->k∈dd ks
theorem IsTupleKey.mono {h:Heap} {k:ab κ} (x:IsTupleKey knd h k a) (q:∀o,h.get? a=aa o->h'.get? a=aa o):IsTupleKey knd h' k a:=by obtain⟨o,items,n,h1,h2⟩:=x;exact⟨o,items,n,q o h1,h2⟩
theorem mG {es:b8 (af×av)} {e:af×av} :e∈es.toList↔∃i:ag,es[i]?=aa e:=by
 constructor
 .intro h;obtain⟨i,hi,q⟩:=Fv.mp h;exact⟨i,by rw[←qI,qD hi,q]⟩
 .rintro⟨i,h⟩;rw[←qI] at h;exact qP h
theorem Mj {ks:ab (ab κ)} {k:ab κ} {es:b8 (af×av)} (hk:IsTupleKey knd h0 k a) (hE:pB knd h0 es) (hsz:es.size=(dd ks).length) (hin:∀k∈dd ks,∃(i:ag) (b:aw),es[i]?=aa (bG knd k,.ref b)/\IsTupleKey knd h0 k b)
  (hout:∀(i:ag) (k:ab κ) (b:aw),es[i]?=aa (bG knd k,.ref b)->IsTupleKey knd h0 k b->k∈dd ks) (hnew:k∉dd ks) (mem:∀e,e∈es'.toList↔e=(bG knd k,.ref a)\/e∈es.toList) (size:es'.size=es.size+1) :
  pB knd h0 es'/\es'.size=(dd (ks++[k])).length/\(∀k'∈dd (ks++[k]),∃(i:ag) (b:aw),es'[i]?=aa (bG knd k',.ref b)/\IsTupleKey knd h0 k' b)/\∀(i:ag) (k':ab κ) (b:aw),es'[i]?=aa (bG knd k',.ref b)->IsTupleKey knd h0 k' b->k'∈dd (ks++[k]):=by
 rw[xI,qZ hnew];refine⟨fun i e he=>?_,by rw[size,hsz,qi,qW],fun k' hk'=>?_,fun i k' b he hb=>?_⟩
 .rcases(mem e).mp (mG.mpr ⟨i,he⟩) with rfl|q
  .exact⟨k,a,rfl,hk⟩
  .obtain⟨j,q⟩:=mG.mp q;exact hE j e q
 .rcases cL.mp hk' with q|q
  .obtain⟨i,b,q1,q2⟩:=hin k' q;obtain⟨j,q3⟩:=mG.mp ((mem _).mpr (.inr (mG.mpr ⟨i,q1⟩)));exact⟨j,b,q3,q2⟩
  .rw[bY.mp q];obtain⟨j,q3⟩:=mG.mp ((mem _).mpr (.inl rfl));exact⟨j,a,q3,hk⟩
 .rcases(mem _).mp (mG.mpr ⟨i,he⟩) with q|q
  .have e:b=a:=by have:=(Fq q).2;injection this
   subst e;exact cL.mpr (.inr (bY.mpr (hb.inj hk)))
  .obtain⟨j,q⟩:=mG.mp q;exact cL.mpr (.inl (hout j k' b q hb))
theorem Ej {h:Heap} {S:aw} {o:bh} {es:b8 (af×av)} {t t':md} (ho:h.get? S=aa o) (hd:o.data=.set es ep t):(h.update S (FV es' t')).get? S=aa {o with data:=.set es' (ep+1) t'}:=by
 have q:=Heap.get?_update_self (FV es' t') ho (by rw[putSet_of es' t' hd];rfl)
 rwa [putSet_of es' t' hd] at q
set_option maxHeartbeats 1000000 in
theorem Qx {S:aw} {o:bh} {ks:ab (ab κ)} {k:ab κ} {Q:bq->aI->Prop} (hsc:∀v k,knd.is k v=al->v.scannable=al) (hu:A.units<cT) (ho:s.heap.get? S=aa o) (T:TS knd h0 ks o) (hk:IsTupleKey knd h0 k a)
  (hB:∀b o,h0.get? b=aa o->s.heap.get? b=aa o) (hlen:ks.length<=300)
  (h:∀b h' tk o',s.toks<=tk->jr S s.heap h'->h'.get? S=aa o'->TS knd h0 (ks++[k]) o'->Q b {s with heap:=h',toks:=tk}):aJ (aQ prog w) A (vd S (.ref a)) Q E s:=by
 obtain⟨hc,es,ep,t,hd,TB,hM,hE,hsz,hin,hout⟩:=T;have up:∀{k:ab κ} {b:aw},IsTupleKey knd h0 k b->IsTupleKey knd s.heap k b:=fun q=>IsTupleKey.mono q fun o e=>hB _ _ e;have down:∀{k k':ab κ} {b:aw},IsTupleKey knd h0 k' b->IsTupleKey knd s.heap k b->k=k':=fun q1 q2=>q2.inj (up q1);have hE':pB knd s.heap es:=fun i e he=>by obtain⟨k,b,q1,q2⟩:=hE i e he;exact⟨k,b,q1,up q2⟩
 have hddl:=oP ks;obtain⟨n0,f1,f2,f3⟩:=TB.first (bG knd k);unfold vd;refine qT (qx (wpAny_pyHash_tuple hu (up hk) ?_));unfold setAddHashed setAddHashedIn;refine qT (qx (vf (s:={s with toks:=s.toks+(k.length+1)}) ho hd TB.fits ?_));dsimp only;rw[show byScan (.ref a) es=aq from rfl];simp only[qq,cW];unfold setSearch;refine qx (Om (s:={s with toks:=s.toks+(k.length+1)}) hu ho hd TB hM (up hk) hE' f2 f3 f1 (fun i b hei hb=>?_) (fun hall=>?_) 100000 0 ac ?_ (gd _) rfl (fun m i b hm=>by omega))
 ·
  dsimp only;obtain⟨k',b',q1,q2⟩:=hE i _ hei;have:b'=b:=by have:=(Fq q1).2;injection this with e;exact e.symm
  subst this;have ek:=down q2 hb;subst ek;have hmem:=hout i k _ hei q2;refine qA (h aq s.heap _ o (by show s.toks<=s.toks+(k.length+1);omega) (Fp S s.heap) ho ⟨hc,es,ep,t,hd,TB,hM,hE,?_⟩);rw[xI,qY hmem];exact⟨hsz,hin,hout⟩
 ·
  dsimp only;have hnew:k∉dd ks:=fun hm=>by obtain⟨i,b,q1,q2⟩:=hin k hm;exact hall i b q1 (up q2)
  have hpl:cI t.place (J t.mask (bG knd k) n0)<=es.size:=by have:=(xY t.place (J t.mask (bG knd k) n0) TB.ri).1;rw[TB.sz] at this;exact this
  have hmaskle:t.mask<=511:=by rcases hM with e|e|e|e<;>omega
  have hmem:∀e,e∈(di es (cI t.place (J t.mask (bG knd k) n0)) (bG knd k,ci a)).toList↔e=(bG knd k,ci a)\/e∈es.toList:=fun e=>by rw[oW _ _ _ hpl];exact wd _ _ _ _
  have hsize:(di es (cI t.place (J t.mask (bG knd k) n0)) (bG knd k,ci a)).size=es.size+1:=by have:=df fF (oW es _ (bG knd k,ci a) hpl);simp only[iu,qi,qh,qE,l5] at this;omega
  have hpsz:(di t.place (cI t.place (J t.mask (bG knd k) n0)) (J t.mask (bG knd k) n0)).size=es.size+1:=by have:=df fF (oW t.place _ (J t.mask (bG knd k) n0) (by rw[TB.sz];exact hpl));have h3:=TB.sz;simp only[iu,qi,qh,qE,l5] at this;omega
  refine qx (vf (s:={s with toks:=s.toks+(k.length+1)}) ho hd TB.fits ?_);dsimp only;have fin:∀(es':b8 (af×av)) (t':md) (h':Heap) (o':bh),Tb t' es'->Mk t'.mask->(∀e,e∈es'.toList↔e=(bG knd k,ci a)\/e∈es.toList)->es'.size=es.size+1->jr S s.heap h'->h'.get? S=aa o'->o'.ExactSet->(∃ep',o'.data=.set es' ep' t')->Q al {s with heap:=h',toks:=s.toks+(k.length+1)}:=fun es' t' h' o' q1 q2 q3 q4 q5 q6 q7 q8=>by obtain⟨ep',q8⟩:=q8;obtain⟨w1,w2,w3,w4⟩:=Mj hk hE hsz hin hout hnew q3 q4;exact h al h' _ o' (by omega) q5 q6 ⟨q7,es',ep',t',q8,q1,q2,w1,w2,w3,w4⟩
  have bS:∀pl:bq,aJ (aQ prog w) A (do
    storeSet S (di es (t.put (J t.mask (bG knd k) n0)).2 (bG knd k,ci a)) { (t.put (J t.mask (bG knd k) n0)).1 with plain:=pl}
    if (!aq && vg { (t.put (J t.mask (bG knd k) n0)).1 with plain:=pl})=al then do
     setRelay S (zx (es.size+1))
     bm al
    else bm al) Q E {s with toks:=s.toks+(k.length+1)}:=fun pl=>by
   refine qx (R7 (s:={s with toks:=s.toks+(k.length+1)}) ho hd ?_ (by show(di es (cI t.place (J t.mask (bG knd k) n0)) (bG knd k,ci a)).size<=aM;rw[hsize,fE];omega));have hg1:=Ej (es':=di es (t.put (J t.mask (bG knd k) n0)).2 (bG knd k,ci a)) (t':={ (t.put (J t.mask (bG knd k) n0)).1 with plain:=pl}) ho hd;have hsb1:=R8 s.heap S (FV (di es (t.put (J t.mask (bG knd k) n0)).2 (bG knd k,ci a)) { (t.put (J t.mask (bG knd k) n0)).1 with plain:=pl});have hdum:(t.put (J t.mask (bG knd k) n0)).1.dummies=#[]:=by show(if FF t.dummies _ then _ else t.dummies)=#[];rw[TB.dm];rfl
   have hfill:RQ { (t.put (J t.mask (bG knd k) n0)).1 with plain:=pl}=es.size+1:=by show(di t.place _ _).size+(t.put (J t.mask (bG knd k) n0)).1.dummies.size=_;rw[hdum];exact hpsz
   by_cases few:(es.size+1)*5<t.mask*3
   .have hfull:vg { (t.put (J t.mask (bG knd k) n0)).1 with plain:=pl}=aq:=by unfold vg;rw[hfill];exact qN (by show ¬((es.size+1)*5 ≥ t.mask*3);omega)
    rw[hfull];simp only[oF,Rv,qq,cW];refine qA (fin _ _ _ _ (TB.put (x:=.ref a) f2 f3 few pl) hM hmem hsize hsb1 hg1 hc ⟨_,rfl⟩)
   .have hfull:vg { (t.put (J t.mask (bG knd k) n0)).1 with plain:=pl}=al:=by unfold vg;rw[hfill];exact qS (by show((es.size+1)*5 ≥ t.mask*3);omega)
    rw[hfull];simp only[oF,Bool.and_true,cy];obtain⟨m1,m2,m3⟩:=hM.grow TB.few few (by omega);have hes1:(di es (t.put (J t.mask (bG knd k) n0)).2 (bG knd k,ci a)).size=es.size+1:=hsize;obtain⟨t',order,r1,r2,r3,r4,r5,r6⟩:=Full.relaid (t:={ (t.put (J t.mask (bG knd k) n0)).1 with plain:=pl}) (es:=di es (t.put (J t.mask (bG knd k) n0)).2 (bG knd k,ci a)) m1.full (by rw[hes1];exact m2);unfold setRelay;have hfits:FH { (t.put (J t.mask (bG knd k) n0)).1 with plain:=pl} (di es (t.put (J t.mask (bG knd k) n0)).2 (bG knd k,ci a)).size=al:=by unfold FH;rw[hfill,hes1,iS];have:=TB.few;exact⟨by rw[lW];exact hpsz,qS (by show es.size+1<=t.mask;omega)⟩
    refine qx ?_;refine qx (vf (s:={s with heap:=_,toks:=s.toks+(k.length+1)}) hg1 rfl hfits ?_);dsimp only;rw[qZ (by rw[fE];omega),r1];refine qx ?_;show aJ _ _ (if ((order.filterMap ((di es (t.put (J t.mask (bG knd k) n0)).2 (bG knd k,ci a))[·]?)).size != (di es (t.put (J t.mask (bG knd k) n0)).2 (bG knd k,ci a)).size)=al then _ else _) _ _ _;rw[qZ (by rw[r2];simp)];refine qA ?_;dsimp only;refine R7 (s:={s with heap:=_,toks:=s.toks+(k.length+1)}) hg1 rfl ?_ (by rw[r2,hes1,fE];omega);refine qA (fin _ t' _ _ r3 (by rw[r5];exact m1) (fun e=>(r4 e).trans (hmem e)) (by rw[r2,hes1]) (hsb1.trans (R8 _ S _)) (Ej hg1 rfl) hc ⟨_,rfl⟩)
  split
  .refine qx (QN (s:={s with toks:=s.toks+(k.length+1)}) (up hk) hsc fun bv=>?_);cases bv
   .exact bS aq
   .exact bS _
  .refine qx (qA ?_);exact bS _
 .show n0-0<100000;have:t.mask<=511:=by rcases hM with e|e|e|e<;>omega
  omega
end
end ST
section
open ST
noncomputable instance (priority:=high) keyBEq:BEq Key:=R9
noncomputable instance (priority:=high) keyLaw:LawfulBEq Key:=inferInstanceAs (@LawfulBEq Key R9)
noncomputable def C9 (n:ag) (o:bh):Prop:=o.ExactSet/\∃es ep t,o.data=.set es ep t/\t.fits es.size=al/\es.size=n
noncomputable def lD (p:aw) (n:ag):HO:=.ext fun h=>∃o,h.get? p=aa o/\C9 n o
theorem CW (v:av) (k:Key) (h:(dc P w).is k v=al):v.scannable=al:=by rcases jF h with⟨i,t,rfl,rfl⟩|⟨x,t,rfl,rfl⟩<;>rfl
noncomputable def GZ:ab V->Hp->VK->Prop:=fun xs H Q=>∃a vs,xs=[.ref a]/\H a=aa (.lst vs)/\vs.length<=300 /\
 ((∃ks:ab Key,vs=ks.map kV/\∀p,H p=ac->Q (.ref p) (upd H p (lD p (dd ks).length))) \/
 (∃ts:ab (ab Key),vs.length=ts.length/\(∀(i:ag) t,ts[i]?=aa t->∃b,vs[i]?=aa (.ref b)/\H b=aa (.tup (t.map kV)))/\∀p,H p=ac->Q (.ref p) (upd H p (lD p (dd ts).length))))
theorem Jf (hc:X.calm=al) (hu:X.A.units+66<cT):fU X (.type "set") GZ:=by
 intro pins s σ H xs us Q I r h;obtain⟨a,vs,rfl,ha,hl,h⟩:=h;obtain⟨u,rfl,ru⟩:=fY r;cases ru;obtain⟨its,rv,pl,hz⟩:=I.list (.inl (.inl ha));have hlen:=rv.length;have hsz:its.toArray.size=vs.length:=by rw[qB,hlen]
 have fin:∀(n:ag) (h':Heap) (tk:ag) (o:bh),h'.get? s.heap.objs.size=aa o->C9 n o->(∀b o,b<s.heap.objs.size->s.heap.get? b=aa o->h'.get? b=aa o)->
   (∀p,H p=ac->Q (.ref p) (upd H p (lD p n)))->EP X pins σ Q (.ref s.heap.objs.size) {s with heap:=h',toks:=tk}:=fun n h' tk o ho hn hk q=>by
  refine⟨.ref s.heap.objs.size,_,I.laid (a:=s.heap.objs.size) (o:=lD s.heap.objs.size n) (fun b u e=>hk b u (qu e) e) (qv _) ?_,rfl,q _ I.fresh⟩;refine⟨⟨o,ho,hn⟩,⟨o,ho⟩,fun h1 h2 hp hk2=>?_⟩;obtain⟨o1,q1,q2⟩:=hp;exact⟨o1,hk2 o1 q1,q2⟩
 rcases h with⟨ks,rfl,q⟩|⟨ts,ht,hts,q⟩
 ·
  have hkl:ks.length=its.length:=by rw[←hlen,qe]
  refine AJ (I.ok.hd hc) pl.isList (fun i o=>o.SetObjOf (dc X.prog X.w) (fun k=>decide (k∈dd (ks.take i))) (dd (ks.take i)).length) (fun led=>?_) (fun A' hA' i v sh o Q' E' hi hv ho hJ hB hQ=>?_) fun h' tk o ho hJ hk=>?_
  .have:=setObjOf_fresh (knd:=dc X.prog X.w) led;simpa[dd] using this
  .have hi':i<ks.length:=by rw[qB] at hi;omega
   obtain⟨u2,hu2,ru2⟩:=rv.get (i:=i) (x:=kV ks[i]) (by simp[hi']);have ev:v=u2:=by
    have hv':its[i]?=aa v:=by simpa using hv
    rw[hu2] at hv';exact(qH hv').symm
   subst ev;have hkey:=nI (P:=X.prog) (w:=X.w) ru2;have hle:(dd (ks.take i)).length<=300:=by have h1:=oP (ks.take i);rw[qE] at h1;rw[qe] at hl;omega
   unfold vd;refine qT (qx ((dc X.prog X.w).pyHash hkey ?_));refine wpAny_setAddHashed_of (knd:=dc X.prog X.w) (s:={sh with toks:=sh.toks+1}) hkey (CW _ _ hkey) (hJ.setOf ho (by unfold FW;omega)) (by unfold FW;omega) fun h' hsb hS2=>?_;obtain⟨o',ho',hso⟩:=hS2.objOf;refine hQ _ h' _ o' (uO _) hsb ho' ?_;have htk:ks.take (i+1)=ks.take i++[ks[i]]:=by rw[lj,qD hi'];rfl
   show Obj.SetObjOf (dc X.prog X.w) o' (fun k=>decide (k∈dd (rV (i+1) ks))) (dd (rV (i+1) ks)).length;rw[htk,xI];by_cases hm:ks[i]∈dd (ks.take i)
   .rw[qY hm];rw[qY (by simpa using hm)] at hso;have e:(fun k'=>decide (k'∈dd (ks.take i)) || decide (k'=ks[i]))=fun k'=>decide (k'∈dd (ks.take i)):=by
     funext k'
     by_cases hk':k'=ks[i]
     .subst hk';simp[hm]
     .simp[hk']
    rw[e] at hso;exact hso
   .rw[qZ hm];rw[qZ (by simpa using hm)] at hso;have e:(fun k'=>decide (k'∈dd (ks.take i)) || decide (k'=ks[i]))=fun k'=>decide (k'∈dd (ks.take i)++[ks[i]]):=by
     funext k'
     rw[rF];simp
    rw[e] at hso;simpa using hso
  .have e:ks.take its.toArray.size=ks:=by rw[qB,←hkl];exact ny
   rw[e] at hJ;have hS:=hJ.setOf ho (by have:=oP ks;rw[qe] at hl;unfold FW;omega);obtain⟨o1,es,ep,t,v0,v1,v2,_,_,_,v3,v4⟩:=hS;rw[ho] at v0;cases v0;exact fin _ h' tk o ho ⟨v1,es,ep,t,v2,v3,v4⟩ hk q
 ·
  have hkl:ts.length=its.length:=by rw[←hlen,ht]
  refine AJ (I.ok.hd hc) pl.isList (fun i o=>ST.TS (dc X.prog X.w) s.heap (ts.take i) o) (fun led=>?_) (fun A' hA' i v sh o Q' E' hi hv ho hJ hB hQ=>?_) fun h' tk o ho hJ hk=>?_
  .refine⟨⟨rfl,rfl,rfl⟩,#[],0,vh 0 0 led,rfl,?_,.inl rfl,fun i e he=>by simp at he,rfl,fun k hk=>by simp[dd] at hk,fun i k b he=>by simp at he⟩;exact⟨DC,rfl,rfl,by simp[vh],by simp[vh],by simp[vh],fun i j h x hp=>by simp[vh] at hp⟩
  .have hi':i<ts.length:=by rw[qB] at hi;omega
   obtain⟨b,hb1,hb2⟩:=hts i ts[i] (by simp[hi']);obtain⟨u2,hu2,ru2⟩:=rv.get hb1;have ev:v=u2:=by
    have hv':its[i]?=aa v:=by simpa using hv
    rw[hu2] at hv';exact(qH hv').symm
   subst ev;cases ru2;have hkey:=pe I.hok hb2;have htk:ts.take (i+1)=ts.take i++[ts[i]]:=by rw[lj,qD hi'];rfl
   refine Qx (fun v k=>CW v k) (by omega) ho hJ hkey (fun b' o' e=>hB b' o' (qu e) e) (by rw[qE];have:=hl;omega) fun bb h' tk o' h1 h2 h3 h4=>hQ bb h' tk o' h1 h2 h3 (by show ST.TS _ _ (rV (i+1) ts) o';rw[htk];exact h4)
  .have e:ts.take its.toArray.size=ts:=by rw[qB,←hkl];exact ny
   rw[e] at hJ;obtain⟨hc',es,ep,t,w1,w2,w3,w4,w5,w6,w7⟩:=hJ;exact fin _ h' tk o ho ⟨hc',es,ep,t,w1,w2.fits,w5⟩ hk q
theorem Ph:fU X (.builtin "len") (fun xs H Q=>∃p n,xs=[.ref p]/\H p=aa (lD p n)/\n<=300/\Q (.int n) H):=by intro pins s σ H xs us Q I r h;obtain⟨p,n,rfl,hp,hn,q⟩:=h;obtain⟨u,rfl,ru⟩:=fY r;cases ru;obtain⟨⟨o,ho,hex,es,ep,t,w1,w2,w3⟩,_,_⟩:=I.hok p _ hp;exact call_len_set ho hex w1 w2 (by omega) ⟨.int n,H,I.tok _,⟨_,by rw[w3]⟩,q⟩
end
section
open ST
noncomputable def mf:ab D->ao (ab (ab Key))
 |[]=>aa []
 |.tup t::r=>(ia t).bind fun k=>(mf r).map (k::·)
 |_::_=>ac
theorem Et {Γ:Cn} {K:aV} {G H:Hp} (gh:bp G H):∀{vs:ab V} {ds:ab D} {ts:ab (ab Key)},Reps Γ K G vs ds->mf ds=aa ts->vs.length=ts.length/\∀(i:ag) t,ts[i]?=aa t->∃b,vs[i]?=aa (.ref b)/\H b=aa (.tup (t.map kV))
 |_,[],ts,r,h=>by cases r;cases h;exact⟨rfl,fun i t e=>by simp at e⟩
 |_,d::ds,ts,.cons h1 h2,h=>by
  cases d with
  |tup t=>
   unfold mf at h;obtain⟨k,hk,h⟩:=oBd h;obtain⟨zs,hz,rfl⟩:=oMd h;obtain⟨a,us,rfl,ha,ra⟩:=h1.tup_inv;have e:=nU ra hk;subst e;obtain⟨q1,q2⟩:=Et gh h2 hz;refine⟨by rw[qh,qh,q1],fun i t' e=>?_⟩;cases i with
   |zero=>cases e;exact⟨a,rfl,gh _ _ ha⟩
   |succ i=>exact q2 i t' e
  |_=>cases h
noncomputable def nW:D->ao D
 |.lst l=>if l.length<=300 then match ia l with
  |some ks=>aa (.int (dd ks).length)
  |none=>(mf l).map fun ts=>.int (dd ts).length
  else ac
 |_=>ac
section
variable {pos2:dF}
theorem Iz (hc:X.calm=al) (hu:X.A.units+66<cT) (hgl:Gl X "len") (hml:X.mg "len"=ac) (hgs:Gl X "set") (hms:X.mg "set"=ac) (h:DE Γ X e f)
  (h1:aS ([.Call (.Name "set" p2) [e] [] pos2]:ab Expr) X.env=(aq,eval (.Call (.Name "set" p2) [e] [] pos2) X.env)::aS [] X.env:=by rfl) (h2:(cz pos (aS [] X.env)).any (·.1)=aq:=by rfl)
  (h3:aS ([e]:ab Expr) X.env=(aq,eval e X.env)::aS [] X.env:=by rfl) (h4:(cz pos2 (aS [] X.env)).any (·.1)=aq:=by rfl) :
  DE Γ X (.Call (.Name "len" p) [.Call (.Name "set" p2) [e] [] pos2] [] pos) (b1 nW f):=⟨by
 refine(wj Ph hgl hml (by rfl) (gR (xG (Jf hc hu) hgs hms (by rfl) (gR h.1 gI h3) (by decide) (by decide) h3 h4) gI h1) (by decide) (by decide) h1 h2).imp fun σ H Q=>?_;rintro⟨G₀,H₀,G,ρ,d,A,hq,k⟩;unfold b1 at hq;obtain⟨x,hx,hl⟩:=oBd hq;clear hq;refine⟨G₀,H₀,G,ρ,x,A,hx,fun v G1 H1 s1 r1=>?_⟩;unfold nW at hl;split at hl
 .rename_i l;split at hl
  .rename_i hz;obtain⟨a,vs,rfl,ha,ra⟩:=r1.lst_inv;have go:∀(n:ag),n<=300->d=.int n->∀p,H1 p=ac->∃p' n',[V.ref p]=[V.ref p']/\(upd H1 p (lD p n)) p'=aa (lD p' n')/\n'<=300/\Q (.int n') (upd H1 p (lD p n)):=fun n hn ed p hp=>by subst ed;refine⟨p,n,rfl,bV,hn,k _ G1 _ (s1.trans (Step.newOwn s1.gh hp)) (.int _)⟩
   refine⟨a,vs,rfl,s1.gh _ _ ha,by rw[ra.length];exact hz,?_⟩;split at hl
   .rename_i ks hk;refine .inl ⟨ks,nU ra hk,go _ ?_ (qH hl).symm⟩;have h5:=oP ks;have h6:ks.length=l.length:=by have:=nU ra hk;rw[←ra.length,this,qe]
    omega
   .obtain⟨ts,ht,e1⟩:=oMd hl;obtain⟨q1,q2⟩:=Et s1.gh ra ht;refine .inr ⟨ts,q1,q2,go _ ?_ e1.symm⟩;have h5:=oP ts;have h6:=ra.length;omega
  .cases hl
 .cases hl⟩
end
end
namespace DT
theorem OE:yX (.type "list") "keys"=bm ac:=by rw[R',Sa];kernel_rfl
theorem Qr:yX (.type "list") "__getattr__"=bm ac:=by rw[R',Sa];kernel_rfl
theorem Mz {l:aw} {u:Tok} {xs:b8 av} (hx:s.heap.get? l=aa {cls:=.type "list",data:=.seq xs n}) (hA:A.handled=ac)
  (h:∀h' tk e,Heap.NewAttrErr s.heap h' e (.ref l) "keys"->R (.error (.ref e)) {s with heap:=h',toks:=tk}) :
  ju (aQ prog w) A (.call (.builtin "list.__getattribute__") ⟨[.ref l,.str "keys" u],[]⟩) R s:=by
 obtain⟨hp,g,d,tk,os⟩:=s;have hT:(⟨hp,g,d,tk,os⟩:aI).TypeIs (.ref l) "list":=⟨_,hx,rfl⟩;have f1:=OE;refine R1 zD.plain F.entry_list_ga (zD.check _ _ _ _ _ _ _ _ hT (F.args_list_getattribute_2 _ _) ?_);unfold Builtin.«object.__getattribute__»
 repeat (any_goals (first|assumption|wp_step))
 have hsz:(yV "keys").length+100<=aM:=by rw[PySem.ofString_length];decide
 refine wpAny_raiseAttrError (A:=A.in1) hA h ?_;exact attrMsg_fits (by decide +kernel) hsz
set_option maxHeartbeats 4000000 in
theorem MF {l:aw} {Q:ao av->aI->Prop} {xs:b8 av} (hx:s.heap.get? l=aa {cls:=.type "list",data:=.seq xs n}) (hA:A.handled=ac)
  (h:∀h' tk,(∀b ob,s.heap.get? b=aa ob->h'.get? b=aa ob)->Q ac {s with heap:=h',toks:=tk}) :
  aJ (aQ prog w) A (getAttr? (.ref l) "keys") Q E s:=by
 obtain⟨hp,g,d,tk,os⟩:=s;have hT:∀tk',(⟨hp,g,d,tk',os⟩:aI).TypeIs (.ref l) "list":=fun _=>⟨_,hx,rfl⟩;have f1:=sub_AttributeError;have f2:=zD.lookup;have f3:=zD.bind (.ref l);have f5:=Qr;unfold getAttr? getAttrBy?;refine qx (wpAny_mkText ?_);refine qx (wpAny_attempt ?_);unfold getAttrBy;refine qT (qx (uR (hT _) (qx (FX f2 ?_))));show aJ _ _ (Sb _ _ _ _ _ _) _ _ _;unfold Sb;refine qx (m:=hookBefore (jq "list")) (qA ?_);refine qx (wpAny_attempt (qT ?_));show aJ _ _ (Sc _ _ _) _ _ _;unfold Sc;refine qx (FX f3 ?_);refine yP (Mz (s:=⟨hp,g,d,tk+1,os⟩) hx hA fun h' tk' e hn=>?_);obtain⟨t',u',he⟩:=hn.there;have hE:zz ⟨h',g,d,tk',os⟩ (.ref e) "AttributeError":=⟨_,he,rfl⟩;show aJ _ _ (Sd _ _ _ _ _ _ _) _ _ _;unfold Sd;refine qx (Se hE f1 ?_);simp only[cy];refine qx (m:=hookBehind (jq "list") ac) (FX f5 ?_);unfold hookOrError attributeErrorLeaves;simp only[oF,cy];refine qx (wpAny_throw ?_);refine qx (Se hE f1 ?_);simp only[cy];exact qA (h h' tk' hn.keeps)
theorem Cp:entryFor table "dict.update.loop"=aa Builtin.«dict.update.loop»:=entryFor_of_tree (by kernel_rfl)
theorem sC:plainId "dict.update.loop"=al:=by decide +kernel
section
variable {G:b8 rD->b8 rD->Prop} {P:ag->av->Prop} {St:ag->aI->Prop}
noncomputable def AS (prog:dS) (w:cQ) (A:dL) (S:aw) (h0:Heap) (P:ag->av->Prop) (n:ag) (J:ag->bh->Prop):Prop:=
 ∀(i:ag) (b:aw) (kv vv:av) (s:aI) (o:bh) (Q:lT->aI->Prop) (E:av->aI->Prop),i<n->P i (.ref b)->h0.IsTuple b #[kv,vv]->s.heap.get? S=aa o->J i o->(∀b o,b<h0.objs.size->h0.get? b=aa o->s.heap.get? b=aa o)->
  (∀h' tk o',s.toks<=tk->jr S s.heap h'->h'.get? S=aa o'->J (i+1) o'->Q () {s with heap:=h',toks:=tk})->aJ (aQ prog w) A (dictSet S kv vv) Q E s
theorem OK (W:WalksS prog w A.in1 I fp wr G n P St) (S:aw) (hSf:S∉fp) (h0:Heap) (hS0:h0.objs.size<=S) (hw0:∀b∈wr,h0.objs.size<=b) (J:ag->bh->Prop) (hadd:AS prog w A.in1 S h0 P n J) (hP:∀i v,P i v->∃b kv vv,v=.ref b/\h0.IsTuple b #[kv,vv]) :
  ∀(k i:ag) (c:af) (s:aI) (o:bh),n-i=k->i<=n->St i s->s.heap.get? S=aa o->J i o->(∀b o,b<h0.objs.size->h0.get? b=aa o->s.heap.get? b=aa o)->
   (∀s' o',Moved (S::wr) G s s'->s'.heap.get? S=aa o'->J n o'->R (.ok (.ret .none)) s')->
   ju (aQ prog w) A (.builtin "dict.update.loop" ⟨[.ref S,.ref I,rawInt c,.none],[]⟩) R s:=by
 have hSw:S∉wr:=fun h=>hSf (W.sub _ h);have hsub:∀b∈wr,b∈S::wr:=fun b hb=>qg _ hb;have keep:∀{h h':Heap},(∀b o,b<h0.objs.size->h0.get? b=aa o->h.get? b=aa o)->(∀b o,b∉S::wr->h.get? b=aa o->h'.get? b=aa o)->∀b o,b<h0.objs.size->h0.get? b=aa o->h'.get? b=aa o:=fun q1 q2 b o hb e=>q2 b o (fun z=>by
  rcases cG.mp z with z|z
  .rw[z] at hb;exact bN hb (Fn.mpr hS0)
  .exact bN hb (Fn.mpr (hw0 b z))) (q1 b o hb e)
 intro k
 induction k with
 |zero=>
  intro i c s o hk hi hst hS hJ hB hR;have hin:i=n:=by omega
  subst hin;refine ve Cp ?_;rw[zy sC _];show aJ _ A.in1 (mZ (.ref I) >>= _) _ _ s;refine qx (W.done s _ _ hst fun s' hm=>?_);show aJ _ A.in1 (T3 S [] >>= _) _ _ s';exact qx (qA (qA (hR s' o (hm.mono hsub) (hm.heap S _ hSw hS) hJ)))
 |succ k ih=>
  intro i c s o hk hi hst hS hJ hB hR;have hlt:i<n:=by omega
  refine ve Cp ?_;rw[zy sC _];show aJ _ A.in1 (mZ (.ref I) >>= _) _ _ s;refine qx (W.item i s _ _ hlt hst fun v s' hPv hst' hm=>?_);obtain⟨b,kv,vv,rfl,hb⟩:=hP i v hPv;have hB':=keep hB fun b o hb e=>hm.heap b o (fun z=>hb (hsub b z)) e;obtain⟨ob,hob,hoc,nn,hod⟩:=hb;have hob':s'.heap.get? b=aa ob:=hB' b ob (qu hob) hob;have hTb:s'.TypeIs (.ref b) "tuple":=⟨_,hob',hoc⟩;show aJ _ A.in1 (jt [ci b] _ >>= _) _ _ s';refine qx (qT ?_);refine qx ?_;refine wpAny_tryCatch ?_;unfold T4;refine qx (uR hTb ?_);rw[qY (by decide)];refine qx (FP hob' hod (qA ?_));show aJ _ A.in1 (jt [kv,vv] (dictSet S kv vv)) _ _ s';refine qT (hadd i b kv vv s' o _ _ hlt hPv ⟨ob,hob,hoc,nn,hod⟩ (hm.heap S _ hSw hS) hJ hB' fun h' tk o' htk hsb hS' hJ'=>?_);refine qA ⟨FO sC _,ih (i+1) (c+1) _ o' (by omega) hlt (W.frame _ s' _ _ hst' htk fun b hb o e=>?_) hS' hJ' ?_ fun s'' o'' hm'' hS'' hJ''=>?_⟩
  .rw[hsb.2 b (fun h:b=S=>hSf (by rw[←h];exact hb))];exact e
  .refine keep hB' fun b o hb e=>?_;show h'.get? b=aa o;rw[hsb.2 b (fun h:b=S=>hb (by rw[h];exact qf))];exact e
  .refine hR s'' o'' (R0 W.gtrans ((hm.mono hsub).then_heap htk fun b o hb e=>?_) hm'') hS'' hJ'';rw[hsb.2 b (fun h:b=S=>hb (by rw[h];exact qf))];exact e
end
theorem call_dict_gen {l:aw} {c:ag} (hh:A.handled=ac) (hl:s.heap.get? l=aa {cls:=.type "list",data:=.seq items c}) (J:ag->bh->Prop)
  (hJ0:J 0 {cls:=.type "dict",data:=.dict #[]})
  (hadd:∀A':dL,A'.units<=A.units+16->AS prog w A' s.heap.objs.size s.heap (fun i v=>items[i]?=aa v) items.size J)
  (hP:∀(i:ag) (v:av),items[i]?=aa v->∃b kv vv,v=.ref b/\s.heap.IsTuple b #[kv,vv])
  (h:∀(h':Heap) (tk:ag) (o:bh),h'.get? s.heap.objs.size=aa o->J items.size o->
   (∀b o,b<s.heap.objs.size->s.heap.get? b=aa o->h'.get? b=aa o)->Q (.ref s.heap.objs.size) {s with heap:=h',toks:=tk}) :
  aJ (aQ prog w) A (call (.type "dict") [.ref l]) Q E s:=by
 refine callType_codes (Q₁:=fun obj s₁=>obj=.ref s.heap.objs.size/\s₁={s with heap:=s.heap.push {cls:=.type "dict",data:=.dict #[]} }) F.kt_called_dict (F.kt_typeCall_dict_1 _) F.entry_dict_init (kt_code_dict_new _ ⟨rfl,rfl⟩) ?_;rintro obj s₁ ⟨rfl,rfl⟩;have hnew:(s.heap.push {cls:=.type "dict",data:=.dict #[]}).get? s.heap.objs.size=aa {cls:=.type "dict",data:=.dict #[]}:=qG _ rfl;have hl1:(s.heap.push {cls:=.type "dict",data:=.dict #[]}).get? l=aa {cls:=.type "list",data:=.seq items c}:=qt _ hl;have hT:zz {s with heap:=s.heap.push {cls:=.type "dict",data:=.dict #[]} } (.ref s.heap.objs.size) "dict":=⟨_,hnew,rfl⟩;have hTl:zz {s with heap:=s.heap.push {cls:=.type "dict",data:=.dict #[]} } (.ref l) "list":=⟨_,hl1,rfl⟩;refine⟨hT,F.args_dict_init_2 _ _,?_⟩;unfold Builtin.«dict.__init__»;refine qx ?_;unfold T5;refine qx (wpAny_notOrdered_dict hT ?_);show aJ _ _ (bm (s.heap.objs.size,[ci l])) _ _ _;refine qA ?_;show aJ _ _ (Sf "dict.__init__" s.heap.objs.size (.ref l) [] .none) _ _ _;unfold Sf;refine qx (uR hTl ?_);rw[qY (by decide)];refine qx (MF (s:={s with heap:=s.heap.push {cls:=.type "dict",data:=.dict #[]} }) (A:=A.in1.in1) hl1 hh fun h1 tk1 hk1=>?_);simp only[Option.isNone_none,cy];refine qx (wpAny_rule ?_);have hl2:h1.IsList l items:=⟨_,hk1 _ _ hl1,rfl,_,rfl⟩;refine qx (uW (s:={s with heap:=h1,toks:=tk1}) hl2 ?_);refine qA ⟨FO sC _,?_⟩;have hlS:l<s.heap.objs.size:=qu hl;have hsz1:s.heap.objs.size<h1.objs.size:=qu (hk1 _ _ hnew);have hneI:l≠h1.objs.size:=qC (rP hlS hsz1);have hSf:s.heap.objs.size∉[h1.objs.size,l]:=by simp only[qL,bY,qJ,or_false,oE];exact⟨qC hsz1,yE hlS⟩
 have old:∀b o,b<s.heap.objs.size->s.heap.get? b=aa o->h1.get? b=aa o:=fun b o _ e=>hk1 _ _ (qt _ e);refine OK ((Fx (A:=A.in1.in1) (by simpa using hh) _ l hneI items).toS) s.heap.objs.size hSf s.heap (qv _) (fun b hb=>?_) J (hadd _ (by show A.units+2<=_;omega)) hP (items.size-0) 0 0 _ _ (by omega) (gd _)
  ⟨⟨_,qG _ rfl,rfl,rfl⟩,hl2.push _⟩ (qt _ (hk1 _ _ hnew)) hJ0 (fun b o hb e=>qt _ (old b o hb e)) fun s' o' hm hS' hJ'=>?_
 .have:b=h1.objs.size:=by simpa using hb
  rw[this];exact rC hsz1
 .obtain⟨h',g',d',tk',os'⟩:=s';have eg:g'=s.gens:=hm.gens;have ed:d'=s.drawn:=hm.drawn;have eo:os'=s.os:=hm.os;subst eg;subst ed;subst eo;refine⟨rfl,h h' tk' o' hS' hJ' fun b o hb e=>hm.heap b o ?_ (qt _ (old b o hb e))⟩;simp only[qL,bY,qJ,or_false,oE];exact⟨qC hb,qC (rP hb hsz1)⟩
end DT
section
variable [fC κ]
noncomputable def mrg (kvs ps:ab (κ×V)):ab (κ×V):=ps.foldl (fun acc kv=>c9 acc kv.1 kv.2) kvs
theorem DQ (kvs ps:ab (κ×V)) (p:κ×V):mrg kvs (ps++[p])=c9 (mrg kvs ps) p.1 p.2:=by unfold mrg;rw[zA];rfl
theorem Qn (kvs:ab (κ×V)) (k:κ) (v:V):(c9 kvs k v).length<=kvs.length+1:=by
 unfold c9;split
 .rw[qe];omega
 .rw[qi,qW];omega
theorem pF:∀(ps kvs:ab (κ×V)),(mrg kvs ps).length<=kvs.length+ps.length
 |[],kvs=>qv _
 |p::ps,kvs=>by have h1:=pF ps (c9 kvs p.1 p.2);have h2:=Qn kvs p.1 p.2;show(mrg (c9 kvs p.1 p.2) ps).length<=_;rw[qh];omega
end
noncomputable def MW:ab V->Hp->VK->Prop:=fun xs H Q=>∃(a:aw) (vs:ab V) (ps:ab (Key×V)),xs=[.ref a]/\H a=aa (.lst vs)/\vs.length=ps.length/\ps.length<=1000/\(∀(i:ag) p,ps[i]?=aa p->∃b,vs[i]?=aa (.ref b)/\H b=aa (.tup [kV p.1,p.2])) /\
 ∀q,H q=ac->Q (.ref q) (upd H q (.dK (mrg [] ps)))
theorem AL {b:aw} {x y:V} (I:Inv X pins σ H s) (hb:H b=aa (.tup [x,y])):∃u v,bO x u/\bO y v/\s.heap.IsTuple b #[u,v]:=by
 obtain⟨its,r,p,_⟩:=I.tuple (.inl (.inl hb));cases r with
 |cons r1 r2=>
  cases r2 with
  |cons r2 r3=>
   cases r3;exact⟨_,_,r1,r2,p⟩
theorem tuple_inj {h:Heap} {b:aw} {x y:b8 av} (p:h.IsTuple b x) (q:h.IsTuple b y):x=y:=by obtain⟨o,h1,_,n,h2⟩:=p;obtain⟨o',g1,_,m,g2⟩:=q;rw[h1] at g1;cases g1;rw[h2] at g2;cases g2;rfl
theorem HA (hc:X.calm=al) (hu:X.A.units+66<cT):fU X (.type "dict") MW:=by
 intro pins s σ H xs us Q I r h;obtain⟨a,vs,ps,rfl,ha,hl,hz,hp,q⟩:=h;obtain⟨u,rfl,ru⟩:=fY r;cases ru;obtain⟨z,its,n,rv,hlen,e⟩:=I.lstM ha;have hsz:its.toArray.size=ps.length:=by rw[qB,←hlen,hl]
 have hit:∀(i:ag) (v:av),its.toArray[i]?=aa v->∃p b u w,ps[i]?=aa p/\v=.ref b/\bO (kV p.1) u/\bO p.2 w/\s.heap.IsTuple b #[u,w]:=fun i v hv=>by
  have hi:i<ps.length:=by rw[←hsz];exact(iU.mp hv).1
  obtain⟨b,hb1,hb2⟩:=hp i ps[i] (by simp[hi]);obtain⟨u2,hu2,ru2⟩:=rv.get hb1;have hv':its[i]?=aa v:=by simpa using hv
  rw[hu2] at hv';cases hv';cases ru2;obtain⟨u,w,r1,r2,r3⟩:=AL I hb2;exact⟨ps[i],b,u,w,by simp[hi],rfl,r1,r2,r3⟩
 refine DT.call_dict_gen (I.ok.hd hc) e (fun i o=>∃vs',KV (mrg [] (ps.take i)) vs'/\o.IsDictOf (dc X.prog X.w) vs') ?_ (fun A' hA' i b kv vv sh o Q' E' hi hv hb ho hJ hB hQ=>?_) (fun i v hv=>?_) fun h' tk o ho hJ hk=>?_
 .obtain⟨o,ho,hd⟩:=zE.mp (RB (knd:=dc X.prog X.w) s.heap);have:o={cls:=.type "dict",data:=.dict #[]}:=by have:=qG s.heap (o:={cls:=.type "dict",data:=.dict #[]}) rfl;rw[this] at ho;exact(qH ho).symm
  subst this;exact⟨[],.nil,hd⟩
 .obtain⟨p,b',u,w,h1,h2,h3,h4,h5⟩:=hit i _ hv;cases h2;have e2:=tuple_inj hb h5;have e3:kv=u/\vv=w:=by simpa using e2
  obtain⟨rfl,rfl⟩:=e3;obtain⟨vs',k1,k2⟩:=hJ;have hle:vs'.length<=1000:=by have q1:=k1.length;have q2:=pF (ps.take i) ([]:ab (Key×V));rw[qE,qk] at q2;omega
  refine wpAny_dictSet_pairs (nI h3) (zE.mpr ⟨o,ho,k2⟩) (fun h' hd' hsb=>?_) (by rw[fE];omega);obtain⟨o',ho',hd''⟩:=zE.mp hd';refine hQ h' _ o' (uO _) hsb ho' ⟨_,?_,hd''⟩;have htk:ps.take (i+1)=ps.take i++[p]:=by rw[lj,h1];rfl
  rw[htk,DQ];exact k1.put p.1 h4
 .obtain⟨p,b,u,w,h1,h2,h3,h4,h5⟩:=hit i v hv;exact⟨b,u,w,h2,h5⟩
 .obtain⟨vs',k1,k2⟩:=hJ;rw[hsz,ny] at k1;refine⟨.ref s.heap.objs.size,_,I.laid (a:=s.heap.objs.size) (o:=.dK (mrg [] ps)) (fun b u e=>hk b u (qu e) e) (qv _) ⟨?_,?_,vs',k1,zE.mpr ⟨o,ho,k2⟩⟩,rfl,q _ I.fresh⟩
  .have:=pF ps ([]:ab (Key×V));rw[qk] at this;rw[fE];omega
  .exact oi.mpr (dM (qC I.big))
noncomputable def Ki:ab V->Hp->VK->Prop:=fun xs H Q=>∃(a:aw) (vs:ab V) (ps:ab (ab Key×V)),xs=[.ref a]/\H a=aa (.lst vs)/\vs.length=ps.length/\ps.length<=1000/\(∀(i:ag) p,ps[i]?=aa p->∃b kb,vs[i]?=aa (.ref b)/\H b=aa (.tup [.ref kb,p.2])/\H kb=aa (.tup (p.1.map kV))) /\
 ∀q,H q=ac->Q (.ref q) (upd H q (.dT (mrg [] ps)))
theorem Lw {P:ab Key->aw->Prop} (hP:∀k b,H b=aa (.tup (k.map kV))->P k b):∀{kvs:ab (ab Key×V)} {xs:ab (ab Key×aw×av)},KT H kvs xs->∀x∈xs,P x.1 x.2.1:=by
 intro kvs xs q
 induction q with
 |nil=>intro x hx;cases hx
 | @cons p y ps ys hq t ih=>
  intro x hx;rcases cG.mp hx with rfl|hx
  .exact hP _ _ (by rw[←hq.1];exact hq.2.1)
  .exact ih x hx
theorem LJ (hc:X.calm=al) (hu:X.A.units+66<cT):fU X (.type "dict") Ki:=by
 intro pins s σ H xs us Q I r h;obtain⟨a,vs,ps,rfl,ha,hl,hz,hp,q⟩:=h;obtain⟨u,rfl,ru⟩:=fY r;cases ru;obtain⟨z,its,n,rv,hlen,e⟩:=I.lstM ha;have hsz:its.toArray.size=ps.length:=by rw[qB,←hlen,hl]
 have hit:∀(i:ag) (v:av),its.toArray[i]?=aa v->∃p b kb w,ps[i]?=aa p/\v=.ref b/\H kb=aa (.tup (p.1.map kV))/\bO p.2 w/\s.heap.IsTuple b #[.ref kb,w]:=fun i v hv=>by
  have hi:i<ps.length:=by rw[←hsz];exact(iU.mp hv).1
  obtain⟨b,kb,hb1,hb2,hb3⟩:=hp i ps[i] (by simp[hi]);obtain⟨u2,hu2,ru2⟩:=rv.get hb1;have hv':its[i]?=aa v:=by simpa using hv
  rw[hu2] at hv';cases hv';cases ru2;obtain⟨u,w,r1,r2,r3⟩:=AL I hb2;cases r1;exact⟨ps[i],b,kb,w,by simp[hi],rfl,hb3,r2,r3⟩
 have isk:∀{h':Heap},(∀b o,b<s.heap.objs.size->s.heap.get? b=aa o->h'.get? b=aa o)->∀k b,H b=aa (.tup (k.map kV))->(mV (dc X.prog X.w)).is h' k b:=fun hB k b hb=>ST.IsTupleKey.mono (pe I.hok hb) fun o e=>hB _ _ (qu e) e;refine DT.call_dict_gen (I.ok.hd hc) e (fun i o=>∃xs',KT H (mrg [] (ps.take i)) xs'/\∃es ep,o.ExactDict/\o.data=.dict es ep/\es.toList=xs'.map (entryOfKey (mV (dc X.prog X.w)))/\(xs'.map (·.1)).Nodup) ?_ (fun A' hA' i b kv vv sh o Q' E' hi hv hb ho hJ hB hQ=>?_) (fun i v hv=>?_) fun h' tk o ho hJ hk=>?_
 .exact⟨[],.nil,#[],0,⟨rfl,rfl,rfl⟩,rfl,rfl,lm⟩
 .obtain⟨p,b',kb,w,h1,h2,h3,h4,h5⟩:=hit i _ hv;cases h2;have e2:=tuple_inj hb h5;have e3:kv=.ref kb/\vv=w:=by simpa using e2
  obtain⟨rfl,rfl⟩:=e3;obtain⟨xs',k1,es,ep,k2,k3,k4,k5⟩:=hJ;have hle:xs'.length<=1000:=by have q1:=Paired.length k1;have q2:=pF (ps.take i) ([]:ab (ab Key×V));rw[qE,qk] at q2;omega
  refine wpAny_dictSet_heap (knd:=mV (dc X.prog X.w)) (show A'.units<cT by omega) (isk hB _ _ h3) ⟨o,es,ep,ho,k2,k3,k4,Lw (isk hB) k1,k5⟩ (fun h' hd' hsb=>?_) (by rw[fE];omega);obtain⟨o',es',ep',ho',w2,w3,w4,_,w5⟩:=hd';refine hQ h' _ o' (u8 _ _) hsb ho' ⟨_,?_,es',ep',w2,w3,w4,w5⟩;have htk:ps.take (i+1)=ps.take i++[p]:=by rw[lj,h1];rfl
  rw[htk,DQ];exact k1.put p.1 h3 h4
 .obtain⟨p,b,kb,w,h1,h2,h3,h4,h5⟩:=hit i v hv;exact⟨b,_,w,h2,h5⟩
 .obtain⟨xs',k1,es,ep,k2,k3,k4,k5⟩:=hJ;rw[hsz,ny] at k1;refine⟨.ref s.heap.objs.size,_,I.laid (a:=s.heap.objs.size) (o:=.dT (mrg [] ps)) (fun b u e=>hk b u (qu e) e) (qv _) ⟨?_,?_,xs',k1.keeps fun b ys e=>?_,o,es,ep,ho,k2,k3,k4,k5⟩,rfl,q _ I.fresh⟩
  .have:=pF ps ([]:ab (ab Key×V));rw[qk] at this;rw[fE];omega
  .exact oi.mpr (dM (qC I.big))
  .rw[aW (ca e I.fresh)];exact e
noncomputable def nT:ab D->ao (ab (Key×D))
 |[]=>aa []
 |.tup [k,v]::r=>(jP k).bind fun kk=>(nT r).map ((kk,v)::·)
 |_::_=>ac
noncomputable def mR:ab D->ao (ab (ab Key×D))
 |[]=>aa []
 |.tup [.tup t,v]::r=>(ia t).bind fun kk=>(mR r).map ((kk,v)::·)
 |_::_=>ac
noncomputable def tH [fC κ] (ps:ab (κ×D)):ab (κ×D):=ps.foldl (fun acc kv=>iq acc kv.1 kv.2) []
noncomputable def pJ:ab D->ao D
 |[.lst l]=>if l.length<=1000 then (nT l).map fun ps=>.dk (tH ps) else ac
 |_=>ac
noncomputable def um:ab D->ao D
 |[.lst l]=>if l.length<=1000 then (mR l).map fun ps=>.dt (tH ps) else ac
 |_=>ac
theorem vO {κ:Type} [fC κ] {K:aV} {G:Hp}:∀{us:ab (κ×V)} {kvs:ab (κ×D)} {acc:ab (κ×V)} {acd:ab (κ×D)},us.map (·.1)=kvs.map (·.1)->Reps Γ K G (us.map (·.2)) (kvs.map (·.2))->acc.map (·.1)=acd.map (·.1)->Reps Γ K G (acc.map (·.2)) (acd.map (·.2))->
  (mrg acc us).map (·.1)=(kvs.foldl (fun acc kv=>iq acc kv.1 kv.2) acd).map (·.1)/\Reps Γ K G ((mrg acc us).map (·.2)) ((kvs.foldl (fun acc kv=>iq acc kv.1 kv.2) acd).map (·.2))
 |[],[],_,_,_,_,e,r=>⟨e,r⟩
 |[],_::_,_,_,e,_,_,_=>by cases e
 |_::_,[],_,_,e,_,_,_=>by cases e
 |(k1,v)::us,(k2,d)::kvs,acc,acd,e,r,e0,r0=>by
  have e1:k1=k2:=(jx e).1;subst e1;have r:Reps Γ K G (v::us.map (·.2)) (d::kvs.map (·.2)):=r;cases r with
  |cons r1 r2=>
   obtain⟨w1,w2⟩:=DV (k:=k1) r1 e0 r0;exact vO (us:=us) (kvs:=kvs) (jx e).2 r2 w1 w2
theorem AO {K:aV} {G H:Hp} (gh:bp G H):∀{vs:ab V} {ds:ab D} {ps:ab (Key×D)},Reps Γ K G vs ds->nT ds=aa ps->
  ∃us:ab (Key×V),vs.length=us.length/\us.map (·.1)=ps.map (·.1)/\Reps Γ K G (us.map (·.2)) (ps.map (·.2))/\∀(i:ag) p,us[i]?=aa p->∃b,vs[i]?=aa (.ref b)/\H b=aa (.tup [kV p.1,p.2])
 |_,[],ps,r,h=>by cases r;cases h;exact⟨[],rfl,rfl,.nil,fun i p e=>by simp at e⟩
 |_,d::ds,ps,.cons h1 h2,h=>by
  unfold nT at h;split at h
  .rename_i heq;cases heq
  .rename_i heq;cases heq;obtain⟨kk,hk,h⟩:=oBd h;obtain⟨zs,hz,rfl⟩:=oMd h;obtain⟨us,q1,q2,q3,q4⟩:=AO gh h2 hz;obtain⟨a,ws,rfl,ha,ra⟩:=h1.tup_inv;obtain⟨x,y,rfl,rx,ry⟩:=ra.two;have ex:=uB rx hk;subst ex;refine⟨(kk,y)::us,by rw[qh,qh,q1],by simp[q2],.cons ry q3,fun i p e=>?_⟩;cases i with
   |zero=>cases e;exact⟨a,rfl,gh _ _ ha⟩
   |succ i=>exact q4 i p e
  .cases h
theorem zN {K:aV} {G H:Hp} (gh:bp G H):∀{vs:ab V} {ds:ab D} {ps:ab (ab Key×D)},Reps Γ K G vs ds->mR ds=aa ps->
  ∃us:ab (ab Key×V),vs.length=us.length/\us.map (·.1)=ps.map (·.1)/\Reps Γ K G (us.map (·.2)) (ps.map (·.2))/\∀(i:ag) p,us[i]?=aa p->∃b kb,vs[i]?=aa (.ref b)/\H b=aa (.tup [.ref kb,p.2])/\H kb=aa (.tup (p.1.map kV))
 |_,[],ps,r,h=>by cases r;cases h;exact⟨[],rfl,rfl,.nil,fun i p e=>by simp at e⟩
 |_,d::ds,ps,.cons h1 h2,h=>by
  unfold mR at h;split at h
  .rename_i heq;cases heq
  .rename_i heq;cases heq;obtain⟨kk,hk,h⟩:=oBd h;obtain⟨zs,hz,rfl⟩:=oMd h;obtain⟨us,q1,q2,q3,q4⟩:=zN gh h2 hz;obtain⟨a,ws,rfl,ha,ra⟩:=h1.tup_inv;obtain⟨x,y,rfl,rx,ry⟩:=ra.two;obtain⟨kb,ks,rfl,hkb,rk⟩:=rx.tup_inv;have ex:=nU rk hk;subst ex;refine⟨(kk,y)::us,by rw[qh,qh,q1],by simp[q2],.cons ry q3,fun i p e=>?_⟩;cases i with
   |zero=>cases e;exact⟨a,kb,rfl,gh _ _ ha,gh _ _ hkb⟩
   |succ i=>exact q4 i p e
  .cases h
theorem B4 (hc:X.calm=al) (hu:X.A.units+66<cT):TyD Γ X "dict" pJ:=⟨_,HA hc hu,fun {G H vs ds z} gh r h Q k=>by
 unfold pJ at h;split at h
 .split at h
  .rename_i hz;obtain⟨ps,hp,rfl⟩:=oMd h;obtain⟨v,rfl,r1⟩:=r.one;obtain⟨a,ws,rfl,ha,ra⟩:=r1.lst_inv;obtain⟨us,q1,q2,q3,q4⟩:=AO gh ra hp;refine⟨a,ws,us,rfl,gh _ _ ha,q1,by rw[←q1,ra.length];exact hz,q4,fun p hp=>?_⟩;have s:=Step.new (o:=.dK (mrg [] us)) gh hp;obtain⟨w1,w2⟩:=vO (acc:=[]) (acd:=[]) q2 q3 rfl .nil;exact k _ _ _ s (.dk bV w1 (w2.mono s.gg))
  .cases h
 .cases h⟩
theorem KR (hc:X.calm=al) (hu:X.A.units+66<cT):TyD Γ X "dict" um:=⟨_,LJ hc hu,fun {G H vs ds z} gh r h Q k=>by
 unfold um at h;split at h
 .split at h
  .rename_i hz;obtain⟨ps,hp,rfl⟩:=oMd h;obtain⟨v,rfl,r1⟩:=r.one;obtain⟨a,ws,rfl,ha,ra⟩:=r1.lst_inv;obtain⟨us,q1,q2,q3,q4⟩:=zN gh ra hp;refine⟨a,ws,us,rfl,gh _ _ ha,q1,by rw[←q1,ra.length];exact hz,q4,fun p hp=>?_⟩;have s:=Step.new (o:=.dT (mrg [] us)) gh hp;obtain⟨w1,w2⟩:=vO (acc:=[]) (acd:=[]) q2 q3 rfl .nil;exact k _ _ _ s (.dt bV w1 (w2.mono s.gg))
  .cases h
 .cases h⟩
theorem Dfn.none {k:ag} (F:Dfn K mg x st)
  (hb:∀(kV doc pm:av) (an:ao aw) (cdv ct:av) (us:ab av),us.length=ps.length->jv (ge x x (gx st) (dq st) (aO st) .none kV doc pm an cdv ct) ⟨us,[]⟩=bm (ps.zip us))
 : Cal Γ P w K mg base x ps.length k (fun _=>ac):=by
 obtain⟨f,fd,h1,h2⟩:=F.ex;refine⟨f,fd,ps,⟨fun vs H Q E h=>?_,fun A outer s H args us vs Q E hr I b v h=>?_⟩,h2,h1.kp,h1.binds hb⟩
 .obtain⟨_,_,_,_,_,_,z,_⟩:=h;cases z
 .obtain⟨_,_,_,_,_,_,z,_⟩:=h;cases z
noncomputable def orG (g g':D->D->ao D) (x y:D):ao D:=match g x y with
 |some z=>aa z
 |none=>g' x y
variable {z:D}
section
variable {a:Expr} {g:D->D->ao D}
theorem Hu {x y:D} (h:orG g g' x y=aa z):g x y=aa z\/g' x y=aa z:=by
 unfold orG at h;split at h
 .rename_i q;cases h;exact .inl q
 .exact .inr h
theorem CmpD.or (h:CmpD Γ X op g) (h':CmpD Γ X op g'):CmpD Γ X op (orG g g'):=by
 obtain⟨r,o,d⟩:=h.ex;obtain⟨r',o',d'⟩:=h'.ex;refine⟨_,o.or o',fun {G H v u x y z} gh r1 r2 q Q k=>?_⟩;rcases Hu q with q|q
 .exact .inl (d gh r1 r2 q Q k)
 .exact .inr (d' gh r1 r2 q Q k)
noncomputable def eqA:=orG eqD rn
noncomputable def neA:=orG neD mB
theorem xC (hu:X.A.units+64<cT):CmpD Γ X .Eq eqA:=ee.or (Hk hu)
theorem nQ (hu:X.A.units+64<cT):CmpD Γ X .NotEq neA:=mz.or (Pa hu)
theorem DfnM.mk' {f:aw} {c:ai} {kV pm:av} (a:dv K (.ref C) m=aa (aa (.ref f))) (i:uL K (.ref f)=al)
  (l:K.lookup f=aa ⟨oc,od,.func (ge m qual (gx st) (dq st) (aO st) .none kV doc pm an cdv ct),osl⟩) (cd:rN K cdv qual=al) (k:iN K (.ref f)=al):DfnM K C c m qual st:=⟨f,_,vF l cd k,a,i⟩
end
variable {f1 f2 f3 f4 f5 f6 f7:FE}
theorem ln1:∀ρ ds,ae f1 ak ρ=aa ds->ds.length=1:=mD fun _ _ h=>IM h
theorem ln2:∀ρ ds,ae f1 (ae f2 ak) ρ=aa ds->ds.length=2:=mD ln1
theorem ln3:∀ρ ds,ae f1 (ae f2 (ae f3 ak)) ρ=aa ds->ds.length=3:=mD ln2
theorem ln4:∀ρ ds,ae f1 (ae f2 (ae f3 (ae f4 ak))) ρ=aa ds->ds.length=4:=mD ln3
theorem ln5:∀ρ ds,ae f1 (ae f2 (ae f3 (ae f4 (ae f5 ak)))) ρ=aa ds->ds.length=5:=mD ln4
theorem ln6:∀ρ ds,ae f1 (ae f2 (ae f3 (ae f4 (ae f5 (ae f6 ak))))) ρ=aa ds->ds.length=6:=mD ln5
theorem ln7:∀ρ ds,ae f1 (ae f2 (ae f3 (ae f4 (ae f5 (ae f6 (ae f7 ak)))))) ρ=aa ds->ds.length=7:=mD ln6
section
variable {a i:Expr}
theorem Nm {t:Tok} (hg:Gl X x) (hm:X.mg x=aa (.str y t)) (hd:(x==("__debug__":ai))=aq:=by decide):DE Γ X (.Name x pos) (vC (.str y)):=TD.const (fun _=>.str y) (vB hg hm ⟨t,rfl⟩ hd)
noncomputable def Je (i j:af):Prop:=0<j/\j.natAbs.log2<9000
theorem Nf:OpR X (gc .FloorDiv) (rI Je fun i j=>.int (i / j)):=opI fun i j _ _ _ _ _ hc q=>by have h1:(0:af)<j:=hc.1;exact floordiv_int (by omega) (by rw[EQ i (by omega)];exact q) (.inl (PyProof.noPylong_of_log2 hc.2))
noncomputable def oN:D->D->ao D
 |.int i,.int j=>if 0<j/\j.natAbs.log2<9000 then aa (.int (i / j)) else ac
 |_,_=>ac
theorem J3 (ha:DE Γ X a fa) (hb:DE Γ X b fb):DE Γ X (.BinOp a .FloorDiv b pos) (b2 oN fa fb):=ky Nf (pX fun x y z h=>by
 unfold oN at h;split at h
 .split at h<;>cases h;exact⟨_,_,rfl,rfl,by assumption,rfl⟩
 .cases h) ha hb
noncomputable def cV:ab D->ao D
 |[.int i]=>if i.natAbs.log2<1920 then aa (.str (yH i)) else ac
 |_=>ac
theorem iB:TyD Γ X "str" cV:=⟨_,Ia,fun {G H vs ds z} gh r h Q k=>by
 unfold cV at h;split at h
 .split at h
  .cases h;obtain⟨v,rfl,r1⟩:=r.one;cases r1.int_inv;exact⟨_,rfl,by assumption,k _ G H (.refl gh) (.str _)⟩
  .cases h
 .cases h⟩
noncomputable def inS (x y:ai):bq:=!(rG y x 0 y.length 1).isEmpty
noncomputable def kR:D->D->ao D
 |.str x,.str y=>aa (.bl (inS x y))
 |_,_=>ac
theorem C2:CmpD Γ X .In kR:=⟨_,O7,fun {G H v u x y z} gh r1 r2 h Q k=>by unfold kR at h;split at h<;>cases h;cases r1.str_inv;cases r2.str_inv;exact⟨_,_,rfl,rfl,k _ G H (.refl gh) (.bl _)⟩⟩
noncomputable def S':D->ab D->ao D
 |.str x,[.str y]=>match rG x y 0 x.length 1 with
  |i::_=>aa (.int (i:ag))
  |[]=>ac
 |_,_=>ac
noncomputable def kO:D->ab D->ao D
 |.str x,[.str y]=>if y.length≠0/\x.length<=1000000 then aa (.lst ((ix x y).map D.str)) else ac
 |_,_=>ac
theorem Reps.strs {K:aV} {G:Hp}:∀(ns:ab ai),Reps Γ K G (ns.map V.str) (ns.map D.str)
 |[]=>.nil
 |n::r=>.cons (.str n) (Reps.strs r)
theorem BL:∀(l:ab (ai×Tok)),bi ((l.map (·.1)).map V.str) (strValues l)
 |[]=>.nil
 |(x,t)::r=>.cons ⟨t,rfl⟩ (BL r)
theorem sT:MtD Γ X "str" "str.split" kO:=by
 refine⟨⟨fun v vs H Q=>∃x y,v=.str x/\vs=[.str y]/\y.length≠0/\x.length<=1000000/\∀p,H p=ac->Q (.ref p) (upd H p (.lst ((ix x y).map V.str))),?_,?_⟩,?_⟩
 .intro pins s σ H x xs v us Q I rx rs h;obtain⟨z,y,rfl,rfl,hy,hz,q⟩:=h;obtain⟨t,rfl⟩:=rx;obtain⟨u,rfl,ru⟩:=fY rs;obtain⟨t2,rfl⟩:=ru;have hy':(y.length==0)=aq:=by simpa using hy
  have hlen:(ix z y).length<=z.length+2:=split_le z y;have hsl:=fE;have fin:∀(l:ab (ai×Tok)) (k:ag),l.map (·.1)=ix z y->EP X pins σ Q (.ref s.heap.objs.size) {s with heap:=s.heap.push {cls:=.type "list",data:=.seq (strValues l).toArray},toks:=k}:=fun l k e=>by refine⟨.ref _,_,I.lnew (ys:=(ix z y).map V.str) (t':=k) (by rw[←e];exact BL l) (by rw[qe];omega),rfl,q _ I.fresh⟩
  cases h1:(decide (z.length<y.length) || decide (rY z<rY y))
  .cases hf:(rG z y 0 z.length (z.length+1)).isEmpty
   .have es:ix z y=Sh z (rG z y 0 z.length (z.length+1)) y.length:=(qZ (FY h1)).trans (qZ (FY hf));refine ng oG (rO _ _ _) FZ (F0 _ _) (meets_str_split_sep z y t t2 h1 hy' hf (by omega) (by rw[←es];omega)) ?_;show EP X pins σ Q _ {s with toks:=_,heap:=s.heap.push {cls:=.type "list",data:=.seq (strsFrom s.toks (Sh z (rG z y 0 z.length (z.length+1)) y.length)).toArray} };rw[strsFrom_eq];exact fin _ _ ((numbered_texts _ _).trans es.symm)
   .refine ng oG (rO _ _ _) FZ (F0 _ _) (meets_str_split_not_found z y t t2 h1 hy' hf) ?_;exact fin [(z,t)] s.toks ((qZ (FY h1)).trans (qY hf)).symm
  .refine ng oG (rO _ _ _) FZ (F0 _ _) (meets_str_split_cannot_occur z y t t2 h1) ?_;exact fin [(z,t)] s.toks (qY h1).symm
 .intro G H v x vs ds z gh r1 r2 h Q k;unfold kO at h;split at h
  .split at h
   .rename_i hz;cases h;cases r1.str_inv;obtain⟨v,rfl,r3⟩:=r2.one;cases r3.str_inv;exact⟨_,_,rfl,rfl,hz.1,hz.2,iI gh (Reps.strs _) k⟩
   .cases h
  .cases h
 .intro G H v x ds z gh r h;unfold kO at h;split at h
  .cases r.str_inv;exact rfl
  .cases h
end
section
variable {a i:Expr}
end
variable {p3 p4:dF}
section
variable {a i:Expr}
end
section
variable {a i:Expr}
noncomputable def i6:D->ao D
 |.lst l=>aa (.lst l.reverse)
 |_=>ac
theorem Reps.reverse {K:aV} {G:Hp}:∀{vs:ab V} {ds:ab D},Reps Γ K G vs ds->Reps Γ K G vs.reverse ds.reverse
 |_,_,.nil=>.nil
 |_,_,.cons h r=>by rw[y7,y7];exact r.reverse.append (.cons h .nil)
theorem wC {j} (he:DE Γ X e f):DE Γ X (.Subscript e (.Slice ac ac (aa (.UnaryOp .USub (.Constant (.int 1) j p3) p4)) p2) pos) (b1 i6 f):=⟨fun pins s σ H Q I=>by
 rintro⟨G₀,H₀,G,ρ,d,A,h,k⟩;unfold b1 at h;obtain⟨x,hx,h⟩:=oBd h;unfold i6 at h;split at h
 .rename_i l;cases h;refine uT (thn (he.1 pins s σ H (fun v H'=>∃G',Step G H G' H'/\Rep Γ X.K G' v (.lst l)) I ⟨G₀,H₀,G,ρ,_,A,hx,fun v G' H' st r=>⟨G',st,r⟩⟩) fun v s1 ⟨v',H1,I1,r1,G1,st,rp⟩=>?_);obtain⟨a,vs,rfl,ha,rv⟩:=rp.lst_inv;cases r1;refine Fa (qA (qA ?_));refine thn ((KA Ps xn) pins s1 σ H1 (fun v H'=>v=.int (-1)/\H'=H1) I1 ⟨_,rfl,rfl,rfl⟩) fun vk s3 ⟨vv,H3,I3,r3,e1,e2⟩=>?_;subst e1 e2;obtain⟨t,rfl⟩:=r3;have I4:Inv X pins σ H3 {s3 with heap:=s3.heap.push {cls:=.type "slice",data:=.fields #[.none,.none,.int (-1) t]} }:=I3.kept (t':=s3.toks) fun b ob q=>qt _ q;obtain⟨its,rr,hti,hz⟩:=I4.list (.inl (.inl (st.gh _ _ ha)));show aJ (aQ X.prog X.w) X.A (uU e (.Slice ac ac (aa (.UnaryOp .USub (.Constant (.int 1) j p3) p4)) p2) (.ref a) (.ref s3.heap.objs.size)) (EP X pins σ Q) X.xe {s3 with heap:=s3.heap.push {cls:=.type "slice",data:=.fields #[.none,.none,.int (-1) t]} };refine yY (ops:=[.ref a,.ref s3.heap.objs.size]) hti.isList.typeIs y0.lookup ?_ (by with_unfolding_all rfl);refine Fd hti.isList (Fb ..) .none .none (.int _ _) (by decide) ?_ (by rw[qB];have:=rr.length;omega);rw[PySem.W.krv_pick];have hn:=I4.fresh;exact⟨.ref _,_,I4.lnew (ys:=vs.reverse) (its:=its.reverse) (t':=s3.toks) (bi.reverse rr) (by rw[Si];exact hz),rfl,iI st.gh rv.reverse (fun w G2 H2 s2 r2=>k w G2 H2 (st.trans s2) r2) _ hn⟩
 .cases h⟩
end
noncomputable def TDn (Γ:Cn) (K:aV) (f:FE):TE:=fun σ H Q=>∃G₀ H₀ G ρ d,At Γ K G₀ H₀ G H ρ σ/\f ρ=aa d/\∀v G' H',Step G H G' H'->Rep Γ K G' v d->NewL H G' v d->Q v H'
structure DN (Γ:Cn) (X:Cx) (e:Expr) (f:FE):Prop where
 out:PE X e (TDn Γ X.K f)
section
variable {a:Expr} {g:FG}
noncomputable def flF (f:FE):FE:=fun ρ=>(f ρ).bind fun d=>if xO d=al then aa d else ac
theorem DE.dn (h:DE Γ X e f):DN Γ X e (flF f):=⟨h.1.imp fun σ H Q=>by
 rintro⟨G₀,H₀,G,ρ,d,A,hq,k⟩;unfold flF at hq;obtain⟨d',hd,hq⟩:=oBd hq;split at hq
 .rename_i hf;cases hq;exact⟨G₀,H₀,G,ρ,d,A,hd,fun v G' H' s r=>k v G' H' s r (.flat hf)⟩
 .cases hq⟩
structure DBn (Γ:Cn) (X:Cx) (N':ab ai) (scope:Scope) (tg:Expr) (ifs:ab Expr) (elt:Expr) (g:FG) (ft:FT) (fe:FE):Prop where
 out:∀(cl:ab (ai×aw)) (C:aw) (s₀:aI) (H₀:Hp) (fp:ab aw),DG Γ (gO X N' scope cl C s₀ H₀ fp) tg g/\DTs Γ (gO X N' scope cl C s₀ H₀ fp) ifs ft/\DN Γ (gO X N' scope cl C s₀ H₀ fp) elt fe
theorem DBn.pb (h:DBn Γ X N' scope tg ifs elt g ft fe):PB X N' scope tg ifs elt (TDg Γ X.K g) (TDt Γ X.K ft) (TDn Γ X.K fe):=fun cl C s₀ H₀ fp=>⟨(h.1 cl C s₀ H₀ fp).1.pg,(h.1 cl C s₀ H₀ fp).2.1.1,(h.1 cl C s₀ H₀ fp).2.2.1⟩
theorem QF (no:∀d ρ ρ',g d ρ=aa ρ'->eQ ρ->eQ ρ'):∀σ H Q,TDn Γ X.K (aD (bc fi g ft fe fv)) σ H Q->tLC (TDi Γ X.K fi) (TDg Γ X.K g) (TDt Γ X.K ft) (TDn Γ X.K fe) fv σ H Q:=by
 rintro σ H Q ⟨G₀,H₀,G,ρ,dl,A,hl,k⟩;unfold aD at hl;obtain⟨ds,h,rfl⟩:=oMd hl;unfold bc at h;obtain⟨xs,hx,h⟩:=oBd h;split at h
 case isFalse=>cases h
 rename_i hz;refine⟨G₀,H₀,G,ρ,xs,A,hx,fun J G1 H1 s1 Y acc hacc=>?_⟩;have gacc:G1 acc=ac:=s1.gh.free hacc;obtain⟨A0,no0⟩:=xM (fv:=fv) (A.step s1);refine⟨fun i m ys σ' H'=>m=xs.length-i/\i<=xs.length/\ys.length<=i/\∃G' ρ' done bS,At Γ X.K G1 H1 G' H' ρ' σ'/\eQ ρ'/\H' acc=aa (.lst ys)/\G' acc=ac/\Reps Γ X.K G' ys done/\NewLs H1 G' ys done/\gy g ft fe (xs.drop i) ρ'=aa bS/\done++bS=ds,?_,?_⟩
 .refine⟨xs.length,rfl,gd _,qv _,G1,gw fv ρ,[],ds,?_,no0,bV,gacc,.nil,.nil,by rw[l'];exact h,rfl⟩;have sn:=Step.newOwn (o:=.lst []) s1.gh hacc;exact⟨sn,.ofSh A0.env.len no0 A0.env.sh⟩
 .rintro i m ys σ' H' ⟨hm,hi,hyi,G',ρ',done,bS,A',no',hacc',gacc',ry,nw,hr,hd⟩;subst hm;refine⟨hacc',?_⟩;by_cases hlt:i<xs.length
  .right
   have hxi:xs[i]?=aa xs[i]:=by simp[hlt]
   obtain⟨go,yl⟩:=Y.go i _ G' H' hxi A'.st.gg A'.gh;refine⟨go,fun x H2 hy=>?_⟩;obtain⟨G2,s2,r2⟩:=yl x H2 hy;have A2:=A'.step s2;have hdr:xs.drop i=xs[i]::xs.drop (i+1):=uX hlt;rw[hdr] at hr;unfold gy at hr;obtain⟨ρ1,h1,hr⟩:=oBd hr;obtain⟨b,h2,hr⟩:=oBd hr;refine⟨G1,H1,G2,ρ',_,ρ1,A2,r2,h1,fun σ2 A3=>⟨G1,H1,G2,ρ1,b,A3,h2,fun G4 H4 s4=>?_⟩⟩;have no1:=no _ _ _ h1 no';have hH4:H4 acc=aa (.lst ys):=s4.hh _ _ (s2.hh _ _ hacc');have hG4:G4 acc=ac:=(s4.out _ _ (s2.hh _ _ hacc')).trans ((s2.out _ _ hacc').trans gacc');have nw4:NewLs H1 G4 ys done:=nw.mono (s2.gg.trans s4.gg) (.refl _);cases b with
   |false=>
    rw[qZ qr] at hr;refine jO ⟨xs.length-(i+1),by omega,rfl,hlt,by omega,G4,ρ1,done,bS,A3.step s4,no1,hH4,hG4,(ry.mono s2.gg).mono s4.gg,nw4,hr,hd⟩
   |true=>
    rw[qY rfl] at hr;obtain⟨d,h3,hr⟩:=oBd hr;obtain⟨zs,h5,rfl⟩:=oMd hr;refine jW ⟨G1,H1,G4,ρ1,d,A3.step s4,h3,fun v G5 H5 s5 r5 n5=>?_⟩;have A5:=(A3.step s4).step s5;have hH5:H5 acc=aa (.lst ys):=s5.hh _ _ hH4;have hG5:G5 acc=ac:=(s5.out _ _ hH4).trans hG4;have n5':NewL H1 G5 v d:=n5.mono (.refl _) (A3.step s4).st.hh;refine⟨hH5,by omega,xs.length-(i+1),by omega,rfl,hlt,by rw[qi,qW];omega,G5,ρ1,done++[d],zs,?_,no1,bV,hG5,((((ry.mono s2.gg).mono s4.gg).mono s5.gg).append (.cons r5 .nil)),(nw4.mono s5.gg (.refl _)).append (.cons n5' .nil),h5,by rw[qw];exact hd⟩;refine⟨⟨fun b o e=>?_,A5.st.gg,fun b o e=>?_,A5.st.out⟩,.ofSh A5.env.len no1 A5.env.sh⟩
    .rw[aW (ca e hacc)];exact A5.st.hh b o e
    .rw[aW (ca e hG5)];exact A5.st.gh b o e
  .left
   have e:i=xs.length:=by omega
   subst e;rw[zo] at hr;cases hr;rw[iR] at hd;subst hd;refine⟨Y.stop G' H' A'.st.gg A'.gh,?_⟩;have hf:H'=upd (fun b=>if b=acc then ac else H' b) acc (.lst ys):=by
    funext b
    by_cases hb:b=acc
    .subst hb;rw[bV];exact hacc'
    .rw[aW hb,qZ hb]
   have s3:Step G1 H1 G' (fun b=>if b=acc then ac else H' b):=by
    refine⟨fun b o e=>?_,A'.st.gg,fun b o e=>?_,A'.st.out⟩
    .show(if b=acc then ac else H' b)=aa o;rw[qZ (ca e hacc)];exact A'.st.hh b o e
    .show(if b=acc then ac else H' b)=aa o;rw[qZ (ca e gacc')];exact A'.st.gh b o e
   have s4:=Step.new (p:=acc) (o:=.lst ys) s3.gh (qY rfl);rw[hf];exact k (.ref acc) _ _ ((s1.trans s3).trans s4) (.lst bV (ry.mono s4.gg)) (.lst bV (s1.hh.free hacc) (nw.mono s4.gg s1.hh))
theorem zO (hc:X.calm=al) (S:CompScope X scope) (F:FvOk X N' scope fv) (hi:DI Γ X tg iter fi) (hb:DBn Γ X N' scope tg ifs elt g ft fe) (hs:∀x,lV iter X.env x=bm x:=by intro _;rfl) :
  DN Γ X (.ListComp elt [⟨tg,iter,ifs,0⟩] scope pos) (aD (bc fi g ft fe fv)):=⟨(BN hc S F hi.1 hb.pb hs).imp (QF (hb.1 [] 0 X.s₀ X.H₀ []).1.no)⟩
noncomputable def pZ (f:FE):FE:=fun ρ=>(f ρ).bind fun d=>match d with
 |.lst l=>aa (.tup l)
 |_=>ac
theorem P5 (hg:Gl X "tuple") (hm:X.mg "tuple"=ac) (h:DN Γ X e f) (he:aS [e] X.env=(aq,eval e X.env)::aS [] X.env:=by rfl) (hpl:(cz pos (aS [] X.env)).any (·.1)=aq:=by rfl) :
  DN Γ X (.Call (.Name "tuple" p) [e] [] pos) (pZ f):=⟨(xG B1 hg hm (by rfl) (gR h.1 gI he) (by decide) (by decide) he hpl).imp fun σ H Q=>by
 rintro⟨G₀,H₀,G,ρ,dd,A,hq,k⟩;unfold pZ at hq;obtain⟨d,hd,hi⟩:=oBd hq;clear hq;refine⟨G₀,H₀,G,ρ,d,A,hd,fun v G1 H1 s1 r1 n1=>?_⟩;split at hi
 .cases hi;obtain⟨a,us,rfl,ha,ra⟩:=r1.lst_inv;cases n1 with
  |flat hf=>cases hf
  |lst h1 h2 h3=>
   rw[ha] at h1;cases h1;refine⟨a,us,rfl,.inl ⟨.inl (.inl (s1.gh _ _ ha)),fun p hp=>?_⟩⟩;have s2:=Step.new (o:=.tup us) s1.gh hp;exact k _ _ _ (s1.trans s2) (.tup bV (ra.mono s2.gg)) (.tup bV (h3.mono s2.gg (.refl _)))
 .cases hi⟩
noncomputable def fX (f:FE):FS:=fun ρ=>(f ρ).map fun d=>(.nw d,ρ)
theorem kU (h:DN Γ X e f):DS Γ X (.Return (aa e) pos) (fX f):=⟨(wp h.1).imp fun E σ H=>by rintro⟨G₀,H₀,G,ρ,fl,ρ',A,h,k⟩;unfold fX at h;obtain⟨d,hd,h⟩:=oMd h;cases h;exact⟨G₀,H₀,G,ρ,d,A,hd,fun v G' H' s r n=>k σ G' H' s.gg (A.step s) v r (n.mono (.refl _) A.st.hh)⟩⟩
end
noncomputable def spN (Γ:Cn) (K:aV) (n:ag) (F:ab D->ao D):Sp:=fun vs H Q _=>∃G ds d,bp G H/\Reps Γ K G vs ds/\ds.length=n/\F ds=aa d/\∀v G' H',Step G H G' H'->Rep Γ K G' v d->NewL H G' v d->Q v H'
noncomputable def runN (n:ag) (g:FS):ab D->ao D:=fun ds=>(g (ds.map (fun d=>aa (Slot.sh d))++bQ n ac)).bind fun r=>match r.1 with
 |.nw d=>aa d
 |_=>ac
theorem Fun.okN {f:aw} {k:ag} (F:Fun K x qual st f fd) (S:FnScope N ps (aO st))
  (hbody:∀(cdv:av) (A:dL) (outer:ab cS) (s:aI) (H:Hp) (E:XK),Room k (A.deeper (eC qual (aO st) s.heap.objs.size f cdv))->
   DSs Γ (gz CX0 P w K mg base N qual (aO st) f cdv A outer s H E).nox (dq st) g):FnOk P w K mg base CX0 (k+1) f fd ps (spN Γ K ps.length (runN (N.length-ps.length) g)):=by
 refine F.ok S (fun vs H Q E h=>?_) (fun cdv A outer s H vs Q E hr h=>?_)
 .obtain⟨G,ds,d,_,r,hl,_⟩:=h;rw[r.length,hl]
 .obtain⟨G,ds,d,gh,r,hl,hd,k⟩:=h;refine⟨_,(hbody cdv A outer s H E hr).1,?_⟩;unfold runN at hd;obtain⟨⟨fl,ρ'⟩,hg,hd⟩:=oBd hd;refine⟨G,H,G,_,fl,ρ',Eg gh r (by rw[r.length,hl]),hg,fun σ' G' H' sm A'=>?_⟩;cases fl with
  |nw d'=>cases hd;exact fun v rv nv=>k v G' H' A'.st rv nv
  |od d'=>cases hd
  |rt d'=>cases hd
  |nx=>cases hd
  |bk=>cases hd
  |ct=>cases hd
  |ow d'=>cases hd
structure CalN (Γ:Cn) (P:dS) (w:cQ) (K:aV) (mg:ai->ao av) (base:Heap) (x:ai) (n k:ag) (F:ab D->ao D):Prop where
 ex:∃f fd ps,FnOk P w K mg base CX0 k f fd ps (spN Γ K n F)/\mg x=aa (.ref f)/\iN K (.ref f)=al/\gj K fd ps []
structure CalMN (Γ:Cn) (P:dS) (w:cQ) (K:aV) (mg:ai->ao av) (base:Heap) (c m:ai) (n k:ag) (F:ab D->ao D):Prop where
 ex:∃C f fd ps,Γ.cls c=aa C/\Cls K C/\Meth K C m f/\FnOk P w K mg base CX0 k f fd ps (spN Γ K n F)/\gj K fd ps []
theorem Dfn.calN {k:ag} (F:Dfn K mg x st) (S:FnScope N ps (aO st))
  (hb:∀(kV doc pm:av) (an:ao aw) (cdv ct:av) (us:ab av),us.length=ps.length->jv (ge x x (gx st) (dq st) (aO st) .none kV doc pm an cdv ct) ⟨us,[]⟩=bm (ps.zip us))
  (hbody:∀(f:aw) (cdv:av) (A:dL) (outer:ab cS) (s:aI) (H:Hp) (E:XK),Room k (A.deeper (eC x (aO st) s.heap.objs.size f cdv))->
   DSs Γ (gz CX0 P w K mg base N x (aO st) f cdv A outer s H E).nox (dq st) g):CalN Γ P w K mg base x ps.length (k+1) (runN (N.length-ps.length) g):=by
 obtain⟨f,fd,h1,h2⟩:=F.ex;exact⟨f,fd,ps,h1.okN S (hbody f),h2,h1.kp,h1.binds hb⟩
theorem Dfn.noneN {k:ag} (F:Dfn K mg x st)
  (hb:∀(kV doc pm:av) (an:ao aw) (cdv ct:av) (us:ab av),us.length=ps.length->jv (ge x x (gx st) (dq st) (aO st) .none kV doc pm an cdv ct) ⟨us,[]⟩=bm (ps.zip us))
 : CalN Γ P w K mg base x ps.length k (fun _=>ac):=by
 obtain⟨f,fd,h1,h2⟩:=F.ex;refine⟨f,fd,ps,⟨fun vs H Q E h=>?_,fun A outer s H args us vs Q E hr I b v h=>?_⟩,h2,h1.kp,h1.binds hb⟩
 .obtain⟨_,_,_,_,_,_,z,_⟩:=h;cases z
 .obtain⟨_,_,_,_,_,_,z,_⟩:=h;cases z
theorem DfnM.calN {c:ai} {k:ag} (O:ClsOk Γ K mg c C) (F:DfnM K C c m qual st) (S:FnScope N ps (aO st))
  (hb:∀(kV doc pm:av) (an:ao aw) (cdv ct:av) (us:ab av),us.length=ps.length->jv (ge m qual (gx st) (dq st) (aO st) .none kV doc pm an cdv ct) ⟨us,[]⟩=bm (ps.zip us))
  (hbody:∀(f:aw) (cdv:av) (A:dL) (outer:ab cS) (s:aI) (H:Hp) (E:XK),Room k (A.deeper (eC qual (aO st) s.heap.objs.size f cdv))->
   DSs Γ (gz CX0 P w K mg base N qual (aO st) f cdv A outer s H E).nox (dq st) g):CalMN Γ P w K mg base c m ps.length (k+1) (runN (N.length-ps.length) g):=by
 obtain⟨f,fd,h1,h2,h3⟩:=F.ex;exact⟨C,f,fd,ps,O.cn,O.cl,⟨h2,h3,h1.kp⟩,h1.okN S (hbody f),h1.binds hb⟩
section
variable {c:ai}
theorem kM {k:ag} (C:CalN Γ X.prog X.w X.K X.mg X.base x n k F) (hr:Room j X.A) (hk:k<=j) (hg:Gl X x) (ha:DA Γ X (e::es) fr) (hn:∀ρ ds,fr ρ=aa ds->ds.length=n)
  (hdb:(x==("__debug__":ai))=aq:=by decide) (he:aS (e::es) X.env=(aq,eval e X.env)::aS es X.env:=by rfl) (hpl:(cz pos (aS es X.env)).any (·.1)=aq:=by rfl) :
  DN Γ X (.Call (.Name x p) (e::es) [] pos) (cF F fr):=⟨by
 obtain⟨f,fd,ps,h1,h2,h3,h4⟩:=C.ex;refine(B7 h1 (hr.mono hk) hg h2 h3 h4 .nil nN ha.1 hdb he hpl).imp fun σ H Q=>?_;rintro⟨G₀,H₀,G,ρ,d,A,h,k⟩;unfold cF at h;obtain⟨ds,hd,h⟩:=oBd h;refine⟨G₀,H₀,G,ρ,ds,A,hd,fun vs G1 H1 s1 r1=>?_⟩;show spN Γ X.K n F (vs++[]) H1 Q E0;rw[iR];exact⟨G1,ds,d,s1.gh,r1,hn ρ ds hd,h,fun v G' H' s r nv=>k v G' H' (s1.trans s) r (nv.mono (.refl _) s1.hh)⟩⟩
end
section
open PyProof
end
variable {s₀:aI}
section
variable {f:aw} {E:XK}
 {pins:ab (aw×bh)} {σ:St} {H:Hp} {s:aI} {h1:Heap} {e:aw} {cls:av} {vs:ab av}
end
section
variable {f:aw} {E:XK}
 {R:Hp->Prop} {n:cH} {x:ai} {np cpos pos:dF} {e₀:Expr} {bS:ab Expr} {fr:FA} {Bn newId initId:cH} {bmB:ab av}
end
section
open PySem.W Builtin Builtin.ObjectAttr Builtin.Getset_descriptor
end
section
variable {a i:Expr}
end
section
variable {a:Expr}
end
noncomputable def del (G:Hp) (a:aw):Hp:=fun b=>if b=a then ac else G b
section
variable {f:aw} {E:XK}
 {pins:ab (aw×bh)} {σ:St} {H:Hp} {s:aI} {e C t dx:aw}
end
section
variable {f CS fI:aw} {E:XK}
 {R:ai->Hp->Prop} {x fl:ai} {np cpos pos:dF} {e₀:Expr} {fr:FA} {k j:ag}
end
noncomputable def pR (m:ag):D->ao (ag×af)
 |.int n=>(ixN m n).map fun j=>(j,n)
 |_=>ac
section
open PyProof
end
noncomputable def Dh:D->D->ao (ab D)
 |.lst x,.lst y=>if x.length+y.length<=aM then aa (x++y) else ac
 |_,_=>ac
noncomputable def wy (fa fb:FE):FA:=fun ρ=>(fa ρ).bind fun x=>(fb ρ).bind fun y=>Dh x y
theorem ef.len {H:Hp}:∀{ps:ab aw} {vss:ab (ab V)},ef H ps vss->ps.length=vss.length
 |[],[],_=>rfl
 |[],_::_,h=>h.elim
 |_::_,[],h=>h.elim
 |_::_,_::_,h=>by rw[qh,qh,h.2.len]
theorem ef.at' {H:Hp}:∀{ps:ab aw} {vss:ab (ab V)} {j:ag} {vs:ab V},ef H ps vss->vss[j]?=aa vs->∃p,ps[j]?=aa p/\H p=aa (.lst vs)
 |[],[],_,_,_,e=>by simp at e
 |[],_::_,_,_,h,_=>h.elim
 |_::_,[],_,_,h,_=>h.elim
 |p::ps,vs::vss,0,_,h,e=>by
  cases e;exact⟨p,rfl,h.1⟩
 |p::ps,vs::vss,j+1,_,h,e=>h.2.at' (j:=j) e
theorem ef.put {H:Hp}:∀{ps:ab aw} {vss:ab (ab V)} {j:ag} {p:aw} {vs:ab V},ef H ps vss->ps.Nodup->ps[j]?=aa p->ef (upd H p (.lst vs)) ps (vss.set j vs)
 |[],[],_,_,_,_,_,e=>by simp at e
 |[],_::_,_,_,_,h,_,_=>h.elim
 |_::_,[],_,_,_,h,_,_=>h.elim
 |q::ps,us::vss,0,p,vs,h,nd,e=>by
  cases e;refine⟨bV,h.2.stay fun b hb=>aW fun z=>?_⟩;subst z;exact(dG.mp nd).1 hb
 |q::ps,us::vss,j+1,p,vs,h,nd,e=>by have e':ps[j]?=aa p:=e;refine⟨?_,h.2.put (dG.mp nd).2 e'⟩;rw[aW (fun z=>(dG.mp nd).1 (by rw[z];exact qP e'))];exact h.1
theorem dP.len:∀{vss:ab (ab V)} {dss:ab (ab D)},dP Γ K G vss dss->vss.length=dss.length
 |[],[],_=>rfl
 |[],_::_,h=>h.elim
 |_::_,[],h=>h.elim
 |_::_,_::_,h=>by rw[qh,qh,h.2.len]
theorem dP.at':∀{vss:ab (ab V)} {dss:ab (ab D)} {j:ag} {ds:ab D},dP Γ K G vss dss->dss[j]?=aa ds->∃vs,vss[j]?=aa vs/\Reps Γ K G vs ds
 |[],[],_,_,_,e=>by simp at e
 |[],_::_,_,_,h,_=>h.elim
 |_::_,[],_,_,h,_=>h.elim
 |vs::_,ds::_,0,_,h,e=>by
  cases e;exact⟨vs,rfl,h.1⟩
 |_::vss,_::dss,j+1,_,h,e=>h.2.at' (j:=j) e
theorem dP.put:∀{vss:ab (ab V)} {dss:ab (ab D)} {j:ag} {vs:ab V} {ds:ab D},dP Γ K G vss dss->Reps Γ K G vs ds->dP Γ K G (vss.set j vs) (dss.set j ds)
 |[],[],_,_,_,_,_=>trivial
 |[],_::_,_,_,_,h,_=>h.elim
 |_::_,[],_,_,_,h,_=>h.elim
 |_::_,_::_,0,_,_,h,r=>⟨r,h.2⟩
 |_::_,_::_,j+1,_,_,h,r=>⟨h.1,h.2.put r⟩
theorem dP.reps {H:Hp} (hG:bp G H):∀{ps:ab aw} {vss:ab (ab V)} {dss:ab (ab D)},ef H ps vss->dP Γ K G vss dss->Reps Γ K H (ps.map V.ref) (dss.map D.lst)
 |[],[],[],_,_=>.nil
 |[],_::_,_,h,_=>h.elim
 |_::_,[],_,h,_=>h.elim
 |[],[],_::_,_,h=>h.elim
 |_::_,_::_,[],_,h=>h.elim
 |_::_,_::_,_::_,h,r=>.cons (.lst h.1 (r.1.mono hG)) (r.2.reps hG h.2)
theorem HM {m:ag} {k:D} {j:ag×af} (h:pR m k=aa j):∃n,k=.int n/\ixN m n=aa j.1:=by
 unfold pR at h;split at h
 .obtain⟨j',h1,rfl⟩:=oMd h;exact⟨_,rfl,h1⟩
 .cases h
noncomputable def gC (i:ag) (fk f:FE):FS:=fun ρ=>match ρ[i]? with
 |some (aa (.oll dss))=>(fk ρ).bind fun k=>(f ρ).bind fun d=>(pR dss.length k).bind fun j=>match dss[j.1]? with
  |some ds=>if ds.length<aM then aa (.nx,ρ.set i (aa (.oll (dss.set j.1 (ds++[d]))))) else ac
  |none=>ac
 |_=>ac
noncomputable def kH (i:ag) (g:FS):FS:=fun ρ=>match ρ[i]? with
 |some (aa (.oll dss))=>g (ρ.set i (aa (.sh (.lst (dss.map D.lst)))))
 |_=>ac
variable {dss:ab (ab D)} {ek:Expr}
theorem At.frzLL (A:At Γ K G₀ H₀ G H ρ σ) (hi:ρ[i]?=aa (aa (.oll dss))):∃G',bp G G'/\At Γ K G₀ H₀ G' H (ρ.set i (aa (.sh (.lst (dss.map D.lst))))) σ:=by
 obtain⟨v,fp,h1,h2⟩:=A.get hi;cases h2 with
 |oll q1 q2 q3 q4 q5=>
  rename_i a ps vss;have sm:bp G (fun b=>if b∈a::ps then H b else G b):=fun b o e=>by
   have:b∉a::ps:=fun z=>by rw[(q1 b z).2] at e;cases e
   show(if b∈a::ps then H b else G b)=_;rw[qZ this];exact e
  have hG':∀b∈a::ps,(fun b=>if b∈a::ps then H b else G b) b=H b:=fun b hb=>qY hb;refine⟨_,sm,A.ch hi h1 (.oll q1 q2 q3 q4 q5) (fun b o e _=>e) (.sh (.lst ((hG' a qf).trans q3) (dP.reps sm (q4.stay fun b hb=>hG' b (qg _ hb)) q5))) (fun b hb=>by cases hb) sm (fun b o e=>?_) (fun b o e hb=>qZ hb)⟩;by_cases hb:b∈a::ps
  .replace e:(if b∈a::ps then H b else G b)=aa o:=e
   rw[qY hb] at e;exact e
  .replace e:(if b∈a::ps then H b else G b)=aa o:=e
   rw[qZ hb] at e;exact A.gh b o e
theorem TDs.frzLL (i:ag):∀E σ H,TDs Γ X.K (kH i g) E σ H->TDs Γ X.K g E σ H:=by
 rintro E σ H ⟨G₀,H₀,G,ρ,fl,ρ',A,h,k⟩;unfold kH at h;split at h
 .rename_i ds hi;obtain⟨G',sm,A'⟩:=A.frzLL hi;exact⟨G₀,H₀,G',_,fl,ρ',A',h,fun σ1 G1 H1 sm1 A1=>k σ1 G1 H1 (sm.trans sm1) A1⟩
 .cases h
theorem xS (i:ag) (h:DSs Γ X sts g):DSs Γ X sts (kH i g):=⟨h.1.imp (TDs.frzLL i)⟩
theorem t8 (i:ag) {sp:dF} (hk:DE Γ X ek fk) (h:DE Γ X e f) (hN:X.N[i]?=aa x:=by rfl) (hv:Vis X.env.scope x:=by first|exact c6 rfl|exact cB (c6 rfl)|exact cB (cB rfl)) (hd:(x==("__debug__":ai))=aq:=by decide)
  (hcd:(x==("__classdict__":ai))=aq:=by decide) (hpi:xt ek:=by intro _ _;rfl)
  (hbase:iO (.Subscript (.Name x vp) ek sp) "append" X.env (eval (.Subscript (.Name x vp) ek sp) X.env)=eval (.Subscript (.Name x vp) ek sp) X.env:=by rfl)
  (hfew:((cz cpos (aS [e] X.env)).all (fun x=>!x.1) && (iP cpos (iQ [] X.env)).all (fun x=>x.1.isSome)
   && decide ([e].length+([]:ab jw).length+(if ([]:ab jw).isEmpty then 0 else 1)<30))=al:=by rfl)
  (hline:(apos.endLine==cpos.line)=al:=by rfl) (hs:aS [e] X.env=(aq,eval e X.env)::aS [] X.env:=by rfl) (hplain:(cz cpos (aS [] X.env)).any (·.1)=aq:=by rfl)
  (hsw:eW (.Call (.Attribute (.Subscript (.Name x vp) ek sp) "append" apos) [e] [] cpos) ac pos.line X.env=bm aq:=by rfl) :
  DS Γ X (.Expr (.Call (.Attribute (.Subscript (.Name x vp) ek sp) "append" apos) [e] [] cpos) pos) (gC i fk f):=⟨(p7 (pG uY zb Fy tM (AZ BA (iX hN hv hd hcd) hk.1 hpi) (gR h.1 gI hs) hbase hfew hline hs hplain) hsw).imp fun E σ H=>by
  rintro⟨G₀,H₀,G,ρ,fl,ρ',A,h,k⟩;unfold gC at h;split at h
  .rename_i dss hi;obtain⟨kd,hkd,h⟩:=oBd h;obtain⟨d,hd',h⟩:=oBd h;obtain⟨j,hj,h⟩:=oBd h;split at h
   .rename_i ds hds;split at h
    .rename_i hz;cases h
     .obtain⟨n,rfl,hj'⟩:=HM hj;obtain⟨v,fp,h1,h2⟩:=A.get hi;cases h2 with
      |oll q1 q2 q3 q4 q5=>
       rename_i a ps vss;refine⟨.ref a,h1,G₀,H₀,G,ρ,.int n,A,hkd,fun v1 G1 H1 s1 r1=>?_⟩;cases r1.int_inv;obtain⟨vs,hvs,rvs⟩:=q5.at' hds;obtain⟨p,hp,hHp⟩:=q4.at' hvs;have at1:atI (ps.map V.ref) n=aa (V.ref p):=by unfold atI;rw[qe,q4.len,q5.len,hj',qa,qj,hp];rfl
       refine .inl ⟨a,ps.map V.ref,n,.ref p,rfl,rfl,.inl (.inl (s1.hh _ _ q3)),at1,.inl ⟨rfl,vs,.inl (.inl (s1.hh _ _ hHp))⟩,G₀,H₀,G1,ρ,d,A.step s1,hd',fun u G2 H2 s2 r2=>?_⟩;have S2:=(SR.oll (Γ:=Γ) (K:=X.K) q1 q2 q3 q4 q5).stepS (s1.trans s2);have A2:=(A.step s1).step s2;refine⟨p,vs,u,rfl,rfl,s2.hh _ _ (s1.hh _ _ hHp),by rw[rvs.length];exact hz,?_⟩;have hpm:p∈a::ps:=qg _ (qP hp);refine k σ G2 _ (s1.gg.trans s2.gg) (A2.ch hi h1 S2 (fun b o e hb=>?_) (.oll (fun b hb=>⟨(q1 b hb).1,(S2.fpt b hb).2.1⟩) q2 ?_ ((q4.stay fun b hb=>?_).put (dG.mp q2).2 hp) ((q5.map fun r=>r.mono (s1.gg.trans s2.gg)).put ((rvs.mono (s1.gg.trans s2.gg)).append (.cons r2 .nil)))) (fun b hb=>.inl hb) (.refl _) (fun b o e=>?_) (fun _ _ _ _=>rfl))
       .rw[aW (fun z=>hb (by rw[z];exact hpm))];exact e
       .rw[aW (fun z=>(dG.mp q2).1 (by rw[z];exact qP hp))];exact s2.hh _ _ (s1.hh _ _ q3)
       .obtain⟨o,ho⟩:=q4.mem b hb;rw[ho];exact s2.hh _ _ (s1.hh _ _ ho)
       .rw[aW (ca e (S2.fpt p hpm).2.1)];exact A2.gh b o e
    .cases h
   .cases h
  .cases h⟩
noncomputable def ug:TE:=fun σ H Q=>∀p,H p=ac->Q (.ref p) (upd H p (.lst []))
noncomputable def wR (Γ:Cn) (K:aV) (fn:aX->ao ag):TE:=fun σ H Q=>∃G₀ H₀ G ρ n,At Γ K G₀ H₀ G H ρ σ/\fn ρ=aa n/\∀a ps G' H',Step G H G' H'->(∀b∈a::ps,H b=ac/\G' b=ac)->(a::ps).Nodup->H' a=aa (.lst (ps.map V.ref))->ps.length=n->(∀p∈ps,H' p=aa (.lst []))->Q (.ref a) H'
theorem ef.emp {H:Hp}:∀{ps:ab aw},(∀p∈ps,H p=aa (.lst []))->ef H ps (bQ ps.length [])
 |[],_=>trivial
 |p::ps,h=>⟨h p qf,ef.emp fun q hq=>h q (qg _ hq)⟩
theorem dP.emp {Γ:Cn} {K:aV} {G:Hp}:∀n:ag,dP Γ K G (bQ n []) (bQ n [])
 |0=>trivial
 |n+1=>⟨.nil,dP.emp n⟩
noncomputable def kf (i:ag) (fn:aX->ao ag):FS:=fun ρ=>(fn ρ).map fun n=>(.nx,ρ.set i (aa (.oll (bQ n []))))
noncomputable def nJ (fr:FA):aX->ao ag:=fun ρ=>(fr ρ).map fF
variable {fn:aX->ao ag}
section
theorem yw:PE X (.List [] pos) ug:=(sU gI).imp fun σ H Q h=>⟨gd _,h⟩
theorem B0 :∀E σ H,TDs Γ X.K (kf i fn) E σ H->mO (wR Γ X.K fn) (mC i) E σ H:=by
 rintro E σ H ⟨G₀,H₀,G,ρ,fl,ρ',A,h,k⟩;unfold kf at h;obtain⟨n,hn,h⟩:=oMd h;cases h;refine⟨G₀,H₀,G,ρ,n,A,hn,fun a ps G' H' s hf nd ha hl he=>k _ G' _ s.gg ?_⟩;refine A.put (fp:=[]) (fp':=a::ps) (.inl rfl) (fun b o e _=>s.hh b o e) (SR.oll (vss:=bQ ps.length []) (fun b hb=>⟨?_,(hf b hb).2⟩) nd ha (ef.emp he) (by rw[hl];exact dP.emp n)) (fun b hb=>.inr (hf b hb).1) s.gg s.gh (fun b o e _=>s.out b o e) (fun b hb=>by cases hb);cases hb0:H₀ b with
 |none=>rfl
 |some o=>
  have z:=(hf b hb).1;rw[A.st.hh b o hb0] at z;cases z
variable {g:FG}
theorem JQ (no:∀d ρ ρ',g d ρ=aa ρ'->eQ ρ->eQ ρ'):∀σ H Q,wR Γ X.K (nJ (bc fi g ft (vC .non) fv)) σ H Q->tLC (TDi Γ X.K fi) (TDg Γ X.K g) (TDt Γ X.K ft) ug fv σ H Q:=by
 rintro σ H Q ⟨G₀,H₀,G,ρ,n,A,h,k⟩;unfold nJ at h;obtain⟨ds,h,hn⟩:=oMd h;unfold bc at h;obtain⟨xs,hx,h⟩:=oBd h;split at h
 case isFalse=>cases h
 rename_i hz;refine⟨G₀,H₀,G,ρ,xs,A,hx,fun J G1 H1 s1 Y acc hacc=>?_⟩;have gacc:G1 acc=ac:=s1.gh.free hacc;obtain⟨A0,no0⟩:=xM (fv:=fv) (A.step s1);refine⟨fun i m ys σ' H'=>m=xs.length-i/\i<=xs.length/\ys.length<=i/\∃G' ρ' ps bS,At Γ X.K G1 H1 G' H' ρ' σ'/\eQ ρ'/\H' acc=aa (.lst ys)/\ys=ps.map V.ref/\(∀b∈acc::ps,H1 b=ac/\G' b=ac)/\(acc::ps).Nodup/\(∀p∈ps,H' p=aa (.lst []))/\gy g ft (vC .non) (xs.drop i) ρ'=aa bS/\ps.length+bS.length=n,?_,?_⟩
 .refine⟨xs.length,rfl,gd _,qv _,G1,gw fv ρ,[],ds,?_,no0,bV,rfl,fun b hb=>?_,dG.mpr ⟨by simp,lm⟩,(fun p hp=>by cases hp),by rw[l'];exact h,by simpa using hn⟩
  .have sn:=Step.newOwn (o:=.lst []) s1.gh hacc;exact⟨sn,.ofSh A0.env.len no0 A0.env.sh⟩
  .rw[bY.mp hb];exact⟨hacc,gacc⟩
 .rintro i m ys σ' H' ⟨hm,hi,hyi,G',ρ',ps,bS,A',no',hacc',hys,hfr,nd,hem,hr,hd⟩;subst hm;subst hys;have gacc':G' acc=ac:=(hfr acc qf).2;refine⟨hacc',?_⟩;by_cases hlt:i<xs.length
  .right
   have hxi:xs[i]?=aa xs[i]:=by simp[hlt]
   obtain⟨go,yl⟩:=Y.go i _ G' H' hxi A'.st.gg A'.gh;refine⟨go,fun x H2 hy=>?_⟩;obtain⟨G2,s2,r2⟩:=yl x H2 hy;have A2:=A'.step s2;have hdr:xs.drop i=xs[i]::xs.drop (i+1):=uX hlt;rw[hdr] at hr;unfold gy at hr;obtain⟨ρ1,h1,hr⟩:=oBd hr;obtain⟨b,h2,hr⟩:=oBd hr;refine⟨G1,H1,G2,ρ',_,ρ1,A2,r2,h1,fun σ2 A3=>⟨G1,H1,G2,ρ1,b,A3,h2,fun G4 H4 s4=>?_⟩⟩;have no1:=no _ _ _ h1 no';have live:∀b∈acc::ps,∃o,H' b=aa o:=fun b hb=>by
    rcases cG.mp hb with rfl|hb
    .exact⟨_,hacc'⟩
    .exact⟨_,hem b hb⟩
   have hG4:∀b∈acc::ps,G4 b=ac:=fun b hb=>by obtain⟨o,ho⟩:=live b hb;exact(s4.out _ _ (s2.hh _ _ ho)).trans ((s2.out _ _ ho).trans (hfr b hb).2)
   have hH4:H4 acc=aa (.lst (ps.map V.ref)):=s4.hh _ _ (s2.hh _ _ hacc');have hE4:∀p∈ps,H4 p=aa (.lst []):=fun p hp=>s4.hh _ _ (s2.hh _ _ (hem p hp));cases b with
   |false=>
    rw[qZ qr] at hr;refine jO ⟨xs.length-(i+1),by omega,rfl,hlt,by omega,G4,ρ1,ps,bS,A3.step s4,no1,hH4,rfl,fun b hb=>⟨(hfr b hb).1,hG4 b hb⟩,nd,hE4,hr,hd⟩
   |true=>
    rw[qY rfl] at hr;obtain⟨d,h3,hr⟩:=oBd hr;obtain⟨zs,h5,rfl⟩:=oMd hr;refine jW fun p hp=>?_;have A4:=A3.step s4;have s5:=Step.newOwn (o:=.lst []) A4.gh hp;have A5:=A4.step s5;have pne:p≠acc:=fun z=>by rw[z,hH4] at hp;cases hp
    have pnp:p∉ps:=fun z=>by rw[hE4 p z] at hp;cases hp
    have hH5:upd H4 p (.lst []) acc=aa (.lst (ps.map V.ref)):=s5.hh _ _ hH4;refine⟨hH5,by omega,xs.length-(i+1),by omega,rfl,hlt,by rw[qi,qW];omega,G4,ρ1,ps++[p],zs,?_,no1,bV,by rw[dZ];rfl,fun b hb=>?_,?_,fun q hq=>?_,h5,?_⟩
    .refine⟨⟨fun b o e=>?_,A5.st.gg,fun b o e=>?_,A5.st.out⟩,.ofSh A5.env.len no1 A5.env.sh⟩
     .rw[aW (ca e hacc)];exact A5.st.hh b o e
     .rw[aW (ca e (hG4 acc qf))];exact A5.st.gh b o e
    .rcases cG.mp hb with rfl|hb
     .exact⟨hacc,hG4 _ qf⟩
     .rcases cL.mp hb with hb|hb
      .exact⟨(hfr b (qg _ hb)).1,hG4 b (qg _ hb)⟩
      .rw[bY.mp hb];refine⟨?_,A4.gh.free hp⟩;cases hb0:H1 p with
       |none=>rfl
       |some o=>rw[A4.st.hh p o hb0] at hp;cases hp
    .have nd':=dG.mp nd;refine dG.mpr ⟨fun z=>?_,lq.mpr ⟨nd'.2,by simp,fun a ha b hb z=>?_⟩⟩
     .rcases cL.mp z with z|z
      .exact nd'.1 z
      .exact pne (bY.mp z).symm
     .rw[bY.mp hb] at z;exact pnp (z▸ha)
    .rcases cL.mp hq with hq|hq
     .rw[aW (fun z=>(dG.mp nd).1 (by rw[←z];exact hq)),aW (fun z=>pnp (by rw[←z];exact hq))];exact hE4 q hq
     .rw[bY.mp hq,aW pne,bV]
    .rw[qi,qW];rw[qh] at hd;omega
  .left
   have e:i=xs.length:=by omega
   subst e;rw[zo] at hr;cases hr;refine⟨Y.stop G' H' A'.st.gg A'.gh,?_⟩;exact k acc ps G' H' (s1.trans A'.st) (fun b hb=>⟨s1.hh.free (hfr b hb).1,(hfr b hb).2⟩) nd hacc' (by simpa using hd) hem
theorem L4 (i:ag) {lp cp:dF} (hN:X.N.Nodup) (hc:X.calm=al) (S:CompScope X scope) (F:FvOk X N' scope fv) (hi:DI Γ X tg iter fi) (hb:DB Γ X N' scope tg ifs (.Constant .none j cp) g ft (vC .non))
  (hy:X.N[i]?=aa y:=by rfl) (hyl:X.env.scope.names.lookup y=aa .local:=by rfl) (hsw:eW (.ListComp (.List [] lp) [⟨tg,iter,ifs,0⟩] scope pos) (aa (.Name y py)) spos.line X.env=bm al:=by rfl) (hs:∀x,lV iter X.env x=bm x:=by intro _;rfl) :
  DS Γ X (.Assign [.Name y py] (.ListComp (.List [] lp) [⟨tg,iter,ifs,0⟩] scope pos) spos) (kf i (nJ (bc fi g ft (vC .non) fv))):=⟨(Dz hN hy hyl hc S F hi.1 (fun cl C s₀ H₀ fp=>⟨(hb.1 cl C s₀ H₀ fp).1.pg,(hb.1 cl C s₀ H₀ fp).2.1.1,yw⟩) hsw hs).imp fun E σ H q=>JQ (hb.1 [] 0 X.s₀ X.H₀ []).1.no σ H _ (B0 E σ H q)⟩
end
section
open PyProof
theorem B9 {it t:aw} {items:b8 av} (hne:t≠it):∀(n i:ag) (s:aI) (Q:ab av->aI->Prop),s.heap.IsListIter it t i->s.heap.IsList t items->i+n<=items.size->
  (∀h':Heap,h'.IsListIter it t (i+n)->jr it s.heap h'->Q ((items.toList.drop i).take n) {s with heap:=h'})->aJ (aQ prog w) A (draw (.ref it) n) Q E s
 |0,i,s,Q,hit,_,_,hQ=>by
  show aJ _ _ (bm []) Q E s;exact qA (by simpa using hQ s.heap hit (Fp ..))
 |n+1,i,s,Q,hit,ht,hle,hQ=>by
  have hlt:i<items.size:=by omega
  show aJ _ _ (mZ (.ref it) >>= _) Q E s;refine qx (Q4 hit ht (x:=items[i]) (by simp[hlt]) fun h₁ hit₁ hs₁=>?_);refine qx (qT (B9 hne n (i+1) _ _ hit₁ (ht.extBut hs₁.extBut hne) (by omega) fun h₂ hit₂ hs₂=>qA ?_));have hd:items.toList.drop i=items[i]::items.toList.drop (i+1):=by simp[uX,hlt]
  have:=hQ h₂ (by rw[show i+(n+1)=i+1+n by omega];exact hit₂) (hs₁.trans hs₂);rw[hd,Sj] at this;exact this
theorem MQ {t:aw} {Q:ab av->aI->Prop} (hh:A.handled=ac) (ht:s.heap.IsList t items)
  (hQ:∀h',Sk s.heap.objs.size s.heap h'->Q items.toList {s with heap:=h'}):aJ (aQ prog w) A (unpackItems (.ref t) items.size ac) Q E s:=by
 have hlt:t≠s.heap.objs.size:=by obtain⟨o,ho,_⟩:=ht;exact qC (qu ho)
 unfold unpackItems;refine qx ?_
 .unfold notIterableAtAll;refine qx (Fh ht.typeIs slot_list_iter.lookup ?_);refine qA ?_;simp only[qq,cW];refine qx (qT (uW ht ?_));refine qx (qT (B9 hlt items.size 0 _ _ ⟨_,qG _ rfl,rfl,rfl⟩ (ht.at fun o q=>qt _ q) (by omega) fun h₁ hit₁ hs₁=>?_));have hall:rV items.size (List.drop 0 items.toList)=items.toList:=by rw[l'];exact km (by simp)
  rw[hall];rw[qZ (by simp)];have ht₁:h₁.IsList t items:=(ht.at fun o q=>qt _ q).extBut hs₁.extBut hlt;refine qx (qT (Q5 hh hit₁ ht₁ (by simp) fun h₂ he₂=>?_));simp only[Option.isSome_none,qq,cW];refine qA (hQ h₂ fun b o hb e=>he₂ b o hb (hs₁.extBut b o hb (qt _ e)))
theorem Mr {x1} {t:aw} {Q:lT->aI->Prop} (hh:A.handled=ac) (ht:s.heap.IsList t items)
  (hn:(fN elts env).length=items.size) (hstar:(fN elts env).findIdx? (·.1)=ac)
  (h:∀h',Sk s.heap.objs.size s.heap h'->aJ (aQ prog w) A (assignInOrder ((fN elts env).map (·.2)) items.toList) Q E {s with heap:=h'}) :
  aJ (aQ prog w) A (ki (.Tuple elts x1 pos) env (.ref t)) Q E s:=by
 rw[assign_Tuple];refine qx (Fk ?_);unfold unpack;rw[hn,hstar];exact qx (qT (MQ hh ht h))
noncomputable def NA (K:aV) (n:ag) (t:TGs):TG:=fun v σ H Q=>∃a xs,v=.ref a/\SqL K H a xs/\xs.length=n/\t xs σ H Q
theorem Mx {k:ag} {t:TGs} (hc:X.calm=al) (h:PGs X es t)
  (hn:(fN es X.env).length=n:=by rfl) (hst:(fN es X.env).findIdx? (·.1)=ac:=by rfl):PG X (.Tuple es k pos) (NA X.K n t):=by
 intro pins s σ H v u Q I r hw;obtain⟨a,xs,e1,hq,hl,hw⟩:=hw;subst e1;cases r;obtain⟨its,rv,ht,hz⟩:=I.list hq;refine Mr (I.ok.hd hc) ht.isList (by simp[hn,←hl,rv.length]) hst fun h' hx=>?_;have I1:Inv X pins σ H {s with heap:=h'}:=I.kept (t':=s.toks) fun b o e=>hx b o (qC (qu e)) e;exact h pins _ σ H xs _ Q I1 (by simpa using rv) hw
end
section
variable {a:Expr}
noncomputable def ja (n:ag) (gs:FGs):FG:=fun d ρ=>match d with
 |.lst ds=>if ds.length=n then gs ds ρ else ac
 |_=>ac
theorem pA {k:ag} {gs:FGs} (hc:X.calm=al) (h:DGs Γ X ts gs) (hn:(fN ts X.env).length=n:=by rfl) (hst:(fN ts X.env).findIdx? (·.1)=ac:=by rfl):DG Γ X (.Tuple ts k pos) (ja n gs):=by
 refine⟨fun pins s σ H v u Q I r hw=>Mx hc h.pg hn hst pins s σ H v u Q I r ?_,fun ds ρ ρ' e q=>?_⟩
 .obtain⟨G₀,H₀,G,ρ,d,ρ',A,r,h,k⟩:=hw;unfold ja at h;split at h
  .split at h
   .rename_i hl;obtain⟨a,vs,rfl,ha,rv⟩:=r.lst_inv;exact⟨a,vs,rfl,.inl (.inl (A.gh _ _ ha)),by rw[rv.length];exact hl,G₀,H₀,G,ρ,_,ρ',A,rv,h,k⟩
   .cases h
  .cases h
 .unfold ja at e;split at e
  .split at e
   .exact h.no _ _ _ e q
   .cases e
  .cases e
noncomputable def jd:D->D->ao D
 |.int i,.int j=>if 0<=j then aa (.int (i / 2 ^ j.toNat)) else ac
 |_,_=>ac
theorem xo (ha:DE Γ X a fa) (hb:DE Γ X b fb):DE Γ X (.BinOp a .RShift b pos) (b2 jd fa fb):=ky LV (pX fun x y z h=>by
 unfold jd at h;split at h
 .split at h<;>cases h;exact⟨_,_,rfl,rfl,by assumption,rfl⟩
 .cases h) ha hb
end
noncomputable def kF:D->D->ao D
 |.tup x,.tup y=>if x≠[]/\y≠[]/\x.length+y.length<=aM then aa (.tup (x++y)) else ac
 |_,_=>ac
section
variable {a:Expr}
theorem Mf :gb Γ K kF (Dj K):=by
 intro G H v u x y z gh r1 r2 h Q k;unfold kF at h;split at h
 .split at h
  .rename_i hz;cases h;obtain⟨a,vs,rfl,ha,ra⟩:=r1.tup_inv;obtain⟨b,us,rfl,hb,rb⟩:=r2.tup_inv;refine⟨a,b,vs,us,rfl,rfl,.inl (.inl (gh _ _ ha)),.inl (.inl (gh _ _ hb)),?_,by rw[ra.length,rb.length];exact hz.2.2,?_⟩
   .intro z;subst z;have:=ra.length;exact hz.1 (zl.mp this.symm)
   .refine⟨fun z=>?_,fun _ p hp=>sW gh (ra.append rb) k p hp⟩;subst z;have:=rb.length;exact bN (zl.mp this.symm) hz.2.1
  .cases h
 .cases h
theorem BE (ha:DE Γ X a fa) (hb:DE Γ X b fb):DE Γ X (.BinOp a .Add b pos) (b2 kF fa fb):=ky KI Mf ha hb
end
noncomputable def lL (ks:ab ai) (ds:ab α):ab (Key×α):=(ks.map cK).zip ds
theorem AB:∀(more acc:ab (Key×V)),(more.map (·.1)).Nodup->(∀k∈more.map (·.1),k∉acc.map (·.1))->kL acc more=acc++more
 |[],acc,_,_=>by simp[kL]
 |(k,v)::r,acc,nd,ap=>by
  have h0:c9 acc k v=acc++[(k,v)]:=by unfold c9;rw[qZ];intro h;obtain⟨kv,h1,h2⟩:=List.any_eq_true.mp h;exact ap k (by simp) (bP.mpr ⟨kv,h1,zp h2⟩)
  have ih:=AB r (acc++[(k,v)]) (dG.mp nd).2 (fun k' hk' hm=>?_)
  .show kL (c9 acc k v) r=_;rw[h0,ih,qw];rfl
  .rw[dZ] at hm;rcases cL.mp hm with hm|hm
   .exact ap k' (by simp[hk']) hm
   .have:k'=k:=by simpa using hm
    exact(dG.mp nd).1 (this▸hk')
theorem t4 {α β:Type}:∀{l:ab α} {m:ab β},l.length=m.length->(l.zip m).map (·.1)=l
 |[],[],_=>rfl
 |[],_::_,h=>by simp at h
 |_::_,[],h=>by simp at h
 |x::l,y::m,h=>by simp[t4 (l:=l) (m:=m) (by simpa using h)]
theorem wL {α β:Type}:∀{l:ab α} {m:ab β},l.length=m.length->(l.zip m).map (·.2)=m
 |[],[],_=>rfl
 |[],_::_,h=>by simp at h
 |_::_,[],h=>by simp at h
 |x::l,y::m,h=>by simp[wL (l:=l) (m:=m) (by simpa using h)]
theorem Ac:∀(ks:ab ai) (vs:ab V),(ks.map V.str).zip vs=(lL ks vs).map fun kv=>(kV kv.1,kv.2)
 |[],_=>rfl
 |_::_,[]=>rfl
 |k::ks,v::vs=>by exact df (fun z=>(V.str k,v)::z) (Ac ks vs)
variable {pc:dF}
section
variable {a:Expr}
noncomputable def inT (x y:D):ao bq:=(pdD x).bind fun p=>(pdD y).bind fun q=>match q with
 |.tuple l=>if dH p=al/\fP l=al then aa (l.any fun z=>eX z p) else ac
 |_=>ac
noncomputable def whL (ft:FT) (g:FS):ag->FS
 |0,_=>ac
 |n+1,ρ=>(ft ρ).bind fun b=>if b=al then (g ρ).bind fun r=>match r.1 with
   |.nx=>whL ft g n r.2
   |.rt d=>aa (.rt d,r.2)
   |_=>ac
  else aa (.nx,ρ)
theorem OB (n:ag) (hp:uH (aQ X.prog X.w) X.A X.env X.xe) (hc:DT Γ X c ft) (hb:DSs Γ X body g):DS Γ X (.While c body [] pos) (whL ft g n):=⟨(K9 hp hc.1 hb.1).imp fun E σ H=>by
 rintro⟨G₀,H₀,G,ρ,fl,ρ',A,h,k⟩;refine⟨fun m σ' H'=>∃G' ρ1,bp G G'/\At Γ X.K G₀ H₀ G' H' ρ1 σ'/\whL ft g m ρ1=aa (fl,ρ'),⟨n,G,ρ,.refl _,A,h⟩,?_⟩;rintro m σ' H' ⟨G',ρ1,sm,A',hr⟩;cases m with
 |zero=>cases hr
 |succ m=>
  unfold whL at hr;obtain⟨b,hb,hr⟩:=oBd hr;refine⟨G₀,H₀,G',ρ1,b,A',hb,fun G1 H1 s1=>?_⟩;cases b with
  |false=>
   rw[qZ qr] at hr;cases hr;exact jO (k σ' G1 H1 (sm.trans s1.gg) (A'.step s1))
  |true=>
   rw[qY rfl] at hr;obtain⟨⟨fl2,ρ2⟩,h2,hr⟩:=oBd hr;refine jW ⟨fun σ3 H3=>fl2=.nx/\∃G3,bp G G3/\At Γ X.K G₀ H₀ G3 H3 ρ2 σ3,fun σ3 H3 ⟨hfl,G3,sm3,A3⟩=>?_,G₀,H₀,G1,ρ1,fl2,ρ2,A'.step s1,h2,fun σ3 G3 H3 sm3 A3=>?_⟩
   .subst hfl;exact⟨m,ot _,G3,ρ2,sm3,A3,hr⟩
   .have smm:=(sm.trans s1.gg).trans sm3;cases fl2 with
    |nx=>exact⟨rfl,G3,smm,A3⟩
    |rt d=>cases hr;exact k σ3 G3 H3 smm A3
    |_=>cases hr⟩
end
section
variable {a:Expr}
noncomputable def gJ:ab D->ao D
 |[.str x]=>if x.length<=640 then (zF x).map D.int else ac
 |_=>ac
theorem OS:fU X (.type "int") (fun xs H Q=>∃(x:ai) (n:af),xs=[.str x]/\zF x=aa n/\x.length<=640/\Q (.int n) H):=by intro pins s σ H xs us Q I r h;obtain⟨x,n,rfl,hn,hl,q⟩:=h;obtain⟨u,rfl,t,rfl⟩:=fY r;exact T6 hn hl ⟨.int n,H,I.tok _,⟨_,rfl⟩,q⟩
theorem j8:TyD Γ X "int" gJ:=⟨_,OS,fun {G H vs ds z} gh r h Q k=>by
 unfold gJ at h;split at h
 .split at h
  .obtain⟨n,hn,rfl⟩:=oMd h;obtain⟨v,rfl,r1⟩:=r.one;cases r1.str_inv;exact⟨_,n,rfl,hn,by assumption,k _ G H (.refl gh) (.int _)⟩
  .cases h
 .cases h⟩
noncomputable def xL (x y:D):ao D:=(inT x y).map fun b=>D.bl (!b)
theorem K2 (hu:X.A.units+66<cT):OpR X (dX .NotIn) (fun x y H Q=>∃G d e b,bp G H/\Rep Γ X.K G x d/\Rep Γ X.K G y e/\inT d e=aa b/\Q (.bl (!b)) H):=by
 intro pins s σ H x y v u Q I rx ry h;obtain⟨G,d,e,b,gh,r1,r2,hb,q⟩:=h;unfold inT at hb;obtain⟨p,hp,hb⟩:=oBd hb;obtain⟨t,ht,hb⟩:=oBd hb;split at hb
 .split at hb
  .rename_i l hz;cases hb;obtain⟨as,a1⟩:=r1.reads I gh rx hp;obtain⟨bs,a2⟩:=r2.reads I gh ry ht;obtain⟨c1,c2⟩:=vL hz.1;have:=yS (jy l) p.depth;exact SeqAt.notIn_tuple_reads a2 a1 hz.2 c1 (by omega) ⟨.bl _,H,I,rfl,q⟩
  .cases hb
 .cases hb
theorem GR (hu:X.A.units+66<cT):CmpD Γ X .NotIn xL:=⟨_,K2 (Γ:=Γ) hu,fun {G H v u x y z} gh r1 r2 h Q k=>by obtain⟨b,hb,rfl⟩:=oMd h;exact⟨G,x,y,b,gh,r1,r2,hb,k _ G H (.refl gh) (.bl _)⟩⟩
noncomputable def lrD:D->ao D
 |.int j=>if 0<=j/\j<=1000000 then aa (.lst ((bj j.toNat).map fun i=>.int (i:ag))) else ac
 |_=>ac
theorem Ab:∀{n:ag} {l:ab av} {k:ag},l.length=n->(∀j v,l[j]?=aa v->∃t,v=oh (((k+j:ag):af)) t)->bi ((List.range' k n).map fun i=>V.int ((i:ag):af)) l
 |0,[],_,_,_=>.nil
 |n+1,v::l,k,hl,h=>by
  obtain⟨t,ht⟩:=h 0 v rfl;refine .cons ⟨t,by simpa using ht⟩ (Ab (k:=k+1) (by simpa using hl) fun j u e=>?_);obtain⟨t2,h2⟩:=h (j+1) u (by simpa using e);exact⟨t2,by rw[h2,show k+(j+1)=k+1+j by omega]⟩
 |0,_::_,_,hl,_=>by simp at hl
 |_+1,[],_,hl,_=>by simp at hl
theorem CD {K:aV} {G:Hp}:∀l:ab ag,Reps Γ K G (l.map fun i=>V.int ((i:ag):af)) (l.map fun i=>D.int ((i:ag):af))
 |[]=>.nil
 |n::r=>.cons (.int _) (CD r)
theorem BR {q:dF} (hc:X.calm=al) (hg:Gl X "list") (hm:X.mg "list"=ac) (hg2:Gl X "range") (hm2:X.mg "range"=ac) (h:DE Γ X e f) (hs:aS [e] X.env=(aq,eval e X.env)::aS [] X.env:=by rfl)
  (he:aS [.Call (.Name "range" q) [e] [] p2] X.env=(aq,eval (.Call (.Name "range" q) [e] [] p2) X.env)::aS [] X.env:=by rfl) :
  DE Γ X (.Call (.Name "list" p) [.Call (.Name "range" q) [e] [] p2] [] pos) (b1 lrD f):=⟨fun pins s σ H Q I=>by
 rintro⟨G₀,H₀,G,ρ,d,A,h1,k⟩;unfold b1 at h1;obtain⟨x,hx,h1⟩:=oBd h1;unfold lrD at h1;split at h1
 .rename_i j;split at h1
  .rename_i hj;cases h1;refine uN (lx I hg hm (show lb "list"=aa (.type "list") from rfl) ?_);refine rE ?_ he rfl;rw[he];show aJ _ _ (yC ((aq,eval (.Call (.Name "range" q) [e] [] p2) X.env)::cz pos (aS [] X.env))) _ _ s;refine Ri ?_;refine Call_ (lx I hg2 hm2 EO (rE (thn ((gR h.1 gI hs) p2 pins s σ H (fun vs H'=>∃G',Step G H G' H'/\∃v,vs=[v]/\Rep Γ X.K G' v (.int j)) I ⟨G₀,H₀,G,ρ,_,A,hx,fun v G' H' st r=>⟨G',st,v,rfl,r⟩⟩) fun us s1 ⟨vs,H1,I1,r1,G1,st,v,e1,r2⟩=>?_) hs rfl));subst e1;cases r2.int_inv;obtain⟨u,rfl,t,rfl⟩:=fY r1;refine call_range_1 ?_;show aJ _ _ (yC (cz pos (aS [] X.env))) _ _ _;refine qA ?_;have I2:Inv X pins σ H1 {s1 with heap:=s1.heap.push {cls:=.type "range",data:=.fields #[.int 0 s1.toks,.int j t,.int 1 (s1.toks+1)]},toks:=s1.toks+1+1}:=I1.kept fun b o e=>qt _ e;have hz:Q7 0 j 1=(j.toNat:af):=by rw[rangeSize_one];split<;>omega
   refine call_list_range (I2.ok.hd hc) (Q6 ..) (small_one (by omega) (by omega) (by omega) (by omega)) hz (by omega) fun h' tk acc' c' hk hS hacc=>?_;have hf:=I2.hok.fresh (qv _);refine⟨.ref _,_,I2.laid (t':=tk) (o:=.lst ((bj j.toNat).map fun i=>V.int ((i:ag):af))) hk (qv _) ?_,rfl,iI st.gh (CD _) (fun w G2 H2 s2 r2=>k w G2 H2 (st.trans s2) r2) _ hf⟩;refine⟨?_,acc'.toList,c',?_,by simpa using hS⟩
   .have:=fE;rw[qe,qU];omega
   .rw[List.range_eq_range'];refine Ab (by simpa using hacc.1) fun i v e=>?_;obtain⟨t2,h2⟩:=hacc.2 i v (by simpa using e);exact⟨t2,by rw[h2];simp⟩
  .cases h1
 .cases h1⟩
noncomputable def iJ (n:ag) (a k:af):ab ag:=sliceRange (iT (aa a) ac (aa k) n).1 (iT (aa a) ac (aa k) n).2.1 (iT (aa a) ac (aa k) n).2.2
noncomputable def pq:D->D->D->ao D
 |.lst l,.int a,.int k=>if k=0\/(iJ l.length a k).length > l.length then ac else aa (.lst ((iJ l.length a k).filterMap (l[·]?)))
 |_,_,_=>ac
theorem bi.pick {vs:ab V} {us:ab av} (h:bi vs us):∀is:ab ag,bi (is.filterMap (vs[·]?)) (is.filterMap (us[·]?))
 |[]=>.nil
 |i::is=>by
  rw[om,om];have hl:=h.length;by_cases hi:i<vs.length
  .obtain⟨u,hu,r⟩:=h.get (i:=i) (qD hi);rw[qD hi,hu];exact .cons r (h.pick is)
  .rw[lh (by omega),lh (by omega)];exact h.pick is
theorem Reps.pick {K:aV} {G:Hp} {vs:ab V} {ds:ab D} (h:Reps Γ K G vs ds):∀is:ab ag,Reps Γ K G (is.filterMap (vs[·]?)) (is.filterMap (ds[·]?))
 |[]=>.nil
 |i::is=>by
  rw[om,om];have hl:=h.length;by_cases hi:i<vs.length
  .obtain⟨d,hd,r⟩:=h.getV (i:=i) (qD hi);rw[qD hi,hd];exact .cons r (h.pick is)
  .rw[lh (by omega),lh (by omega)];exact h.pick is
theorem ue (l:ab α):∀is:ab ag,(is.filterMap (l[·]?)).length<=is.length:=fun is=>Sl _ _
theorem I0 (he:DE Γ X e f) (ha:DE Γ X a fa) (hb:DE Γ X b fb):DE Γ X (.Subscript e (.Slice (aa a) ac (aa b) p2) pos) (b3 pq f fa fb):=⟨fun pins s σ H Q I=>by
 rintro⟨G₀,H₀,G,ρ,d,A,h,k⟩;unfold b3 at h;obtain⟨x,hx,h⟩:=oBd h;obtain⟨y,hy,h⟩:=oBd h;obtain⟨z,hz,h⟩:=oBd h;unfold pq at h;split at h
 .rename_i l i j _ _;split at h
  .cases h
  .rename_i hj;cases h;refine uT (thn (he.1 pins s σ H (fun v H'=>∃G',Step G H G' H'/\Rep Γ X.K G' v (.lst l)) I ⟨G₀,H₀,G,ρ,_,A,hx,fun v G' H' st r=>⟨G',st,r⟩⟩) fun v s1 ⟨v',H1,I1,r1,G1,st,rp⟩=>?_);obtain⟨p,vs,rfl,hp,rv⟩:=rp.lst_inv;cases r1;refine Fa ?_;refine thn ((tR ha.1) pins s1 σ H1 (fun o H'=>o=aa i/\∃G',Step G1 H1 G' H') I1 ⟨G₀,H₀,G1,ρ,_,A.step st,hy,fun v G' H' st r=>⟨i,r.int_inv,rfl,G',st⟩⟩) fun vl s2 ⟨o,H2,I2,pl,eo,G2,st2⟩=>?_;subst eo;refine qA ?_;refine thn ((tR hb.1) pins s2 σ H2 (fun o H'=>o=aa j/\∃G',Step G2 H2 G' H') I2 ⟨G₀,H₀,G2,ρ,_,(A.step st).step st2,hz,fun v G' H' st r=>⟨j,r.int_inv,rfl,G',st⟩⟩) fun vk s3 ⟨o,H3,I3,pk,eo,G3,st3⟩=>?_;subst eo;have I4:Inv X pins σ H3 {s3 with heap:=s3.heap.push {cls:=.type "slice",data:=.fields #[vl,.none,vk]} }:=I3.kept (t':=s3.toks) fun b ob q=>qt _ q;have S:=st.trans (st2.trans st3);obtain⟨its,rr,hti,hz⟩:=I4.list (.inl (.inl ((st2.trans st3).hh _ _ (st.gh _ _ hp))));show aJ (aQ X.prog X.w) X.A (uU e (.Slice (aa a) ac (aa b) p2) (.ref p) (.ref s3.heap.objs.size)) (EP X pins σ Q) X.xe {s3 with heap:=s3.heap.push {cls:=.type "slice",data:=.fields #[vl,.none,vk]} };refine yY (ops:=[.ref p,.ref s3.heap.objs.size]) hti.isList.typeIs y0.lookup ?_ (by with_unfolding_all rfl);have hlen:=rr.length;refine Fd hti.isList (Fb ..) pl .none pk (fun z=>hj (.inl (qH z))) ?_ (by rw[qB];omega);have hn:=I4.fresh;have e1:y6 its.toArray (aa i) ac (aa j)=((iJ vs.length i j).filterMap (its[·]?)).toArray:=by unfold y6 iJ;rw[qB,hlen];simp
   rw[e1];refine⟨.ref _,_,I4.lnew (ys:=(iJ vs.length i j).filterMap (vs[·]?)) (t':=s3.toks) (rr.pick _) ?_,rfl,?_⟩
   .have:=ue vs (iJ vs.length i j);have:=rv.length;rw[rv.length] at *;have:¬(iJ l.length i j).length > l.length:=fun z=>hj (.inr z);omega
   .rw[←rv.length] at k;exact iI S.gh ((rv.mono (st2.trans st3).gg).pick _) (fun w G2 H2 s2 r2=>k w G2 H2 (S.trans s2) r2) _ hn
 .cases h⟩
end
theorem JV {x:V} {t:cH} (I:Inv X pins σ H s) (rx:bO x u) (ty:TyOf X.K H x (.type t)):∃Hh,PySem.W.KitX X.K u (.type t) Hh/\Hh s.heap/\u≠.builtin "__main__.__loader__#opaque":=by
 cases ty with
 |non=>cases(show u=oj from rx);exact⟨_,Ra,fO,fun z=>nomatch z⟩
 |bl y=>cases(show u=la y from rx);exact⟨_,Rb,fO,fun z=>nomatch z⟩
 |int i=>obtain⟨t,q⟩:=(show ∃t,u=oh i t from rx);cases q;exact⟨_,Rc,fO,fun z=>nomatch z⟩
 |str y=>obtain⟨t,q⟩:=(show ∃t,u=ro y t from rx);cases q;exact⟨_,Re,fO,fun z=>nomatch z⟩
 |flt y=>obtain⟨t,q⟩:=(show ∃t,u=yB y t from rx);cases q;exact⟨_,Rf,fO,fun z=>nomatch z⟩
 | @lst a xs ea=>
  cases(show u=ci a from rx);obtain⟨_,_,n,_,h1⟩:=(show cO X.prog X.w H s.heap a (.lst xs) from I.hok a _ ea);exact⟨_,yN,⟨_,h1,rfl⟩,fun z=>nomatch z⟩
 | @frz a ob xs ea=>
  cases(show u=ci a from rx);obtain⟨_,_,_,n,_,h1⟩:=(show cO X.prog X.w H s.heap a (.frz ob (.lst xs)) from I.hok a _ ea);exact⟨_,yN,⟨_,h1,rfl⟩,fun z=>nomatch z⟩
 | @tup a xs ea=>
  cases(show u=ci a from rx);obtain⟨_,_,_,p⟩:=(show cO X.prog X.w H s.heap a (.tup xs) from I.hok a _ ea);obtain⟨o,h1,h2,_⟩:=p;exact⟨_,Rg,⟨o,h1,h2⟩,fun z=>nomatch z⟩
 | @dK a kvs ea=>
  cases(show u=ci a from rx);obtain⟨_,_,vs,_,p⟩:=(show cO X.prog X.w H s.heap a (.dK kvs) from I.hok a _ ea);obtain⟨o,es,ep,h1,h2,_⟩:=p;exact⟨_,yO,⟨o,h1,h2.1⟩,fun z=>nomatch z⟩
 | @dT a kvs ea=>
  cases(show u=ci a from rx);obtain⟨_,_,xs,_,o,es,ep,h1,h2,_⟩:=(show cO X.prog X.w H s.heap a (.dT kvs) from I.hok a _ ea);exact⟨_,yO,⟨o,h1,h2.1⟩,fun z=>nomatch z⟩
noncomputable def sZ (t:cH):ab cH->ao bq
 |[]=>aa aq
 |c::r=>match fj t c with
  |some al=>aa al
  |some aq=>sZ t r
  |none=>ac
theorem BO (K:aV) (t:cH):∀cs:ab cH,Sn K (.type t) (cs.map jq)=sZ t cs
 |[]=>rfl
 |c::r=>by show(match uM K (.type t) (.type c) with|some al=>aa al|some aq=>Sn K (.type t) (r.map jq)|none=>ac)=_;rw[Ms,BO K t r];rfl
noncomputable def tU:ab D->ao (ab cH)
 |[]=>aa []
 |.ty c::r=>(tU r).map (c::·)
 |_=>ac
theorem D1 {K:aV} {G:Hp}:∀{vs:ab V} {ds:ab D} {cs:ab cH},Reps Γ K G vs ds->tU ds=aa cs->vs=cs.map V.ty
 |_,_,_,.nil,h=>by cases h;rfl
 |_,d::ds,cs,.cons r t,h=>by
  unfold tU at h;split at h
  .rename_i q;cases q
  .rename_i q;cases q;obtain⟨l,hl,rfl⟩:=oMd h;cases r;rw[D1 t hl];rfl
  .cases h
theorem Cv:∀{cs:ab cH} {us:ab av},bi (cs.map V.ty) us->us=cs.map jq
 |[],_,.nil=>rfl
 |c::r,_,.cons h t=>by rw[Cv t];cases h;rfl
noncomputable def yp:ab D->ao D
 |[d,.tup l]=>(tyD d).bind fun t=>(tU l).bind fun cs=>(sZ t cs).map D.bl
 |_=>ac
theorem P6:BltD Γ X "isinstance" yp:=by
 refine⟨fun vs H Q=>∃v t cs a b,vs=[v,.ref a]/\TyOf X.K H v (.type t)/\H a=aa (.tup (cs.map V.ty))/\sZ t cs=aa b/\Q (.bl b) H,?_,?_⟩
 .intro pins s σ H xs us Q I r h;obtain⟨v,t,cs,a,b,rfl,ty,ha,hk,q⟩:=h;obtain⟨u,w',rfl,r1,r2⟩:=tQ r;obtain⟨Hh,Z,p,hx⟩:=JV I r1 ty;cases(show w'=ci a from r2);obtain⟨hz,its',rv,o,ho,hoc,n,hod⟩:=(show cO X.prog X.w H s.heap a (.tup (cs.map V.ty)) from I.hok a _ ha);have e:=Cv rv;subst e;obtain⟨oc,odi,oda,osl⟩:=o;simp only at hoc hod;subst hoc hod;exact PySem.W.kia_tup Z I.kIn p ho ((BO X.K t cs).trans hk) hx fun tk=>⟨.bl b,H,I.tok tk,rfl,q⟩
 .intro G H vs ds z gh r h Q k;unfold yp at h;split at h
  .obtain⟨t,ht,h⟩:=oBd h;obtain⟨cs,hcs,h⟩:=oBd h;obtain⟨b,hb,rfl⟩:=oMd h;obtain⟨v,u,rfl,r1,r2⟩:=r.two;obtain⟨a,us,rfl,ha,ra⟩:=r2.tup_inv;have e:=D1 ra hcs;subst e;exact⟨v,t,cs,a,b,rfl,B' gh r1 ht,gh _ _ ha,hb,k _ G H (.refl gh) (.bl _)⟩
  .cases h
structure ClsIs (K:aV) (C:aw):Prop where
 ha:dv K (.ref C) "__class__"=aa (aa (.builtin "object.__class__"))
 hn:EW K (.builtin "object.__class__") "__get__"=aa (aa (.builtin "getset_descriptor.__get__"))
 htk:EX K (.builtin "object.__class__")=aa al
 hm:EY K C (.type "object")=aa al
noncomputable def t9 (c:ai):D->ao D
 |.ins c' _=>if c'=c then aa (.bl al) else ac
 |_=>ac
theorem Ig (cl:Cls X.K C) (hI:ClsIs X.K C):fU X (.builtin "isinstance") (fun vs H Q=>∃a dx fs,vs=[.ref a,.ref C]/\H a=aa (.ins C dx fs)/\Q (.bl al) H):=by intro pins s σ H xs us Q I r h;obtain⟨a,dx,fs,rfl,ha,q⟩:=h;obtain⟨u,w',rfl,r1,r2⟩:=tQ r;cases(show w'=ci C from r2);exact Df I r1 (.ins ha cl hI.ha hI.hn hI.htk hI.hm) (by unfold uM;exact qY (by simp)) fun tk=>⟨.bl al,H,I.tok tk,rfl,q⟩
theorem MM {c:ai} (O:ClsOk Γ X.K X.mg c C) (hI:ClsIs X.K C) (hgC:Gl X c) (hg:Gl X "isinstance") (hm:X.mg "isinstance"=ac) (h:DE Γ X e f) (hdC:(c==("__debug__":ai))=aq:=by decide)
  (hs:aS [e,.Name c p2] X.env=(aq,eval e X.env)::aS [.Name c p2] X.env:=by rfl) (hs2:aS [.Name c p2] X.env=(aq,eval (.Name c p2) X.env)::aS [] X.env:=by rfl) (hpl:(cz pos (aS [.Name c p2] X.env)).any (·.1)=aq:=by rfl) :
  DE Γ X (.Call (.Name "isinstance" p) [e,.Name c p2] [] pos) (b1 (t9 c) f):=⟨(wj (Ig O.cl hI) hg hm (by rfl) (gR h.1 (gR (vB (v:=.ref C) hgC O.mgC rfl hdC) gI hs2) hs) (by decide) (by decide) hs hpl).imp fun σ H Q=>by
 rintro⟨G₀,H₀,G,ρ,d,A,h1,k⟩;unfold b1 at h1;obtain⟨x,hx,h1⟩:=oBd h1;unfold t9 at h1;split at h1
 .split at h1
  .rename_i hc;cases h1;subst hc;refine⟨G₀,H₀,G,ρ,_,A,hx,fun v G' H' st r=>?_⟩;cases r with
   |ins g1 g2 g3 g4=>
    rw[O.cn] at g2;cases g2;exact⟨_,_,_,rfl,st.gh _ _ g1,k _ G' H' st (.bl _)⟩
  .cases h1
 .cases h1⟩
noncomputable def vK (i:ag) (ks:ab ai):FS:=fun ρ=>aa (.nx,ρ.set i (aa (.odl ks (bQ ks.length []))))
noncomputable def Bv (Γ:Cn) (K:aV) (ks:ab ai):TE:=fun σ H Q=>∃G₀ H₀ G ρ,At Γ K G₀ H₀ G H ρ σ/\∀(a:aw) (ps:ab aw) G' H',Step G H G' H'->(∀b∈a::ps,H b=ac/\G' b=ac)->(a::ps).Nodup->H' a=aa (.dK (gq ks ps))->ks.length=ps.length->(∀b∈ps,H' b=aa (.lst []))->Q (.ref a) H'
noncomputable def elT (ks:ab ai):ab (TE×TE):=ks.map fun k=>(tC (.str k),ug)
structure ELs (X:Cx) (pos:dF) (keys:ab (ao Expr)) (values:ab Expr) (ks:ab ai):Prop where
 ex:PPs X pos keys values (elT ks)
theorem CQ:∀(ks:ab ai) (σ:St) (G H:Hp) (Q:ab (V×V)->Hp->Prop),bp G H->(∀(ps:ab aw) H',Step G H G H'->ps.length=ks.length->ps.Nodup->(∀b∈ps,H b=ac)->(∀b∈ps,H' b=aa (.lst []))->Q ((ks.map V.str).zip (ps.map V.ref)) H')->tt (elT ks) σ H Q
 |[],σ,G,H,Q,gh,k=>k [] H (.refl gh) rfl lm (fun _ h=>by cases h) (fun _ h=>by cases h)
 |x::ks,σ,G,H,Q,gh,k=>fun p hp=>CQ ks σ G _ _ (Step.newOwn (o:=.lst []) gh hp).gh fun ps H' st hl nd h0 h1=>by
   have s1:=Step.newOwn (o:=.lst []) gh hp;refine k (p::ps) H' (s1.trans st) (by simp[hl]) (dG.mpr ⟨fun z=>?_,nd⟩) (fun b hb=>?_) (fun b hb=>?_)
   .have:=h0 p z;rw[bV] at this;cases this
   .rcases cG.mp hb with rfl|hb
    .exact hp
    .by_cases e:b=p
     .rw[e];exact hp
     .have:=h0 b hb;rw[aW e] at this;exact this
   .rcases cG.mp hb with rfl|hb
    .exact st.hh _ _ bV
    .exact h1 b hb
section
variable {ks:ab ai}
theorem N2:ELs X pos [] [] []:=⟨M5⟩
theorem mv {j kp lp} (r:ELs X pos keys values ks):ELs X pos (aa (.Constant (.str y) j kp)::keys) (.List [] lp::values) (y::ks):=⟨O0 Dk yw r.ex⟩
theorem IP :∀E σ H,TDs Γ X.K (vK i ks) E σ H->mO (Bv Γ X.K ks) (mC i) E σ H:=by
 rintro E σ H ⟨G₀,H₀,G,ρ,fl,ρ',A,h,k⟩;cases h;refine⟨G₀,H₀,G,ρ,A,fun a ps G' H' s hf nd ha hl he=>k _ G' _ s.gg ?_⟩;refine A.put (fp:=[]) (fp':=a::ps) (.inl rfl) (fun b o e _=>s.hh b o e) (SR.odl (vss:=bQ ps.length []) (fun b hb=>⟨?_,(hf b hb).2⟩) nd ha hl (ef.emp he) (by rw[hl];exact dP.emp _)) (fun b hb=>.inr (hf b hb).1) s.gg s.gh (fun b o e _=>s.out b o e) (fun b hb=>by cases hb);cases hb0:H₀ b with
 |none=>rfl
 |some o=>
  have z:=(hf b hb).1;rw[A.st.hh b o hb0] at z;cases z
theorem LC (nd:ks.Nodup) (h15:ks.length<=15):∀σ H Q,Bv Γ X.K ks σ H Q->Em (elT ks) σ H Q:=by
 rintro σ H Q ⟨G₀,H₀,G,ρ,A,k⟩ p hp;have s0:=Step.newOwn (o:=.dK []) A.gh hp;refine CQ ks σ G _ _ s0.gh fun ps H2 st hl ndp h0 h1=>?_;have hp2:H2 p=aa (.dK []):=st.hh _ _ bV;have hpn:p∉ps:=fun z=>by rw[h1 p z] at hp2;cases hp2
 have hlr:(ks.map (cK:ai->Key)).length=(ps.map V.ref).length:=by rw[qe,qe,hl]
 refine⟨hp2,gq ks ps,Ac ks _,by unfold gq;rw[List.length_zip,qe];omega,?_⟩;have e1:kL [] (gq ks ps)=gq ks ps:=by have:=AB (gq ks ps) [] (by unfold gq;rw[t4 hlr];exact vi _ (fun a b h z=>h (rz z)) nd) (fun _ _ h=>by cases h);simpa using this
 rw[e1];have gp:G p=ac:=A.gh.free hp;refine k p ps G _ ⟨fun b o e=>?_,.refl _,fun b o e=>?_,fun _ _ _=>rfl⟩ (fun b hb=>?_) (dG.mpr ⟨hpn,ndp⟩) bV hl.symm (fun b hb=>?_)
 .rw[aW (ca e hp)];exact(s0.trans st).hh b o e
 .rw[aW (ca e gp)];exact st.gh b o e
 .rcases cG.mp hb with rfl|hb
  .exact⟨hp,gp⟩
  .have h2:=h0 b hb;have hbp:b≠p:=fun z=>hpn (z▸hb);rw[aW hbp] at h2;exact⟨h2,A.gh.free h2⟩
 .have hbp:b≠p:=fun z=>hpn (z▸hb);rw[aW hbp];exact h1 b hb
theorem NU (i:ag) (hN:X.N.Nodup) (h:ELs X dp keys values ks) (nd:ks.Nodup) (h0:keys≠[]) (h15:ks.length<=15) (hk:keys.length=ks.length:=by rfl) (hall:keys.all (·.isSome)=al:=by rfl) (hl:keys.length=values.length:=by rfl) (hi:X.N[i]?=aa x:=by rfl) (hx:Loc X.env.scope x:=by first|exact c6 rfl|exact cB rfl)
  (hs:eW (.Dict keys values dp) (aa (.Name x pos')) pos.line X.env=bm aq:=by rfl) (hf:X.fn x=al\/X.env.scope.names.lookup x=aa .local:=by first|exact .inl rfl|exact .inr rfl|assumption) :
  DS Γ X (.Assign [.Name x pos'] (.Dict keys values dp) pos) (vK i ks):=⟨(pQ hN hi hx ((J' h.ex hall hl h0 (by rw[hk];exact h15)).imp (LC nd h15)) hs hf).imp IP⟩
noncomputable def dlD (ks:ab ai) (dss:ab (ab D)):D:=.dk (lL ks (dss.map D.lst))
theorem At.frzDL (A:At Γ K G₀ H₀ G H ρ σ) (hi:ρ[i]?=aa (aa (.odl ks dss))):∃G',bp G G'/\At Γ K G₀ H₀ G' H (ρ.set i (aa (.sh (dlD ks dss)))) σ:=by
 obtain⟨v,fp,h1,h2⟩:=A.get hi;cases h2 with
 |odl q1 q2 q3 ql q4 q5=>
  rename_i a ps vss;have sm:bp G (fun b=>if b∈a::ps then H b else G b):=fun b o e=>by
   have:b∉a::ps:=fun z=>by rw[(q1 b z).2] at e;cases e
   show(if b∈a::ps then H b else G b)=_;rw[qZ this];exact e
  have hG':∀b∈a::ps,(fun b=>if b∈a::ps then H b else G b) b=H b:=fun b hb=>qY hb;have l1:(ks.map (cK:ai->Key)).length=(ps.map V.ref).length:=by rw[qe,qe,ql]
  have l2:(ks.map (cK:ai->Key)).length=(dss.map D.lst).length:=by rw[qe,qe,ql,q4.len,q5.len]
  refine⟨_,sm,A.ch hi h1 (.odl q1 q2 q3 ql q4 q5) (fun b o e _=>e) (.sh (.dk ((hG' a qf).trans q3) ?_ ?_)) (fun b hb=>by cases hb) sm (fun b o e=>?_) (fun b o e hb=>qZ hb)⟩
  .unfold gq lL;rw[t4 l1,t4 l2]
  .unfold gq lL;rw[wL l1,wL l2];exact dP.reps sm (q4.stay fun b hb=>hG' b (qg _ hb)) q5
  by_cases hb:b∈a::ps
  .replace e:(if b∈a::ps then H b else G b)=aa o:=e
   rw[qY hb] at e;exact e
  .replace e:(if b∈a::ps then H b else G b)=aa o:=e
   rw[qZ hb] at e;exact A.gh b o e
noncomputable def tW (i:ag) (g:FS):FS:=fun ρ=>match ρ[i]? with
 |some (aa (.odl ks dss))=>g (ρ.set i (aa (.sh (dlD ks dss))))
 |_=>ac
theorem TDs.frzDL (i:ag):∀E σ H,TDs Γ X.K (tW i g) E σ H->TDs Γ X.K g E σ H:=by
 rintro E σ H ⟨G₀,H₀,G,ρ,fl,ρ',A,h,k⟩;unfold tW at h;split at h
 .rename_i ks ds hi;obtain⟨G',sm,A'⟩:=A.frzDL hi;exact⟨G₀,H₀,G',_,fl,ρ',A',h,fun σ1 G1 H1 sm1 A1=>k σ1 G1 H1 (sm.trans sm1) A1⟩
 .cases h
theorem K7 (i:ag) (h:DSs Γ X sts g):DSs Γ X sts (tW i g):=⟨h.1.imp (TDs.frzDL i)⟩
noncomputable def oX (i:ag) (ft:FT):FT:=fun ρ=>match ρ[i]? with
 |some (aa (.odl ks dss))=>ft (ρ.set i (aa (.sh (dlD ks dss))))
 |_=>ac
theorem Kq (i:ag) (h:DT Γ X e ft):DT Γ X e (oX i ft):=⟨h.1.imp fun σ H Q=>by
 rintro⟨G₀,H₀,G,ρ,b,A,h,k⟩;unfold oX at h;split at h
 .rename_i ks ds hi;obtain⟨G1,sm,A1⟩:=A.frzDL hi;exact⟨G₀,H₀,G1,_,b,A1,h,fun G' H' s=>k G H' (s.back A.gh sm)⟩
 .cases h⟩
noncomputable def kix:ab ai->ai->ao ag
 |[],_=>ac
 |x::r,k=>if x=k then aa 0 else (kix r k).map (·+1)
theorem A8:∀{ks:ab ai} {ps:ab aw} {k:ai} {j:ag},kix ks k=aa j->ks.length=ps.length->∃p,ps[j]?=aa p/\gr (gq ks ps) (cK k)=aa (.ref p)
 |[],_,_,_,h,_=>by cases h
 |_::_,[],_,_,_,h=>by simp at h
 |x::ks,p::ps,k,j,h,hl=>by
  unfold kix at h;split at h
  .rename_i e;cases h;refine⟨p,rfl,?_⟩;show(zG _ ((cK x,V.ref p)::gq ks ps)).map _=_;rw[So (by simp[e])];rfl
  .rename_i e;obtain⟨j',h1,rfl⟩:=oMd h;obtain⟨q,h2,h3⟩:=A8 h1 (ps:=ps) (by simpa using hl);refine⟨q,by simpa using h2,?_⟩;show(zG _ ((cK x,V.ref p)::gq ks ps)).map _=_;rw[Sq (by simpa using e)];exact h3
noncomputable def nV (i:ag) (fk f:FE):FS:=fun ρ=>match ρ[i]? with
 |some (aa (.odl ks dss))=>(fk ρ).bind fun k=>(f ρ).bind fun d=>match k with
  |.str y=>(kix ks y).bind fun j=>match dss[j]? with
   |some ds=>if ds.length<aM then aa (.nx,ρ.set i (aa (.odl ks (dss.set j (ds++[d]))))) else ac
   |none=>ac
  |_=>ac
 |_=>ac
theorem Pd (i:ag) {sp:dF} (hu:X.A.units+66<cT) (hk:DE Γ X ek fk) (h:DE Γ X e f) (hN:X.N[i]?=aa x:=by rfl) (hv:Vis X.env.scope x:=by first|exact c6 rfl|exact cB (c6 rfl)|exact cB (cB rfl)) (hd:(x==("__debug__":ai))=aq:=by decide)
  (hcd:(x==("__classdict__":ai))=aq:=by decide) (hpi:sE ek:=by intro _ _;rfl)
  (hbase:iO (.Subscript (.Name x vp) ek sp) "append" X.env (eval (.Subscript (.Name x vp) ek sp) X.env)=eval (.Subscript (.Name x vp) ek sp) X.env:=by rfl)
  (hfew:((cz cpos (aS [e] X.env)).all (fun x=>!x.1) && (iP cpos (iQ [] X.env)).all (fun x=>x.1.isSome)
   && decide ([e].length+([]:ab jw).length+(if ([]:ab jw).isEmpty then 0 else 1)<30))=al:=by rfl)
  (hline:(apos.endLine==cpos.line)=al:=by rfl) (hs:aS [e] X.env=(aq,eval e X.env)::aS [] X.env:=by rfl) (hplain:(cz cpos (aS [] X.env)).any (·.1)=aq:=by rfl)
  (hsw:eW (.Call (.Attribute (.Subscript (.Name x vp) ek sp) "append" apos) [e] [] cpos) ac pos.line X.env=bm aq:=by rfl) :
  DS Γ X (.Expr (.Call (.Attribute (.Subscript (.Name x vp) ek sp) "append" apos) [e] [] cpos) pos) (nV i fk f):=⟨(p7 (pG uY zb Fy tM (CI (by omega) (iX hN hv hd hcd) hk.1 hpi) (gR h.1 gI hs) hbase hfew hline hs hplain) hsw).imp fun E σ H=>by
  rintro⟨G₀,H₀,G,ρ,fl,ρ',A,h,k⟩;unfold nV at h;split at h
  .rename_i ks dss hi;obtain⟨kd,hkd,h⟩:=oBd h;obtain⟨d,hd',h⟩:=oBd h;split at h
   .rename_i y _;obtain⟨j,hj,h⟩:=oBd h;split at h
    .rename_i ds hds;split at h
     .rename_i hz;cases h;obtain⟨v,fp,h1,h2⟩:=A.get hi;cases h2 with
      |odl q1 q2 q3 ql q4 q5=>
       rename_i a ps vss;refine⟨.ref a,h1,G₀,H₀,G,ρ,.str y,A,hkd,fun v1 G1 H1 s1 r1=>?_⟩;cases r1.str_inv;obtain⟨vs,hvs,rvs⟩:=q5.at' hds;obtain⟨p',hp',hHp⟩:=q4.at' hvs;obtain⟨p,hp,hval⟩:=A8 hj ql;rw[hp'] at hp;cases hp;refine⟨a,.ref p',rfl,hval▸jf.k (k:=cK y) (s1.hh _ _ q3),.inl ⟨rfl,vs,.inl (.inl (s1.hh _ _ hHp))⟩,G₀,H₀,G1,ρ,d,A.step s1,hd',fun u G2 H2 s2 r2=>?_⟩;have S2:=(SR.odl (Γ:=Γ) (K:=X.K) q1 q2 q3 ql q4 q5).stepS (s1.trans s2);have A2:=(A.step s1).step s2;refine⟨p',vs,u,rfl,rfl,s2.hh _ _ (s1.hh _ _ hHp),by rw[rvs.length];exact hz,?_⟩;have hpm:p'∈a::ps:=qg _ (qP hp');refine k σ G2 _ (s1.gg.trans s2.gg) (A2.ch hi h1 S2 (fun b o e hb=>?_) (.odl (fun b hb=>⟨(q1 b hb).1,(S2.fpt b hb).2.1⟩) q2 ?_ ql ((q4.stay fun b hb=>?_).put (dG.mp q2).2 hp') ((q5.map fun r=>r.mono (s1.gg.trans s2.gg)).put ((rvs.mono (s1.gg.trans s2.gg)).append (.cons r2 .nil)))) (fun b hb=>.inl hb) (.refl _) (fun b o e=>?_) (fun _ _ _ _=>rfl))
       .rw[aW (fun z=>hb (by rw[z];exact hpm))];exact e
       .rw[aW (fun z=>(dG.mp q2).1 (by rw[z];exact qP hp'))];exact s2.hh _ _ (s1.hh _ _ q3)
       .obtain⟨o,ho⟩:=q4.mem b hb;rw[ho];exact s2.hh _ _ (s1.hh _ _ ho)
       .rw[aW (ca e (S2.fpt p' hpm).2.1)];exact A2.gh b o e
     .cases h
    .cases h
   .cases h
  .cases h⟩
end
noncomputable def TDm (Γ:Cn) (K:aV) (f:FE):TE:=fun σ H Q=>∃G₀ H₀ G ρ d,At Γ K G₀ H₀ G H ρ σ/\f ρ=aa d/\∀v G' H',Step G H G' H'->Rep Γ K G' v d->NewL H₀ G' v d->Q v H'
noncomputable def Mh (Γ:Cn) (K:aV) (f:FA):TA:=fun σ H Q=>∃G₀ H₀ G ρ ds,At Γ K G₀ H₀ G H ρ σ/\f ρ=aa ds/\∀vs G' H',Step G H G' H'->Reps Γ K G' vs ds->NewLs H₀ G' vs ds->Q vs H'
structure DM (Γ:Cn) (X:Cx) (e:Expr) (f:FE):Prop where
 out:PE X e (TDm Γ X.K f)
structure DMs (Γ:Cn) (X:Cx) (es:ab Expr) (f:FA):Prop where
 out:PA X es (Mh Γ X.K f)
section
variable {a:Expr}
theorem DN.dm (h:DN Γ X e f):DM Γ X e f:=⟨h.1.imp fun σ H Q=>by rintro⟨G₀,H₀,G,ρ,d,A,hq,k⟩;exact⟨G₀,H₀,G,ρ,d,A,hq,fun v G' H' s r n=>k v G' H' s r (n.mono (.refl _) A.st.hh)⟩⟩
noncomputable def pw (i:ag):FE:=fun ρ=>match ρ[i]? with
 |some (aa (.nsh d))=>aa d
 |_=>ac
theorem CG (i:ag) (hN:X.N[i]?=aa x:=by rfl) (hv:Vis X.env.scope x:=by first|exact c6 rfl|exact cB (c6 rfl)|exact cB (cB rfl)) (hd:(x==("__debug__":ai))=aq:=by decide)
  (hcd:(x==("__classdict__":ai))=aq:=by decide):DM Γ X (.Name x pos) (pw i):=⟨(iX hN hv hd hcd).imp fun σ H Q ⟨G₀,H₀,G,ρ,d,A,h,k⟩=>by
 unfold pw at h;split at h
 .rename_i d' hi;cases h;obtain⟨v,fp,h1,h2⟩:=A.get hi;cases h2 with
  |nsh r n=>exact⟨v,h1,k v G H (.refl A.gh) r n⟩
 .cases h⟩
theorem wQ:DMs Γ X [] ak:=⟨gI.imp fun σ H Q=>by rintro⟨G₀,H₀,G,ρ,d,A,h,k⟩;cases h;exact k [] G H (.refl A.gh) .nil .nil⟩
theorem mI (h:DM Γ X e f) (r:DMs Γ X es fr) (hs:aS (e::es) X.env=(aq,eval e X.env)::aS es X.env:=by rfl):DMs Γ X (e::es) (ae f fr):=⟨(gR h.1 r.1 hs).imp fun σ H Q=>by rintro⟨G₀,H₀,G,ρ,d,A,h,k⟩;unfold ae at h;obtain⟨x,hx,h⟩:=oBd h;obtain⟨xs,hxs,rfl⟩:=oMd h;exact⟨G₀,H₀,G,ρ,x,A,hx,fun v G1 H1 s1 r1 n1=>⟨G₀,H₀,G1,ρ,xs,A.step s1,hxs,fun vs G2 H2 s2 r2 n2=>k _ G2 H2 (s1.trans s2) (.cons (r1.mono s2.gg) r2) (.cons (n1.mono s2.gg (.refl _)) n2)⟩⟩⟩
theorem AW (A:At Γ K G₀ H₀ G H ρ σ) (hh:bp H H1) {q:aw} (h:H1 q=ac):H₀ q=ac:=by
 cases hb:H₀ q with
 |none=>rfl
 |some o=>rw[hh _ _ (A.st.hh _ _ hb)] at h;cases h
theorem xp (h:DMs Γ X es fr):DM Γ X (.List es pos) (aD (szF fr)):=⟨(sU h.1).imp fun σ H Q=>by
 rintro⟨G₀,H₀,G,ρ,d,A,h,k⟩;unfold aD szF at h;obtain⟨ds,hd,rfl⟩:=oMd h;obtain⟨l,hl,hd⟩:=oBd hd;split at hd
 .rename_i hz;cases hd;refine⟨G₀,H₀,G,ρ,_,A,hl,fun vs G1 H1 s1 r1 n1=>⟨by rw[r1.length];exact hz,fun q hq=>?_⟩⟩;have s2:=Step.new (o:=.lst vs) s1.gh hq;exact k _ _ _ (s1.trans s2) (.lst bV (r1.mono s2.gg)) (.lst bV (AW A s1.hh hq) (n1.mono s2.gg (.refl _)))
 .cases hd⟩
noncomputable def n8 (fa fb:FE):FE:=aD (wy fa fb)
theorem NewL.lst_inv (h:NewL H G v (.lst ds)):∃q vs,v=.ref q/\G q=aa (.lst vs)/\H q=ac/\NewLs H G vs ds:=by
 cases h with
 |flat h=>cases h
 |lst h1 h2 h3=>exact⟨_,_,rfl,h1,h2,h3⟩
theorem BZ (ha:DM Γ X a fa) (hb:DM Γ X b fb):DM Γ X (.BinOp a .Add b pos) (n8 fa fb):=⟨(Es EB ha.1 hb.1).imp fun σ H Q=>by
 rintro⟨G₀,H₀,G,ρ,d,A,h,k⟩;unfold n8 aD at h;obtain⟨ds,h',rfl⟩:=oMd h;clear h;have h:=h';unfold wy at h;obtain⟨x,hx,h⟩:=oBd h;obtain⟨y,hy,h⟩:=oBd h;refine⟨G₀,H₀,G,ρ,x,A,hx,fun v G1 H1 s1 r1 n1=>⟨G₀,H₀,G1,ρ,y,A.step s1,hy,fun u G2 H2 s2 r2 n2=>?_⟩⟩;unfold Dh at h;split at h
 .split at h
  .rename_i hz;cases h;obtain⟨a,vs,rfl,ha,ra⟩:=(r1.mono s2.gg).lst_inv;obtain⟨b,us,rfl,hb,rb⟩:=r2.lst_inv;obtain⟨_,vs',ea,ha',_,na⟩:=(n1.mono s2.gg (.refl _)).lst_inv;obtain⟨_,us',eb,hb',_,nb⟩:=n2.lst_inv;cases ea;cases eb;rw[ha] at ha';cases ha';rw[hb] at hb';cases hb';refine⟨a,b,vs,us,rfl,rfl,s2.gh _ _ ha,s2.gh _ _ hb,by rw[ra.length,rb.length];exact hz,fun q hq=>?_⟩;have s3:=Step.new (o:=.lst (vs++us)) s2.gh hq;exact k _ _ _ ((s1.trans s2).trans s3) (.lst bV ((ra.append rb).mono s3.gg)) (.lst bV (AW A (s1.trans s2).hh hq) ((na.append nb).mono s3.gg (.refl _)))
  .cases h
 .cases h⟩
noncomputable def oe (i:ag) (f:FE):FS:=fun ρ=>(f ρ).map fun d=>(.nx,ρ.set i (aa (.nsh d)))
theorem CV (i:ag) (hN:X.N.Nodup) (h:DM Γ X e f) (hi:X.N[i]?=aa x:=by rfl) (hx:Loc X.env.scope x:=by first|exact c6 rfl|exact cB rfl) (hs:eW e (aa (.Name x pos')) pos.line X.env=bm aq:=by rfl) (hf:X.fn x=al\/X.env.scope.names.lookup x=aa .local:=by first|exact .inl rfl|exact .inr rfl|assumption) :
  DS Γ X (.Assign [.Name x pos'] e pos) (oe i f):=⟨(pQ hN hi hx h.1 hs hf).imp fun E σ H=>by
 rintro⟨G₀,H₀,G,ρ,fl,ρ',A,h,k⟩;unfold oe at h;obtain⟨d,hd,h⟩:=oMd h;cases h;refine⟨G₀,H₀,G,ρ,d,A,hd,fun v G' H' s r n=>k _ G' _ s.gg ?_⟩;exact A.put (fp:=[]) (fp':=[]) (.inl rfl) (fun b o e _=>s.hh b o e) (SR.nsh r n) (fun b hb=>by cases hb) s.gg s.gh (fun b o e _=>s.out b o e) (fun b hb=>by cases hb)⟩
theorem Od (h:DM Γ X e f):DS Γ X (.Return (aa e) pos) (fX f):=⟨(wp h.1).imp fun E σ H=>by rintro⟨G₀,H₀,G,ρ,fl,ρ',A,h,k⟩;unfold fX at h;obtain⟨d,hd,h⟩:=oMd h;cases h;exact⟨G₀,H₀,G,ρ,d,A,hd,fun v G' H' s r n=>k σ G' H' s.gg (A.step s) v r n⟩⟩
theorem Kf:MtR X "list.clear" (fun v vs H Q=>∃(l:aw) (xs:ab V),v=.ref l/\vs=[]/\H l=aa (.lst xs)/\Q .non (upd H l (.lst []))):=by intro pins s σ H x vs v us Q I rx rv h;obtain⟨l,xs,rfl,rfl,hH,q⟩:=h;cases rx;cases rv;obtain⟨z,its,n,r,hl,e⟩:=I.lstM hH;refine ng Sr ⟨_,e,rfl⟩ F.entry_list_clear (F.args_list_clear_1 _) (AutoSeq1.list_clear_list_0 l its.toArray n (by rw[qB];omega)) ⟨e,?_⟩;exact⟨.non,_,I.lset (its':=[]) hH e rfl .nil (gd _),rfl,q⟩
noncomputable def o7:D->bq
 |.lst _=>al
 |_=>aq
noncomputable def o8 (i n:ag) (f:FE):FS:=fun ρ=>(f ρ).bind fun d=>match d with
 |.lst l=>if (l.take n).all o7=al/\i < ρ.length then aa (.nx,ρ.set i ac) else ac
 |_=>ac
theorem NewLs.get {H G:Hp}:∀{vs:ab V} {ds:ab D} {j:ag} {v:V},NewLs H G vs ds->vs[j]?=aa v->∃d,ds[j]?=aa d/\NewL H G v d
 |_,_,_,_,.nil,e=>by simp at e
 |_,_,0,_,.cons r _,e=>by simp at e;subst e;exact⟨_,rfl,r⟩
 |_,_,j+1,v,.cons _ t,e=>by obtain⟨d,h1,h2⟩:=NewLs.get (j:=j) (v:=v) t (by simpa using e);exact⟨d,by simpa using h1,h2⟩
theorem Gp (xs:ab V) (n:ag):jJ xs ac (aa (n:af))=xs.take n:=by
 unfold jJ;rw[HT.sIx_none,HT.sIx_nat,l',Ss];by_cases h:n<=xs.length
 .rw[ko h]
 .rw[F1 (by omega),km (qv _),km (by omega)]
theorem HX (i n:ag) {jj:ag} {pj psl xpos:dF} (hp:uH (aQ X.prog X.w) X.A X.env X.xe) (hc:X.calm=al) (hN:X.N.Nodup) (h:DN Γ X e f) (hi:X.N[i]?=aa y:=by rfl) (hy:Loc X.env.scope y:=by first|exact c6 rfl|exact cB rfl)
  (hf:X.fn y=al\/X.env.scope.names.lookup y=aa .local:=by first|exact .inl rfl|exact .inr rfl|assumption) (hv:Vis X.env.scope y:=by first|exact c6 rfl|exact cB (c6 rfl)|exact cB (cB rfl)) (hd:(y==("__debug__":ai))=aq:=by decide)
  (hcd:(y==("__classdict__":ai))=aq:=by decide) (hbase:iO (.Name y vp) "clear" X.env (eval (.Name y vp) X.env)=eval (.Name y vp) X.env:=by rfl) (hline:(apos.endLine==cpos.line)=al:=by rfl)
  (hsw:eW (.Call (.Attribute (.Name y vp) "clear" apos) [] [] cpos) ac xpos.line X.env=bm aq:=by rfl) (hs:∀x,lV (.Subscript e (.Slice ac (aa (.Constant (.int (n:af)) jj pj)) ac p2) psl) X.env x=bm x:=by intro _;rfl) :
  DS Γ X (.For (.Name y py) (.Subscript e (.Slice ac (aa (.Constant (.int (n:af)) jj pj)) ac p2) psl) [.Expr (.Call (.Attribute (.Name y vp) "clear" apos) [] [] cpos) xpos] [] pos) (o8 i n f):=
 ⟨(C1 hp hc (ED (A6 Ep h.1 Am (tR xn))) (Bz hN hi hy hf) (Aj (p7 (Nu uY Sr PySem.F.type_list_clear Kf (iX hi hv hd hcd) hbase hline) hsw)) hs).imp fun E σ H=>by
 rintro⟨G₀,H₀,G,ρ,fl,ρ',A,h,k⟩;unfold o8 at h;obtain⟨d,hd,h⟩:=oBd h;split at h
 .rename_i l;split at h
  .rename_i hall';obtain⟨hall,hil0⟩:=hall';cases h;refine⟨G₀,H₀,G,ρ,_,A,hd,fun v G1 H1 s1 r1 n1=>⟨_,rfl,?_⟩⟩;obtain⟨q,xs,rfl,hq,rq⟩:=r1.lst_inv;obtain⟨_,xs',e1,hq',_,nx⟩:=n1.lst_inv;cases e1;rw[hq] at hq';cases hq';refine⟨q,xs,rfl,.inl (.inl (s1.gh _ _ hq)),fun w hw=>.inl ⟨w,rfl,⟨_,.inl (.inl bV)⟩,?_⟩⟩;rw[Gp];have lists:∀(j:ag) (x:V),(xs.take n)[j]?=aa x->∃b us,x=.ref b/\H b=ac/\H1 b=aa (.lst us):=fun j x e=>by
    have hj:j<n:=by have:=(cR.mp e).1;rw[qE] at this;omega
    rw[Su,qY hj] at e;obtain⟨d,h1,h2⟩:=nx.get e;have hd':o7 d=al:=ma.mp hall d (by refine qP (i:=j) ?_;rw[Su,qY hj];exact h1)
    cases d with
    |lst ds=>
     obtain⟨b,us,rfl,g1,g2,_⟩:=h2.lst_inv;exact⟨b,us,rfl,g2,s1.gh _ _ g1⟩
    |_=>cases hd'
   have hw0:H w=ac:=by
    cases hb:H w with
    |none=>rfl
    |some o=>rw[s1.hh _ _ hb] at hw;cases hw
   refine⟨fun j m σ' H'=>m=(xs.take n).length-j/\σ'.length=σ.length/\(∀t,t≠i->σ'[t]?=σ[t]?)/\bp H H'/\H' w=aa (.lst (xs.take n))/\∀b us,H1 b=aa (.lst us)->∃us',H' b=aa (.lst us'),⟨_,rfl,rfl,fun _ _=>rfl,fun b o e=>?_,bV,fun b us e=>?_⟩,?_⟩
   .rw[aW (ca e hw0)];exact s1.hh b o e
   .by_cases hb:b=w
    .rw[hb,hw] at e;cases e
    .exact⟨us,by rw[aW hb];exact e⟩
   .rintro j m σ' H' ⟨hm,hlen,hσ,hS,hW,hL⟩;by_cases hj:j<(xs.take n).length
    .refine .inr ⟨⟨_,_,.inl (.inl hW),qD hj⟩,_,fun σ2 H2 hN=>⟨(xs.take n).length-(j+1),by omega,rfl,hN⟩,fun x H2 ⟨e1,e2⟩=>?_⟩;subst e1;have ex:=e2 _ (.inl (.inl hW));obtain⟨b,us,rfl,hb0,hb1⟩:=lists j x ex;obtain⟨us',hb'⟩:=hL b us hb1;have hbw:b≠w:=fun z=>by rw[z,hw] at hb1;cases hb1
     have hil:i < σ.length:=by rw[←A.env.len];exact hil0
     refine⟨.ref b,by rw[mX (by omega)],.inl ⟨rfl,_,.inl (.inl hb')⟩,b,us',rfl,rfl,hb',?_⟩;refine⟨by rw[vj];exact hlen,fun t ht=>by rw[qy (dM ht)];exact hσ t ht,fun c o e=>?_,by rw[aW (dM hbw)];exact hW,fun c us2 e=>?_⟩
     .rw[aW (ca e hb0)];exact hS c o e
     .by_cases hc:c=b
      .exact⟨[],by rw[hc,bV]⟩
      .obtain⟨u,hu⟩:=hL c us2 e;exact⟨u,by rw[aW hc];exact hu⟩
    .refine .inl ⟨⟨_,.inl (.inl hW),by omega⟩,?_⟩;refine k σ' G H' (.refl _) ⟨⟨A.st.hh.trans hS,A.st.gg,fun b o e=>hS b o (A.gh b o e),A.st.out⟩,?_⟩;obtain⟨fps,h1,h2⟩:=A.env.sl;have back:∀(t:ag) s,(ρ.set i ac)[t]?=aa (aa s)->t≠i/\ρ[t]?=aa (aa s):=fun t s e=>by
      by_cases ht:t=i
      .subst ht;rw[RL] at e;simp at e
      .exact⟨ht,by rw[qy (dM ht)] at e;exact e⟩
     refine⟨by rw[vj,hlen];exact A.env.len,fps,fun t s e=>?_,fun t u s s' htu e e'=>h2 t u s s' htu (back t s e).2 (back u s' e').2⟩;obtain⟨v,g1,g2⟩:=h1 t s (back t s e).2;refine⟨v,by rw[hσ t (back t s e).1];exact g1,g2.stay (.refl _) (fun b hb=>(g2.fpt b hb).2.1) fun b hb=>?_⟩;obtain⟨_,_,o,ho⟩:=g2.fpt b hb;rw[ho];exact hS b o ho
  .cases h
 .cases h⟩
end
section
variable {c:ai}
theorem nG {k:ag} (C:CalMN Γ X.prog X.w X.K X.mg X.base c m 1 k F) (hr:Room j X.A) (hk:k<=j) (ho:DE Γ X o fo)
  (ht:eval (.Call (.Attribute o m apos) [] [] pos) X.env=(do
   let ov ←eval o X.env
   mY apos.atName
   let (f,first) ←jt [ov] (m4 ov m pl)
   ou pos f first (cz pos (aS [] X.env)) (iP pos (iQ [] X.env))):=by rfl) :
  DN Γ X (.Call (.Attribute o m apos) [] [] pos) (dE c m F fo ak):=⟨by
 obtain⟨Ca,f,fd,ps,h0,h1,h2,h3,h4⟩:=C.ex;refine(AG ho.1 h1 h2 h3 (hr.mono hk) h4 .nil nN ht).imp fun σ H Q=>?_;rintro⟨G₀,H₀,G,ρ,rs,A,h,k⟩;unfold dE at h;obtain⟨x,hx,hq⟩:=oBd h;clear h;refine⟨G₀,H₀,G,ρ,x,A,hx,fun v G1 H1 s1 r1=>?_⟩;split at hq
 .rename_i c' fs;split at hq
  .rename_i hz;obtain⟨rfl,hz2⟩:=hz;obtain⟨ds,hds,hF⟩:=oBd hq;have r1':=r1;cases r1 with
   |ins g1 g2 g3 g4=>
    rw[h0] at g2;cases g2;rename_i _ _ us0;have hl:dw m us0=ac:=by
     rcases ka (k:=m) g3 g4 with⟨_,z2⟩|⟨d',v',z1,_,_⟩
     .exact z2
     .rw[z1] at hz2;cases hz2
    cases hds;refine⟨_,_,_,rfl,s1.gh _ _ g1,hl,?_⟩;exact⟨G1,_,rs,s1.gh,.cons r1' .nil,rfl,hF,fun v G' H' s r nv=>k v G' H' (s1.trans s) r (nv.mono (.refl _) s1.hh)⟩
  .cases hq
 .cases hq⟩
noncomputable def emT:ag->TA
 |0=>yc
 |n+1=>Eb ug (emT n)
structure EMs (X:Cx) (es:ab Expr) (n:ag):Prop where
 ex:PA X es (emT n)
theorem EH:EMs X [] 0:=⟨gI⟩
theorem lP (r:EMs X es n) (hs:aS (.List [] p::es) X.env=(aq,eval (.List [] p) X.env)::aS es X.env:=by rfl):EMs X (.List [] p::es) (n+1):=⟨gR yw r.ex hs⟩
theorem Ds:∀(n:ag) (σ:St) (G H:Hp) (Q:ab V->Hp->Prop),bp G H->(∀(ps:ab aw) H',Step G H G H'->ps.length=n->ps.Nodup->(∀b∈ps,H b=ac)->(∀b∈ps,H' b=aa (.lst []))->Q (ps.map V.ref) H')->emT n σ H Q
 |0,σ,G,H,Q,gh,k=>k [] H (.refl gh) rfl lm (fun _ h=>by cases h) (fun _ h=>by cases h)
 |n+1,σ,G,H,Q,gh,k=>fun p hp=>Ds n σ G _ _ (Step.newOwn (o:=.lst []) gh hp).gh fun ps H' st hl nd h0 h1=>by
   have s1:=Step.newOwn (o:=.lst []) gh hp;refine k (p::ps) H' (s1.trans st) (by simp[hl]) (dG.mpr ⟨fun z=>?_,nd⟩) (fun b hb=>?_) (fun b hb=>?_)
   .have:=h0 p z;rw[bV] at this;cases this
   .rcases cG.mp hb with rfl|hb
    .exact hp
    .by_cases e:b=p
     .rw[e];exact hp
     .have:=h0 b hb;rw[aW e] at this;exact this
   .rcases cG.mp hb with rfl|hb
    .exact st.hh _ _ bV
    .exact h1 b hb
theorem Nt (hn:n<=100):∀σ H Q,wR Γ X.K (fun _=>aa n) σ H Q->Bt (emT n) σ H Q:=by
 rintro σ H Q ⟨G₀,H₀,G,ρ,n',A,h,k⟩;cases h;refine Ds n σ G _ _ A.gh fun ps H' st hl nd h0 h1=>⟨by rw[qe,hl];have:=fE;omega,fun a ha=>?_⟩;have s2:=Step.newOwn (o:=.lst (ps.map V.ref)) st.gh ha;have hap:a∉ps:=fun z=>by rw[h1 a z] at ha;cases ha
 have ha0:H a=ac:=by
  cases hb:H a with
  |none=>rfl
  |some o=>rw[st.hh _ _ hb] at ha;cases ha
 refine k a ps G _ (st.trans s2) (fun b hb=>?_) (dG.mpr ⟨hap,nd⟩) bV hl (fun b hb=>?_)
 .rcases cG.mp hb with rfl|hb
  .exact⟨ha0,A.gh.free ha0⟩
  .exact⟨h0 b hb,A.gh.free (h0 b hb)⟩
 .rw[aW (fun z=>hap (by rw[←z];exact hb))];exact h1 b hb
theorem Cd (i n:ag) {lp:dF} (hN:X.N.Nodup) (h:EMs X es n) (hn:n<=100:=by decide) (hi:X.N[i]?=aa x:=by rfl) (hx:Loc X.env.scope x:=by first|exact c6 rfl|exact cB rfl) (hs:eW (.List es lp) (aa (.Name x pos')) pos.line X.env=bm aq:=by rfl) (hf:X.fn x=al\/X.env.scope.names.lookup x=aa .local:=by first|exact .inl rfl|exact .inr rfl|assumption) :
  DS Γ X (.Assign [.Name x pos'] (.List es lp) pos) (kf i fun _=>aa n):=⟨(pQ hN hi hx ((sU h.ex).imp (Nt hn)) hs hf).imp B0⟩
end
theorem Kx (us:ab av):us=(bj us.length).map fun i=>us.getD i .none:=by
 apply List.ext_getElem
 .simp
 .intro i h1 h2;simp[F2,qD h1]
theorem bn {F:av->av->av->ao aw->av->av->m5} (h:∀a b c d e f (v:ag->av),jv (F a b c d e f) ⟨(bj ps.length).map v,[]⟩=bm (ps.zip ((bj ps.length).map v))) (a b c:av) (d:ao aw) (e f:av) (us:ab av) (hl:us.length=ps.length) :
  jv (F a b c d e f) ⟨us,[]⟩=bm (ps.zip us):=by
 have:=h a b c d e f fun i=>us.getD i .none;rw[←hl,←Kx us] at this;exact this
namespace Law
abbrev oS (d:D):ao Slot:=aa (.sh d)
end Law
abbrev FQ:=ab D->ao D
namespace Law
theorem dC {k:ag} {F:FQ} (C:Cal Γ X.prog X.w X.K X.mg X.base x n k F) (hr:Room j X.A) (ha:DA Γ X (e::es) fr) (hn:∀ρ ds,fr ρ=aa ds->ds.length=n) (hk:k<=j:=by decide) (hg:Gl X x:=by exact rfl) (hdb:(x==("__debug__":ai))=aq:=by decide) (he:aS (e::es) X.env=(aq,eval e X.env)::aS es X.env:=by rfl) (hpl:(cz pos (aS es X.env)).any (·.1)=aq:=by rfl):DE Γ X (.Call (.Name x p) (e::es) [] pos) (cF F fr):=i9 C hr hk hg ha hn hdb he hpl
theorem bw {P:ab ai} (a:sc.kind=.function:=by rfl) (b:sc.isCoroutine=aq:=by rfl) (c:sc.isGenerator=aq:=by rfl) (d:N.Nodup:=by decide +kernel) (e:N.take P.length=P:=by rfl) (f:∀x∈P,sc.names.lookup x=aa .local∨sc.names.lookup x=aa .cell:=by decide +kernel) (g:∀y∈sc.names,y.2≠.free:=by decide +kernel):FnScope N P sc:=⟨a,b,c,d,e,f,g⟩
noncomputable def top (i:ag):Stmt:=T7.main.body.getD i (.Pass ⟨0,0,0,0⟩)
noncomputable def Dm:ab ai:=["benches","steps","jobs","setups","links","stocks","horizon","bench_by_name","step_by_name","setup_by_names","job_by_step"]
noncomputable def Gam (C_Shop:aw):Cn:=⟨fun c=>if c="Shop" then aa C_Shop else ac,ac⟩
noncomputable def dz:FQ:=aZ 6
  (ax (aH 3 (orD (b2 eqA (vSh 0) (aD (szF ak))) (b2 eqD (b2 bA (b2 ixD (vSh 0) (vC (.int 0))) (vC (.int 2))) (vC (.int 0))))) (ax (aH 4 (vC (.int 0))) (ax (aH 5 (b2 cv (vSh 1) (vSh 1))) (ax (sIf (toB (b2 ltD (vSh 1) (cF bT (ae (vSh 0) ak)))) (aH 4 (b2 ixD (vSh 0) (vSh 1))) aU) (ax (sIf (toB (b2 neA (vSh 0) (aD (szF ak)))) (aH 5 (b2 ixD (vSh 0) (b2 bA (vSh 1) (cF bT (ae (vSh 0) ak))))) aU) (ax (dI 6 (szF ak)) (ax (ck (itE (vSh 2)) (cD 2 (aN (ay 7) (aN (ay 8) cr))) (sIf (eT (toB (vSh 3)) (toB (b2 gtD (vSh 4) (vC (.int 1))))) (ax (b9 6 (b2 bA (vSh 4) (vSh 8))) (aH 4 (b2 oN (vSh 4) (vSh 8)))) (ax (aH 5 (b2 aF (b2 aF (b2 bA (vSh 5) (vC (.int 1000000007))) (b2 cv (b2 cv (vC (.int 7919)) (vSh 7)) (vSh 7))) (b2 cv (b2 cv (vC (.int 104729)) (vSh 1)) (vSh 1)))) (ax (aH 5 (b2 bA (b2 cv (b2 aF (vSh 5) (vC (.int 1))) (vC (.int 48271))) (vC (.int 2147483629)))) (ax (aH 5 (b2 bA (b2 cv (vSh 5) (vSh 5)) (vC (.int 2147483587)))) (b9 6 (b2 bA (b2 eY (b2 cv (vSh 5) (b2 aF (vSh 5) (vC (.int 1)))) (vC (.int 97))) (vSh 8)))))))) (eR 6 (aK (vSh 6))))))))))
noncomputable def eI:FQ:=aZ 2
  (ax (aH 2 (vC (.str "abcdefghijklmnopqrst"))) (ax (aH 3 (b2 ixD (vSh 2) (b2 bA (vSh 1) (vC (.int 20))))) (ax (sIf (orT (toB (b2 gtD (b2 bA (vSh 0) (vC (.int 5))) (vC (.int 0)))) (toB (b2 gtD (vSh 1) (vC (.int 19))))) (aH 3 (b2 aF (b2 ixD (vSh 2) (b2 bA (b2 eY (vSh 1) (vC (.int 20))) (vC (.int 20)))) (vSh 3))) aU) (aK (b2 aF (b2 aF (b2 cv (vC (.str "z")) (b2 bA (b2 aF (vSh 0) (vSh 1)) (vC (.int 5)))) (vSh 3)) (b2 cv (vC (.str "y")) (b2 bA (b2 eY (vSh 0) (vC (.int 4))) (vC (.int 3)))))))))
noncomputable def pv:FQ:=aZ 8
  (ax (dI 4 (szF ak)) (ax (ck (itR ff (ae (vSh 2) ak)) (ay 5) (ax (dI 6 (szF ak)) (ax (aH 7 (cF dz (ae (vSh 0) (ae (b2 aF (vC (.int 3)) (vSh 5)) (ae (b2 aF (aD (szF (ae (vC (.int 11)) ak))) (b2 cv (aD (szF (ae (vC (.int 7)) (ae (vC (.int 6)) ak)))) (vC (.int 10)))) ak))))) (ax (aH 8 (vC (.int 0))) (ax (ck (itR ff (ae (b2 ixD (vSh 7) (vC (.int 0))) ak)) (ay 9) (ax (aH 10 (b2 aF (vSh 8) (b2 ixD (vSh 7) (b2 aF (vC (.int 1)) (b2 cv (vC (.int 2)) (vSh 9)))))) (ax (aH 11 (b2 aF (b2 aF (vSh 10) (vC (.int 1))) (b2 ixD (vSh 7) (b2 aF (vC (.int 2)) (b2 cv (vC (.int 2)) (vSh 9)))))) (ax (sIf (toB (b2 leD (vSh 11) (vSh 3))) (b9 6 (bK (szF (ae (vSh 10) (ae (vSh 11) ak))))) aU) (aH 8 (b2 aF (vSh 11) (vC (.int 1)))))))) (eR 6 (b9 4 (bK (szF (ae (cF eI (ae (vSh 1) (ae (vSh 5) ak))) (ae (vSh 6) ak))))))))))) (eR 4 (aK (vSh 4)))))
noncomputable def sP:FQ:=aZ 7
  (ax (dI 5 (szF ak)) (ax (ck (itR ff (ae (vSh 2) ak)) (ay 6) (ax (aH 7 (cF dz (ae (vSh 0) (ae (b2 aF (vC (.int 11)) (vSh 6)) (ae (b2 aF (aD (szF (ae (vC (.int 4)) (ae (vC (.int 8)) (ae (vC (.int 5)) (ae (vC (.int 3)) ak)))))) (b2 cv (aD (szF (ae (b2 ce (vC (.int 10)) (vC (.int 6))) ak))) (vC (.int 4)))) ak))))) (ax (aH 8 (cF eO (ae (vSh 4) (ae (b2 ixD (aD (szF (ae (vC (.int 5)) (ae (vC (.int 40)) (ae (b2 ce (vC (.int 10)) (vC (.int 6))) ak))))) (b2 ixD (vSh 7) (vC (.int 3)))) ak)))) (ax (dI 9 (szF ak)) (ax (ck (itR ff (ae (cF eO (ae (b2 aF (vC (.int 1)) (b2 ixD (vSh 7) (vC (.int 0)))) (ae (cF bT (ae (vSh 3) ak)) ak))) ak)) (ay 10) (ax (aH 11 (b2 ixD (b2 ixD (vSh 3) (b2 bA (b2 aF (b2 ixD (vSh 7) (vC (.int 1))) (vSh 10)) (cF bT (ae (vSh 3) ak)))) (vC (.int 0)))) (b9 9 (bK (szF (ae (vSh 11) (ae (b2 aF (vC (.int 1)) (b2 bA (b2 ixD (vSh 7) (b2 aF (vC (.int 4)) (vSh 10))) (vSh 8))) ak))))))) (eR 9 (b9 5 (bK (szF (ae (cF eI (ae (vSh 1) (ae (b2 aF (b2 cv (vC (.int 20)) (b2 bA (vSh 1) (vC (.int 2)))) (vSh 6)) ak))) (ae (cF eI (ae (b2 eY (vSh 1) (vC (.int 2))) (ae (b2 ixD (vSh 7) (vC (.int 2))) ak))) (ae (vSh 9) ak)))))))))))) (eR 5 (aK (vSh 5)))))
noncomputable def sM:FQ:=aZ 11
  (ax (iH (ja 4 (aN (ay 4) (aN (ay 5) (aN (ay 6) (aN (ay 7) cr))))) (cF dz (ae (vSh 0) (ae (vC (.int 1)) (ae (aD (szF (ae (vC (.int 9)) (ae (b2 ce (vC (.int 10)) (vC (.int 6))) (ae (b2 ce (vC (.int 10)) (vC (.int 6))) (ae (vC (.int 512)) ak)))))) ak))))) (ax (kf 8 (nJ (bc (itR ff (ae (vSh 4) ak)) (ay 0) tT (vC .non) [ac]))) (ax (ck (itE (vSh 2)) (cD 2 (aN (ay 9) (aN (ay 10) cr))) (ax (aH 11 (b2 ixD (cF dz (ae (vSh 0) (ae (b2 aF (vC (.int 11)) (vSh 9)) (ae (aD (szF (ae (vC (.int 4)) (ae (vC (.int 8)) (ae (vC (.int 5)) (ae (vC (.int 3)) (ae (b2 ce (vC (.int 10)) (vC (.int 6))) (ae (b2 ce (vC (.int 10)) (vC (.int 6))) (ae (b2 ce (vC (.int 10)) (vC (.int 6))) (ae (b2 ce (vC (.int 10)) (vC (.int 6))) (ae (vC (.int 10)) ak))))))))))) ak)))) (vC (.int 8)))) (sIf (toB (b2 ltD (vSh 11) (vSh 4))) (gC 8 (vSh 11) (b2 ixD (vSh 10) (vC (.int 0)))) aU))) (ax (dI 12 (szF ak)) (kH 8 (ax (ck (itE (vSh 8)) (cD 2 (aN (ay 9) (aN (ay 13) cr))) (sIf (toB (b2 neA (vSh 13) (aD (szF ak)))) (ax (sIf (toB (b2 eqD (b2 bA (b2 eY (vSh 7) (vC (.int 7))) (vC (.int 2))) (vC (.int 0)))) (aH 13 (b1 i6 (vSh 13))) aU) (ax (aH 5 (b2 bA (b2 cv (vSh 5) (vC (.int 7))) (b2 aF (vSh 3) (vC (.int 1))))) (ax (aH 6 (b2 bA (b2 cv (vSh 6) (vC (.int 11))) (b2 aF (vSh 3) (vC (.int 1))))) (ax (aH 14 (b2 eqD (b2 bA (b2 jd (vSh 7) (cF eO (ae (vSh 9) (ae (vC (.int 8)) ak)))) (vC (.int 2))) (vC (.int 0)))) (b9 12 (bK (szF (ae (cF eI (ae (b2 aF (vSh 1) (vC (.int 1))) (ae (vSh 9) ak))) (ae (vSh 5) (ae (vSh 6) (ae (vSh 14) (ae (vSh 13) ak)))))))))))) aU)) (eR 12 (aK (vSh 12)))))))))
noncomputable def tf:FQ:=aZ 9
  (ax (dI 4 (szF ak)) (ax (dI 5 (szF ak)) (ax (ck (itR ff (ae (b2 ixD (cF dz (ae (vSh 0) (ae (vC (.int 2)) (ae (aD (szF (ae (vC (.int 21)) ak))) ak)))) (vC (.int 0))) ak)) (ay 6) (ax (iH (ja 5 (aN (ay 7) (aN (ay 8) (aN (ay 9) (aN (ay 10) (aN (ay 11) cr)))))) (cF dz (ae (vSh 0) (ae (b2 aF (vC (.int 30)) (vSh 6)) (ae (aD (szF (ae (vC (.int 8)) (ae (vC (.int 6)) (ae (vC (.int 6)) (ae (vC (.int 2)) (ae (b2 ce (vC (.int 10)) (vC (.int 6))) ak))))))) ak))))) (ax (aH 7 (b2 ixD (b2 ixD (vSh 1) (b2 bA (vSh 7) (cF bT (ae (vSh 1) ak)))) (vC (.int 0)))) (ax (aH 12 (bK (szF (ae (vSh 7) (ae (cF eI (ae (b2 eY (vSh 2) (vC (.int 2))) (ae (vSh 8) ak))) (ae (cF eI (ae (b2 eY (vSh 2) (vC (.int 2))) (ae (vSh 9) ak))) ak)))))) (sIf (bwT 5 (toB (b2 i8 (vSh 12) (vSh 5)))) (ax (b9 5 (vSh 12)) (b9 4 (b2 kF (vSh 12) (bK (szF (ae (b2 aF (vC (.int 1)) (b2 bA (vSh 11) (cF eO (ae (vSh 3) (ae (b2 ixD (aD (szF (ae (vC (.int 6)) (ae (b2 ce (vC (.int 10)) (vC (.int 6))) ak)))) (vSh 10)) ak))))) ak)))))) aU))))) (eR 4 (aK (vSh 4))))))
noncomputable def tV:FQ:=aZ 7
  (ax (dI 3 (szF ak)) (ax (dI 4 (szF ak)) (ax (ck (itR ff (ae (b2 ixD (cF dz (ae (vSh 0) (ae (vC (.int 2)) (ae (aD (szF (ae (vC (.int 21)) (ae (vC (.int 21)) ak)))) ak)))) (vC (.int 1))) ak)) (ay 5) (ax (iH (ja 4 (aN (ay 6) (aN (ay 7) (aN (ay 8) (aN (ay 9) cr))))) (cF dz (ae (vSh 0) (ae (b2 aF (vC (.int 41)) (vSh 5)) (ae (aD (szF (ae (vC (.int 40)) (ae (vC (.int 40)) (ae (vC (.int 3)) (ae (b2 ce (vC (.int 10)) (vC (.int 6))) ak)))))) ak))))) (ax (aH 6 (b2 ixD (b2 ixD (vSh 1) (b2 bA (vSh 6) (cF bT (ae (vSh 1) ak)))) (vC (.int 0)))) (ax (aH 7 (b2 ixD (b2 ixD (vSh 1) (b2 bA (vSh 7) (cF bT (ae (vSh 1) ak)))) (vC (.int 0)))) (sIf (bwT 4 (eT (toB (b2 neA (vSh 6) (vSh 7))) (toB (b2 i8 (bK (szF (ae (vSh 6) (ae (vSh 7) ak)))) (vSh 4))))) (ax (b9 4 (bK (szF (ae (vSh 6) (ae (vSh 7) ak))))) (b9 3 (bK (szF (ae (vSh 6) (ae (vSh 7) (ae (b2 bA (vSh 9) (cF eO (ae (b2 aF (vSh 2) (vC (.int 1))) (ae (b2 ixD (aD (szF (ae (vC (.int 1)) (ae (vC (.int 8)) (ae (b2 aF (b2 ce (vC (.int 10)) (vC (.int 6))) (vC (.int 1))) ak))))) (vSh 8)) ak)))) ak))))))) aU))))) (eR 3 (aK (vSh 3))))))
noncomputable def ub:FQ:=aZ 14
  (ax (dI 3 (szF ak)) (ax (ck (itR ff (ae (b2 ixD (cF dz (ae (vSh 0) (ae (vC (.int 2)) (ae (aD (szF (ae (vC (.int 21)) (ae (vC (.int 21)) (ae (vC (.int 7)) ak))))) ak)))) (vC (.int 2))) ak)) (ay 4) (ax (aH 5 (aD (szF (ae (vC (.int 2)) (ae (b2 aF (b2 ce (vC (.int 10)) (vC (.int 6))) (vC (.int 1))) (ae (b2 aF (b2 ce (vC (.int 10)) (vC (.int 6))) (vC (.int 1))) (ae (b2 ce (vC (.int 2)) (vC (.int 40))) (ae (b2 ce (vC (.int 2)) (vC (.int 40))) (ae (b2 ce (vC (.int 10)) (vC (.int 6))) ak))))))))) (ax (iH (ja 6 (aN (ay 6) (aN (ay 7) (aN (ay 8) (aN (ay 9) (aN (ay 10) (aN (ay 11) cr))))))) (cF dz (ae (vSh 0) (ae (b2 aF (vC (.int 52)) (vSh 4)) (ae (vSh 5) ak))))) (ax (aH 7 (b2 bA (vSh 7) (b2 ixD (aD (szF (ae (vC (.int 20)) (ae (b2 aF (b2 ce (vC (.int 10)) (vC (.int 6))) (vC (.int 1))) ak)))) (vSh 6)))) (ax (kf 12 fun _=>aa 2) (ax (ck (itE (vSh 2)) (cD 2 (aN (ay 13) (aN (ay 14) cr))) (ax (aH 15 (b2 aF (vC (.int 1)) (b2 bA (b2 aF (vSh 11) (b2 cv (vC (.int 7919)) (vSh 13))) (b2 ixD (aD (szF (ae (vC (.int 9)) (ae (b2 ce (vC (.int 10)) (vC (.int 6))) ak)))) (vSh 6))))) (ax (sIf (toB (b2 eqD (b2 bA (b2 jd (vSh 9) (vSh 13)) (vC (.int 2))) (vC (.int 1)))) (gC 12 (vC (.int 0)) (bK (szF (ae (b2 ixD (vSh 14) (vC (.int 0))) (ae (vSh 15) ak))))) aU) (sIf (toB (b2 eqD (b2 bA (b2 jd (vSh 10) (vSh 13)) (vC (.int 2))) (vC (.int 1)))) (gC 12 (vC (.int 1)) (bK (szF (ae (b2 ixD (vSh 14) (vC (.int 0))) (ae (vSh 15) ak))))) aU)))) (ax (aH 16 (bK (szF (ae (cF eI (ae (b2 aF (vSh 1) (vC (.int 2))) (ae (vSh 4) ak))) (ae (b2 bA (vSh 8) (b2 aF (vSh 7) (vC (.int 1)))) (ae (vSh 7) ak)))))) (kH 12 (b9 3 (b2 kF (vSh 16) (bK (szF (ae (b2 ixD (vSh 12) (vC (.int 0))) (ae (b1 i6 (b2 ixD (vSh 12) (vC (.int 1)))) ak)))))))))))))) (eR 3 (aK (vSh 3)))))
noncomputable def uD:FQ:=aZ 13
  (ax (iH (ja 6 (aN (ay 1) (aN (ay 2) (aN (ay 3) (aN (ay 4) (aN (ay 5) (aN (ay 6) cr))))))) (cF dz (ae (vSh 0) (ae (vC (.int 0)) (ae (aD (szF (ae (vC (.int 60)) (ae (vC (.int 8)) (ae (vC (.int 3)) (ae (vC (.int 40)) (ae (vC (.int 3)) (ae (b2 ce (vC (.int 10)) (vC (.int 6))) ak)))))))) ak))))) (ax (aH 7 (b2 aF (vC (.int 1)) (b2 bA (vSh 6) (b2 ixD (aD (szF (ae (vC (.int 12)) (ae (vC (.int 400)) (ae (b2 ce (vC (.int 10)) (vC (.int 6))) ak))))) (vSh 5))))) (ax (aH 8 (cF pv (ae (vSh 0) (ae (vSh 1) (ae (b2 aF (vC (.int 1)) (vSh 2)) (ae (vSh 7) ak)))))) (ax (aH 9 (cF sP (ae (vSh 0) (ae (vSh 1) (ae (b2 aF (vC (.int 1)) (b2 bA (vSh 4) (b2 ixD (aD (szF (ae (vC (.int 3)) (ae (vC (.int 8)) (ae (vC (.int 40)) ak))))) (vSh 3)))) (ae (vSh 8) (ae (vSh 7) ak))))))) (ax (aH 10 (cF sM (ae (vSh 0) (ae (vSh 1) (ae (vSh 9) (ae (vSh 7) ak)))))) (ax (aH 11 (cF tf (ae (vSh 0) (ae (vSh 8) (ae (vSh 1) (ae (vSh 7) ak)))))) (ax (aH 12 (cF tV (ae (vSh 0) (ae (vSh 9) (ae (vSh 7) ak))))) (ax (aH 13 (cF ub (ae (vSh 0) (ae (vSh 1) (ae (vSh 9) ak))))) (aK (aD (szF (ae (vSh 8) (ae (vSh 9) (ae (vSh 10) (ae (vSh 11) (ae (vSh 12) (ae (vSh 13) (ae (vSh 7) ak))))))))))))))))))
noncomputable def t0:FQ:=aZ 18
  (ax (dI 1 (szF (ae (b2 aF (vC (.str "horizon ")) (cF cV (ae (b2 ixD (vSh 0) (vC (.int 6))) ak))) ak))) (ax (ck (itF (b2 ixD (vSh 0) (vC (.int 0)))) (cD 2 (aN (ay 2) (aN (ay 3) cr))) (ax (aH 4 (aD (bc (itF (vSh 3)) (cD 2 (aN (ay 0) (aN (ay 1) cr))) tT (b2 aF (b2 aF (cF cV (ae (vSh 0) ak)) (vC (.str "-"))) (cF cV (ae (vSh 1) ak))) [ac,ac]))) (b9 1 (mF fK (vC (.str " ")) (ae (b2 aF (aD (szF (ae (vC (.str "bench")) (ae (vSh 2) ak)))) (vSh 4)) ak))))) (ax (ck (itF (b2 ixD (vSh 0) (vC (.int 1)))) (cD 3 (aN (ay 2) (aN (ay 5) (aN (ay 6) cr)))) (ax (aH 4 (aD (bc (itF (vSh 6)) (cD 2 (aN (ay 0) (aN (ay 1) cr))) tT (b2 aF (b2 aF (vSh 0) (vC (.str "/"))) (cF cV (ae (vSh 1) ak))) [ac,ac]))) (b9 1 (mF fK (vC (.str " ")) (ae (b2 aF (aD (szF (ae (vC (.str "step")) (ae (vSh 2) (ae (vSh 5) ak))))) (vSh 4)) ak))))) (ax (ck (itF (b2 ixD (vSh 0) (vC (.int 2)))) (cD 5 (aN (ay 2) (aN (ay 7) (aN (ay 8) (aN (ay 9) (aN (ay 10) cr)))))) (ax (aH 4 (aD (szF (ae (vC (.str "job")) (ae (vSh 2) (ae (cF cV (ae (vSh 7) ak)) (ae (cF cV (ae (vSh 8) ak)) ak))))))) (b9 1 (mF fK (vC (.str " ")) (ae (b2 aF (b2 aF (vSh 4) (aD (szF (ae (b2 ixD (aD (szF (ae (vC (.str "of")) (ae (vC (.str "in")) ak)))) (cF tp (ae (vSh 9) ak))) ak)))) (vSh 10)) ak))))) (ax (ck (itF (b2 ixD (vSh 0) (vC (.int 3)))) (ay 11) (b9 1 (mF fK (vC (.str " ")) (ae (b2 aF (b2 aF (aD (szF (ae (vC (.str "setup")) ak))) (cF sV (ae (slF (vSh 11) pN (pS (vC (.int 3)))) ak))) (aD (szF (ae (cF cV (ae (b2 ixD (vSh 11) (vC (.int 3))) ak)) ak)))) ak)))) (ax (ck (itF (b2 ixD (vSh 0) (vC (.int 4)))) (cD 3 (aN (ay 12) (aN (ay 13) (aN (ay 14) cr)))) (b9 1 (b2 aF (b2 aF (b2 aF (b2 aF (b2 aF (vC (.str "link ")) (vSh 12)) (vC (.str " "))) (vSh 13)) (vC (.str " "))) (cF cV (ae (vSh 14) ak))))) (ax (ck (itF (b2 ixD (vSh 0) (vC (.int 5)))) (cD 5 (aN (ay 2) (aN (ay 15) (aN (ay 16) (aN (ay 17) (aN (ay 18) cr)))))) (ax (aH 4 (aD (szF (ae (vC (.str "stock")) (ae (vSh 2) (ae (cF cV (ae (vSh 15) ak)) (ae (cF cV (ae (vSh 16) ak)) ak))))))) (ax (aH 4 (b2 aF (vSh 4) (aD (bc (itF (vSh 17)) (cD 2 (aN (ay 0) (aN (ay 1) cr))) tT (b2 aF (b2 aF (vSh 0) (vC (.str "-"))) (cF cV (ae (vSh 1) ak))) [ac,ac])))) (ax (aH 4 (b2 aF (vSh 4) (aD (bc (itF (vSh 18)) (cD 2 (aN (ay 0) (aN (ay 1) cr))) tT (b2 aF (b2 aF (vSh 0) (vC (.str "+"))) (cF cV (ae (vSh 1) ak))) [ac,ac])))) (b9 1 (mF fK (vC (.str " ")) (ae (vSh 4) ak))))))) (eR 1 (aK (vSh 1))))))))))
noncomputable def yk:FQ:=aZ 5
  (ax (aH 2 (b2 bA (vSh 1) (vC (.int 4)))) (ax (aH 3 (b2 bA (b2 eY (vSh 1) (vC (.int 4))) (vSh 0))) (ax (aH 4 (b1 lrD (vSh 0))) (ax (sIf (toB (b2 eqD (vSh 2) (vC (.int 1)))) (aH 4 (b1 i6 (vSh 4))) aU) (ax (sIf (toB (b2 gtD (vSh 2) (vC (.int 1)))) (ax (aH 5 (b2 ixD (aD (szF (ae (vC (.int 3)) (ae (vC (.int 7)) ak)))) (b2 kZ (vSh 2) (vC (.int 2))))) (ax (aH 4 (aD (szF ak))) (ck (itR ff (ae (vSh 5) ak)) (ay 6) (aH 4 (b2 aF (vSh 4) (b3 pq (b1 lrD (vSh 0)) (vSh 6) (vSh 5))))))) aU) (aK (b2 aF (slF (vSh 4) (pS (vSh 3)) pN) (slF (vSh 4) pN (pS (vSh 3))))))))))
noncomputable def yx:FQ:=aZ 5
  (ax (kf 2 fun _=>aa 6) (ax (aH 3 (aD (szF (ae (vC .non) ak)))) (ax (ck (itE (slF (vSh 0) pN (pS (vC (.int 6))))) (cD 2 (aN (ay 4) (aN (ay 5) cr))) (aH 3 (b2 aF (vSh 3) (aD (bc (itF (vSh 5)) (ay 0) tT (bK (szF (ae (vSh 1) (ae (vSh 0) ak)))) [ac,aa 4]))))) (ax (ck (itF (vSh 1)) (ay 6) (sIf (toB (b2 nD (b2 ixD (vSh 3) (vSh 6)) (vC .non))) (gC 2 (b2 ixD (b2 ixD (vSh 3) (vSh 6)) (vC (.int 0))) (b2 ixD (b2 ixD (vSh 3) (vSh 6)) (vC (.int 1)))) aU)) (kH 2 (aK (b2 aF (vSh 2) (aD (szF (ae (b2 ixD (vSh 0) (vC (.int 6))) ak))))))))))
noncomputable def ya:FQ:=aZ 0
  (ax (sIf (orT (toB (b2 eqD (vSh 0) (vC (.str "")))) (eT (toB (b2 eqD (b2 ixD (vSh 0) (vC (.int 0))) (vC (.str "0")))) (toB (b2 neD (vSh 0) (vC (.str "0")))))) (aK (vC (.bl aq))) aU) (aK (cF eG (ae (aD (bc (itS (vSh 0)) (ay 0) tT (b2 kR (vSh 0) (vC (.str "0123456789"))) [ac])) ak))))
noncomputable def lO:FQ:=aZ 0
  (aK (cJ (b2 leD (cF bT (ae (vSh 0) ak)) (vC (.int 7))) (cF ya (ae (vSh 0) ak))))
noncomputable def su:FQ:=aZ 0
  (ax (sIf (orT (toB (b2 neD (cF bT (ae (vSh 0) ak)) (vC (.int 2)))) (ba (toB (cF lO (ae (b2 ixD (vSh 0) (vC (.int 1))) ak))))) (aK (vC .non)) aU) (aK (cF gJ (ae (b2 ixD (vSh 0) (vC (.int 1))) ak))))
noncomputable def pL:FQ:=aZ 0
  (aK (cF eG (ae (aD (bc (itF (vSh 0)) (ay 0) tT (cF lO (ae (vSh 0) ak)) [ac])) ak)))
noncomputable def wE:FQ:=aZ 1
  (ax (aH 1 (mF kO (vSh 0) (ae (vC (.str "-")) ak))) (ax (sIf (orT (toB (b2 neD (cF bT (ae (vSh 1) ak)) (vC (.int 2)))) (ba (toB (cF pL (ae (vSh 1) ak))))) (aK (vC .non)) aU) (aK (bK (szF (ae (cF gJ (ae (b2 ixD (vSh 1) (vC (.int 0))) ak)) (ae (cF gJ (ae (b2 ixD (vSh 1) (vC (.int 1))) ak)) ak)))))))
noncomputable def f8:FQ:=aZ 0
  (ax (sIf (orT (ba (toB (cF cU (ae (vSh 0) (ae (vC (.ty "str")) ak))))) (ba (toB (chD leD leD (vC (.int 1)) (cF bT (ae (vSh 0) ak)) (vC (.int 8)))))) (aK (vC (.bl aq))) aU) (aK (cF eG (ae (aD (bc (itS (vSh 0)) (ay 0) tT (chD leD leD (vC (.str "a")) (vSh 0) (vC (.str "z"))) [ac])) ak))))
noncomputable def uA:FQ:=aZ 1
  (ax (aH 1 (aD (bc (itF (slF (vSh 0) (pS (vC (.int 2))) pN)) (ay 0) tT (cF wE (ae (vSh 0) ak)) [ac]))) (ax (sIf (orT (toB (b2 ltD (cF bT (ae (vSh 0) ak)) (vC (.int 2)))) (orT (ba (toB (cF f8 (ae (b2 ixD (vSh 0) (vC (.int 1))) ak)))) (toB (b2 jb (vC .non) (vSh 1))))) (aK (vC .non)) aU) (aK (bK (szF (ae (b2 ixD (vSh 0) (vC (.int 1))) (ae (vSh 1) ak)))))))
noncomputable def o0:FQ:=aZ 1
  (ax (aH 2 (mF kO (vSh 0) (ae (vSh 1) ak))) (ax (sIf (orT (toB (b2 neD (cF bT (ae (vSh 2) ak)) (vC (.int 2)))) (orT (ba (toB (cF f8 (ae (b2 ixD (vSh 2) (vC (.int 0))) ak)))) (ba (toB (cF lO (ae (b2 ixD (vSh 2) (vC (.int 1))) ak)))))) (aK (vC .non)) aU) (aK (bK (szF (ae (b2 ixD (vSh 2) (vC (.int 0))) (ae (cF gJ (ae (b2 ixD (vSh 2) (vC (.int 1))) ak)) ak)))))))
noncomputable def nP:FQ:=aZ 0
  (aK (cF eG (ae (aD (bc (itF (vSh 0)) (ay 0) tT (cF f8 (ae (vSh 0) ak)) [ac])) ak)))
noncomputable def sA:FQ:=aZ 1
  (ax (aH 1 (aD (bc (itF (slF (vSh 0) (pS (vC (.int 3))) pN)) (ay 0) tT (cF o0 (ae (vSh 0) (ae (vC (.str "/")) ak))) [ac]))) (ax (sIf (orT (toB (b2 ltD (cF bT (ae (vSh 0) ak)) (vC (.int 3)))) (orT (ba (toB (cF nP (ae (slF (vSh 0) (pS (vC (.int 1))) (pS (vC (.int 3)))) ak)))) (toB (b2 jb (vC .non) (vSh 1))))) (aK (vC .non)) aU) (aK (bK (szF (ae (b2 ixD (vSh 0) (vC (.int 1))) (ae (b2 ixD (vSh 0) (vC (.int 2))) (ae (vSh 1) ak))))))))
noncomputable def tu:FQ:=aZ 0
  (ax (sIf (orT (toB (b2 ltD (cF bT (ae (vSh 0) ak)) (vC (.int 5)))) (orT (ba (toB (cF f8 (ae (b2 ixD (vSh 0) (vC (.int 1))) ak)))) (ba (toB (cF pL (ae (slF (vSh 0) (pS (vC (.int 2))) (pS (vC (.int 4)))) ak)))))) (aK (vC .non)) aU) (ax (sIf (orT (toB (b2 xL (b2 ixD (vSh 0) (vC (.int 4))) (bK (szF (ae (vC (.str "in")) (ae (vC (.str "of")) ak)))))) (ba (toB (cF nP (ae (slF (vSh 0) (pS (vC (.int 5))) pN) ak))))) (aK (vC .non)) aU) (aK (bK (szF (ae (b2 ixD (vSh 0) (vC (.int 1))) (ae (cF gJ (ae (b2 ixD (vSh 0) (vC (.int 2))) ak)) (ae (cF gJ (ae (b2 ixD (vSh 0) (vC (.int 3))) ak)) (ae (b2 eqD (b2 ixD (vSh 0) (vC (.int 4))) (vC (.str "in"))) (ae (slF (vSh 0) (pS (vC (.int 5))) pN) ak))))))))))
noncomputable def sO:FQ:=aZ 0
  (ax (sIf (orT (toB (b2 neD (cF bT (ae (vSh 0) ak)) (vC (.int 5)))) (orT (ba (toB (cF nP (ae (slF (vSh 0) (pS (vC (.int 1))) (pS (vC (.int 4)))) ak)))) (ba (toB (cF lO (ae (b2 ixD (vSh 0) (vC (.int 4))) ak)))))) (aK (vC .non)) aU) (aK (bK (szF (ae (b2 ixD (vSh 0) (vC (.int 1))) (ae (b2 ixD (vSh 0) (vC (.int 2))) (ae (b2 ixD (vSh 0) (vC (.int 3))) (ae (cF gJ (ae (b2 ixD (vSh 0) (vC (.int 4))) ak)) ak))))))))
noncomputable def uw:FQ:=aZ 0
  (ax (sIf (orT (toB (b2 neD (cF bT (ae (vSh 0) ak)) (vC (.int 4)))) (orT (ba (toB (cF nP (ae (slF (vSh 0) (pS (vC (.int 1))) (pS (vC (.int 3)))) ak)))) (ba (toB (cF lO (ae (b2 ixD (vSh 0) (vC (.int 3))) ak)))))) (aK (vC .non)) aU) (aK (bK (szF (ae (b2 ixD (vSh 0) (vC (.int 1))) (ae (b2 ixD (vSh 0) (vC (.int 2))) (ae (cF gJ (ae (b2 ixD (vSh 0) (vC (.int 3))) ak)) ak)))))))
noncomputable def tF:FQ:=aZ 3
  (ax (sIf (orT (toB (b2 ltD (cF bT (ae (vSh 0) ak)) (vC (.int 4)))) (orT (ba (toB (cF f8 (ae (b2 ixD (vSh 0) (vC (.int 1))) ak)))) (ba (toB (cF pL (ae (slF (vSh 0) (pS (vC (.int 2))) (pS (vC (.int 4)))) ak)))))) (aK (vC .non)) aU) (ax (aH 1 (vC (.int 4))) (ax (whL (eT (toB (b2 ltD (vSh 1) (cF bT (ae (vSh 0) ak)))) (toB (b2 kR (vC (.str "-")) (b2 ixD (vSh 0) (vSh 1))))) (aH 1 (b2 aF (vSh 1) (vC (.int 1)))) 200) (ax (aH 2 (aD (bc (itF (slF (vSh 0) (pS (vC (.int 4))) (pS (vSh 1)))) (ay 0) tT (cF o0 (ae (vSh 0) (ae (vC (.str "-")) ak))) [ac]))) (ax (aH 3 (aD (bc (itF (slF (vSh 0) (pS (vSh 1)) pN)) (ay 0) tT (cF o0 (ae (vSh 0) (ae (vC (.str "+")) ak))) [ac]))) (ax (sIf (orT (toB (b2 jb (vC .non) (vSh 2))) (toB (b2 jb (vC .non) (vSh 3)))) (aK (vC .non)) aU) (aK (bK (szF (ae (b2 ixD (vSh 0) (vC (.int 1))) (ae (cF gJ (ae (b2 ixD (vSh 0) (vC (.int 2))) ak)) (ae (cF gJ (ae (b2 ixD (vSh 0) (vC (.int 3))) ak)) (ae (vSh 2) (ae (vSh 3) ak))))))))))))))
noncomputable def iY:FQ:=aZ 0
  (ax (sIf (toB (b2 eqD (b2 ixD (vSh 0) (vC (.int 0))) (vC (.str "horizon")))) (aK (cF su (ae (vSh 0) ak))) aU) (ax (sIf (toB (b2 eqD (b2 ixD (vSh 0) (vC (.int 0))) (vC (.str "bench")))) (aK (cF uA (ae (vSh 0) ak))) aU) (ax (sIf (toB (b2 eqD (b2 ixD (vSh 0) (vC (.int 0))) (vC (.str "step")))) (aK (cF sA (ae (vSh 0) ak))) aU) (ax (sIf (toB (b2 eqD (b2 ixD (vSh 0) (vC (.int 0))) (vC (.str "job")))) (aK (cF tu (ae (vSh 0) ak))) aU) (ax (sIf (toB (b2 eqD (b2 ixD (vSh 0) (vC (.int 0))) (vC (.str "setup")))) (aK (cF sO (ae (vSh 0) ak))) aU) (ax (sIf (toB (b2 eqD (b2 ixD (vSh 0) (vC (.int 0))) (vC (.str "link")))) (aK (cF uw (ae (vSh 0) ak))) aU) (ax (sIf (toB (b2 eqD (b2 ixD (vSh 0) (vC (.int 0))) (vC (.str "stock")))) (aK (cF tF (ae (vSh 0) ak))) aU) (aK (vC .non)))))))))
noncomputable def sN:FQ:=aZ 0
  (aK (cJ (cF cU (ae (vSh 0) (ae (vC (.ty "int")) ak))) (sH (cF cU (ae (vSh 0) (ae (vC (.ty "bool")) ak))))))
noncomputable def gL:FQ:=aZ 0
  (aK (cJ (cF sN (ae (vSh 0) ak)) (chD leD leD (vSh 1) (vSh 0) (vSh 2))))
noncomputable def fZ:FQ:=aZ 0
  (aK (cJ (cF cU (ae (vSh 0) (ae (vC (.ty "tuple")) ak))) (b2 eqD (cF bT (ae (vSh 0) ak)) (vSh 1))))
noncomputable def sL:FQ:=aZ 0
  (ax (sIf (orT (ba (toB (cF fZ (ae (vSh 0) (ae (vC (.int 2)) ak))))) (orT (ba (toB (cF gL (ae (b2 ixD (vSh 0) (vC (.int 0))) (ae (vC (.int 0)) (ae (vSh 1) ak)))))) (ba (toB (cF gL (ae (b2 ixD (vSh 0) (vC (.int 1))) (ae (vC (.int 0)) (ae (vSh 1) ak)))))))) (aK (vC (.bl aq))) aU) (aK (b2 ltD (b2 ixD (vSh 0) (vC (.int 0))) (b2 ixD (vSh 0) (vC (.int 1))))))
noncomputable def g8:FQ:=aZ 0
  (aK (cJ (cF cU (ae (vSh 0) (ae (vC (.ty "list")) ak))) (chD leD leD (vSh 1) (cF bT (ae (vSh 0) ak)) (vSh 2))))
noncomputable def xT:FQ:=aZ 0
  (ax (sIf (orT (ba (toB (cF g8 (ae (vSh 0) (ae (vC (.int 0)) (ae (vC (.int 10)) ak)))))) (ba (toB (cF eG (ae (aD (bc (itF (vSh 0)) (ay 0) tT (cF sL (ae (vSh 0) (ae (vSh 1) ak))) [ac,aa 1])) ak))))) (aK (vC (.bl aq))) aU) (aK (cF eG (ae (aD (bc (itR mJ (ae (vC (.int 1)) (ae (cF bT (ae (vSh 0) ak)) ak))) (ay 0) tT (b2 ltD (b2 ixD (b2 ixD (vSh 1) (b2 kZ (vSh 0) (vC (.int 1)))) (vC (.int 1))) (b2 ixD (b2 ixD (vSh 1) (vSh 0)) (vC (.int 0)))) [ac,aa 0])) ak))))
noncomputable def sS:FQ:=aZ 0
  (aK (cJ (cF fZ (ae (vSh 0) (ae (vC (.int 2)) ak))) (cJ (cF f8 (ae (b2 ixD (vSh 0) (vC (.int 0))) ak)) (cF xT (ae (b2 ixD (vSh 0) (vC (.int 1))) (ae (vSh 1) ak))))))
noncomputable def fG:FQ:=aZ 0
  (aK (b2 eqD (b1 nW (vSh 0)) (cF bT (ae (vSh 0) ak))))
noncomputable def wn:FQ:=aZ 0
  (ax (sIf (orT (ba (toB (cF g8 (ae (vSh 0) (ae (vC (.int 1)) (ae (vC (.int 8)) ak)))))) (ba (toB (cF eG (ae (aD (bc (itF (vSh 0)) (ay 0) tT (cF sS (ae (vSh 0) (ae (vSh 1) ak))) [ac,aa 1])) ak))))) (aK (vC (.bl aq))) aU) (aK (cF fG (ae (aD (bc (itF (vSh 0)) (ay 0) tT (b2 ixD (vSh 0) (vC (.int 0))) [ac])) ak))))
noncomputable def kS:FQ:=aZ 0
  (aK (cJ (cF f8 (ae (vSh 0) ak)) (b2 jb (vSh 0) (vSh 1))))
noncomputable def sX:FQ:=aZ 0
  (aK (cJ (cF fZ (ae (vSh 0) (ae (vC (.int 2)) ak))) (cJ (cF kS (ae (b2 ixD (vSh 0) (vC (.int 0))) (ae (vSh 1) ak))) (cF gL (ae (b2 ixD (vSh 0) (vC (.int 1))) (ae (vC (.int 1)) (ae (vSh 2) ak)))))))
noncomputable def xj:FQ:=aZ 0
  (ax (sIf (orT (ba (toB (cF g8 (ae (vSh 0) (ae (vC (.int 1)) (ae (vC (.int 4)) ak)))))) (ba (toB (cF eG (ae (aD (bc (itF (vSh 0)) (ay 0) tT (cF sX (ae (vSh 0) (ae (vSh 1) (ae (vSh 2) ak)))) [ac,aa 1,aa 2])) ak))))) (aK (vC (.bl aq))) aU) (aK (cF fG (ae (aD (bc (itF (vSh 0)) (ay 0) tT (b2 ixD (vSh 0) (vC (.int 0))) [ac])) ak))))
noncomputable def tK:FQ:=aZ 0
  (ax (sIf (orT (ba (toB (cF fZ (ae (vSh 0) (ae (vC (.int 3)) ak))))) (orT (ba (toB (cF f8 (ae (b2 ixD (vSh 0) (vC (.int 0))) ak)))) (ba (toB (cF f8 (ae (b2 ixD (vSh 0) (vC (.int 1))) ak)))))) (aK (vC (.bl aq))) aU) (aK (cF xj (ae (b2 ixD (vSh 0) (vC (.int 2))) (ae (vSh 1) (ae (vSh 2) ak))))))
noncomputable def yj:FQ:=aZ 0
  (ax (sIf (orT (ba (toB (cF g8 (ae (vSh 0) (ae (vC (.int 1)) (ae (vC (.int 40)) ak)))))) (ba (toB (cF eG (ae (aD (bc (itF (vSh 0)) (ay 0) tT (cF tK (ae (vSh 0) (ae (vSh 1) (ae (vSh 2) ak)))) [ac,aa 1,aa 2])) ak))))) (aK (vC (.bl aq))) aU) (aK (cF fG (ae (aD (bc (itF (vSh 0)) (ay 0) tT (b2 ixD (vSh 0) (vC (.int 0))) [ac])) ak))))
noncomputable def yn:FQ:=aZ 0
  (ax (sIf (orT (ba (toB (cF fZ (ae (vSh 0) (ae (vC (.int 5)) ak))))) (orT (ba (toB (cF f8 (ae (b2 ixD (vSh 0) (vC (.int 0))) ak)))) (ba (toB (cF cU (ae (b2 ixD (vSh 0) (vC (.int 3))) (ae (vC (.ty "bool")) ak))))))) (aK (vC (.bl aq))) aU) (ax (sIf (orT (ba (toB (cF gL (ae (b2 ixD (vSh 0) (vC (.int 1))) (ae (vC (.int 0)) (ae (vSh 2) ak)))))) (ba (toB (cF gL (ae (b2 ixD (vSh 0) (vC (.int 2))) (ae (vC (.int 0)) (ae (vSh 2) ak))))))) (aK (vC (.bl aq))) aU) (aK (cJ (cF g8 (ae (b2 ixD (vSh 0) (vC (.int 4))) (ae (vC (.int 1)) (ae (cF bT (ae (vSh 1) ak)) ak)))) (cF eG (ae (aD (bc (itF (b2 ixD (vSh 0) (vC (.int 4)))) (ay 0) tT (cF kS (ae (vSh 0) (ae (vSh 1) ak))) [ac,aa 1])) ak))))))
noncomputable def w9:FQ:=aZ 2
  (ax (sIf (orT (ba (toB (cF g8 (ae (vSh 0) (ae (vC (.int 0)) (ae (vC (.int 40)) ak)))))) (ba (toB (cF eG (ae (aD (bc (itF (vSh 0)) (ay 0) tT (cF yn (ae (vSh 0) (ae (vSh 1) (ae (vSh 2) ak)))) [ac,aa 1,aa 2])) ak))))) (aK (vC (.bl aq))) aU) (ax (dI 3 (szF ak)) (ax (ck (itF (vSh 0)) (ay 4) (nC 3 (b2 ixD (vSh 4) (vC (.int 4))))) (eR 3 (aK (cJ (cF fG (ae (aD (bc (itF (vSh 0)) (ay 0) tT (b2 ixD (vSh 0) (vC (.int 0))) [ac])) ak)) (cF fG (ae (vSh 3) ak))))))))
noncomputable def tP:FQ:=aZ 0
  (ax (sIf (orT (ba (toB (cF fZ (ae (vSh 0) (ae (vC (.int 4)) ak))))) (ba (toB (cF kS (ae (b2 ixD (vSh 0) (vC (.int 0))) (ae (vSh 1) ak)))))) (aK (vC (.bl aq))) aU) (aK (cJ (cF f8 (ae (b2 ixD (vSh 0) (vC (.int 1))) ak)) (cJ (cF f8 (ae (b2 ixD (vSh 0) (vC (.int 2))) ak)) (cF gL (ae (b2 ixD (vSh 0) (vC (.int 3))) (ae (vC (.int 1)) (ae (vSh 2) ak))))))))
noncomputable def xu:FQ:=aZ 0
  (ax (sIf (orT (ba (toB (cF g8 (ae (vSh 0) (ae (vC (.int 0)) (ae (vC (.int 100)) ak)))))) (ba (toB (cF eG (ae (aD (bc (itF (vSh 0)) (ay 0) tT (cF tP (ae (vSh 0) (ae (vSh 1) (ae (vSh 2) ak)))) [ac,aa 1,aa 2])) ak))))) (aK (vC (.bl aq))) aU) (aK (cF fG (ae (aD (bc (itF (vSh 0)) (ay 0) tT (slF (vSh 0) pN (pS (vC (.int 3)))) [ac])) ak))))
noncomputable def uy:FQ:=aZ 0
  (ax (sIf (orT (ba (toB (cF fZ (ae (vSh 0) (ae (vC (.int 3)) ak))))) (orT (ba (toB (cF kS (ae (b2 ixD (vSh 0) (vC (.int 0))) (ae (vSh 1) ak))))) (ba (toB (cF kS (ae (b2 ixD (vSh 0) (vC (.int 1))) (ae (vSh 1) ak))))))) (aK (vC (.bl aq))) aU) (aK (cJ (b2 neA (b2 ixD (vSh 0) (vC (.int 0))) (b2 ixD (vSh 0) (vC (.int 1)))) (cF gL (ae (b2 ixD (vSh 0) (vC (.int 2))) (ae (vC (.int 0)) (ae (vSh 2) ak)))))))
noncomputable def vY:FQ:=aZ 0
  (ax (sIf (orT (ba (toB (cF g8 (ae (vSh 0) (ae (vC (.int 0)) (ae (vC (.int 100)) ak)))))) (ba (toB (cF eG (ae (aD (bc (itF (vSh 0)) (ay 0) tT (cF uy (ae (vSh 0) (ae (vSh 1) (ae (vSh 2) ak)))) [ac,aa 1,aa 2])) ak))))) (aK (vC (.bl aq))) aU) (aK (cF fG (ae (aD (bc (itF (vSh 0)) (ay 0) tT (slF (vSh 0) pN (pS (vC (.int 2)))) [ac])) ak))))
noncomputable def uf:FQ:=aZ 0
  (aK (cJ (cF fZ (ae (vSh 0) (ae (vC (.int 2)) ak))) (cJ (cF kS (ae (b2 ixD (vSh 0) (vC (.int 0))) (ae (vSh 1) ak))) (cF gL (ae (b2 ixD (vSh 0) (vC (.int 1))) (ae (vC (.int 1)) (ae (vC (.int 1000000)) ak)))))))
noncomputable def tm:FQ:=aZ 0
  (ax (sIf (orT (ba (toB (cF g8 (ae (vSh 0) (ae (vC (.int 0)) (ae (cF bT (ae (vSh 1) ak)) ak)))))) (ba (toB (cF eG (ae (aD (bc (itF (vSh 0)) (ay 0) tT (cF uf (ae (vSh 0) (ae (vSh 1) ak))) [ac,aa 1])) ak))))) (aK (vC (.bl aq))) aU) (aK (cF fG (ae (aD (bc (itF (vSh 0)) (ay 0) tT (b2 ixD (vSh 0) (vC (.int 0))) [ac])) ak))))
noncomputable def tY:FQ:=aZ 0
  (ax (sIf (orT (ba (toB (cF fZ (ae (vSh 0) (ae (vC (.int 5)) ak))))) (ba (toB (cF f8 (ae (b2 ixD (vSh 0) (vC (.int 0))) ak))))) (aK (vC (.bl aq))) aU) (ax (sIf (orT (ba (toB (cF gL (ae (b2 ixD (vSh 0) (vC (.int 2))) (ae (vC (.int 0)) (ae (vC (.int 1000000)) ak)))))) (ba (toB (cF gL (ae (b2 ixD (vSh 0) (vC (.int 1))) (ae (vC (.int 0)) (ae (b2 ixD (vSh 0) (vC (.int 2))) ak))))))) (aK (vC (.bl aq))) aU) (aK (cJ (cF tm (ae (b2 ixD (vSh 0) (vC (.int 3))) (ae (vSh 1) ak))) (cF tm (ae (b2 ixD (vSh 0) (vC (.int 4))) (ae (vSh 1) ak)))))))
noncomputable def wF:FQ:=aZ 0
  (ax (sIf (orT (ba (toB (cF g8 (ae (vSh 0) (ae (vC (.int 0)) (ae (vC (.int 6)) ak)))))) (ba (toB (cF eG (ae (aD (bc (itF (vSh 0)) (ay 0) tT (cF tY (ae (vSh 0) (ae (vSh 1) ak))) [ac,aa 1])) ak))))) (aK (vC (.bl aq))) aU) (aK (cF fG (ae (aD (bc (itF (vSh 0)) (ay 0) tT (b2 ixD (vSh 0) (vC (.int 0))) [ac])) ak))))
noncomputable def v6:FQ:=aZ 2
  (ax (sIf (ba (toB (cF gL (ae (vSh 6) (ae (vC (.int 1)) (ae (vC (.int 1000000)) ak)))))) (aK (vC (.str "horizon"))) aU) (ax (sIf (ba (toB (cF wn (ae (vSh 0) (ae (vSh 6) ak))))) (aK (vC (.str "benches"))) aU) (ax (aH 7 (aD (bc (itF (vSh 0)) (ay 0) tT (b2 ixD (vSh 0) (vC (.int 0))) [ac]))) (ax (sIf (ba (toB (cF yj (ae (vSh 1) (ae (vSh 7) (ae (vSh 6) ak)))))) (aK (vC (.str "steps"))) aU) (ax (aH 8 (aD (bc (itF (vSh 1)) (ay 0) tT (b2 ixD (vSh 0) (vC (.int 0))) [ac]))) (ax (sIf (ba (toB (cF w9 (ae (vSh 2) (ae (vSh 8) (ae (vSh 6) ak)))))) (aK (vC (.str "jobs"))) aU) (ax (sIf (ba (toB (cF xu (ae (vSh 3) (ae (vSh 7) (ae (vSh 6) ak)))))) (aK (vC (.str "setups"))) aU) (ax (sIf (ba (toB (cF vY (ae (vSh 4) (ae (vSh 8) (ae (vSh 6) ak)))))) (aK (vC (.str "links"))) aU) (ax (sIf (ba (toB (cF wF (ae (vSh 5) (ae (vSh 8) ak))))) (aK (vC (.str "stocks"))) aU) (aK (vC .non)))))))))))
noncomputable def jD (eJ:FQ):FQ:=aZ 0
  (ax (sIf (toB (cF cU (ae (vSh 0) (ae (vC (.ty "list")) ak)))) (aK (aD (bc (itF (vSh 0)) (ay 0) tT (cF eJ (ae (vSh 0) ak)) [ac]))) aU) (ax (sIf (toB (cF cU (ae (vSh 0) (ae (vC (.ty "tuple")) ak)))) (aK (cF xl (ae (aD (bc (itF (vSh 0)) (ay 0) tT (cF eJ (ae (vSh 0) ak)) [ac])) ak))) aU) (aK (vSh 0))))
noncomputable def j0:ag->FQ
 |0=>fun _=>ac
 |n+1=>jD (j0 n)
noncomputable def eJ:FQ:=j0 8
noncomputable def xv:FQ:=nR 3 "Shop"
  (ax (aH 8 (cF v6 (ae (vSh 1) (ae (vSh 2) (ae (vSh 3) (ae (vSh 4) (ae (vSh 5) (ae (vSh 6) (ae (vSh 7) ak))))))))) (ax (sIf (toB (b2 nD (vSh 8) (vC .non))) sNo aU) (ax (gT "Shop" "benches" 0 (cF eJ (ae (vSh 1) ak))) (ax (gT "Shop" "steps" 0 (cF eJ (ae (vSh 2) ak))) (ax (gT "Shop" "jobs" 0 (cF eJ (ae (vSh 3) ak))) (ax (gT "Shop" "setups" 0 (cF eJ (ae (vSh 4) ak))) (ax (gT "Shop" "links" 0 (cF eJ (ae (vSh 5) ak))) (ax (gT "Shop" "stocks" 0 (cF eJ (ae (vSh 6) ak))) (ax (gT "Shop" "horizon" 0 (vSh 7)) (ax (gT "Shop" "bench_by_name" 0 (cF pJ (ae (aD (bc (itF (kc "Shop" "benches" 0)) (ay 0) tT (bK (szF (ae (b2 ixD (vSh 0) (vC (.int 0))) (ae (vSh 0) ak)))) [ac])) ak))) (ax (gT "Shop" "step_by_name" 0 (cF pJ (ae (aD (bc (itF (kc "Shop" "steps" 0)) (ay 0) tT (bK (szF (ae (b2 ixD (vSh 0) (vC (.int 0))) (ae (vSh 0) ak)))) [ac])) ak))) (ax (gT "Shop" "setup_by_names" 0 (cF um (ae (aD (bc (itF (kc "Shop" "setups" 0)) (ay 0) tT (bK (szF (ae (slF (vSh 0) pN (pS (vC (.int 3)))) (ae (b2 ixD (vSh 0) (vC (.int 3))) ak)))) [ac])) ak))) (ax (nS "Shop" "job_by_step" 0) (ck (itF (kc "Shop" "jobs" 0)) (ay 9) (ck (itF (b2 ixD (vSh 9) (vC (.int 4)))) (ay 10) (jL "Shop" "job_by_step" 0 (vSh 10) (vSh 9)))))))))))))))))
noncomputable def uo:FQ:=aZ 6
  (ax (sIf (ba (toB (cF cU (ae (vSh 0) (ae (vC (.ty "str")) ak))))) sNo aU) (ax (aH 1 (mF kO (vSh 0) (ae (vC (.str "\n")) ak))) (ax (vK 2 ["horizon","bench","step","job","setup","link","stock"]) (ax (ck (itE (vSh 1)) (cD 2 (aN (ay 3) (aN (ay 4) cr))) (ax (aH 5 (mF kO (vSh 4) (ae (vC (.str " ")) ak))) (ax (aH 6 (cF iY (ae (vSh 5) ak))) (ax (sIf (oX 2 (orT (toB (b2 isD (vSh 6) (vC .non))) (eT (toB (b2 eqD (b2 ixD (vSh 5) (vC (.int 0))) (vC (.str "horizon")))) (toB (b2 gtD (cF bT (ae (b2 gQ (vSh 2) (vC (.str "horizon"))) ak)) (vC (.int 0))))))) sNo aU) (nV 2 (b2 ixD (vSh 5) (vC (.int 0))) (vSh 6)))))) (tW 2 (ax (sIf (toB (b2 eqD (cF bT (ae (b2 gQ (vSh 2) (vC (.str "horizon"))) ak)) (vC (.int 0)))) sNo aU) (aK (cF xv (ae (b2 gQ (vSh 2) (vC (.str "bench"))) (ae (b2 gQ (vSh 2) (vC (.str "step"))) (ae (b2 gQ (vSh 2) (vC (.str "job"))) (ae (b2 gQ (vSh 2) (vC (.str "setup"))) (ae (b2 gQ (vSh 2) (vC (.str "link"))) (ae (b2 gQ (vSh 2) (vC (.str "stock"))) (ae (b2 ixD (b2 gQ (vSh 2) (vC (.str "horizon"))) (vC (.int 0))) ak)))))))))))))))
noncomputable def wx:FQ:=aZ 0
  (aK (cF eJ (ae (fL "Shop" "jobs" (vSh 0)) ak)))
noncomputable def xH:FQ:=aZ 0
  (aK (cF eJ (ae (fL "Shop" "steps" (vSh 0)) ak)))
noncomputable def vQ:FQ:=aZ 0
  (aK (cF eJ (ae (fL "Shop" "benches" (vSh 0)) ak)))
noncomputable def yz:FQ:=aZ 0
  (aK (cF eJ (ae (fL "Shop" "links" (vSh 0)) ak)))
noncomputable def xE:FQ:=aZ 0
  (aK (cF eJ (ae (fL "Shop" "setups" (vSh 0)) ak)))
noncomputable def nZ:FQ:=aZ 0
  (aK (fL "Shop" "horizon" (vSh 0)))
noncomputable def yf:FQ:=aZ 0
  (aK (cF eJ (ae (fL "Shop" "stocks" (vSh 0)) ak)))
noncomputable def lQ:FQ:=aZ 1
  (ax (aH 1 (aD (szF (ae (dE "Shop" "bench_rows" vQ (vSh 0) ak) (ae (dE "Shop" "step_rows" xH (vSh 0) ak) (ae (dE "Shop" "job_rows" wx (vSh 0) ak) ak)))))) (ax (aH 1 (b2 aF (vSh 1) (aD (szF (ae (dE "Shop" "setup_rows" xE (vSh 0) ak) (ae (dE "Shop" "link_rows" yz (vSh 0) ak) ak)))))) (aK (b2 aF (vSh 1) (aD (szF (ae (dE "Shop" "stock_rows" yf (vSh 0) ak) (ae (dE "Shop" "last_moment" nZ (vSh 0) ak) ak))))))))
noncomputable def iK (lM:FQ):FQ:=aZ 0
  (ax (sIf (toB (cF yp (ae (vSh 0) (ae (bK (szF (ae (vC (.ty "list")) (ae (vC (.ty "tuple")) ak)))) ak)))) (aK (b2 aF (aD (szF (ae (cF cU (ae (vSh 0) (ae (vC (.ty "list")) ak))) ak))) (aD (bc (itF (vSh 0)) (ay 0) tT (cF lM (ae (vSh 0) ak)) [ac])))) aU) (aK (aD (szF (ae (cF cU (ae (vSh 0) (ae (vC (.ty "str")) ak))) (ae (cF cU (ae (vSh 0) (ae (vC (.ty "bool")) ak))) (ae (cF cU (ae (vSh 0) (ae (vC (.ty "int")) ak))) ak)))))))
noncomputable def kY:ag->FQ
 |0=>fun _=>ac
 |n+1=>iK (kY n)
noncomputable def lM:FQ:=kY 8
noncomputable def jS (ib:FQ):FQ:=runN 0
  (ax (sIf (toB (cF cU (ae (vSh 0) (ae (vC (.ty "list")) ak)))) (fX (aD (bc (itF (vSh 0)) (ay 0) tT (cF ib (ae (vSh 0) ak)) [ac]))) aU) (ax (sIf (toB (cF cU (ae (vSh 0) (ae (vC (.ty "tuple")) ak)))) (fX (pZ (aD (bc (itF (vSh 0)) (ay 0) tT (cF ib (ae (vSh 0) ak)) [ac])))) aU) (fX (flF (vSh 0)))))
noncomputable def jY:ag->FQ
 |0=>fun _=>ac
 |n+1=>jS (jY n)
noncomputable def ib:FQ:=jY 8
noncomputable def v5:FQ:=runN 0
  (fX (cF ib (ae (fL "Shop" "jobs" (vSh 0)) ak)))
noncomputable def xx:FQ:=runN 0
  (fX (cF ib (ae (fL "Shop" "steps" (vSh 0)) ak)))
noncomputable def vN:FQ:=runN 0
  (fX (cF ib (ae (fL "Shop" "benches" (vSh 0)) ak)))
noncomputable def xW:FQ:=runN 0
  (fX (cF ib (ae (fL "Shop" "links" (vSh 0)) ak)))
noncomputable def vH:FQ:=runN 0
  (fX (cF ib (ae (fL "Shop" "setups" (vSh 0)) ak)))
noncomputable def tL:FQ:=runN 0
  (fX (cF ib (ae (fL "Shop" "stocks" (vSh 0)) ak)))
noncomputable def uc:FQ:=runN 1
  (ax (oe 1 (aD (szF (ae (dE "Shop" "bench_rows" vN (vSh 0) ak) (ae (dE "Shop" "step_rows" xx (vSh 0) ak) (ae (dE "Shop" "job_rows" v5 (vSh 0) ak) ak)))))) (ax (oe 1 (n8 (pw 1) (aD (szF (ae (dE "Shop" "setup_rows" vH (vSh 0) ak) (ae (dE "Shop" "link_rows" xW (vSh 0) ak) ak)))))) (fX (n8 (pw 1) (aD (szF (ae (dE "Shop" "stock_rows" tL (vSh 0) ak) (ae (flF (dE "Shop" "last_moment" nZ (vSh 0) ak)) ak))))))))
abbrev C0:FS:=
  (ax (aH 1 (cF uD (ae (vSh 0) ak))) (ax (aH 2 (cF t0 (ae (vSh 1) ak))) (ax (aH 3 (cF yk (ae (cF bT (ae (vSh 2) ak)) (ae (b2 ixD (cF dz (ae (vSh 0) (ae (vC (.int 62)) (ae (aD (szF (ae (b2 ce (vC (.int 10)) (vC (.int 6))) ak))) ak)))) (vC (.int 0))) ak)))) (ax (aH 4 (mF fK (vC (.str "\n")) (ae (aD (bc (itF (vSh 3)) (ay 0) tT (b2 ixD (vSh 1) (vSh 0)) [ac,aa 2])) ak))) (ax (aH 5 (cF yx (ae (vSh 1) (ae (vSh 3) ak)))) (ax (aH 6 (cF uo (ae (vSh 4) ak))) (ax (sIf (orT (ba (toB (b1 (t9 "Shop") (vSh 6)))) (orT (toB (b2 neA (cF lQ (ae (vSh 6) ak)) (vSh 5))) (toB (b2 neA (cF lM (ae (cF lQ (ae (vSh 6) ak)) ak)) (cF lM (ae (vSh 5) ak)))))) (aK (vC (.bl aq))) aU) (ax (o8 7 6 (cF uc (ae (vSh 6) ak))) (aK (cJ (b2 eqA (cF lQ (ae (vSh 6) ak)) (vSh 5)) (b2 eqA (cF lQ (ae (cF uo (ae (vSh 4) ak)) ak)) (vSh 5))))))))))))
noncomputable def AI:FQ:=aZ 7 C0
end Law
set_option maxHeartbeats 4000000
variable {C_Shop:aw} {x1 x2 x3 x4:D} {ρ' ρ1:aX} {sn ys:ab ai} {br:ab (af×af)} {S:ao Slot} {B:FS} {am:ab (ai×af)} {l:ab D} {gs:ab (ab ai)} {ea du:af}
namespace Law
theorem gX:FnScope ["_law_script","_law_k","_law_bounds","_law_free","_law_number","_law_seed","_law_found","_law_j","_law_bound"] ["_law_script","_law_k","_law_bounds"] (aO (top 67)):=bw
theorem ur:FnScope ["_law_pad","_law_k","_law_letters","_law_code"] ["_law_pad","_law_k"] (aO (top 68)):=bw
theorem jG:FnScope ["_law_script","_law_pad","_law_many","_law_horizon","_law_found","_law_k","_law_breaks","_law_draws","_law_free","_law_j","_law_begin","_law_end"] ["_law_script","_law_pad","_law_many","_law_horizon"] (aO (top 69)):=bw
theorem lR:FnScope ["_law_script","_law_pad","_law_many","_law_benches_here","_law_horizon","_law_found","_law_k","_law_draws","_law_most","_law_ways","_law_j","_law_bench"] ["_law_script","_law_pad","_law_many","_law_benches_here","_law_horizon"] (aO (top 70)):=bw
theorem f9:FnScope ["_law_script","_law_pad","_law_steps_here","_law_horizon","_law_many","_law_early","_law_due_here","_law_order_here","_law_groups","_law_k","_law_step","_law_at","_law_found","_law_group","_law_ordered"] ["_law_script","_law_pad","_law_steps_here","_law_horizon"] (aO (top 71)):=bw
theorem jp:FnScope ["_law_script","_law_benches_here","_law_pad","_law_horizon","_law_found","_law_known","_law_k","_law_bench","_law_first","_law_second","_law_size","_law_raw","_law_row"] ["_law_script","_law_benches_here","_law_pad","_law_horizon"] (aO (top 72)):=bw
theorem jZ:FnScope ["_law_script","_law_steps_here","_law_horizon","_law_found","_law_known","_law_k","_law_one","_law_other","_law_size","_law_raw"] ["_law_script","_law_steps_here","_law_horizon"] (aO (top 73)):=bw
theorem fT:FnScope ["_law_script","_law_pad","_law_steps_here","_law_found","_law_k","_law_bounds","_law_size","_law_room","_law_first","_law_takes","_law_puts","_law_raw","_law_some","_law_j","_law_step","_law_amount","_law_row"] ["_law_script","_law_pad","_law_steps_here"] (aO (top 74)):=bw
theorem gN:FnScope ["_law_script","_law_pad","_law_many","_law_size","_law_count","_law_long","_law_raw","_law_horizon","_law_benches_here","_law_steps_here","_law_jobs_here","_law_setups_here","_law_links_here","_law_stocks_here"] ["_law_script"] (aO (top 75)):=bw
theorem c7:FnScope ["_law_parts","_law_rows_here","_law_name_here","_law_breaks","_law_words","_law_kind","_law_ways","_law_early","_law_due_here","_law_ordered","_law_some","_law_row","_law_one","_law_other","_law_gap","_law_first","_law_room","_law_takes","_law_puts"] ["_law_parts"] (aO (top 76)):=bw
theorem kJ:FnScope ["_law_many","_law_draw","_law_way","_law_begin","_law_order_here","_law_stride","_law_first"] ["_law_many","_law_draw"] (aO (top 78)):=bw
theorem mm:FnScope ["_law_parts","_law_order_here","_law_lists_here","_law_things","_law_kind","_law_some","_law_place"] ["_law_parts","_law_order_here"] (aO (top 80)):=bw
theorem IG:FnScope ["word"] ["word"] (aO (top 10)):=bw
theorem Hr:FnScope ["word"] ["word"] (aO (top 52)):=bw
theorem LW:FnScope ["words"] ["words"] (aO (top 57)):=bw
theorem Nc:FnScope ["words"] ["words"] (aO (top 54)):=bw
theorem AC:FnScope ["word","halves"] ["word"] (aO (top 55)):=bw
theorem MS:FnScope ["thing"] ["thing"] (aO (top 9)):=bw
theorem Aw:FnScope ["words","breaks"] ["words"] (aO (top 58)):=bw
theorem Ct:FnScope ["word","sign","halves"] ["word","sign"] (aO (top 56)):=bw
theorem Qh:FnScope ["words"] ["words"] (aO (top 53)):=bw
theorem Af:FnScope ["words","ways"] ["words"] (aO (top 59)):=bw
theorem Ja:FnScope ["words"] ["words"] (aO (top 60)):=bw
theorem JC:FnScope ["words"] ["words"] (aO (top 61)):=bw
theorem Po:FnScope ["words"] ["words"] (aO (top 62)):=bw
theorem oY:FnScope ["words","place","takes","puts"] ["words"] (aO (top 63)):=bw
theorem MU:FnScope ["words"] ["words"] (aO (top 64)):=bw
theorem JA:FnScope ["thing"] ["thing"] (aO (top 8)):=bw
theorem IF:FnScope ["thing","least","most"] ["thing","least","most"] (aO (top 12)):=bw
theorem Kb:FnScope ["thing","many"] ["thing","many"] (aO (top 14)):=bw
theorem LD:FnScope ["row","horizon"] ["row","horizon"] (aO (top 28)):=bw
theorem La:FnScope ["thing","least","most"] ["thing","least","most"] (aO (top 13)):=bw
theorem Jm:FnScope ["breaks","horizon"] ["breaks","horizon"] (aO (top 29)):=bw
theorem Lu:FnScope ["row","horizon"] ["row","horizon"] (aO (top 30)):=bw
theorem JE:FnScope ["things"] ["things"] (aO (top 16)):=bw
theorem Np:FnScope ["benches","horizon"] ["benches","horizon"] (aO (top 31)):=bw
theorem Oa:FnScope ["thing","names"] ["thing","names"] (aO (top 15)):=bw
theorem MV:FnScope ["row","bench_names","horizon"] ["row","bench_names","horizon"] (aO (top 32)):=bw
theorem Ot:FnScope ["ways","bench_names","horizon"] ["ways","bench_names","horizon"] (aO (top 33)):=bw
theorem Kz:FnScope ["row","bench_names","horizon"] ["row","bench_names","horizon"] (aO (top 34)):=bw
theorem GQ:FnScope ["steps","bench_names","horizon"] ["steps","bench_names","horizon"] (aO (top 35)):=bw
theorem PN:FnScope ["row","step_names","horizon"] ["row","step_names","horizon"] (aO (top 36)):=bw
theorem vG:FnScope ["jobs","step_names","horizon","members","row"] ["jobs","step_names","horizon"] (aO (top 37)):=bw
theorem Kp:FnScope ["row","bench_names","horizon"] ["row","bench_names","horizon"] (aO (top 38)):=bw
theorem KW:FnScope ["setups","bench_names","horizon"] ["setups","bench_names","horizon"] (aO (top 39)):=bw
theorem M4:FnScope ["row","step_names","horizon"] ["row","step_names","horizon"] (aO (top 40)):=bw
theorem Qe:FnScope ["links","step_names","horizon"] ["links","step_names","horizon"] (aO (top 41)):=bw
theorem KQ:FnScope ["row","step_names"] ["row","step_names"] (aO (top 42)):=bw
theorem QJ:FnScope ["rows","step_names"] ["rows","step_names"] (aO (top 43)):=bw
theorem Nb:FnScope ["row","step_names"] ["row","step_names"] (aO (top 44)):=bw
theorem Os:FnScope ["stocks","step_names"] ["stocks","step_names"] (aO (top 45)):=bw
theorem vZ:FnScope ["benches","steps","jobs","setups","links","stocks","horizon","bench_names","step_names"] ["benches","steps","jobs","setups","links","stocks","horizon"] (aO (top 46)):=bw
theorem ON:FnScope ["thing"] ["thing"] (aO (top 48)):=bw
theorem tq:FnScope ["self","benches","steps","jobs","setups","links","stocks","horizon","part","row","step"] ["self","benches","steps","jobs","setups","links","stocks","horizon"] (aO (dQ (top 49) 0)):=bw
theorem mS:FnScope ["text","rows","parts","number","row","words","part"] ["text"] (aO (top 65)):=bw
theorem LF:FnScope ["self"] ["self"] (aO (dQ (top 49) 3)):=bw
theorem N0:FnScope ["self"] ["self"] (aO (dQ (top 49) 2)):=bw
theorem Kg:FnScope ["self"] ["self"] (aO (dQ (top 49) 1)):=bw
theorem Gs:FnScope ["self"] ["self"] (aO (dQ (top 49) 5)):=bw
theorem Kl:FnScope ["self"] ["self"] (aO (dQ (top 49) 4)):=bw
theorem QO:FnScope ["self"] ["self"] (aO (dQ (top 49) 7)):=bw
theorem OL:FnScope ["self"] ["self"] (aO (dQ (top 49) 6)):=bw
theorem yr:FnScope ["_law_shop_here","_law_found"] ["_law_shop_here"] (aO (top 77)):=bw
theorem GL:FnScope ["_law_found"] ["_law_found"] (aO (top 79)):=bw
theorem Jp:FnScope ["thing"] ["thing"] (aO (top 48)):=bw
theorem L':FnScope ["self"] ["self"] (aO (dQ (top 49) 3)):=bw
theorem PM:FnScope ["self"] ["self"] (aO (dQ (top 49) 2)):=bw
theorem Pu:FnScope ["self"] ["self"] (aO (dQ (top 49) 1)):=bw
theorem OV:FnScope ["self"] ["self"] (aO (dQ (top 49) 5)):=bw
theorem Ix:FnScope ["self"] ["self"] (aO (dQ (top 49) 4)):=bw
theorem KB:FnScope ["self"] ["self"] (aO (dQ (top 49) 6)):=bw
theorem wV:FnScope ["_law_shop_here","_law_found"] ["_law_shop_here"] (aO (top 77)):=bw
theorem lC:FnScope ["_law_script","_law_parts","_law_rows_here","_law_order_here","_law_text","_law_due_here","_law_found","_law_some"] ["_law_script"] (aO (top 81)):=bw
noncomputable def tkI (mg:ai->ao av) (x:ai):Tok:=match mg x with|some (.int _ t)=>t|_=>0
theorem tkI_of {h:Heap} {n:af} {t:Tok} (X:K.In h) (G:h.Ns fD mg) (a:uZ K fD x=aa (aa (.int n t))):mg x=aa (.int n (tkI mg x)):=by have q:=u0 X G a;rw[q];unfold tkI;rw[q]
noncomputable def tkS (mg:ai->ao av) (x:ai):Tok:=match mg x with|some (.str _ t)=>t|_=>0
theorem tkS_of {h:Heap} {t:Tok} (X:K.In h) (G:h.Ns fD mg) (a:uZ K fD x=aa (aa (.str y t))):mg x=aa (.str y (tkS mg x)):=by have q:=u0 X G a;rw[q];unfold tkS;rw[q]
structure Vd (K:aV) (mg:ai->ao av) (C_Shop:aw):Prop where
 z_all:mg "all"=ac
 z_bool:mg "bool"=ac
 z_dict:mg "dict"=ac
 z_enumerate:mg "enumerate"=ac
 z_int:mg "int"=ac
 z_isinstance:mg "isinstance"=ac
 z_len:mg "len"=ac
 z_list:mg "list"=ac
 z_min:mg "min"=ac
 z_range:mg "range"=ac
 z_set:mg "set"=ac
 z_str:mg "str"=ac
 z_tuple:mg "tuple"=ac
 k_FIGURES:mg "FIGURES"=aa (.str "0123456789" (tkS mg "FIGURES"))
 k_LONGEST_NAME:mg "LONGEST_NAME"=aa (.int 8 (tkI mg "LONGEST_NAME"))
 k_MOST_AMOUNT:mg "MOST_AMOUNT"=aa (.int 1000000 (tkI mg "MOST_AMOUNT"))
 k_MOST_BENCHES:mg "MOST_BENCHES"=aa (.int 8 (tkI mg "MOST_BENCHES"))
 k_MOST_BREAKS:mg "MOST_BREAKS"=aa (.int 10 (tkI mg "MOST_BREAKS"))
 k_MOST_FIGURES:mg "MOST_FIGURES"=aa (.int 7 (tkI mg "MOST_FIGURES"))
 k_MOST_HORIZON:mg "MOST_HORIZON"=aa (.int 1000000 (tkI mg "MOST_HORIZON"))
 k_MOST_JOBS:mg "MOST_JOBS"=aa (.int 40 (tkI mg "MOST_JOBS"))
 k_MOST_LINKS:mg "MOST_LINKS"=aa (.int 100 (tkI mg "MOST_LINKS"))
 k_MOST_SETUPS:mg "MOST_SETUPS"=aa (.int 100 (tkI mg "MOST_SETUPS"))
 k_MOST_STEPS:mg "MOST_STEPS"=aa (.int 40 (tkI mg "MOST_STEPS"))
 k_MOST_STOCKS:mg "MOST_STOCKS"=aa (.int 6 (tkI mg "MOST_STOCKS"))
 k_MOST_WAYS:mg "MOST_WAYS"=aa (.int 4 (tkI mg "MOST_WAYS"))
 d0:Dfn K mg "_law_numbers" (top 67)
 d1:Dfn K mg "_law_name" (top 68)
 d2:Dfn K mg "_law_benches" (top 69)
 d3:Dfn K mg "_law_steps" (top 70)
 d4:Dfn K mg "_law_jobs" (top 71)
 d5:Dfn K mg "_law_setups" (top 72)
 d6:Dfn K mg "_law_links" (top 73)
 d7:Dfn K mg "_law_stocks" (top 74)
 d8:Dfn K mg "_law_shop" (top 75)
 d9:Dfn K mg "_law_rows" (top 76)
 d10:Dfn K mg "_law_order" (top 78)
 d11:Dfn K mg "_law_due" (top 80)
 d12:Dfn K mg "is_numeral" (top 10)
 d13:Dfn K mg "is_number" (top 52)
 d14:Dfn K mg "read_horizon" (top 57)
 d15:Dfn K mg "are_numbers" (top 54)
 d16:Dfn K mg "read_break" (top 55)
 d17:Dfn K mg "is_name" (top 9)
 d18:Dfn K mg "read_bench" (top 58)
 d19:Dfn K mg "read_named_number" (top 56)
 d20:Dfn K mg "are_names" (top 53)
 d21:Dfn K mg "read_step" (top 59)
 d22:Dfn K mg "read_job" (top 60)
 d23:Dfn K mg "read_setup" (top 61)
 d24:Dfn K mg "read_link" (top 62)
 d25:Dfn K mg "read_stock" (top 63)
 d26:Dfn K mg "read_row" (top 64)
 d27:Dfn K mg "is_whole" (top 8)
 d28:Dfn K mg "is_within" (top 12)
 d29:Dfn K mg "is_tuple" (top 14)
 d30:Dfn K mg "is_break" (top 28)
 d31:Dfn K mg "is_list" (top 13)
 d32:Dfn K mg "are_breaks" (top 29)
 d33:Dfn K mg "is_bench" (top 30)
 d34:Dfn K mg "are_unlike" (top 16)
 d35:Dfn K mg "are_benches" (top 31)
 d36:Dfn K mg "is_one_of" (top 15)
 d37:Dfn K mg "is_way" (top 32)
 d38:Dfn K mg "are_ways" (top 33)
 d39:Dfn K mg "is_step" (top 34)
 d40:Dfn K mg "are_steps" (top 35)
 d41:Dfn K mg "is_job" (top 36)
 d42:Dfn K mg "are_jobs" (top 37)
 d43:Dfn K mg "is_setup" (top 38)
 d44:Dfn K mg "are_setups" (top 39)
 d45:Dfn K mg "is_link" (top 40)
 d46:Dfn K mg "are_links" (top 41)
 d47:Dfn K mg "is_amount" (top 42)
 d48:Dfn K mg "are_amounts" (top 43)
 d49:Dfn K mg "is_stock" (top 44)
 d50:Dfn K mg "are_stocks" (top 45)
 d51:Dfn K mg "first_bad_part" (top 46)
 d52:Dfn K mg "fresh" (top 48)
 d53:DfnM K C_Shop "Shop" "__init__" "Shop.__init__" (dQ (top 49) 0)
 d54:Dfn K mg "read_shop" (top 65)
 d55:DfnM K C_Shop "Shop" "job_rows" "Shop.job_rows" (dQ (top 49) 3)
 d56:DfnM K C_Shop "Shop" "step_rows" "Shop.step_rows" (dQ (top 49) 2)
 d57:DfnM K C_Shop "Shop" "bench_rows" "Shop.bench_rows" (dQ (top 49) 1)
 d58:DfnM K C_Shop "Shop" "link_rows" "Shop.link_rows" (dQ (top 49) 5)
 d59:DfnM K C_Shop "Shop" "setup_rows" "Shop.setup_rows" (dQ (top 49) 4)
 d60:DfnM K C_Shop "Shop" "last_moment" "Shop.last_moment" (dQ (top 49) 7)
 d61:DfnM K C_Shop "Shop" "stock_rows" "Shop.stock_rows" (dQ (top 49) 6)
 d62:Dfn K mg "_law_lists" (top 77)
 d63:Dfn K mg "_law_kinds" (top 79)
structure Vw (K:aV) (mg:ai->ao av) (C_Shop:aw):Prop extends Vd K mg C_Shop where
 O_Shop:ClsOk (Gam C_Shop) K mg "Shop" C_Shop
 cf_Shop:CF (Gam C_Shop) K "Shop" Dm
 I_Shop:ClsIs K C_Shop
section
variable (V:Vw K mg C_Shop)
include V
theorem iG:Cal (Gam C_Shop) P w K mg base "_law_numbers" 3 1 dz:=
 V.d0.cal (k:=0) gX (bn fun _ _ _ _ _ _ _=>rfl) fun f cdv A outer s H E hr=>
  (aA (bB 3 gX.nd (IW (gP (xC (kT hr)) (ah 0) (DO.de (bW au)) (bX _)) (fV (gP ee (cM (aG (ah 0) ar) ar) ar (bX _))))) (aA (bB 4 gX.nd ar) (aA (bB 5 gX.nd (fA (ah 1) (ah 1))) (aA (bD (b7 kt (ah 1) (bI cX rfl V.z_len (by rfl) (aj (ah 0) au)) (bX _)) (aE (bB 4 gX.nd (aG (ah 0) (ah 1)))) bF) (aA (bD (b7 (nQ (kT hr)) (ah 0) (DO.de (bW au)) (bX _)) (aE (bB 5 gX.nd (aG (ah 0) (cM (ah 1) (bI cX rfl V.z_len (by rfl) (aj (ah 0) au)))))) bF) (aA (hU 6 gX.nd (bW au)) (aA (dB dy rfl (nK rfl V.z_enumerate (ah 2)) (gA (n:=2) rfl (bM (aP 7 gX.nd) (bM (aP 8 gX.nd) eE))) (aE (bD (DW.dt (rg (bC (ah 3)) (p6 (b7 pT (ah 4) ar (bX _))))) (aA (fu 6 (cM (ah 4) (ah 8))) (aE (bB 4 gX.nd (J3 (ah 4) (ah 8))))) (aA (bB 5 gX.nd (bu (bu (cM (ah 5) ar) (fA (fA ar (ah 7)) (ah 7))) (fA (fA ar (ah 1)) (ah 1)))) (aA (bB 5 gX.nd (cM (fA (bu (ah 5) ar) ar) ar)) (aA (bB 5 gX.nd (cM (fA (ah 5) (ah 5)) ar)) (aE (fu 6 (cM (lA (fA (ah 5) (bu (ah 5) ar)) ar) (ah 8)))))))))) (jh 6 (aE (aR (ah 6)))))))))))
theorem mE:Cal (Gam C_Shop) P w K mg base "_law_name" 2 1 eI:=
 V.d1.cal (k:=0) ur (bn fun _ _ _ _ _ _ _=>rfl) fun f cdv A outer s H E hr=>
  (aA (bB 2 ur.nd bL) (aA (bB 3 ur.nd (aG (ah 2) (cM (ah 1) ar))) (aA (bD (DW.dt (cj (b7 pT (cM (ah 0) ar) ar (bX _)) (cN (b7 pT (ah 1) ar (bX _))))) (aE (bB 3 ur.nd (bu (aG (ah 2) (cM (lA (ah 1) ar) ar)) (ah 3)))) bF) (aE (aR (bu (bu (fA bL (cM (bu (ah 0) (ah 1)) ar)) (ah 3)) (fA bL (cM (lA (ah 0) ar) ar))))))))
theorem NJ:Cal (Gam C_Shop) P w K mg base "_law_benches" 4 2 pv:=
 V.d2.cal (k:=1) jG (bn fun _ _ _ _ _ _ _=>rfl) fun f cdv A outer s H E hr=>
  (aA (hU 4 jG.nd (bW au)) (aA (dB dy rfl (kG rfl V.z_range (aj (ah 2) au)) (aP 5 jG.nd) (aA (hU 6 jG.nd (bW au)) (aA (bB 7 jG.nd (dC (iG V) hr (aj (ah 0) (aj (bu ar (ah 5)) (aj (bu (DO.de (bW (aj ar au))) (fA (DO.de (bW (aj ar (aj ar au)))) ar)) au))) ln3)) (aA (bB 8 jG.nd ar) (aA (dB dy rfl (kG rfl V.z_range (aj (aG (ah 7) ar) au)) (aP 9 jG.nd) (aA (bB 10 jG.nd (bu (ah 8) (aG (ah 7) (bu ar (fA ar (ah 9)))))) (aA (bB 11 jG.nd (bu (bu (ah 10) ar) (aG (ah 7) (bu ar (fA ar (ah 9)))))) (aA (bD (b7 kh (ah 11) (ah 3) (bX _)) (aE (fu 6 (cY (aj (ah 10) (aj (ah 11) au))))) bF) (aE (bB 8 jG.nd (bu (ah 11) ar))))))) (jh 6 (aE (fu 4 (cY (aj (dC (mE V) hr (aj (ah 1) (aj (ah 5) au)) ln2) (aj (ah 6) au))))))))))) (jh 4 (aE (aR (ah 4))))))
theorem Qo:Cal (Gam C_Shop) P w K mg base "_law_steps" 5 2 sP:=
 V.d3.cal (k:=1) lR (bn fun _ _ _ _ _ _ _=>rfl) fun f cdv A outer s H E hr=>
  (aA (hU 5 lR.nd (bW au)) (aA (dB dy rfl (kG rfl V.z_range (aj (ah 2) au)) (aP 6 lR.nd) (aA (bB 7 lR.nd (dC (iG V) hr (aj (ah 0) (aj (bu ar (ah 6)) (aj (bu (DO.de (bW (aj ar (aj ar (aj ar (aj ar au)))))) (fA (DO.de (bW (aj (dR ar ar) au))) ar)) au))) ln3)) (aA (bB 8 lR.nd (bI (oZ rfl) rfl V.z_min (by rfl) (aj (ah 4) (aj (aG (DO.de (bW (aj ar (aj ar (aj (dR ar ar) au))))) (aG (ah 7) ar)) au)))) (aA (hU 9 lR.nd (bW au)) (aA (dB dy rfl (kG rfl V.z_range (aj (bI (oZ rfl) rfl V.z_min (by rfl) (aj (bu ar (aG (ah 7) ar)) (aj (bI cX rfl V.z_len (by rfl) (aj (ah 3) au)) au))) au)) (aP 10 lR.nd) (aA (bB 11 lR.nd (aG (aG (ah 3) (cM (bu (aG (ah 7) ar) (ah 10)) (bI cX rfl V.z_len (by rfl) (aj (ah 3) au)))) ar)) (aE (fu 9 (cY (aj (ah 11) (aj (bu ar (cM (aG (ah 7) (bu ar (ah 10))) (ah 8))) au))))))) (jh 9 (aE (fu 5 (cY (aj (dC (mE V) hr (aj (ah 1) (aj (bu (fA ar (cM (ah 1) ar)) (ah 6)) au)) ln2) (aj (dC (mE V) hr (aj (lA (ah 1) ar) (aj (aG (ah 7) ar) au)) ln2) (aj (ah 9) au)))))))))))) (jh 5 (aE (aR (ah 5))))))
theorem No:Cal (Gam C_Shop) P w K mg base "_law_jobs" 4 2 sM:=
 V.d4.cal (k:=1) f9 (bn fun _ _ _ _ _ _ _=>rfl) fun f cdv A outer s H E hr=>
  (aA (o4 (dC (iG V) hr (aj (ah 0) (aj ar (aj (DO.de (bW (aj ar (aj (dR ar ar) (aj (dR ar ar) (aj ar au)))))) au))) ln3) (pA (n:=4) rfl (bM (aP 4 f9.nd) (bM (aP 5 f9.nd) (bM (aP 6 f9.nd) (bM (aP 7 f9.nd) eE)))))) (aA (L4 8 f9.nd rfl (CompScope.of rfl rfl) (FvOk.of (N':=["_law_k"]) (fv:=[ac]) rfl) (kG rfl V.z_range (aj (ah 4) au)) ⟨fun _ _ _ _ _=>⟨(aP 0 (show(["_law_k"]:ab ai).Nodup by decide +kernel)),cq,(dN (j:=0) (pos:=⟨0,0,0,0⟩))⟩⟩) (aA (dB dy rfl (nK rfl V.z_enumerate (ah 2)) (gA (n:=2) rfl (bM (aP 9 f9.nd) (bM (aP 10 f9.nd) eE))) (aA (bB 11 f9.nd (aG (dC (iG V) hr (aj (ah 0) (aj (bu ar (ah 9)) (aj (DO.de (bW (aj ar (aj ar (aj ar (aj ar (aj (dR ar ar) (aj (dR ar ar) (aj (dR ar ar) (aj (dR ar ar) (aj ar au))))))))))) au))) ln3) ar)) (aE (bD (b7 kt (ah 11) (ah 4) (bX _)) (aE (t8 8 (ah 11) (aG (ah 10) ar))) bF)))) (aA (hU 12 f9.nd (bW au)) (xS 8 (aA (dB dy rfl (nK rfl V.z_enumerate (ah 8)) (gA (n:=2) rfl (bM (aP 9 f9.nd) (bM (aP 13 f9.nd) eE))) (aE (bD (b7 (nQ (kT hr)) (ah 13) (DO.de (bW au)) (bX _)) (aA (bD (b7 ee (cM (lA (ah 7) ar) ar) ar (bX _)) (aE (bB 13 f9.nd (wC (ah 13)))) bF) (aA (bB 5 f9.nd (cM (fA (ah 5) ar) (bu (ah 3) ar))) (aA (bB 6 f9.nd (cM (fA (ah 6) ar) (bu (ah 3) ar))) (aA (bB 14 f9.nd (gP ee (cM (xo (ah 7) (bI (oZ rfl) rfl V.z_min (by rfl) (aj (ah 9) (aj ar au)))) ar) ar (bX _))) (aE (fu 12 (cY (aj (dC (mE V) hr (aj (bu (ah 1) ar) (aj (ah 9) au)) ln2) (aj (ah 5) (aj (ah 6) (aj (ah 14) (aj (ah 13) au)))))))))))) bF))) (jh 12 (aE (aR (ah 12))))))))))
theorem Ln:Cal (Gam C_Shop) P w K mg base "_law_setups" 4 2 tf:=
 V.d5.cal (k:=1) jp (bn fun _ _ _ _ _ _ _=>rfl) fun f cdv A outer s H E hr=>
  (aA (hU 4 jp.nd (bW au)) (aA (hU 5 jp.nd (bW au)) (aA (dB dy rfl (kG rfl V.z_range (aj (aG (dC (iG V) hr (aj (ah 0) (aj ar (aj (DO.de (bW (aj ar au))) au))) ln3) ar) au)) (aP 6 jp.nd) (aA (o4 (dC (iG V) hr (aj (ah 0) (aj (bu ar (ah 6)) (aj (DO.de (bW (aj ar (aj ar (aj ar (aj ar (aj (dR ar ar) au))))))) au))) ln3) (pA (n:=5) rfl (bM (aP 7 jp.nd) (bM (aP 8 jp.nd) (bM (aP 9 jp.nd) (bM (aP 10 jp.nd) (bM (aP 11 jp.nd) eE))))))) (aA (bB 7 jp.nd (aG (aG (ah 1) (cM (ah 7) (bI cX rfl V.z_len (by rfl) (aj (ah 1) au)))) ar)) (aA (bB 12 jp.nd (cY (aj (ah 7) (aj (dC (mE V) hr (aj (lA (ah 2) ar) (aj (ah 8) au)) ln2) (aj (dC (mE V) hr (aj (lA (ah 2) ar) (aj (ah 9) au)) ln2) au))))) (aE (bD (Du 5 (b7 (zS (dJ hr)) (ah 12) (ah 5) (by rfl))) (aA (fu 5 (ah 12)) (aE (fu 4 (BE (ah 12) (cY (aj (bu ar (cM (ah 11) (bI (oZ rfl) rfl V.z_min (by rfl) (aj (ah 3) (aj (aG (DO.de (bW (aj ar (aj (dR ar ar) au)))) (ah 10)) au))))) au)))))) bF)))))) (jh 4 (aE (aR (ah 4)))))))
theorem Qm:Cal (Gam C_Shop) P w K mg base "_law_links" 3 2 tV:=
 V.d6.cal (k:=1) jZ (bn fun _ _ _ _ _ _ _=>rfl) fun f cdv A outer s H E hr=>
  (aA (hU 3 jZ.nd (bW au)) (aA (hU 4 jZ.nd (bW au)) (aA (dB dy rfl (kG rfl V.z_range (aj (aG (dC (iG V) hr (aj (ah 0) (aj ar (aj (DO.de (bW (aj ar (aj ar au)))) au))) ln3) ar) au)) (aP 5 jZ.nd) (aA (o4 (dC (iG V) hr (aj (ah 0) (aj (bu ar (ah 5)) (aj (DO.de (bW (aj ar (aj ar (aj ar (aj (dR ar ar) au)))))) au))) ln3) (pA (n:=4) rfl (bM (aP 6 jZ.nd) (bM (aP 7 jZ.nd) (bM (aP 8 jZ.nd) (bM (aP 9 jZ.nd) eE)))))) (aA (bB 6 jZ.nd (aG (aG (ah 1) (cM (ah 6) (bI cX rfl V.z_len (by rfl) (aj (ah 1) au)))) ar)) (aA (bB 7 jZ.nd (aG (aG (ah 1) (cM (ah 7) (bI cX rfl V.z_len (by rfl) (aj (ah 1) au)))) ar)) (aE (bD (Du 4 (DW.dt (rg (b7 (nQ (kT hr)) (ah 6) (ah 7) (bX _)) (p6 (b7 (zS (dJ hr)) (cY (aj (ah 6) (aj (ah 7) au))) (ah 4) (by rfl)))))) (aA (fu 4 (cY (aj (ah 6) (aj (ah 7) au)))) (aE (fu 3 (cY (aj (ah 6) (aj (ah 7) (aj (cM (ah 9) (bI (oZ rfl) rfl V.z_min (by rfl) (aj (bu (ah 2) ar) (aj (aG (DO.de (bW (aj ar (aj ar (aj (bu (dR ar ar) ar) au))))) (ah 8)) au)))) au))))))) bF)))))) (jh 3 (aE (aR (ah 3)))))))
theorem OD:Cal (Gam C_Shop) P w K mg base "_law_stocks" 3 2 ub:=
 V.d7.cal (k:=1) fT (bn fun _ _ _ _ _ _ _=>rfl) fun f cdv A outer s H E hr=>
  (aA (hU 3 fT.nd (bW au)) (aA (dB dy rfl (kG rfl V.z_range (aj (aG (dC (iG V) hr (aj (ah 0) (aj ar (aj (DO.de (bW (aj ar (aj ar (aj ar au))))) au))) ln3) ar) au)) (aP 4 fT.nd) (aA (bB 5 fT.nd (DO.de (bW (aj ar (aj (bu (dR ar ar) ar) (aj (bu (dR ar ar) ar) (aj (dR ar ar) (aj (dR ar ar) (aj (dR ar ar) au))))))))) (aA (o4 (dC (iG V) hr (aj (ah 0) (aj (bu ar (ah 4)) (aj (ah 5) au))) ln3) (pA (n:=6) rfl (bM (aP 6 fT.nd) (bM (aP 7 fT.nd) (bM (aP 8 fT.nd) (bM (aP 9 fT.nd) (bM (aP 10 fT.nd) (bM (aP 11 fT.nd) eE)))))))) (aA (bB 7 fT.nd (cM (ah 7) (aG (DO.de (bW (aj ar (aj (bu (dR ar ar) ar) au)))) (ah 6)))) (aA (Cd 12 2 fT.nd (lP (lP EH))) (aA (dB dy rfl (nK rfl V.z_enumerate (ah 2)) (gA (n:=2) rfl (bM (aP 13 fT.nd) (bM (aP 14 fT.nd) eE))) (aA (bB 15 fT.nd (bu ar (cM (bu (ah 11) (fA ar (ah 13))) (aG (DO.de (bW (aj ar (aj (dR ar ar) au)))) (ah 6))))) (aA (bD (b7 ee (cM (xo (ah 9) (ah 13)) ar) ar (bX _)) (aE (t8 12 ar (cY (aj (aG (ah 14) ar) (aj (ah 15) au))))) bF) (aE (bD (b7 ee (cM (xo (ah 10) (ah 13)) ar) ar (bX _)) (aE (t8 12 ar (cY (aj (aG (ah 14) ar) (aj (ah 15) au))))) bF))))) (aA (bB 16 fT.nd (cY (aj (dC (mE V) hr (aj (bu (ah 1) ar) (aj (ah 4) au)) ln2) (aj (cM (ah 8) (bu (ah 7) ar)) (aj (ah 7) au))))) (xS 12 (aE (fu 3 (BE (ah 16) (cY (aj (aG (ah 12) ar) (aj (wC (aG (ah 12) ar)) au)))))))))))))) (jh 3 (aE (aR (ah 3))))))
theorem Jz:Cal (Gam C_Shop) P w K mg base "_law_shop" 1 3 uD:=
 V.d8.cal (k:=2) gN (bn fun _ _ _ _ _ _ _=>rfl) fun f cdv A outer s H E hr=>
  (aA (o4 (dC (iG V) hr (aj (ah 0) (aj ar (aj (DO.de (bW (aj ar (aj ar (aj ar (aj ar (aj ar (aj (dR ar ar) au)))))))) au))) ln3) (pA (n:=6) rfl (bM (aP 1 gN.nd) (bM (aP 2 gN.nd) (bM (aP 3 gN.nd) (bM (aP 4 gN.nd) (bM (aP 5 gN.nd) (bM (aP 6 gN.nd) eE)))))))) (aA (bB 7 gN.nd (bu ar (cM (ah 6) (aG (DO.de (bW (aj ar (aj ar (aj (dR ar ar) au))))) (ah 5))))) (aA (bB 8 gN.nd (dC (NJ V) hr (aj (ah 0) (aj (ah 1) (aj (bu ar (ah 2)) (aj (ah 7) au)))) ln4)) (aA (bB 9 gN.nd (dC (Qo V) hr (aj (ah 0) (aj (ah 1) (aj (bu ar (cM (ah 4) (aG (DO.de (bW (aj ar (aj ar (aj ar au))))) (ah 3)))) (aj (ah 8) (aj (ah 7) au))))) ln5)) (aA (bB 10 gN.nd (dC (No V) hr (aj (ah 0) (aj (ah 1) (aj (ah 9) (aj (ah 7) au)))) ln4)) (aA (bB 11 gN.nd (dC (Ln V) hr (aj (ah 0) (aj (ah 8) (aj (ah 1) (aj (ah 7) au)))) ln4)) (aA (bB 12 gN.nd (dC (Qm V) hr (aj (ah 0) (aj (ah 9) (aj (ah 7) au))) ln3)) (aA (bB 13 gN.nd (dC (OD V) hr (aj (ah 0) (aj (ah 1) (aj (ah 9) au))) ln3)) (aE (aR (DO.de (bW (aj (ah 8) (aj (ah 9) (aj (ah 10) (aj (ah 11) (aj (ah 12) (aj (ah 13) (aj (ah 7) au)))))))))))))))))))
theorem Kv:Cal (Gam C_Shop) P w K mg base "_law_rows" 1 1 t0:=
 V.d9.cal (k:=0) c7 (bn fun _ _ _ _ _ _ _=>rfl) fun f cdv A outer s H E hr=>
  (aA (hU 1 c7.nd (bW (aj (bu bL (c5 iB rfl V.z_str (by rfl) (aj (aG (ah 0) ar) au))) au))) (aA (dB dy rfl (bZ (aG (ah 0) ar)) (gA (n:=2) rfl (bM (aP 2 c7.nd) (bM (aP 3 c7.nd) eE))) (aA (lz 4 c7.nd rfl (CompScope.of rfl rfl) (FvOk.of (N':=["_law_b","_law_e"]) (fv:=[ac,ac]) rfl) (bZ (ah 3)) ⟨fun _ _ _ _ _=>⟨(gA (n:=2) rfl (bM (aP 0 (show(["_law_b","_law_e"]:ab ai).Nodup by decide +kernel)) (bM (aP 1 (show(["_law_b","_law_e"]:ab ai).Nodup by decide +kernel)) eE))),cq,(bu (bu (c5 iB rfl V.z_str (by rfl) (aj (ah 0) au)) bL) (c5 iB rfl V.z_str (by rfl) (aj (ah 1) au)))⟩⟩) (aE (fu 1 (kg lr rZ sg nO bL (aj (bu (DO.de (bW (aj bL (aj (ah 2) au)))) (ah 4)) au)))))) (aA (dB dy rfl (bZ (aG (ah 0) ar)) (gA (n:=3) rfl (bM (aP 2 c7.nd) (bM (aP 5 c7.nd) (bM (aP 6 c7.nd) eE)))) (aA (lz 4 c7.nd rfl (CompScope.of rfl rfl) (FvOk.of (N':=["_law_bench","_law_length"]) (fv:=[ac,ac]) rfl) (bZ (ah 6)) ⟨fun _ _ _ _ _=>⟨(gA (n:=2) rfl (bM (aP 0 (show(["_law_bench","_law_length"]:ab ai).Nodup by decide +kernel)) (bM (aP 1 (show(["_law_bench","_law_length"]:ab ai).Nodup by decide +kernel)) eE))),cq,(bu (bu (ah 0) bL) (c5 iB rfl V.z_str (by rfl) (aj (ah 1) au)))⟩⟩) (aE (fu 1 (kg lr rZ sg nO bL (aj (bu (DO.de (bW (aj bL (aj (ah 2) (aj (ah 5) au))))) (ah 4)) au)))))) (aA (dB dy rfl (bZ (aG (ah 0) ar)) (gA (n:=5) rfl (bM (aP 2 c7.nd) (bM (aP 7 c7.nd) (bM (aP 8 c7.nd) (bM (aP 9 c7.nd) (bM (aP 10 c7.nd) eE)))))) (aA (bB 4 c7.nd (DO.de (bW (aj bL (aj (ah 2) (aj (c5 iB rfl V.z_str (by rfl) (aj (ah 7) au)) (aj (c5 iB rfl V.z_str (by rfl) (aj (ah 8) au)) au))))))) (aE (fu 1 (kg lr rZ sg nO bL (aj (bu (bu (ah 4) (DO.de (bW (aj (aG (DO.de (bW (aj bL (aj bL au)))) (c5 JJ rfl V.z_int (by rfl) (aj (ah 9) au))) au)))) (ah 10)) au)))))) (aA (dB dy rfl (bZ (aG (ah 0) ar)) (aP 11 c7.nd) (aE (fu 1 (kg lr rZ sg nO bL (aj (bu (bu (DO.de (bW (aj bL au))) (c5 Hb rfl V.z_list (by rfl) (aj (fB (ah 11) iC (dA ar)) au))) (DO.de (bW (aj (c5 iB rfl V.z_str (by rfl) (aj (aG (ah 11) ar) au)) au)))) au))))) (aA (dB dy rfl (bZ (aG (ah 0) ar)) (gA (n:=3) rfl (bM (aP 12 c7.nd) (bM (aP 13 c7.nd) (bM (aP 14 c7.nd) eE)))) (aE (fu 1 (bu (bu (bu (bu (bu bL (ah 12)) bL) (ah 13)) bL) (c5 iB rfl V.z_str (by rfl) (aj (ah 14) au)))))) (aA (dB dy rfl (bZ (aG (ah 0) ar)) (gA (n:=5) rfl (bM (aP 2 c7.nd) (bM (aP 15 c7.nd) (bM (aP 16 c7.nd) (bM (aP 17 c7.nd) (bM (aP 18 c7.nd) eE)))))) (aA (bB 4 c7.nd (DO.de (bW (aj bL (aj (ah 2) (aj (c5 iB rfl V.z_str (by rfl) (aj (ah 15) au)) (aj (c5 iB rfl V.z_str (by rfl) (aj (ah 16) au)) au))))))) (aA (bB 4 c7.nd (bu (ah 4) (DO.de (cP rfl (CompScope.of rfl rfl) (FvOk.of (N':=["_law_step","_law_amount"]) (fv:=[ac,ac]) rfl) (bZ (ah 17)) ⟨fun _ _ _ _ _=>⟨(gA (n:=2) rfl (bM (aP 0 (show(["_law_step","_law_amount"]:ab ai).Nodup by decide +kernel)) (bM (aP 1 (show(["_law_step","_law_amount"]:ab ai).Nodup by decide +kernel)) eE))),cq,(bu (bu (ah 0) bL) (c5 iB rfl V.z_str (by rfl) (aj (ah 1) au)))⟩⟩)))) (aA (bB 4 c7.nd (bu (ah 4) (DO.de (cP rfl (CompScope.of rfl rfl) (FvOk.of (N':=["_law_step","_law_amount"]) (fv:=[ac,ac]) rfl) (bZ (ah 18)) ⟨fun _ _ _ _ _=>⟨(gA (n:=2) rfl (bM (aP 0 (show(["_law_step","_law_amount"]:ab ai).Nodup by decide +kernel)) (bM (aP 1 (show(["_law_step","_law_amount"]:ab ai).Nodup by decide +kernel)) eE))),cq,(bu (bu (ah 0) bL) (c5 iB rfl V.z_str (by rfl) (aj (ah 1) au)))⟩⟩)))) (aE (fu 1 (kg lr rZ sg nO bL (aj (ah 4) au)))))))) (jh 1 (aE (aR (ah 1)))))))))))
theorem Pz:Cal (Gam C_Shop) P w K mg base "_law_order" 2 1 yk:=
 V.d10.cal (k:=0) kJ (bn fun _ _ _ _ _ _ _=>rfl) fun f cdv A outer s H E hr=>
  (aA (bB 2 kJ.nd (cM (ah 1) ar)) (aA (bB 3 kJ.nd (cM (lA (ah 1) ar) (ah 0))) (aA (bB 4 kJ.nd (BR rfl rfl V.z_list rfl V.z_range (ah 0))) (aA (bD (b7 ee (ah 2) ar (bX _)) (aE (bB 4 kJ.nd (wC (ah 4)))) bF) (aA (bD (b7 pT (ah 2) ar (bX _)) (aA (bB 5 kJ.nd (aG (DO.de (bW (aj ar (aj ar au)))) (BP (ah 2) ar))) (aA (bB 4 kJ.nd (DO.de (bW au))) (aE (dB dy rfl (kG rfl V.z_range (aj (ah 5) au)) (aP 6 kJ.nd) (aE (bB 4 kJ.nd (bu (ah 4) (I0 (BR rfl rfl V.z_list rfl V.z_range (ah 0)) (ah 6) (ah 5))))))))) bF) (aE (aR (bu (fB (ah 4) (dA (ah 3)) iC) (fB (ah 4) iC (dA (ah 3)))))))))))
theorem Ih:Cal (Gam C_Shop) P w K mg base "_law_due" 2 1 yx:=
 V.d11.cal (k:=0) mm (bn fun _ _ _ _ _ _ _=>rfl) fun f cdv A outer s H E hr=>
  (aA (Cd 2 6 mm.nd (lP (lP (lP (lP (lP (lP EH))))))) (aA (bB 3 mm.nd (DO.de (bW (aj dN au)))) (aA (dB dy rfl (nK rfl V.z_enumerate (fB (ah 0) iC (dA ar))) (gA (n:=2) rfl (bM (aP 4 mm.nd) (bM (aP 5 mm.nd) eE))) (aE (bB 3 mm.nd (bu (ah 3) (DO.de (cP rfl (CompScope.of rfl rfl) (FvOk.of (N':=["_law_one","_law_kind"]) (fv:=[ac,aa 4]) rfl) (bZ (ah 5)) ⟨fun _ _ _ _ _=>⟨(aP 0 (show(["_law_one","_law_kind"]:ab ai).Nodup by decide +kernel)),cq,(cY (aj (ah 1) (aj (ah 0) au)))⟩⟩)))))) (aA (dB dy rfl (bZ (ah 1)) (aP 6 mm.nd) (aE (bD (b7 Db (aG (ah 3) (ah 6)) dN (bX _)) (aE (t8 2 (aG (aG (ah 3) (ah 6)) ar) (aG (aG (ah 3) (ah 6)) ar))) bF))) (xS 2 (aE (aR (bu (ah 2) (DO.de (bW (aj (aG (ah 0) ar) au)))))))))))
theorem Hy:Cal (Gam C_Shop) P w K mg base "is_numeral" 1 1 ya:=
 V.d12.cal (k:=0) IG (bn fun _ _ _ _ _ _ _=>rfl) fun f cdv A outer s H E hr=>
  (aA (bD (DW.dt (cj (b7 ee (ah 0) bL (bX _)) (cN (DW.dt (rg (b7 ee (aG (ah 0) ar) bL (bX _)) (p6 (b7 mz (ah 0) bL (bX _)))))))) (aE (aR eF)) bF) (aE (aR (bI (gf rfl) rfl V.z_all (by rfl) (aj (DO.de (cP rfl (CompScope.of rfl rfl) (FvOk.of (N':=["sign"]) (fv:=[ac]) rfl) (Dn (ah 0)) ⟨fun _ _ _ _ _=>⟨(aP 0 (show(["sign"]:ab ai).Nodup by decide +kernel)),cq,(gP C2 (ah 0) (Nm rfl V.k_FIGURES) (by rfl))⟩⟩)) au)))))
theorem p9:Cal (Gam C_Shop) P w K mg base "is_number" 1 2 lO:=
 V.d13.cal (k:=1) Hr (bn fun _ _ _ _ _ _ _=>rfl) fun f cdv A outer s H E hr=>
  (aE (aR (eM (gP kh (bI cX rfl V.z_len (by rfl) (aj (ah 0) au)) (hV rfl V.k_MOST_FIGURES) (bX _)) (fV (dC (Hy V) hr (aj (ah 0) au) ln1)))))
theorem OO:Cal (Gam C_Shop) P w K mg base "read_horizon" 1 3 su:=
 V.d14.cal (k:=2) LW (bn fun _ _ _ _ _ _ _=>rfl) fun f cdv A outer s H E hr=>
  (aA (bD (DW.dt (cj (b7 mz (bI cX rfl V.z_len (by rfl) (aj (ah 0) au)) ar (bX _)) (cN (bJ (bC (dC (p9 V) hr (aj (aG (ah 0) ar) au) ln1)))))) (aE (aR dN)) bF) (aE (aR (c5 j8 rfl V.z_int (by rfl) (aj (aG (ah 0) ar) au)))))
theorem xa:Cal (Gam C_Shop) P w K mg base "are_numbers" 1 3 pL:=
 V.d15.cal (k:=2) Nc (bn fun _ _ _ _ _ _ _=>rfl) fun f cdv A outer s H E hr=>
  (aE (aR (bI (gf rfl) rfl V.z_all (by rfl) (aj (DO.de (cP rfl (CompScope.of rfl rfl) (FvOk.of (N':=["word"]) (fv:=[ac]) rfl) (bZ (ah 0)) ⟨fun _ _ _ _ _=>⟨(aP 0 (show(["word"]:ab ai).Nodup by decide +kernel)),cq,(dC (p9 V) hr (aj (ah 0) au) ln1)⟩⟩)) au))))
theorem Pn:Cal (Gam C_Shop) P w K mg base "read_break" 1 4 wE:=
 V.d16.cal (k:=3) AC (bn fun _ _ _ _ _ _ _=>rfl) fun f cdv A outer s H E hr=>
  (aA (bB 1 AC.nd (kg lr oG zH sT (ah 0) (aj bL au))) (aA (bD (DW.dt (cj (b7 mz (bI cX rfl V.z_len (by rfl) (aj (ah 1) au)) ar (bX _)) (cN (bJ (bC (dC (xa V) hr (aj (ah 1) au) ln1)))))) (aE (aR dN)) bF) (aE (aR (cY (aj (c5 j8 rfl V.z_int (by rfl) (aj (aG (ah 1) ar) au)) (aj (c5 j8 rfl V.z_int (by rfl) (aj (aG (ah 1) ar) au)) au)))))))
theorem ie:Cal (Gam C_Shop) P w K mg base "is_name" 1 1 f8:=
 V.d17.cal (k:=0) MS (bn fun _ _ _ _ _ _ _=>rfl) fun f cdv A outer s H E hr=>
  (aA (bD (DW.dt (cj (bJ (bC (bI gi rfl V.z_isinstance (by rfl) (aj (ah 0) (aj (fJ rfl V.z_str (by rfl)) au))))) (cN (bJ (Ly kh kh ar (bI cX rfl V.z_len (by rfl) (aj (ah 0) au)) (hV rfl V.k_LONGEST_NAME)))))) (aE (aR eF)) bF) (aE (aR (bI (gf rfl) rfl V.z_all (by rfl) (aj (DO.de (cP rfl (CompScope.of rfl rfl) (FvOk.of (N':=["sign"]) (fv:=[ac]) rfl) (Dn (ah 0)) ⟨fun _ _ _ _ _=>⟨(aP 0 (show(["sign"]:ab ai).Nodup by decide +kernel)),cq,(vP kh kh bL (ah 0) bL)⟩⟩)) au)))))
theorem L6:Cal (Gam C_Shop) P w K mg base "read_bench" 1 5 uA:=
 V.d18.cal (k:=4) Aw (bn fun _ _ _ _ _ _ _=>rfl) fun f cdv A outer s H E hr=>
  (aA (lz 1 Aw.nd rfl (CompScope.of rfl rfl) (FvOk.of (N':=["word"]) (fv:=[ac]) rfl) (bZ (fB (ah 0) (dA ar) iC)) ⟨fun _ _ _ _ _=>⟨(aP 0 (show(["word"]:ab ai).Nodup by decide +kernel)),cq,(dC (Pn V) hr (aj (ah 0) au) ln1)⟩⟩) (aA (bD (DW.dt (cj (b7 kt (bI cX rfl V.z_len (by rfl) (aj (ah 0) au)) ar (bX _)) (cj (bJ (bC (dC (ie V) hr (aj (aG (ah 0) ar) au) ln1))) (cN (b7 (pU (dJ hr)) dN (ah 1) (by rfl)))))) (aE (aR dN)) bF) (aE (aR (cY (aj (aG (ah 0) ar) (aj (ah 1) au)))))))
theorem yy:Cal (Gam C_Shop) P w K mg base "read_named_number" 2 3 o0:=
 V.d19.cal (k:=2) Ct (bn fun _ _ _ _ _ _ _=>rfl) fun f cdv A outer s H E hr=>
  (aA (bB 2 Ct.nd (kg lr oG zH sT (ah 0) (aj (ah 1) au))) (aA (bD (DW.dt (cj (b7 mz (bI cX rfl V.z_len (by rfl) (aj (ah 2) au)) ar (bX _)) (cj (bJ (bC (dC (ie V) hr (aj (aG (ah 2) ar) au) ln1))) (cN (bJ (bC (dC (p9 V) hr (aj (aG (ah 2) ar) au) ln1))))))) (aE (aR dN)) bF) (aE (aR (cY (aj (aG (ah 2) ar) (aj (c5 j8 rfl V.z_int (by rfl) (aj (aG (ah 2) ar) au)) au)))))))
theorem tj:Cal (Gam C_Shop) P w K mg base "are_names" 1 2 nP:=
 V.d20.cal (k:=1) Qh (bn fun _ _ _ _ _ _ _=>rfl) fun f cdv A outer s H E hr=>
  (aE (aR (bI (gf rfl) rfl V.z_all (by rfl) (aj (DO.de (cP rfl (CompScope.of rfl rfl) (FvOk.of (N':=["word"]) (fv:=[ac]) rfl) (bZ (ah 0)) ⟨fun _ _ _ _ _=>⟨(aP 0 (show(["word"]:ab ai).Nodup by decide +kernel)),cq,(dC (ie V) hr (aj (ah 0) au) ln1)⟩⟩)) au))))
theorem Mp:Cal (Gam C_Shop) P w K mg base "read_step" 1 4 sA:=
 V.d21.cal (k:=3) Af (bn fun _ _ _ _ _ _ _=>rfl) fun f cdv A outer s H E hr=>
  (aA (lz 1 Af.nd rfl (CompScope.of rfl rfl) (FvOk.of (N':=["word"]) (fv:=[ac]) rfl) (bZ (fB (ah 0) (dA ar) iC)) ⟨fun _ _ _ _ _=>⟨(aP 0 (show(["word"]:ab ai).Nodup by decide +kernel)),cq,(dC (yy V) hr (aj (ah 0) (aj bL au)) ln2)⟩⟩) (aA (bD (DW.dt (cj (b7 kt (bI cX rfl V.z_len (by rfl) (aj (ah 0) au)) ar (bX _)) (cj (bJ (bC (dC (tj V) hr (aj (fB (ah 0) (dA ar) (dA ar)) au) ln1))) (cN (b7 (pU (dJ hr)) dN (ah 1) (by rfl)))))) (aE (aR dN)) bF) (aE (aR (cY (aj (aG (ah 0) ar) (aj (aG (ah 0) ar) (aj (ah 1) au))))))))
theorem O8:Cal (Gam C_Shop) P w K mg base "read_job" 1 4 tu:=
 V.d22.cal (k:=3) Ja (bn fun _ _ _ _ _ _ _=>rfl) fun f cdv A outer s H E hr=>
  (aA (bD (DW.dt (cj (b7 kt (bI cX rfl V.z_len (by rfl) (aj (ah 0) au)) ar (bX _)) (cj (bJ (bC (dC (ie V) hr (aj (aG (ah 0) ar) au) ln1))) (cN (bJ (bC (dC (xa V) hr (aj (fB (ah 0) (dA ar) (dA ar)) au) ln1))))))) (aE (aR dN)) bF) (aA (bD (DW.dt (cj (b7 (GR (dJ hr)) (aG (ah 0) ar) (cY (aj bL (aj bL au))) (by rfl)) (cN (bJ (bC (dC (tj V) hr (aj (fB (ah 0) (dA ar) iC) au) ln1)))))) (aE (aR dN)) bF) (aE (aR (cY (aj (aG (ah 0) ar) (aj (c5 j8 rfl V.z_int (by rfl) (aj (aG (ah 0) ar) au)) (aj (c5 j8 rfl V.z_int (by rfl) (aj (aG (ah 0) ar) au)) (aj (gP ee (aG (ah 0) ar) bL (bX _)) (aj (fB (ah 0) (dA ar) iC) au))))))))))
theorem Nx:Cal (Gam C_Shop) P w K mg base "read_setup" 1 3 sO:=
 V.d23.cal (k:=2) JC (bn fun _ _ _ _ _ _ _=>rfl) fun f cdv A outer s H E hr=>
  (aA (bD (DW.dt (cj (b7 mz (bI cX rfl V.z_len (by rfl) (aj (ah 0) au)) ar (bX _)) (cj (bJ (bC (dC (tj V) hr (aj (fB (ah 0) (dA ar) (dA ar)) au) ln1))) (cN (bJ (bC (dC (p9 V) hr (aj (aG (ah 0) ar) au) ln1))))))) (aE (aR dN)) bF) (aE (aR (cY (aj (aG (ah 0) ar) (aj (aG (ah 0) ar) (aj (aG (ah 0) ar) (aj (c5 j8 rfl V.z_int (by rfl) (aj (aG (ah 0) ar) au)) au))))))))
theorem Oc:Cal (Gam C_Shop) P w K mg base "read_link" 1 3 uw:=
 V.d24.cal (k:=2) Po (bn fun _ _ _ _ _ _ _=>rfl) fun f cdv A outer s H E hr=>
  (aA (bD (DW.dt (cj (b7 mz (bI cX rfl V.z_len (by rfl) (aj (ah 0) au)) ar (bX _)) (cj (bJ (bC (dC (tj V) hr (aj (fB (ah 0) (dA ar) (dA ar)) au) ln1))) (cN (bJ (bC (dC (p9 V) hr (aj (aG (ah 0) ar) au) ln1))))))) (aE (aR dN)) bF) (aE (aR (cY (aj (aG (ah 0) ar) (aj (aG (ah 0) ar) (aj (c5 j8 rfl V.z_int (by rfl) (aj (aG (ah 0) ar) au)) au)))))))
theorem Lc:Cal (Gam C_Shop) P w K mg base "read_stock" 1 4 tF:=
 V.d25.cal (k:=3) oY (bn fun _ _ _ _ _ _ _=>rfl) fun f cdv A outer s H E hr=>
  (aA (bD (DW.dt (cj (b7 kt (bI cX rfl V.z_len (by rfl) (aj (ah 0) au)) ar (bX _)) (cj (bJ (bC (dC (ie V) hr (aj (aG (ah 0) ar) au) ln1))) (cN (bJ (bC (dC (xa V) hr (aj (fB (ah 0) (dA ar) (dA ar)) au) ln1))))))) (aE (aR dN)) bF) (aA (bB 1 oY.nd ar) (aA (OB 200 dy (DW.dt (rg (b7 kt (ah 1) (bI cX rfl V.z_len (by rfl) (aj (ah 0) au)) (bX _)) (p6 (b7 C2 bL (aG (ah 0) (ah 1)) (by rfl))))) (aE (bB 1 oY.nd (bu (ah 1) ar)))) (aA (lz 2 oY.nd rfl (CompScope.of rfl rfl) (FvOk.of (N':=["word"]) (fv:=[ac]) rfl) (bZ (fB (ah 0) (dA ar) (dA (ah 1)))) ⟨fun _ _ _ _ _=>⟨(aP 0 (show(["word"]:ab ai).Nodup by decide +kernel)),cq,(dC (yy V) hr (aj (ah 0) (aj bL au)) ln2)⟩⟩) (aA (lz 3 oY.nd rfl (CompScope.of rfl rfl) (FvOk.of (N':=["word"]) (fv:=[ac]) rfl) (bZ (fB (ah 0) (dA (ah 1)) iC)) ⟨fun _ _ _ _ _=>⟨(aP 0 (show(["word"]:ab ai).Nodup by decide +kernel)),cq,(dC (yy V) hr (aj (ah 0) (aj bL au)) ln2)⟩⟩) (aA (bD (DW.dt (cj (b7 (pU (dJ hr)) dN (ah 2) (by rfl)) (cN (b7 (pU (dJ hr)) dN (ah 3) (by rfl))))) (aE (aR dN)) bF) (aE (aR (cY (aj (aG (ah 0) ar) (aj (c5 j8 rfl V.z_int (by rfl) (aj (aG (ah 0) ar) au)) (aj (c5 j8 rfl V.z_int (by rfl) (aj (aG (ah 0) ar) au)) (aj (ah 2) (aj (ah 3) au))))))))))))))
theorem J1:Cal (Gam C_Shop) P w K mg base "read_row" 1 6 iY:=
 V.d26.cal (k:=5) MU (bn fun _ _ _ _ _ _ _=>rfl) fun f cdv A outer s H E hr=>
  (aA (bD (b7 ee (aG (ah 0) ar) bL (bX _)) (aE (aR (dC (OO V) hr (aj (ah 0) au) ln1))) bF) (aA (bD (b7 ee (aG (ah 0) ar) bL (bX _)) (aE (aR (dC (L6 V) hr (aj (ah 0) au) ln1))) bF) (aA (bD (b7 ee (aG (ah 0) ar) bL (bX _)) (aE (aR (dC (Mp V) hr (aj (ah 0) au) ln1))) bF) (aA (bD (b7 ee (aG (ah 0) ar) bL (bX _)) (aE (aR (dC (O8 V) hr (aj (ah 0) au) ln1))) bF) (aA (bD (b7 ee (aG (ah 0) ar) bL (bX _)) (aE (aR (dC (Nx V) hr (aj (ah 0) au) ln1))) bF) (aA (bD (b7 ee (aG (ah 0) ar) bL (bX _)) (aE (aR (dC (Oc V) hr (aj (ah 0) au) ln1))) bF) (aA (bD (b7 ee (aG (ah 0) ar) bL (bX _)) (aE (aR (dC (Lc V) hr (aj (ah 0) au) ln1))) bF) (aE (aR dN)))))))))
theorem LS:Cal (Gam C_Shop) P w K mg base "is_whole" 1 1 sN:=
 V.d27.cal (k:=0) JA (bn fun _ _ _ _ _ _ _=>rfl) fun f cdv A outer s H E hr=>
  (aE (aR (eM (bI gi rfl V.z_isinstance (by rfl) (aj (ah 0) (aj (fJ rfl V.z_int (by rfl)) au))) (fV (Oo (bI gi rfl V.z_isinstance (by rfl) (aj (ah 0) (aj (fJ rfl V.z_bool (by rfl)) au))))))))
theorem je:Cal (Gam C_Shop) P w K mg base "is_within" 3 2 gL:=
 V.d28.cal (k:=1) IF (bn fun _ _ _ _ _ _ _=>rfl) fun f cdv A outer s H E hr=>
  (aE (aR (eM (dC (LS V) hr (aj (ah 0) au) ln1) (fV (vP kh kh (ah 1) (ah 0) (ah 2))))))
theorem kX:Cal (Gam C_Shop) P w K mg base "is_tuple" 2 1 fZ:=
 V.d29.cal (k:=0) Kb (bn fun _ _ _ _ _ _ _=>rfl) fun f cdv A outer s H E hr=>
  (aE (aR (eM (bI gi rfl V.z_isinstance (by rfl) (aj (ah 0) (aj (fJ rfl V.z_tuple (by rfl)) au))) (fV (gP ee (bI cX rfl V.z_len (by rfl) (aj (ah 0) au)) (ah 1) (bX _))))))
theorem JN:Cal (Gam C_Shop) P w K mg base "is_break" 2 3 sL:=
 V.d30.cal (k:=2) LD (bn fun _ _ _ _ _ _ _=>rfl) fun f cdv A outer s H E hr=>
  (aA (bD (DW.dt (cj (bJ (bC (dC (kX V) hr (aj (ah 0) (aj ar au)) ln2))) (cj (bJ (bC (dC (je V) hr (aj (aG (ah 0) ar) (aj ar (aj (ah 1) au))) ln3))) (cN (bJ (bC (dC (je V) hr (aj (aG (ah 0) ar) (aj ar (aj (ah 1) au))) ln3))))))) (aE (aR eF)) bF) (aE (aR (gP kt (aG (ah 0) ar) (aG (ah 0) ar) (bX _)))))
theorem jM:Cal (Gam C_Shop) P w K mg base "is_list" 3 1 g8:=
 V.d31.cal (k:=0) La (bn fun _ _ _ _ _ _ _=>rfl) fun f cdv A outer s H E hr=>
  (aE (aR (eM (bI gi rfl V.z_isinstance (by rfl) (aj (ah 0) (aj (fJ rfl V.z_list (by rfl)) au))) (fV (vP kh kh (ah 1) (bI cX rfl V.z_len (by rfl) (aj (ah 0) au)) (ah 2))))))
theorem Ld:Cal (Gam C_Shop) P w K mg base "are_breaks" 2 4 xT:=
 V.d32.cal (k:=3) Jm (bn fun _ _ _ _ _ _ _=>rfl) fun f cdv A outer s H E hr=>
  (aA (bD (DW.dt (cj (bJ (bC (dC (jM V) hr (aj (ah 0) (aj ar (aj (hV rfl V.k_MOST_BREAKS) au))) ln3))) (cN (bJ (bC (bI (gf rfl) rfl V.z_all (by rfl) (aj (DO.de (cP rfl (CompScope.of rfl rfl) (FvOk.of (N':=["row","horizon"]) (fv:=[ac,aa 1]) rfl) (bZ (ah 0)) ⟨fun _ _ _ _ _=>⟨(aP 0 (show(["row","horizon"]:ab ai).Nodup by decide +kernel)),cq,(dC (JN V) hr (aj (ah 0) (aj (ah 1) au)) ln2)⟩⟩)) au))))))) (aE (aR eF)) bF) (aE (aR (bI (gf rfl) rfl V.z_all (by rfl) (aj (DO.de (cP rfl (CompScope.of rfl rfl) (FvOk.of (N':=["place","breaks"]) (fv:=[ac,aa 0]) rfl) (K3 rfl V.z_range (aj ar (aj (bI cX rfl V.z_len (by rfl) (aj (ah 0) au)) au))) ⟨fun _ _ _ _ _=>⟨(aP 0 (show(["place","breaks"]:ab ai).Nodup by decide +kernel)),cq,(gP kt (aG (aG (ah 1) (BP (ah 0) ar)) ar) (aG (aG (ah 1) (ah 0)) ar) (bX _))⟩⟩)) au)))))
theorem JZ:Cal (Gam C_Shop) P w K mg base "is_bench" 2 5 sS:=
 V.d33.cal (k:=4) Lu (bn fun _ _ _ _ _ _ _=>rfl) fun f cdv A outer s H E hr=>
  (aE (aR (eM (dC (kX V) hr (aj (ah 0) (aj ar au)) ln2) (eM (dC (ie V) hr (aj (aG (ah 0) ar) au) ln1) (fV (dC (Ld V) hr (aj (aG (ah 0) ar) (aj (ah 1) au)) ln2))))))
theorem kA:Cal (Gam C_Shop) P w K mg base "are_unlike" 1 1 fG:=
 V.d34.cal (k:=0) JE (bn fun _ _ _ _ _ _ _=>rfl) fun f cdv A outer s H E hr=>
  (aE (aR (gP ee (Iz rfl (dJ hr) rfl V.z_len rfl V.z_set (ah 0)) (bI cX rfl V.z_len (by rfl) (aj (ah 0) au)) (bX _))))
theorem Il:Cal (Gam C_Shop) P w K mg base "are_benches" 2 6 wn:=
 V.d35.cal (k:=5) Np (bn fun _ _ _ _ _ _ _=>rfl) fun f cdv A outer s H E hr=>
  (aA (bD (DW.dt (cj (bJ (bC (dC (jM V) hr (aj (ah 0) (aj ar (aj (hV rfl V.k_MOST_BENCHES) au))) ln3))) (cN (bJ (bC (bI (gf rfl) rfl V.z_all (by rfl) (aj (DO.de (cP rfl (CompScope.of rfl rfl) (FvOk.of (N':=["row","horizon"]) (fv:=[ac,aa 1]) rfl) (bZ (ah 0)) ⟨fun _ _ _ _ _=>⟨(aP 0 (show(["row","horizon"]:ab ai).Nodup by decide +kernel)),cq,(dC (JZ V) hr (aj (ah 0) (aj (ah 1) au)) ln2)⟩⟩)) au))))))) (aE (aR eF)) bF) (aE (aR (dC (kA V) hr (aj (DO.de (cP rfl (CompScope.of rfl rfl) (FvOk.of (N':=["row"]) (fv:=[ac]) rfl) (bZ (ah 0)) ⟨fun _ _ _ _ _=>⟨(aP 0 (show(["row"]:ab ai).Nodup by decide +kernel)),cq,(aG (ah 0) ar)⟩⟩)) au) ln1))))
theorem nL:Cal (Gam C_Shop) P w K mg base "is_one_of" 2 2 kS:=
 V.d36.cal (k:=1) Oa (bn fun _ _ _ _ _ _ _=>rfl) fun f cdv A outer s H E hr=>
  (aE (aR (eM (dC (ie V) hr (aj (ah 0) au) ln1) (fV (gP (pU (dJ hr)) (ah 0) (ah 1) (by rfl))))))
theorem Lq:Cal (Gam C_Shop) P w K mg base "is_way" 3 3 sX:=
 V.d37.cal (k:=2) MV (bn fun _ _ _ _ _ _ _=>rfl) fun f cdv A outer s H E hr=>
  (aE (aR (eM (dC (kX V) hr (aj (ah 0) (aj ar au)) ln2) (eM (dC (nL V) hr (aj (aG (ah 0) ar) (aj (ah 1) au)) ln2) (fV (dC (je V) hr (aj (aG (ah 0) ar) (aj ar (aj (ah 2) au))) ln3))))))
theorem L8:Cal (Gam C_Shop) P w K mg base "are_ways" 3 4 xj:=
 V.d38.cal (k:=3) Ot (bn fun _ _ _ _ _ _ _=>rfl) fun f cdv A outer s H E hr=>
  (aA (bD (DW.dt (cj (bJ (bC (dC (jM V) hr (aj (ah 0) (aj ar (aj (hV rfl V.k_MOST_WAYS) au))) ln3))) (cN (bJ (bC (bI (gf rfl) rfl V.z_all (by rfl) (aj (DO.de (cP rfl (CompScope.of rfl rfl) (FvOk.of (N':=["row","bench_names","horizon"]) (fv:=[ac,aa 1,aa 2]) rfl) (bZ (ah 0)) ⟨fun _ _ _ _ _=>⟨(aP 0 (show(["row","bench_names","horizon"]:ab ai).Nodup by decide +kernel)),cq,(dC (Lq V) hr (aj (ah 0) (aj (ah 1) (aj (ah 2) au))) ln3)⟩⟩)) au))))))) (aE (aR eF)) bF) (aE (aR (dC (kA V) hr (aj (DO.de (cP rfl (CompScope.of rfl rfl) (FvOk.of (N':=["row"]) (fv:=[ac]) rfl) (bZ (ah 0)) ⟨fun _ _ _ _ _=>⟨(aP 0 (show(["row"]:ab ai).Nodup by decide +kernel)),cq,(aG (ah 0) ar)⟩⟩)) au) ln1))))
theorem OZ:Cal (Gam C_Shop) P w K mg base "is_step" 3 5 tK:=
 V.d39.cal (k:=4) Kz (bn fun _ _ _ _ _ _ _=>rfl) fun f cdv A outer s H E hr=>
  (aA (bD (DW.dt (cj (bJ (bC (dC (kX V) hr (aj (ah 0) (aj ar au)) ln2))) (cj (bJ (bC (dC (ie V) hr (aj (aG (ah 0) ar) au) ln1))) (cN (bJ (bC (dC (ie V) hr (aj (aG (ah 0) ar) au) ln1))))))) (aE (aR eF)) bF) (aE (aR (dC (L8 V) hr (aj (aG (ah 0) ar) (aj (ah 1) (aj (ah 2) au))) ln3))))
theorem Jb:Cal (Gam C_Shop) P w K mg base "are_steps" 3 6 yj:=
 V.d40.cal (k:=5) GQ (bn fun _ _ _ _ _ _ _=>rfl) fun f cdv A outer s H E hr=>
  (aA (bD (DW.dt (cj (bJ (bC (dC (jM V) hr (aj (ah 0) (aj ar (aj (hV rfl V.k_MOST_STEPS) au))) ln3))) (cN (bJ (bC (bI (gf rfl) rfl V.z_all (by rfl) (aj (DO.de (cP rfl (CompScope.of rfl rfl) (FvOk.of (N':=["row","bench_names","horizon"]) (fv:=[ac,aa 1,aa 2]) rfl) (bZ (ah 0)) ⟨fun _ _ _ _ _=>⟨(aP 0 (show(["row","bench_names","horizon"]:ab ai).Nodup by decide +kernel)),cq,(dC (OZ V) hr (aj (ah 0) (aj (ah 1) (aj (ah 2) au))) ln3)⟩⟩)) au))))))) (aE (aR eF)) bF) (aE (aR (dC (kA V) hr (aj (DO.de (cP rfl (CompScope.of rfl rfl) (FvOk.of (N':=["row"]) (fv:=[ac]) rfl) (bZ (ah 0)) ⟨fun _ _ _ _ _=>⟨(aP 0 (show(["row"]:ab ai).Nodup by decide +kernel)),cq,(aG (ah 0) ar)⟩⟩)) au) ln1))))
theorem LY:Cal (Gam C_Shop) P w K mg base "is_job" 3 3 yn:=
 V.d41.cal (k:=2) PN (bn fun _ _ _ _ _ _ _=>rfl) fun f cdv A outer s H E hr=>
  (aA (bD (DW.dt (cj (bJ (bC (dC (kX V) hr (aj (ah 0) (aj ar au)) ln2))) (cj (bJ (bC (dC (ie V) hr (aj (aG (ah 0) ar) au) ln1))) (cN (bJ (bC (bI gi rfl V.z_isinstance (by rfl) (aj (aG (ah 0) ar) (aj (fJ rfl V.z_bool (by rfl)) au))))))))) (aE (aR eF)) bF) (aA (bD (DW.dt (cj (bJ (bC (dC (je V) hr (aj (aG (ah 0) ar) (aj ar (aj (ah 2) au))) ln3))) (cN (bJ (bC (dC (je V) hr (aj (aG (ah 0) ar) (aj ar (aj (ah 2) au))) ln3)))))) (aE (aR eF)) bF) (aE (aR (eM (dC (jM V) hr (aj (aG (ah 0) ar) (aj ar (aj (bI cX rfl V.z_len (by rfl) (aj (ah 1) au)) au))) ln3) (fV (bI (gf rfl) rfl V.z_all (by rfl) (aj (DO.de (cP rfl (CompScope.of rfl rfl) (FvOk.of (N':=["name","step_names"]) (fv:=[ac,aa 1]) rfl) (bZ (aG (ah 0) ar)) ⟨fun _ _ _ _ _=>⟨(aP 0 (show(["name","step_names"]:ab ai).Nodup by decide +kernel)),cq,(dC (nL V) hr (aj (ah 0) (aj (ah 1) au)) ln2)⟩⟩)) au))))))))
theorem Lz:Cal (Gam C_Shop) P w K mg base "are_jobs" 3 4 w9:=
 V.d42.cal (k:=3) vG (bn fun _ _ _ _ _ _ _=>rfl) fun f cdv A outer s H E hr=>
  (aA (bD (DW.dt (cj (bJ (bC (dC (jM V) hr (aj (ah 0) (aj ar (aj (hV rfl V.k_MOST_JOBS) au))) ln3))) (cN (bJ (bC (bI (gf rfl) rfl V.z_all (by rfl) (aj (DO.de (cP rfl (CompScope.of rfl rfl) (FvOk.of (N':=["row","step_names","horizon"]) (fv:=[ac,aa 1,aa 2]) rfl) (bZ (ah 0)) ⟨fun _ _ _ _ _=>⟨(aP 0 (show(["row","step_names","horizon"]:ab ai).Nodup by decide +kernel)),cq,(dC (LY V) hr (aj (ah 0) (aj (ah 1) (aj (ah 2) au))) ln3)⟩⟩)) au))))))) (aE (aR eF)) bF) (aA (hU 3 vG.nd (bW au)) (aA (dB dy rfl (bZ (ah 0)) (aP 4 vG.nd) (aE (MP 3 (aG (ah 4) ar)))) (jh 3 (aE (aR (eM (dC (kA V) hr (aj (DO.de (cP rfl (CompScope.of rfl rfl) (FvOk.of (N':=["row"]) (fv:=[ac]) rfl) (bZ (ah 0)) ⟨fun _ _ _ _ _=>⟨(aP 0 (show(["row"]:ab ai).Nodup by decide +kernel)),cq,(aG (ah 0) ar)⟩⟩)) au) ln1) (fV (dC (kA V) hr (aj (ah 3) au) ln1)))))))))
theorem Ip:Cal (Gam C_Shop) P w K mg base "is_setup" 3 3 tP:=
 V.d43.cal (k:=2) Kp (bn fun _ _ _ _ _ _ _=>rfl) fun f cdv A outer s H E hr=>
  (aA (bD (DW.dt (cj (bJ (bC (dC (kX V) hr (aj (ah 0) (aj ar au)) ln2))) (cN (bJ (bC (dC (nL V) hr (aj (aG (ah 0) ar) (aj (ah 1) au)) ln2)))))) (aE (aR eF)) bF) (aE (aR (eM (dC (ie V) hr (aj (aG (ah 0) ar) au) ln1) (eM (dC (ie V) hr (aj (aG (ah 0) ar) au) ln1) (fV (dC (je V) hr (aj (aG (ah 0) ar) (aj ar (aj (ah 2) au))) ln3)))))))
theorem GC:Cal (Gam C_Shop) P w K mg base "are_setups" 3 4 xu:=
 V.d44.cal (k:=3) KW (bn fun _ _ _ _ _ _ _=>rfl) fun f cdv A outer s H E hr=>
  (aA (bD (DW.dt (cj (bJ (bC (dC (jM V) hr (aj (ah 0) (aj ar (aj (hV rfl V.k_MOST_SETUPS) au))) ln3))) (cN (bJ (bC (bI (gf rfl) rfl V.z_all (by rfl) (aj (DO.de (cP rfl (CompScope.of rfl rfl) (FvOk.of (N':=["row","bench_names","horizon"]) (fv:=[ac,aa 1,aa 2]) rfl) (bZ (ah 0)) ⟨fun _ _ _ _ _=>⟨(aP 0 (show(["row","bench_names","horizon"]:ab ai).Nodup by decide +kernel)),cq,(dC (Ip V) hr (aj (ah 0) (aj (ah 1) (aj (ah 2) au))) ln3)⟩⟩)) au))))))) (aE (aR eF)) bF) (aE (aR (dC (kA V) hr (aj (DO.de (cP rfl (CompScope.of rfl rfl) (FvOk.of (N':=["row"]) (fv:=[ac]) rfl) (bZ (ah 0)) ⟨fun _ _ _ _ _=>⟨(aP 0 (show(["row"]:ab ai).Nodup by decide +kernel)),cq,(fB (ah 0) iC (dA ar))⟩⟩)) au) ln1))))
theorem Mo:Cal (Gam C_Shop) P w K mg base "is_link" 3 3 uy:=
 V.d45.cal (k:=2) M4 (bn fun _ _ _ _ _ _ _=>rfl) fun f cdv A outer s H E hr=>
  (aA (bD (DW.dt (cj (bJ (bC (dC (kX V) hr (aj (ah 0) (aj ar au)) ln2))) (cj (bJ (bC (dC (nL V) hr (aj (aG (ah 0) ar) (aj (ah 1) au)) ln2))) (cN (bJ (bC (dC (nL V) hr (aj (aG (ah 0) ar) (aj (ah 1) au)) ln2))))))) (aE (aR eF)) bF) (aE (aR (eM (gP (nQ (kT hr)) (aG (ah 0) ar) (aG (ah 0) ar) (bX _)) (fV (dC (je V) hr (aj (aG (ah 0) ar) (aj ar (aj (ah 2) au))) ln3))))))
theorem Gq:Cal (Gam C_Shop) P w K mg base "are_links" 3 4 vY:=
 V.d46.cal (k:=3) Qe (bn fun _ _ _ _ _ _ _=>rfl) fun f cdv A outer s H E hr=>
  (aA (bD (DW.dt (cj (bJ (bC (dC (jM V) hr (aj (ah 0) (aj ar (aj (hV rfl V.k_MOST_LINKS) au))) ln3))) (cN (bJ (bC (bI (gf rfl) rfl V.z_all (by rfl) (aj (DO.de (cP rfl (CompScope.of rfl rfl) (FvOk.of (N':=["row","step_names","horizon"]) (fv:=[ac,aa 1,aa 2]) rfl) (bZ (ah 0)) ⟨fun _ _ _ _ _=>⟨(aP 0 (show(["row","step_names","horizon"]:ab ai).Nodup by decide +kernel)),cq,(dC (Mo V) hr (aj (ah 0) (aj (ah 1) (aj (ah 2) au))) ln3)⟩⟩)) au))))))) (aE (aR eF)) bF) (aE (aR (dC (kA V) hr (aj (DO.de (cP rfl (CompScope.of rfl rfl) (FvOk.of (N':=["row"]) (fv:=[ac]) rfl) (bZ (ah 0)) ⟨fun _ _ _ _ _=>⟨(aP 0 (show(["row"]:ab ai).Nodup by decide +kernel)),cq,(fB (ah 0) iC (dA ar))⟩⟩)) au) ln1))))
theorem Jh:Cal (Gam C_Shop) P w K mg base "is_amount" 2 3 uf:=
 V.d47.cal (k:=2) KQ (bn fun _ _ _ _ _ _ _=>rfl) fun f cdv A outer s H E hr=>
  (aE (aR (eM (dC (kX V) hr (aj (ah 0) (aj ar au)) ln2) (eM (dC (nL V) hr (aj (aG (ah 0) ar) (aj (ah 1) au)) ln2) (fV (dC (je V) hr (aj (aG (ah 0) ar) (aj ar (aj (hV rfl V.k_MOST_AMOUNT) au))) ln3))))))
theorem Ef:Cal (Gam C_Shop) P w K mg base "are_amounts" 2 4 tm:=
 V.d48.cal (k:=3) QJ (bn fun _ _ _ _ _ _ _=>rfl) fun f cdv A outer s H E hr=>
  (aA (bD (DW.dt (cj (bJ (bC (dC (jM V) hr (aj (ah 0) (aj ar (aj (bI cX rfl V.z_len (by rfl) (aj (ah 1) au)) au))) ln3))) (cN (bJ (bC (bI (gf rfl) rfl V.z_all (by rfl) (aj (DO.de (cP rfl (CompScope.of rfl rfl) (FvOk.of (N':=["row","step_names"]) (fv:=[ac,aa 1]) rfl) (bZ (ah 0)) ⟨fun _ _ _ _ _=>⟨(aP 0 (show(["row","step_names"]:ab ai).Nodup by decide +kernel)),cq,(dC (Jh V) hr (aj (ah 0) (aj (ah 1) au)) ln2)⟩⟩)) au))))))) (aE (aR eF)) bF) (aE (aR (dC (kA V) hr (aj (DO.de (cP rfl (CompScope.of rfl rfl) (FvOk.of (N':=["row"]) (fv:=[ac]) rfl) (bZ (ah 0)) ⟨fun _ _ _ _ _=>⟨(aP 0 (show(["row"]:ab ai).Nodup by decide +kernel)),cq,(aG (ah 0) ar)⟩⟩)) au) ln1))))
theorem Ky:Cal (Gam C_Shop) P w K mg base "is_stock" 2 5 tY:=
 V.d49.cal (k:=4) Nb (bn fun _ _ _ _ _ _ _=>rfl) fun f cdv A outer s H E hr=>
  (aA (bD (DW.dt (cj (bJ (bC (dC (kX V) hr (aj (ah 0) (aj ar au)) ln2))) (cN (bJ (bC (dC (ie V) hr (aj (aG (ah 0) ar) au) ln1)))))) (aE (aR eF)) bF) (aA (bD (DW.dt (cj (bJ (bC (dC (je V) hr (aj (aG (ah 0) ar) (aj ar (aj (hV rfl V.k_MOST_AMOUNT) au))) ln3))) (cN (bJ (bC (dC (je V) hr (aj (aG (ah 0) ar) (aj ar (aj (aG (ah 0) ar) au))) ln3)))))) (aE (aR eF)) bF) (aE (aR (eM (dC (Ef V) hr (aj (aG (ah 0) ar) (aj (ah 1) au)) ln2) (fV (dC (Ef V) hr (aj (aG (ah 0) ar) (aj (ah 1) au)) ln2)))))))
theorem HG:Cal (Gam C_Shop) P w K mg base "are_stocks" 2 6 wF:=
 V.d50.cal (k:=5) Os (bn fun _ _ _ _ _ _ _=>rfl) fun f cdv A outer s H E hr=>
  (aA (bD (DW.dt (cj (bJ (bC (dC (jM V) hr (aj (ah 0) (aj ar (aj (hV rfl V.k_MOST_STOCKS) au))) ln3))) (cN (bJ (bC (bI (gf rfl) rfl V.z_all (by rfl) (aj (DO.de (cP rfl (CompScope.of rfl rfl) (FvOk.of (N':=["row","step_names"]) (fv:=[ac,aa 1]) rfl) (bZ (ah 0)) ⟨fun _ _ _ _ _=>⟨(aP 0 (show(["row","step_names"]:ab ai).Nodup by decide +kernel)),cq,(dC (Ky V) hr (aj (ah 0) (aj (ah 1) au)) ln2)⟩⟩)) au))))))) (aE (aR eF)) bF) (aE (aR (dC (kA V) hr (aj (DO.de (cP rfl (CompScope.of rfl rfl) (FvOk.of (N':=["row"]) (fv:=[ac]) rfl) (bZ (ah 0)) ⟨fun _ _ _ _ _=>⟨(aP 0 (show(["row"]:ab ai).Nodup by decide +kernel)),cq,(aG (ah 0) ar)⟩⟩)) au) ln1))))
theorem Iv:Cal (Gam C_Shop) P w K mg base "first_bad_part" 7 7 v6:=
 V.d51.cal (k:=6) vZ (bn fun _ _ _ _ _ _ _=>rfl) fun f cdv A outer s H E hr=>
  (aA (bD (bJ (bC (dC (je V) hr (aj (ah 6) (aj ar (aj (hV rfl V.k_MOST_HORIZON) au))) ln3))) (aE (aR bL)) bF) (aA (bD (bJ (bC (dC (Il V) hr (aj (ah 0) (aj (ah 6) au)) ln2))) (aE (aR bL)) bF) (aA (lz 7 vZ.nd rfl (CompScope.of rfl rfl) (FvOk.of (N':=["row"]) (fv:=[ac]) rfl) (bZ (ah 0)) ⟨fun _ _ _ _ _=>⟨(aP 0 (show(["row"]:ab ai).Nodup by decide +kernel)),cq,(aG (ah 0) ar)⟩⟩) (aA (bD (bJ (bC (dC (Jb V) hr (aj (ah 1) (aj (ah 7) (aj (ah 6) au))) ln3))) (aE (aR bL)) bF) (aA (lz 8 vZ.nd rfl (CompScope.of rfl rfl) (FvOk.of (N':=["row"]) (fv:=[ac]) rfl) (bZ (ah 1)) ⟨fun _ _ _ _ _=>⟨(aP 0 (show(["row"]:ab ai).Nodup by decide +kernel)),cq,(aG (ah 0) ar)⟩⟩) (aA (bD (bJ (bC (dC (Lz V) hr (aj (ah 2) (aj (ah 8) (aj (ah 6) au))) ln3))) (aE (aR bL)) bF) (aA (bD (bJ (bC (dC (GC V) hr (aj (ah 3) (aj (ah 7) (aj (ah 6) au))) ln3))) (aE (aR bL)) bF) (aA (bD (bJ (bC (dC (Gq V) hr (aj (ah 4) (aj (ah 8) (aj (ah 6) au))) ln3))) (aE (aR bL)) bF) (aA (bD (bJ (bC (dC (HG V) hr (aj (ah 5) (aj (ah 8) au)) ln2))) (aE (aR bL)) bF) (aE (aR dN)))))))))))
theorem On {k:ag} {eJ:FQ} (gu:Cal (Gam C_Shop) P w K mg base "fresh" 1 k eJ):Cal (Gam C_Shop) P w K mg base "fresh" 1 (k+1) (jD eJ):=
 V.d52.cal (k:=k) ON (bn fun _ _ _ _ _ _ _=>rfl) fun f cdv A outer s H E hr=>
  (aA (bD (bC (bI gi rfl V.z_isinstance (by rfl) (aj (ah 0) (aj (fJ rfl V.z_list (by rfl)) au)))) (aE (aR (DO.de (cP rfl (CompScope.of rfl rfl) (FvOk.of (N':=["part"]) (fv:=[ac]) rfl) (bZ (ah 0)) ⟨fun _ _ _ _ _=>⟨(aP 0 (show(["part"]:ab ai).Nodup by decide +kernel)),cq,(i9 gu hr (qv _) rfl (aj (ah 0) au) ln1)⟩⟩)))) bF) (aA (bD (bC (bI gi rfl V.z_isinstance (by rfl) (aj (ah 0) (aj (fJ rfl V.z_tuple (by rfl)) au)))) (aE (aR (c5 QQ rfl V.z_tuple (by rfl) (aj (DO.de (cP rfl (CompScope.of rfl rfl) (FvOk.of (N':=["part"]) (fv:=[ac]) rfl) (bZ (ah 0)) ⟨fun _ _ _ _ _=>⟨(aP 0 (show(["part"]:ab ai).Nodup by decide +kernel)),cq,(i9 gu hr (qv _) rfl (aj (ah 0) au) ln1)⟩⟩)) au)))) bF) (aE (aR (ah 0)))))
theorem gu:Cal (Gam C_Shop) P w K mg base "fresh" 1 8 eJ:=by
 have h:∀n,Cal (Gam C_Shop) P w K mg base "fresh" 1 n (j0 n):=fun n=>by
  induction n with
  |zero=>exact Dfn.none (ps:=["thing"]) V.d52 (bn fun _ _ _ _ _ _ _=>rfl)
  |succ n ih=>exact On V ih
 exact h 8
theorem PP:CalI (Gam C_Shop) P w K mg base "Shop" 7 9 xv:=
 DfnM.calI (k:=8) V.O_Shop V.d53 tq (bn fun _ _ _ _ _ _ _=>rfl) fun f y cdv A outer s H E hr=>
  (aA (bB 8 tq.nd (i9 ((Iv V).re y) hr (by decide) rfl (aj (ah 1) (aj (ah 2) (aj (ah 3) (aj (ah 4) (aj (ah 5) (aj (ah 6) (aj (ah 7) au))))))) ln7)) (aA (bD (b7 Db (ah 8) dN (bX _)) (aE sB) bF) (aA (jV 0 (V.cf_Shop.re y) (.head _) (i9 ((gu V).re y) hr (by decide) rfl (aj (ah 1) au) ln1)) (aA (jV 0 (V.cf_Shop.re y) (.tail _ (.head _)) (i9 ((gu V).re y) hr (by decide) rfl (aj (ah 2) au) ln1)) (aA (jV 0 (V.cf_Shop.re y) (.tail _ (.tail _ (.head _))) (i9 ((gu V).re y) hr (by decide) rfl (aj (ah 3) au) ln1)) (aA (jV 0 (V.cf_Shop.re y) (.tail _ (.tail _ (.tail _ (.head _)))) (i9 ((gu V).re y) hr (by decide) rfl (aj (ah 4) au) ln1)) (aA (jV 0 (V.cf_Shop.re y) (.tail _ (.tail _ (.tail _ (.tail _ (.head _))))) (i9 ((gu V).re y) hr (by decide) rfl (aj (ah 5) au) ln1)) (aA (jV 0 (V.cf_Shop.re y) (.tail _ (.tail _ (.tail _ (.tail _ (.tail _ (.head _)))))) (i9 ((gu V).re y) hr (by decide) rfl (aj (ah 6) au) ln1)) (aA (jV 0 (V.cf_Shop.re y) (.tail _ (.tail _ (.tail _ (.tail _ (.tail _ (.tail _ (.head _))))))) (ah 7)) (aA (jV 0 (V.cf_Shop.re y) (.tail _ (.tail _ (.tail _ (.tail _ (.tail _ (.tail _ (.tail _ (.head _)))))))) (c5 (B4 rfl (dJ hr)) rfl V.z_dict (by rfl) (aj (DO.de (cP rfl (CompScope.of rfl rfl) (FvOk.of (N':=["row"]) (fv:=[ac]) rfl) (bZ (tO 0 (V.cf_Shop.re y) (.head _))) ⟨fun _ _ _ _ _=>⟨(aP 0 (show(["row"]:ab ai).Nodup by decide +kernel)),cq,(cY (aj (aG (ah 0) ar) (aj (ah 0) au)))⟩⟩)) au))) (aA (jV 0 (V.cf_Shop.re y) (.tail _ (.tail _ (.tail _ (.tail _ (.tail _ (.tail _ (.tail _ (.tail _ (.head _))))))))) (c5 (B4 rfl (dJ hr)) rfl V.z_dict (by rfl) (aj (DO.de (cP rfl (CompScope.of rfl rfl) (FvOk.of (N':=["row"]) (fv:=[ac]) rfl) (bZ (tO 0 (V.cf_Shop.re y) (.tail _ (.head _)))) ⟨fun _ _ _ _ _=>⟨(aP 0 (show(["row"]:ab ai).Nodup by decide +kernel)),cq,(cY (aj (aG (ah 0) ar) (aj (ah 0) au)))⟩⟩)) au))) (aA (jV 0 (V.cf_Shop.re y) (.tail _ (.tail _ (.tail _ (.tail _ (.tail _ (.tail _ (.tail _ (.tail _ (.tail _ (.head _)))))))))) (c5 (KR rfl (dJ hr)) rfl V.z_dict (by rfl) (aj (DO.de (cP rfl (CompScope.of rfl rfl) (FvOk.of (N':=["row"]) (fv:=[ac]) rfl) (bZ (tO 0 (V.cf_Shop.re y) (.tail _ (.tail _ (.tail _ (.head _)))))) ⟨fun _ _ _ _ _=>⟨(aP 0 (show(["row"]:ab ai).Nodup by decide +kernel)),cq,(cY (aj (fB (ah 0) iC (dA ar)) (aj (aG (ah 0) ar) au)))⟩⟩)) au))) (aA (M3 0 (V.cf_Shop.re y) (.tail _ (.tail _ (.tail _ (.tail _ (.tail _ (.tail _ (.tail _ (.tail _ (.tail _ (.tail _ (.head _)))))))))))) (aE (dB dy rfl (bZ (tO 0 (V.cf_Shop.re y) (.tail _ (.tail _ (.head _))))) (aP 9 tq.nd) (aE (dB dy rfl (bZ (aG (ah 9) ar)) (aP 10 tq.nd) (aE (J9 0 (dJ hr) (V.cf_Shop.re y) (.tail _ (.tail _ (.tail _ (.tail _ (.tail _ (.tail _ (.tail _ (.tail _ (.tail _ (.tail _ (.head _))))))))))) (ah 10) (ah 9))))))))))))))))))))
theorem Ex:Cal (Gam C_Shop) P w K mg base "read_shop" 1 11 uo:=
 V.d54.cal (k:=10) mS (bn fun _ _ _ _ _ _ _=>rfl) fun f cdv A outer s H E hr=>
  (aA (bD (bJ (bC (bI gi rfl V.z_isinstance (by rfl) (aj (ah 0) (aj (fJ rfl V.z_str (by rfl)) au))))) (aE sB) bF) (aA (bB 1 mS.nd (kg lr oG zH sT (ah 0) (aj bL au))) (aA (NU 2 mS.nd (mv (mv (mv (mv (mv (mv (mv N2))))))) (by decide +kernel) (by simp) (by decide)) (aA (dB dy rfl (nK rfl V.z_enumerate (ah 1)) (gA (n:=2) rfl (bM (aP 3 mS.nd) (bM (aP 4 mS.nd) eE))) (aA (bB 5 mS.nd (kg lr oG zH sT (ah 4) (aj bL au))) (aA (bB 6 mS.nd (dC (J1 V) hr (aj (ah 5) au) ln1)) (aA (bD (Kq 2 (DW.dt (cj (b7 N4 (ah 6) dN (bX _)) (cN (DW.dt (rg (b7 ee (aG (ah 5) ar) bL (bX _)) (p6 (b7 pT (bI cX rfl V.z_len (by rfl) (aj (kN (dJ hr) (ah 2) bL) au)) ar (bX _))))))))) (aE sB) bF) (aE (Pd 2 (dJ hr) (aG (ah 5) ar) (ah 6))))))) (K7 2 (aA (bD (b7 ee (bI cX rfl V.z_len (by rfl) (aj (kN (dJ hr) (ah 2) bL) au)) ar (bX _)) (aE sB) bF) (aE (aR (KD (PP V) hr (by decide) rfl (aj (kN (dJ hr) (ah 2) bL) (aj (kN (dJ hr) (ah 2) bL) (aj (kN (dJ hr) (ah 2) bL) (aj (kN (dJ hr) (ah 2) bL) (aj (kN (dJ hr) (ah 2) bL) (aj (kN (dJ hr) (ah 2) bL) (aj (aG (kN (dJ hr) (ah 2) bL) ar) au))))))) ln7)))))))))
theorem QC:CalM (Gam C_Shop) P w K mg base "Shop" "job_rows" 1 9 wx:=
 DfnM.cal (k:=8) V.O_Shop V.d55 LF (bn fun _ _ _ _ _ _ _=>rfl) fun f cdv A outer s H E hr=>
  (aE (aR (dC (gu V) hr (aj (ii V.cf_Shop (.tail _ (.tail _ (.head _))) (ah 0)) au) ln1)))
theorem HW:CalM (Gam C_Shop) P w K mg base "Shop" "step_rows" 1 9 xH:=
 DfnM.cal (k:=8) V.O_Shop V.d56 N0 (bn fun _ _ _ _ _ _ _=>rfl) fun f cdv A outer s H E hr=>
  (aE (aR (dC (gu V) hr (aj (ii V.cf_Shop (.tail _ (.head _)) (ah 0)) au) ln1)))
theorem NL:CalM (Gam C_Shop) P w K mg base "Shop" "bench_rows" 1 9 vQ:=
 DfnM.cal (k:=8) V.O_Shop V.d57 Kg (bn fun _ _ _ _ _ _ _=>rfl) fun f cdv A outer s H E hr=>
  (aE (aR (dC (gu V) hr (aj (ii V.cf_Shop (.head _) (ah 0)) au) ln1)))
theorem Qs:CalM (Gam C_Shop) P w K mg base "Shop" "link_rows" 1 9 yz:=
 DfnM.cal (k:=8) V.O_Shop V.d58 Gs (bn fun _ _ _ _ _ _ _=>rfl) fun f cdv A outer s H E hr=>
  (aE (aR (dC (gu V) hr (aj (ii V.cf_Shop (.tail _ (.tail _ (.tail _ (.tail _ (.head _))))) (ah 0)) au) ln1)))
theorem IC:CalM (Gam C_Shop) P w K mg base "Shop" "setup_rows" 1 9 xE:=
 DfnM.cal (k:=8) V.O_Shop V.d59 Kl (bn fun _ _ _ _ _ _ _=>rfl) fun f cdv A outer s H E hr=>
  (aE (aR (dC (gu V) hr (aj (ii V.cf_Shop (.tail _ (.tail _ (.tail _ (.head _)))) (ah 0)) au) ln1)))
theorem DF:CalM (Gam C_Shop) P w K mg base "Shop" "last_moment" 1 1 nZ:=
 DfnM.cal (k:=0) V.O_Shop V.d60 QO (bn fun _ _ _ _ _ _ _=>rfl) fun f cdv A outer s H E hr=>
  (aE (aR (ii V.cf_Shop (.tail _ (.tail _ (.tail _ (.tail _ (.tail _ (.tail _ (.head _))))))) (ah 0))))
theorem Nz:CalM (Gam C_Shop) P w K mg base "Shop" "stock_rows" 1 9 yf:=
 DfnM.cal (k:=8) V.O_Shop V.d61 OL (bn fun _ _ _ _ _ _ _=>rfl) fun f cdv A outer s H E hr=>
  (aE (aR (dC (gu V) hr (aj (ii V.cf_Shop (.tail _ (.tail _ (.tail _ (.tail _ (.tail _ (.head _)))))) (ah 0)) au) ln1)))
theorem so:Cal (Gam C_Shop) P w K mg base "_law_lists" 1 10 lQ:=
 V.d62.cal (k:=9) yr (bn fun _ _ _ _ _ _ _=>rfl) fun f cdv A outer s H E hr=>
  (aA (bB 1 yr.nd (DO.de (bW (aj (lJ (NL V) hr (by decide) (ah 0)) (aj (lJ (HW V) hr (by decide) (ah 0)) (aj (lJ (QC V) hr (by decide) (ah 0)) au)))))) (aA (bB 1 yr.nd (bu (ah 1) (DO.de (bW (aj (lJ (IC V) hr (by decide) (ah 0)) (aj (lJ (Qs V) hr (by decide) (ah 0)) au)))))) (aE (aR (bu (ah 1) (DO.de (bW (aj (lJ (Nz V) hr (by decide) (ah 0)) (aj (lJ (DF V) hr (by decide) (ah 0)) au)))))))))
theorem K4 {k:ag} {lM:FQ} (t5:Cal (Gam C_Shop) P w K mg base "_law_kinds" 1 k lM):Cal (Gam C_Shop) P w K mg base "_law_kinds" 1 (k+1) (iK lM):=
 V.d63.cal (k:=k) GL (bn fun _ _ _ _ _ _ _=>rfl) fun f cdv A outer s H E hr=>
  (aA (bD (bC (bI P6 rfl V.z_isinstance (by rfl) (aj (ah 0) (aj (cY (aj (fJ rfl V.z_list (by rfl)) (aj (fJ rfl V.z_tuple (by rfl)) au))) au)))) (aE (aR (bu (DO.de (bW (aj (bI gi rfl V.z_isinstance (by rfl) (aj (ah 0) (aj (fJ rfl V.z_list (by rfl)) au))) au))) (DO.de (cP rfl (CompScope.of rfl rfl) (FvOk.of (N':=["_law_one"]) (fv:=[ac]) rfl) (bZ (ah 0)) ⟨fun _ _ _ _ _=>⟨(aP 0 (show(["_law_one"]:ab ai).Nodup by decide +kernel)),cq,(i9 t5 hr (qv _) rfl (aj (ah 0) au) ln1)⟩⟩))))) bF) (aE (aR (DO.de (bW (aj (bI gi rfl V.z_isinstance (by rfl) (aj (ah 0) (aj (fJ rfl V.z_str (by rfl)) au))) (aj (bI gi rfl V.z_isinstance (by rfl) (aj (ah 0) (aj (fJ rfl V.z_bool (by rfl)) au))) (aj (bI gi rfl V.z_isinstance (by rfl) (aj (ah 0) (aj (fJ rfl V.z_int (by rfl)) au))) au))))))))
theorem t5:Cal (Gam C_Shop) P w K mg base "_law_kinds" 1 8 lM:=by
 have h:∀n,Cal (Gam C_Shop) P w K mg base "_law_kinds" 1 n (kY n):=fun n=>by
  induction n with
  |zero=>exact Dfn.none (ps:=["_law_found"]) V.d63 (bn fun _ _ _ _ _ _ _=>rfl)
  |succ n ih=>exact K4 V ih
 exact h 8
theorem OY {k:ag} {ib:FQ} (kI:CalN (Gam C_Shop) P w K mg base "fresh" 1 k ib):CalN (Gam C_Shop) P w K mg base "fresh" 1 (k+1) (jS ib):=
 V.d52.calN (k:=k) Jp (bn fun _ _ _ _ _ _ _=>rfl) fun f cdv A outer s H E hr=>
  (aA (bD (bC (bI gi rfl V.z_isinstance (by rfl) (aj (ah 0) (aj (fJ rfl V.z_list (by rfl)) au)))) (aE (kU (zO rfl (CompScope.of rfl rfl) (FvOk.of (N':=["part"]) (fv:=[ac]) rfl) (bZ (ah 0)) ⟨fun _ _ _ _ _=>⟨(aP 0 (show(["part"]:ab ai).Nodup by decide +kernel)),cq,(kM kI hr (qv _) rfl (aj (ah 0) au) ln1)⟩⟩))) bF) (aA (bD (bC (bI gi rfl V.z_isinstance (by rfl) (aj (ah 0) (aj (fJ rfl V.z_tuple (by rfl)) au)))) (aE (kU (P5 rfl V.z_tuple (zO rfl (CompScope.of rfl rfl) (FvOk.of (N':=["part"]) (fv:=[ac]) rfl) (bZ (ah 0)) ⟨fun _ _ _ _ _=>⟨(aP 0 (show(["part"]:ab ai).Nodup by decide +kernel)),cq,(kM kI hr (qv _) rfl (aj (ah 0) au) ln1)⟩⟩)))) bF) (aE (kU (DE.dn (ah 0))))))
theorem kI:CalN (Gam C_Shop) P w K mg base "fresh" 1 8 ib:=by
 have h:∀n,CalN (Gam C_Shop) P w K mg base "fresh" 1 n (jY n):=fun n=>by
  induction n with
  |zero=>exact Dfn.noneN (ps:=["thing"]) V.d52 (bn fun _ _ _ _ _ _ _=>rfl)
  |succ n ih=>exact OY V ih
 exact h 8
theorem IX:CalMN (Gam C_Shop) P w K mg base "Shop" "job_rows" 1 9 v5:=
 DfnM.calN (k:=8) V.O_Shop V.d55 L' (bn fun _ _ _ _ _ _ _=>rfl) fun f cdv A outer s H E hr=>
  (aE (kU (kM (kI V) hr (by decide) rfl (aj (ii V.cf_Shop (.tail _ (.tail _ (.head _))) (ah 0)) au) ln1)))
theorem Kh:CalMN (Gam C_Shop) P w K mg base "Shop" "step_rows" 1 9 xx:=
 DfnM.calN (k:=8) V.O_Shop V.d56 PM (bn fun _ _ _ _ _ _ _=>rfl) fun f cdv A outer s H E hr=>
  (aE (kU (kM (kI V) hr (by decide) rfl (aj (ii V.cf_Shop (.tail _ (.head _)) (ah 0)) au) ln1)))
theorem Mi:CalMN (Gam C_Shop) P w K mg base "Shop" "bench_rows" 1 9 vN:=
 DfnM.calN (k:=8) V.O_Shop V.d57 Pu (bn fun _ _ _ _ _ _ _=>rfl) fun f cdv A outer s H E hr=>
  (aE (kU (kM (kI V) hr (by decide) rfl (aj (ii V.cf_Shop (.head _) (ah 0)) au) ln1)))
theorem HQ:CalMN (Gam C_Shop) P w K mg base "Shop" "link_rows" 1 9 xW:=
 DfnM.calN (k:=8) V.O_Shop V.d58 OV (bn fun _ _ _ _ _ _ _=>rfl) fun f cdv A outer s H E hr=>
  (aE (kU (kM (kI V) hr (by decide) rfl (aj (ii V.cf_Shop (.tail _ (.tail _ (.tail _ (.tail _ (.head _))))) (ah 0)) au) ln1)))
theorem L7:CalMN (Gam C_Shop) P w K mg base "Shop" "setup_rows" 1 9 vH:=
 DfnM.calN (k:=8) V.O_Shop V.d59 Ix (bn fun _ _ _ _ _ _ _=>rfl) fun f cdv A outer s H E hr=>
  (aE (kU (kM (kI V) hr (by decide) rfl (aj (ii V.cf_Shop (.tail _ (.tail _ (.tail _ (.head _)))) (ah 0)) au) ln1)))
theorem OJ:CalMN (Gam C_Shop) P w K mg base "Shop" "stock_rows" 1 9 tL:=
 DfnM.calN (k:=8) V.O_Shop V.d61 KB (bn fun _ _ _ _ _ _ _=>rfl) fun f cdv A outer s H E hr=>
  (aE (kU (kM (kI V) hr (by decide) rfl (aj (ii V.cf_Shop (.tail _ (.tail _ (.tail _ (.tail _ (.tail _ (.head _)))))) (ah 0)) au) ln1)))
theorem Gr:CalN (Gam C_Shop) P w K mg base "_law_lists" 1 10 uc:=
 V.d62.calN (k:=9) wV (bn fun _ _ _ _ _ _ _=>rfl) fun f cdv A outer s H E hr=>
  (aA (CV 1 wV.nd (xp (mI (DN.dm (nG (Mi V) hr (by decide) (ah 0))) (mI (DN.dm (nG (Kh V) hr (by decide) (ah 0))) (mI (DN.dm (nG (IX V) hr (by decide) (ah 0))) wQ))))) (aA (CV 1 wV.nd (BZ (CG 1) (xp (mI (DN.dm (nG (L7 V) hr (by decide) (ah 0))) (mI (DN.dm (nG (HQ V) hr (by decide) (ah 0))) wQ))))) (aE (Od (BZ (CG 1) (xp (mI (DN.dm (nG (OJ V) hr (by decide) (ah 0))) (mI (DN.dm (DE.dn (lJ (DF V) hr (by decide) (ah 0)))) wQ))))))))
theorem Mg  (f:aw) (cdv:av) (A:dL) (outer:ab cS) (s:aI) (H:Hp) (E:XK) (hr:Room 11 (A.deeper (eC "law" (aO (top 81)) s.heap.objs.size f cdv))):DSs (Gam C_Shop) (gz CX0 P w K mg base ["_law_script","_law_parts","_law_rows_here","_law_order_here","_law_text","_law_due_here","_law_found","_law_some"] "law" (aO (top 81)) f cdv A outer s H E).nox (dq (top 81)) C0:=
  (aA (bB 1 lC.nd (dC (Jz V) hr (aj (ah 0) au) ln1)) (aA (bB 2 lC.nd (dC (Kv V) hr (aj (ah 1) au) ln1)) (aA (bB 3 lC.nd (dC (Pz V) hr (aj (bI cX rfl V.z_len (by rfl) (aj (ah 2) au)) (aj (aG (dC (iG V) hr (aj (ah 0) (aj ar (aj (DO.de (bW (aj (dR ar ar) au))) au))) ln3) ar) au)) ln2)) (aA (bB 4 lC.nd (kg lr rZ sg nO bL (aj (DO.de (cP rfl (CompScope.of rfl rfl) (FvOk.of (N':=["_law_place","_law_rows_here"]) (fv:=[ac,aa 2]) rfl) (bZ (ah 3)) ⟨fun _ _ _ _ _=>⟨(aP 0 (show(["_law_place","_law_rows_here"]:ab ai).Nodup by decide +kernel)),cq,(aG (ah 1) (ah 0))⟩⟩)) au))) (aA (bB 5 lC.nd (dC (Ih V) hr (aj (ah 1) (aj (ah 3) au)) ln2)) (aA (bB 6 lC.nd (dC (Ex V) hr (aj (ah 4) au) ln1)) (aA (bD (DW.dt (cj (bJ (bC (MM V.O_Shop V.I_Shop rfl rfl V.z_isinstance (ah 6)))) (cj (b7 (nQ (kT hr)) (dC (so V) hr (aj (ah 6) au) ln1) (ah 5) (bX _)) (cN (b7 (nQ (kT hr)) (dC (t5 V) hr (aj (dC (so V) hr (aj (ah 6) au) ln1) au) ln1) (dC (t5 V) hr (aj (ah 5) au) ln1) (bX _)))))) (aE (aR eF)) bF) (aA (HX 7 6 dy rfl lC.nd (kM (Gr V) hr (by decide) rfl (aj (ah 6) au) ln1)) (aE (aR (eM (gP (xC (kT hr)) (dC (so V) hr (aj (ah 6) au) ln1) (ah 5) (bX _)) (fV (gP (xC (kT hr)) (dC (so V) hr (aj (dC (Ex V) hr (aj (ah 4) au) ln1) au) ln1) (ah 5) (bX _))))))))))))))
end
theorem i2:fj "int" "int"=aa al:=rfl
theorem i3:fj "int" "bool"=aa aq:=rfl
theorem i5:fj "bool" "bool"=aa al:=rfl
theorem j1:fj "str" "str"=aa al:=rfl
theorem k1:fj "list" "list"=aa al:=rfl
theorem k2:fj "tuple" "list"=aa aq:=rfl
theorem k3:fj "tuple" "tuple"=aa al:=rfl
theorem k4:fj "str" "list"=aa aq:=rfl
theorem k5:fj "str" "tuple"=aa aq:=rfl
theorem k6:fj "int" "list"=aa aq:=rfl
theorem k7:fj "int" "tuple"=aa aq:=rfl
theorem k8:fj "bool" "list"=aa aq:=rfl
theorem k9:fj "bool" "tuple"=aa aq:=rfl
theorem k10:fj "NoneType" "list"=aa aq:=rfl
theorem k11:fj "NoneType" "tuple"=aa aq:=rfl
theorem sz1:(1<=aM)=True:=by simp[aM]
theorem sz2:(1+1<=aM)=True:=by simp[aM]
theorem sz3:(1+1+1<=aM)=True:=by simp[aM]
theorem sz4:(1+1+1+1<=aM)=True:=by simp[aM]
theorem sz5:(1+1+1+1+1<=aM)=True:=by simp[aM]
theorem sz7:(1+1+1+1+1+1+1<=aM)=True:=by simp[aM]
section
variable {x0:D} {r:ab D}
theorem kK (l:ab α) (n:ag):atI l (n:af)=l[n]?:=by
 unfold atI ixN;rw[qY (by omega)];by_cases h:n<l.length
 .rw[qY (by omega)];simp
 .rw[qZ (by omega)];simp;omega
theorem il:ixD (.tup (x0::r)) (.int 0)=aa x0:=kK _ 0
theorem i7:ixD (.tup (x0::x1::r)) (.int 1)=aa x1:=kK _ 1
theorem oK:ixD (.tup (x0::x1::x2::r)) (.int 2)=aa x2:=kK _ 2
theorem pP:ixD (.tup (x0::x1::x2::x3::r)) (.int 3)=aa x3:=kK _ 3
theorem pE:ixD (.tup (x0::x1::x2::x3::x4::r)) (.int 4)=aa x4:=kK _ 4
end
theorem wI {fe:FE} {r:aX} {f:D->D}:∀{xs:ab D} {a:ao Slot},(∀x∈xs,fe (oS x::r)=aa (f x))->gy (ay 0) tT fe xs (a::r)=aa (xs.map f)
 |[],_,_=>rfl
 |x::xs,a,h=>by have h1:=h x qf;have ih:=wI (xs:=xs) (a:=oS x) fun y hy=>h y (qg _ hy);simp only[gy,ay,nz,qa,tT,cy,h1,ih,qd,qm]
theorem Dg:∀{l:ab D},(∀x∈l,x=.bl al)->∃bs:ab bq,nF l=aa bs/\bs.all id=al
 |[],_=>⟨[],rfl,rfl⟩
 |x::r,h=>by obtain⟨bs,h1,h2⟩:=Dg (l:=r) fun y hy=>h y (qg _ hy);have hx:=h x qf;subst hx;exact⟨al::bs,by simp[nF,h1],by simpa using h2⟩
theorem gD {r:aX} {a:ao Slot} {xs:ab D} (h1:fi ρ=aa xs) (h2:xs.length<=aM) (h3:gw fv ρ=a::r) (h:∀x∈xs,fe (oS x::r)=aa (.bl al)) :
  cF eG (ae (aD (bc fi (ay 0) tT fe fv)) ak) ρ=aa (.bl al):=by
 have c:=wI (a:=a) (f:=fun _=>.bl al) h;obtain⟨bs,e1,e2⟩:=Dg (l:=xs.map fun _=>D.bl al) (by simp);simp only[cF,ae,ak,aD,bc,h1,qa,qY h2,h3,c,qd,eG,e1];simpa using e2
theorem jH {r:aX} {a:ao Slot} {xs:ab D} {f:D->D} (h1:fi ρ=aa xs) (h2:xs.length<=aM) (h3:gw fv ρ=a::r) (h:∀x∈xs,fe (oS x::r)=aa (f x)) :
  aD (bc fi (ay 0) tT fe fv) ρ=aa (.lst (xs.map f)):=by
 simp only[aD,bc,h1,qa,qY h2,h3,wI (a:=a) h,qd]
theorem fg {body:FS} {xs:ab D} (I:ag->aX->Prop) (h0:I 0 ρ) (hs:∀i x ρ,xs[i]?=aa x->I i ρ->∃ρ1 ρ2,gg x ρ=aa ρ1/\body ρ1=aa (.nx,ρ2)/\I (i+1) ρ2) :
  ∃ρ',dD gg body xs ρ=aa (.nx,ρ')/\I xs.length ρ':=by
 have key:∀(ys:ab D) (k:ag) (ρ:aX),xs.drop k=ys->I k ρ->∃ρ',dD gg body ys ρ=aa (.nx,ρ')/\I (k+ys.length) ρ':=by
  intro ys
  induction ys with
  |nil=>intro k ρ _ hk;exact⟨ρ,rfl,hk⟩
  |cons y r ih=>
   intro k ρ hd hk;have hy:xs[k]?=aa y:=by
    have:(xs.drop k)[0]?=aa y:=by rw[hd];rfl
    simpa using this
   obtain⟨ρ1,ρ2,h1,h2,h3⟩:=hs k y ρ hy hk;have hd':xs.drop (k+1)=r:=by rw[←F3,hd];rfl
   obtain⟨ρ',h4,h5⟩:=ih (k+1) ρ2 hd' h3;refine⟨ρ',?_,by rw[qh];rwa [show k+1+r.length=k+(r.length+1) by omega] at h5⟩;simp only[dD,h1,qa,h2,h4]
 obtain⟨ρ',h1,h2⟩:=key xs 0 ρ rfl h0;exact⟨ρ',h1,by rwa [jA] at h2⟩
theorem D6:(2:af) ^ 62=4611686018427387904:=by decide +kernel
theorem M1 {i j:af} (h:0<=i/\i<=1000000/\0<=j/\j<=1000000):mJ [.int i,.int j]=aa ((bj (j-i).toNat).map fun k:ag=>D.int (i+k)):=by unfold mJ;rw[D6];exact qY ⟨by omega,by omega,by omega,by omega⟩
theorem ku {j:af} (h:0<=j/\j<=1000000):ff [.int j]=aa ((bj j.toNat).map fun i:ag=>D.int (0+i)):=by unfold ff;rw[D6];exact qY ⟨by omega,by omega⟩
theorem jQ {g:ab D->ao (ab D)} {r:ab D} (h1:fr ρ=aa ds) (h2:g ds=aa r):itR g fr ρ=aa r:=by unfold itR;rw[h1];exact h2
theorem aC {g:D->D->ao D} {x y:D} (h1:fa ρ=aa x) (h2:fb ρ=aa y) (h3:g x y=aa z):b2 g fa fb ρ=aa z:=by unfold b2;rw[h1,qa,h2,qa];exact h3
theorem aT {g:FQ} (h1:fr ρ=aa ds) (h2:g ds=aa z):cF g fr ρ=aa z:=by unfold cF;rw[h1];exact h2
theorem aB (h1:f ρ=aa d) (h2:fr ρ=aa ds):ae f fr ρ=aa (d::ds):=by unfold ae;rw[h1,qa,h2];rfl
theorem aL :ak ρ=aa []:=rfl
theorem xK (h:g (ds.map (fun d=>aa (Slot.sh d))++bQ n ac)=aa (.rt d,ρ')):aZ n g ds=aa d:=by unfold aZ;rw[h];rfl
theorem bH (ρ:aX) (e:ds.map (fun d=>aa (Slot.sh d))++bQ n ac=ρ) (h:g ρ=aa (.rt d,ρ')):aZ n g ds=aa d:=by subst e;exact xK h
theorem bR (h:f ρ=aa d):aK f ρ=aa (.rt d,ρ):=by unfold aK;rw[h];rfl
theorem bx {b:bq} (h:f ρ=aa (.bl b)):toB f ρ=aa b:=by unfold toB;rw[h];rfl
theorem mK {A:FE} {X E:FS} (hA:A ρ=aa (.bl al)):ax (sIf (ba (toB A)) X aU) E ρ=E ρ:=by simp only[ax,sIf,ba,bx hA,qd,qa,iW,qq,cW,aU]
theorem jc {A B:FE} {X E:FS} (hA:A ρ=aa (.bl al)) (hB:B ρ=aa (.bl al)):ax (sIf (orT (ba (toB A)) (ba (toB B))) X aU) E ρ=E ρ:=by simp only[ax,sIf,orT,ba,bx hA,bx hB,qd,qa,iW,qq,cW,aU]
theorem KH {A B C:FE} {X E:FS} (hA:A ρ=aa (.bl al)) (hB:B ρ=aa (.bl al)) (hC:C ρ=aa (.bl al)):ax (sIf (orT (ba (toB A)) (orT (ba (toB B)) (ba (toB C)))) X aU) E ρ=E ρ:=by simp only[ax,sIf,orT,ba,bx hA,bx hB,bx hC,qd,qa,iW,qq,cW,aU]
theorem ud {A B:FE} (hA:A ρ=aa (.bl al)) (hB:B ρ=aa (.bl al)):cJ A B ρ=aa (.bl al):=by simp only[cJ,hA,hB,qa]
theorem bz (h:f ρ=aa d):ax (aH i f) g ρ=g (ρ.set i (oS d)):=by simp only[ax,aH,h,qd,qa]
theorem LN (i:af):sN [.int i]=aa (.bl al):=by simp only[sN,aZ,aK,cJ,sH,cF,ae,ak,vSh,vC,cU,tyD,qm,qO,qp,qR,bQ,qb,qa,qd,oF,i2,i3]
theorem jk (i a b:af) (h:a<=i/\i<=b):gL [.int i,.int a,.int b]=aa (.bl al):=by simp only[gL,LN,aZ,aK,cJ,cF,ae,ak,vSh,chD,leD,qm,qO,qp,qR,bQ,qb,qc,qa,qd,qS h.1,qS h.2]
theorem jT (l:ab D) (a b:af) (h:a<=l.length/\(l.length:af)<=b):g8 [.lst l,.int a,.int b]=aa (.bl al):=by simp only[g8,aZ,aK,cJ,cF,ae,ak,vSh,vC,chD,cU,tyD,bT,leD,qm,qO,qp,qR,bQ,qb,qc,qa,qd,k1,qS h.1,qS h.2]
theorem t6 (l:ab D) (n:af) (h:(l.length:af)=n):fZ [.tup l,.int n]=aa (.bl al):=by simp only[fZ,aZ,aK,cJ,cF,ae,ak,vSh,vC,b2,cU,tyD,bT,eqD,eqS,qm,qO,qp,qR,bQ,qb,qc,qa,qd,k3,qS h]
section
variable {a b c e:D}
theorem sR:fZ [.tup [a,b],.int 2]=aa (.bl al):=t6 _ _ rfl
theorem BU:fZ [.tup [a,b,c],.int 3]=aa (.bl al):=t6 _ _ rfl
theorem P2:fZ [.tup [a,b,c,d],.int 4]=aa (.bl al):=t6 _ _ rfl
theorem BS:fZ [.tup [a,b,c,d,e],.int 5]=aa (.bl al):=t6 _ _ rfl
end
noncomputable def dIv (p:af×af):D:=.tup [.int p.1,.int p.2]
theorem Jr (p:af×af) (h:af) (h1:0<=p.1) (h2:p.1<p.2) (h3:p.2<=h):sL [dIv p,.int h]=aa (.bl al):=by simp only[sL,dIv,aZ,ax,sIf,aK,aU,orT,ba,toB,cF,ae,ak,vSh,vC,b2,ltD,il,i7,qm,qO,qp,qR,bQ,qb,qc,qa,qd,cW,iW,qq,sR,jk p.1 0 h ⟨h1,by omega⟩,jk p.2 0 h ⟨by omega,h3⟩,qS h2]
noncomputable def az (c:ag):bq:=!ltS ⟨#[c]⟩ "a" && !ltS "z" ⟨#[c]⟩
theorem OP {c:ag} (h:az c=al):c<=122:=by
 have z:("z":ai)=⟨#[122]⟩:=by decide +kernel
 unfold az ltS at h;rw[z] at h;simp only[iS,Sv,Sw] at h;have h2:=h.2;rcases lg 122 c with q|q
 .exact bN (show([122]:ab ag) < [c] from Sx q) h2
 .exact q
theorem Ie (c:ag) (r:aX):chD leD leD (vC (.str "a")) (vSh 0) (vC (.str "z")) (oS (.str ⟨#[c]⟩)::r)=aa (.bl (az c)):=by simp only[chD,vC,vSh,qb,qa,leD,az];cases ltS ⟨#[c]⟩ "a"<;>simp
noncomputable def aY (x:ai):bq:=decide (1<=x.length) && decide (x.length<=8) && x.cps.toList.all az
theorem eD (h:aY x=al):1<=x.length/\x.length<=8:=by unfold aY at h;simp only[iS,u9] at h;exact h.1
theorem wZ (h:aY x=al):∀c∈x.cps.toList,az c=al:=by unfold aY at h;simp only[iS,ma] at h;exact h.2
theorem jg (h:aY x=al):f8 [.str x]=aa (.bl al):=by
 obtain⟨h1,h2⟩:=eD h;have hz:x.length<=aM:=by unfold aM;omega
 have hl:(x.cps.toList.map fun c=>D.str ⟨#[c]⟩).length<=aM:=by simpa[gU] using hz
 have e1:decide ((1:af)<=(x.length:ag))=al:=qS (by omega);have e2:decide (((x.length:ag):af)<=8)=al:=qS (by omega);have ha:=gD (fi:=itS (vSh 0)) (fe:=chD leD leD (vC (.str "a")) (vSh 0) (vC (.str "z"))) (fv:=[ac]) (ρ:=[oS (.str x)]) (r:=[]) (a:=ac) (xs:=x.cps.toList.map fun c=>D.str ⟨#[c]⟩)
  (by simp[itS,vSh,uj]) hl rfl (fun y hy=>by obtain⟨c,hc,rfl⟩:=bP.mp hy;rw[Ie,wZ h c hc])
 refine xK (ρ':=[oS (.str x)]) ((jc ?_ ?_).trans (bR ha))
 .rfl
 .show chD leD leD (vC (.int 1)) (cF bT (ae (vSh 0) ak)) (vC (.int 8)) [oS (.str x)]=_;simp only[cF,ae,ak,vSh,vC,chD,bT,leD,qb,qa,qd,qY hz,e1,e2]
theorem oR (h:aY x=al):F4 x=al:=by unfold F4;rw[Array.all_eq_true'];intro c hc;have:=OP (wZ h c (by simpa using hc));exact qS (by omega)
theorem t7:∀(ns:ab ai),eL (ns.map D.str)=aa (ns.map gF)
 |[]=>by simp[eL]
 |x::r=>by simp[eL,pdD,t7 r]
theorem o6:∀{ns:ab ai},(∀x∈ns,aY x=al)->fP (ns.map gF)=al
 |[],_=>by simp[fP]
 |x::r,h=>by simp only[qm,fP,iy,oR (h x qf),zC];exact o6 fun y hy=>h y (qg _ hy)
theorem B5 (x:ai):∀(ns:ab ai),((ns.map gF).any fun z=>eX z (.str x))=decide (x∈ns)
 |[]=>by simp
 |y::r=>by
  have ih:=B5 x r;rw[qm,ni,ih];simp only[eX];by_cases e:y=x
  .subst e;simp
  .have:x≠y:=fun z=>e z.symm;simp[e,this]
theorem Mq {ns:ab ai} (hx:aY x=al) (hn:∀y∈ns,aY y=al):jb (.str x) (.lst (ns.map D.str))=aa (.bl (decide (x∈ns))):=by
 have sh:dH (.str x)=al:=by simp[dH,iy,oR hx,jB]
 simp only[jb,inX,pdD,t7,qd,qa,sh,o6 hn,vm,cy,B5]
theorem nB {ns:ab ai} (hx:x∈ns) (hn:∀y∈ns,aY y=al):kS [.str x,.lst (ns.map D.str)]=aa (.bl al):=by simp only[kS,aZ,aK,cJ,cF,ae,ak,vSh,b2,qm,qO,qp,qR,bQ,qb,qc,qa,qd,jg (hn x hx),Mq (hn x hx) hn,qS hx]
theorem DR [fC κ] {l:ab κ} (h:l.Nodup):ST.dd l=l:=by
 have key:∀(l a:ab κ),(a++l).Nodup->l.foldl (fun a k=>if k∈a then a else a++[k]) a=a++l:=by
  intro l
  induction l with
  |nil=>intro a _;simp
  |cons x r ih=>
   intro a hn;have hx:x∉a:=by intro z;rw[lq] at hn;exact hn.2.2 x z x qf rfl
   rw[nc,qZ hx,ih (a++[x]) (by simpa using hn)];simp
 simpa[ST.dd] using key l [] (by simpa using h)
theorem uz:∀(ns:ab ai),ia (ns.map D.str)=aa (ns.map cK)
 |[]=>by simp[ia]
 |x::r=>by simp[ia,jP,uz r]
theorem mN {ns:ab ai} (h:ns.Nodup) (hl:ns.length<=300):fG [.lst (ns.map D.str)]=aa (.bl al):=by have hd:(ns.map (cK:ai->Key)).Nodup:=vi _ (fun a b hab z=>hab (rz z)) h;simp only[fG,aZ,aK,cF,ae,ak,vSh,b1,b2,bT,eqD,eqS,qm,qO,qp,qR,bQ,qb,qa,qd,nW,qe,qY hl,uz,DR hd];simp
theorem By:∀(ts:ab (ab ai)),mf (ts.map fun t=>.tup (t.map D.str))=aa (ts.map fun t=>t.map cK)
 |[]=>by simp[mf]
 |t::r=>by simp[mf,uz,By r]
theorem DK {ts:ab (ab ai)} (h:ts.Nodup) (hl:ts.length<=300):fG [.lst (ts.map fun t=>.tup (t.map D.str))]=aa (.bl al):=by
 have inj:∀a b:ab ai,a.map (cK:ai->Key)=b.map cK->a=b:=fun a b z=>(Sy (fun x y q=>rz q)).mp z;have hd:(ts.map fun t=>t.map (cK:ai->Key)).Nodup:=vi _ (fun a b hab z=>hab (inj a b z)) h;cases ts with
 |nil=>simp only[fG,aZ,aK,cF,ae,ak,vSh,b1,b2,bT,eqD,eqS,qm,qO,qp,qR,bQ,qb,qa,qd,qk,nW,ia,ST.dd];simp
 |cons t r=>
  have e:ia ((t::r).map fun t=>D.tup (t.map D.str))=ac:=by simp[ia,jP]
  simp only[fG,aZ,aK,b2,b1,vSh,qm,qO,qp,qR,bQ,qb,qa,nW,cF,ae,ak,bT,qd];rw[qY (by simpa using hl)];have e':=e;rw[qm] at e';rw[e'];have t':=By (t::r);rw[qm] at t';rw[t'];rw[qd,DR hd];simp[eqD,eqS]
structure BenchT where
 nm:ai
 br:ab (af×af)
structure StepT where
 nm:ai
 kd:ai
 ws:ab (ai×af)
structure JobT where
 nm:ai
 ea:af
 du:af
 od:bq
 ms:ab ai
structure SetT where
 b:ai
 p:ai
 q:ai
 n:af
structure LinkT where
 a:ai
 b:ai
 g:af
structure StockT where
 nm:ai
 lo:af
 hi:af
 tk:ab (ai×af)
 pt:ab (ai×af)
noncomputable def dW (w:ai×af):D:=.tup [.str w.1,.int w.2]
noncomputable def bU (b:BenchT):D:=.tup [.str b.nm,.lst (b.br.map dIv)]
noncomputable def bf (s:StepT):D:=.tup [.str s.nm,.str s.kd,.lst (s.ws.map dW)]
noncomputable def bo (j:JobT):D:=.tup [.str j.nm,.int j.ea,.int j.du,.bl j.od,.lst (j.ms.map D.str)]
noncomputable def cc (u:SetT):D:=.tup [.str u.b,.str u.p,.str u.q,.int u.n]
noncomputable def cu (l:LinkT):D:=.tup [.str l.a,.str l.b,.int l.g]
noncomputable def cC (k:StockT):D:=.tup [.str k.nm,.int k.lo,.int k.hi,.lst (k.tk.map dW),.lst (k.pt.map dW)]
structure GoodB (h:af) (b:BenchT):Prop where
 nm:aY b.nm=al
 len:b.br.length<=10
 iv:∀p∈b.br,0<=p.1/\p.1<p.2/\p.2<=h
 gap:∀(i:ag) p q,b.br[i]?=aa p->b.br[i+1]?=aa q->p.2<q.1
structure GoodS (bn:ab ai) (h:af) (s:StepT):Prop where
 nm:aY s.nm=al
 kd:aY s.kd=al
 l1:1<=s.ws.length
 l4:s.ws.length<=4
 ws:∀w∈s.ws,w.1∈bn/\1<=w.2/\w.2<=h
 nd:(s.ws.map (·.1)).Nodup
structure GoodJ (sn:ab ai) (h:af) (j:JobT):Prop where
 nm:aY j.nm=al
 ea:0<=j.ea/\j.ea<=h
 du:0<=j.du/\j.du<=h
 l1:1<=j.ms.length
 ln:j.ms.length<=sn.length
 ms:∀m∈j.ms,m∈sn
structure GoodU (bn:ab ai) (h:af) (u:SetT):Prop where
 b:u.b∈bn
 p:aY u.p=al
 q:aY u.q=al
 n:1<=u.n/\u.n<=h
structure GoodL (sn:ab ai) (h:af) (l:LinkT):Prop where
 a:l.a∈sn
 b:l.b∈sn
 ne:l.a≠l.b
 g:0<=l.g/\l.g<=h
structure GoodA (sn:ab ai) (am:ab (ai×af)):Prop where
 ln:am.length<=sn.length
 ws:∀w∈am,w.1∈sn/\1<=w.2/\w.2<=1000000
 nd:(am.map (·.1)).Nodup
structure GoodK (sn:ab ai) (k:StockT):Prop where
 nm:aY k.nm=al
 lo:0<=k.lo/\k.lo<=k.hi
 hi:0<=k.hi/\k.hi<=1000000
 tk:GoodA sn k.tk
 pt:GoodA sn k.pt
structure Good (bs:ab BenchT) (ss:ab StepT) (js:ab JobT) (us:ab SetT) (ls:ab LinkT) (ks:ab StockT) (hz:af):Prop where
 hh:1<=hz/\hz<=1000000
 bl:1<=bs.length/\bs.length<=8
 b:∀x∈bs,GoodB hz x
 bn:(bs.map (·.nm)).Nodup
 sl:1<=ss.length/\ss.length<=40
 s:∀x∈ss,GoodS (bs.map (·.nm)) hz x
 sn:(ss.map (·.nm)).Nodup
 jl:js.length<=40
 j:∀x∈js,GoodJ (ss.map (·.nm)) hz x
 jn:(js.map (·.nm)).Nodup
 jm:(js.flatMap (·.ms)).Nodup
 ul:us.length<=100
 u:∀x∈us,GoodU (bs.map (·.nm)) hz x
 un:(us.map fun u=>[u.b,u.p,u.q]).Nodup
 ll:ls.length<=100
 l:∀x∈ls,GoodL (ss.map (·.nm)) hz x
 ln:(ls.map fun l=>[l.a,l.b]).Nodup
 kl:ks.length<=6
 k:∀x∈ks,GoodK (ss.map (·.nm)) x
 kn:(ks.map (·.nm)).Nodup
theorem ixL (l:ab D) (n:ag):ixD (.lst l) (.int (n:af))=l[n]?:=kK l n
theorem szN {k:ag} (h:n<=k) (hk:k<=1000):n<=aM:=by unfold aM;omega
variable {ss:ab StepT}
section
variable {bn:ab ai}
theorem IT (len:br.length<=10) (gap:∀(i:ag) p q,br[i]?=aa p->br[i+1]?=aa q->p.2<q.1) :
  cF eG (ae (aD (bc (itR mJ (ae (vC (.int 1)) (ae (cF bT (ae (vSh 0) ak)) ak))) (ay 0) tT (b2 ltD (b2 ixD (b2 ixD (vSh 1) (b2 kZ (vSh 0) (vC (.int 1)))) (vC (.int 1))) (b2 ixD (b2 ixD (vSh 1) (vSh 0)) (vC (.int 0)))) [ac,aa 0])) ak) [oS (.lst (br.map dIv)),oS (.int h)]=aa (.bl al):=by
 have e0:itR mJ (ae (vC (.int 1)) (ae (cF bT (ae (vSh 0) ak)) ak)) [oS (.lst (br.map dIv)),oS (.int h)]=aa ((bj (((br.map dIv).length:af)-1).toNat).map fun k:ag=>D.int (1+k)):=by exact jQ rfl (M1 (i:=1) (j:=((br.map dIv).length:ag)) (by rw[qe];omega))
 refine gD (r:=[oS (.lst (br.map dIv))]) (a:=ac) e0 ?_ rfl fun x hx=>?_
 .simp only[qe,qU];exact szN (k:=10) (by omega) (by decide)
 .obtain⟨k,hk,rfl⟩:=bP.mp hx;rw[dU,qe] at hk;have hk1:k<br.length:=by omega
  have hk2:k+1<br.length:=by omega
  have e1:br[k]?=aa br[k]:=by simp[hk1]
  have e2:br[k+1]?=aa br[k+1]:=by simp[hk2]
  have g:=gap k _ _ e1 e2;have a1:ixD (.lst (br.map dIv)) (.int (1+(k:af)-1))=aa (dIv br[k]):=by
   have:(1+(k:af)-1)=((k:ag):af):=by omega
   rw[this,ixL,qj,e1];rfl
  have a2:ixD (.lst (br.map dIv)) (.int (1+(k:af)))=aa (dIv br[k+1]):=by
   have:(1+(k:af))=((k+1:ag):af):=by omega
   rw[this,ixL,qj,e2];rfl
  simp only[vSh,vC,b2,ltD,kZ,qb,qc,qa,a1,a2];simp only[dIv,il,i7,qa,qS g]
theorem ME (len:br.length<=10) (iv:∀p∈br,0<=p.1/\p.1<p.2/\p.2<=h) (gap:∀(i:ag) p q,br[i]?=aa p->br[i+1]?=aa q->p.2<q.1) :
  xT [.lst (br.map dIv),.int h]=aa (.bl al):=by
 refine bH [oS (.lst (br.map dIv)),oS (.int h)] rfl ((jc ?_ (gD (r:=[oS (.int h)]) (a:=ac) (xs:=br.map dIv) rfl (by rw[qe];exact szN len (by decide)) rfl fun x hx=>?_)).trans (bR (IT len gap)))
 .exact jT _ 0 10 ⟨by omega,by rw[qe];omega⟩
 .obtain⟨p,hp,rfl⟩:=bP.mp hx;obtain⟨h1,h2,h3⟩:=iv p hp;exact Jr p h h1 h2 h3
theorem JF {b:BenchT} (g:GoodB h b):sS [bU b,.int h]=aa (.bl al):=by simp only[sS,bU,aZ,aK,cJ,cF,ae,ak,vSh,vC,b2,il,i7,qm,qO,qp,qR,bQ,qb,qc,qa,qd,sR,jg g.nm,ME g.len g.iv g.gap]
theorem lK {f:α->D} {nm:α->ai} {xs:ab α} (hf:∀x,∃r,f x=.tup (.str (nm x)::r)) (h1:vSh i ρ=aa (.lst (xs.map f))) (h2:xs.length<=aM) (h3:gw fv ρ=[ac]) :
  aD (bc (itF (vSh i)) (ay 0) tT (b2 ixD (vSh 0) (vC (.int 0))) fv) ρ=aa (.lst ((xs.map nm).map D.str)):=by
 have hc:=jH (fi:=itF (vSh i)) (fe:=b2 ixD (vSh 0) (vC (.int 0))) (fv:=fv) (ρ:=ρ) (r:=[]) (a:=ac) (xs:=xs.map f) (f:=fun d=>match d with|.tup (x::_)=>x|_=>.non) (by unfold itF;rw[h1];rfl) (by rw[qe];exact h2) h3 (fun x hx=>by obtain⟨y,_,rfl⟩:=bP.mp hx;obtain⟨r,e⟩:=hf y;simp only[b2,vSh,vC,qb,qa,e,il])
 rw[hc]
 congr 2
 rw[qo,qo];refine oH fun x _=>?_;obtain⟨r,e⟩:=hf x;simp[e]
theorem HZ {bs:ab BenchT} (l1:1<=bs.length) (l8:bs.length<=8) (g:∀x∈bs,GoodB h x) (nd:(bs.map (·.nm)).Nodup):wn [.lst (bs.map bU),.int h]=aa (.bl al):=by
 refine bH [oS (.lst (bs.map bU)),oS (.int h)] rfl ((jc ?_ (gD (r:=[oS (.int h)]) (a:=ac) (xs:=bs.map bU) rfl (by rw[qe];exact szN l8 (by decide)) rfl fun x hx=>?_)).trans (bR ?_))
 .exact jT _ 1 8 ⟨by rw[qe];omega,by rw[qe];omega⟩
 .obtain⟨p,hp,rfl⟩:=bP.mp hx;exact JF (g p hp)
 .have:=lK (i:=0) (fv:=[ac]) (ρ:=[oS (.lst (bs.map bU)),oS (.int h)]) (f:=bU) (nm:=(·.nm)) (xs:=bs) (fun x=>⟨_,rfl⟩) rfl (szN l8 (by decide)) rfl;simp only[cF,ae,ak,this,qa,qd];exact mN nd (by rw[qe];omega)
theorem Pm {w:ai×af} (hb:∀y∈bn,aY y=al) (g:w.1∈bn/\1<=w.2/\w.2<=h):sX [dW w,.lst (bn.map D.str),.int h]=aa (.bl al):=by simp only[sX,dW,aZ,aK,cJ,cF,ae,ak,vSh,vC,b2,il,i7,qm,qO,qp,qR,bQ,qb,qc,qa,qd,sR,nB g.1 hb,jk w.2 1 h g.2]
theorem KY {ws:ab (ai×af)} (hb:∀y∈bn,aY y=al) (l1:1<=ws.length) (l4:ws.length<=4) (g:∀w∈ws,w.1∈bn/\1<=w.2/\w.2<=h) (nd:(ws.map (·.1)).Nodup):xj [.lst (ws.map dW),.lst (bn.map D.str),.int h]=aa (.bl al):=by
 refine bH [oS (.lst (ws.map dW)),oS (.lst (bn.map D.str)),oS (.int h)] rfl ((jc ?_ (gD (r:=[oS (.lst (bn.map D.str)),oS (.int h)]) (a:=ac) (xs:=ws.map dW) rfl (by rw[qe];exact szN l4 (by decide)) rfl fun x hx=>?_)).trans (bR ?_))
 .exact jT _ 1 4 ⟨by rw[qe];omega,by rw[qe];omega⟩
 .obtain⟨p,hp,rfl⟩:=bP.mp hx;exact Pm hb (g p hp)
 .have:=lK (i:=0) (fv:=[ac]) (ρ:=[oS (.lst (ws.map dW)),oS (.lst (bn.map D.str)),oS (.int h)]) (f:=dW) (nm:=(·.1)) (xs:=ws) (fun x=>⟨_,rfl⟩) rfl (szN l4 (by decide)) rfl;simp only[cF,ae,ak,this,qa,qd];exact mN nd (by rw[qe];omega)
theorem NZ {s:StepT} (hb:∀y∈bn,aY y=al) (g:GoodS bn h s):tK [bf s,.lst (bn.map D.str),.int h]=aa (.bl al):=by simp only[tK,bf,aZ,ax,sIf,aK,aU,orT,ba,toB,cF,ae,ak,vSh,vC,b2,il,i7,oK,qm,qO,qp,qR,bQ,qb,qc,qa,qd,cW,iW,qq,BU,jg g.nm,jg g.kd,KY hb g.l1 g.l4 g.ws g.nd]
theorem OH (hb:∀y∈bn,aY y=al) (l1:1<=ss.length) (l4:ss.length<=40) (g:∀s∈ss,GoodS bn h s) (nd:(ss.map (·.nm)).Nodup):yj [.lst (ss.map bf),.lst (bn.map D.str),.int h]=aa (.bl al):=by
 refine bH [oS (.lst (ss.map bf)),oS (.lst (bn.map D.str)),oS (.int h)] rfl ((jc ?_ (gD (r:=[oS (.lst (bn.map D.str)),oS (.int h)]) (a:=ac) (xs:=ss.map bf) rfl (by rw[qe];exact szN l4 (by decide)) rfl fun x hx=>?_)).trans (bR ?_))
 .exact jT _ 1 40 ⟨by rw[qe];omega,by rw[qe];omega⟩
 .obtain⟨p,hp,rfl⟩:=bP.mp hx;exact NZ hb (g p hp)
 .have:=lK (i:=0) (fv:=[ac]) (ρ:=[oS (.lst (ss.map bf)),oS (.lst (bn.map D.str)),oS (.int h)]) (f:=bf) (nm:=(·.nm)) (xs:=ss) (fun x=>⟨_,rfl⟩) rfl (szN l4 (by decide)) rfl;simp only[cF,ae,ak,this,qa,qd];exact mN nd (by rw[qe];omega)
end
theorem zP (a b:ai):neA (.str a) (.str b)=aa (.bl (!decide (a=b))):=rfl
theorem Bd {a b c:D} :sD ac (aa 3) (.tup [a,b,c,d])=aa (.tup [a,b,c]):=rfl
theorem Hq {a b c:D} :sD ac (aa 2) (.tup [a,b,c])=aa (.tup [a,b]):=rfl
theorem De {α β:Type} {f:α->ab β} {m:ag}:∀{l:ab α},(∀x∈l,(f x).length<=m)->(l.flatMap f).length<=l.length*m
 |[],_=>by simp
 |x::r,h=>by have h1:=h x qf;have h2:=De (l:=r) fun y hy=>h y (qg _ hy);rw[F5,qi,qh,zc];omega
variable {js:ab JobT} {us:ab SetT} {ls:ab LinkT} {ks:ab StockT}
section
variable {bn:ab ai}
theorem L0 {j:JobT} (hs:∀y∈sn,aY y=al) (hl:sn.length<=40) (g:GoodJ sn h j):yn [bo j,.lst (sn.map D.str),.int h]=aa (.bl al):=by
 refine bH [oS (bo j),oS (.lst (sn.map D.str)),oS (.int h)] rfl ((KH ?_ ?_ ?_).trans ((jc ?_ ?_).trans (bR (ud ?_ (gD (r:=[oS (.lst (sn.map D.str))]) (a:=ac) (xs:=j.ms.map D.str) ?_ ?_ rfl fun x hx=>?_)))))
 .exact BS
 .simp only[bo,cF,ae,ak,vSh,vC,b2,il,qb,qa,qd,jg g.nm]
 .simp only[bo,cF,ae,ak,vSh,vC,b2,cU,tyD,pP,qb,qa,qd,i5]
 .simp only[bo,cF,ae,ak,vSh,vC,b2,i7,qb,qc,qa,qd,jk _ 0 h g.ea]
 .simp only[bo,cF,ae,ak,vSh,vC,b2,oK,qb,qc,qa,qd,jk _ 0 h g.du]
 .simp only[bo,cF,ae,ak,vSh,vC,b2,bT,pE,qb,qc,qa,qd];exact jT _ _ _ ⟨by rw[qe];have:=g.l1;omega,by rw[qe,qe];have:=g.ln;omega⟩
 .simp only[bo,vSh,vC,b2,itF,oM,pE,qb,qa]
 .rw[qe];exact szN (qM g.ln hl) (by decide)
 .obtain⟨m,hm,rfl⟩:=bP.mp hx;simp only[cF,ae,ak,vSh,qb,qc,qa,qd,nB (g.ms m hm) hs]
theorem Kw {H:ao Slot} (hl:js.length<=40) (g:∀j∈js,j.ms.length<=40) :
  ∃z,dD (ay 4) (nC 3 (b2 ixD (vSh 4) (vC (.int 4)))) (js.map bo) [oS (.lst (js.map bo)),S,H,aa (.own []),ac]=aa (.nx,[oS (.lst (js.map bo)),S,H,aa (.own ((js.flatMap (·.ms)).map D.str)),z]):=by
 obtain⟨ρ',h1,z,h2⟩:=fg (gg:=ay 4) (body:=nC 3 (b2 ixD (vSh 4) (vC (.int 4)))) (xs:=js.map bo) (ρ:=[oS (.lst (js.map bo)),S,H,aa (.own []),ac])
  (fun i ρ=>∃z,ρ=[oS (.lst (js.map bo)),S,H,aa (.own (((js.take i).flatMap (·.ms)).map D.str)),z]) ⟨ac,by simp⟩ (fun i x ρ hx hI=>by
   obtain⟨z,rfl⟩:=hI;rw[qj] at hx;obtain⟨j,hj,rfl⟩:=oMd hx;have hm:j∈js:=qP hj;have t1:((js.take i).flatMap (·.ms)).length<=(js.take i).length*40:=De fun y hy=>g y (oB hy);have t2:(js.take i).length<=40:=by rw[qE];omega
   have t3:=g j hm;have tk:js.take (i+1)=js.take i++[j]:=by rw[F6,hj];rfl
   have sz:(((js.take i).flatMap (·.ms)).map D.str).length+(j.ms.map D.str).length<=aM:=by rw[qe,qe];unfold aM;omega
   refine⟨_,[oS (.lst (js.map bo)),S,H,aa (.own (((js.take (i+1)).flatMap (·.ms)).map D.str)),oS (bo j)],rfl,?_,_,rfl⟩;have e:b2 ixD (vSh 4) (vC (.int 4)) [oS (.lst (js.map bo)),S,H,aa (.own (((js.take i).flatMap (·.ms)).map D.str)),oS (bo j)]=aa (.lst (j.ms.map D.str)):=by simp only[bo,vSh,vC,b2,pE,qb,qc,qa]
   simp only[nC,nz,F7,qb,qc,e,qa,qY sz,tk];simp)
 refine⟨z,?_⟩;rw[h1,h2,qe,ny]
theorem Qt (hs:∀y∈sn,aY y=al) (hl:sn.length<=40) (l4:js.length<=40) (g:∀j∈js,GoodJ sn h j) (nd:(js.map (·.nm)).Nodup) (nm:(js.flatMap (·.ms)).Nodup) (ml:(js.flatMap (·.ms)).length<=300):w9 [.lst (js.map bo),.lst (sn.map D.str),.int h]=aa (.bl al):=by
 obtain⟨z,hz⟩:=Kw (js:=js) (S:=oS (.lst (sn.map D.str))) (H:=oS (.int h)) l4 fun j hj=>qM (g j hj).ln hl;refine bH [oS (.lst (js.map bo)),oS (.lst (sn.map D.str)),oS (.int h),ac,ac] (ρ':=[oS (.lst (js.map bo)),oS (.lst (sn.map D.str)),oS (.int h),oS (.lst ((js.flatMap (·.ms)).map D.str)),z]) rfl ((jc ?_ (gD (r:=[oS (.lst (sn.map D.str)),oS (.int h)]) (a:=ac) (xs:=js.map bo) rfl (by rw[qe];exact szN l4 (by decide)) rfl fun x hx=>?_)).trans ?_)
 .exact jT _ 0 40 ⟨by omega,by rw[qe];omega⟩
 .obtain⟨p,hp,rfl⟩:=bP.mp hx;simp only[cF,ae,ak,vSh,qb,qc,qa,qd,L0 hs hl (g p hp)]
 .have nn:=lK (i:=0) (fv:=[ac]) (ρ:=[oS (.lst (js.map bo)),oS (.lst (sn.map D.str)),oS (.int h),oS (.lst ((js.flatMap (·.ms)).map D.str)),z]) (f:=bo) (nm:=(·.nm)) (xs:=js) (fun x=>⟨_,rfl⟩) rfl (szN l4 (by decide)) rfl;have u1:cF fG (ae (aD (bc (itF (vSh 0)) (ay 0) tT (b2 ixD (vSh 0) (vC (.int 0))) [ac])) ak) [oS (.lst (js.map bo)),oS (.lst (sn.map D.str)),oS (.int h),oS (.lst ((js.flatMap (·.ms)).map D.str)),z]=aa (.bl al):=
   aT (aB nn aL) (mN nd (by rw[qe];omega))
  have u2:cF fG (ae (vSh 3) ak) [oS (.lst (js.map bo)),oS (.lst (sn.map D.str)),oS (.int h),oS (.lst ((js.flatMap (·.ms)).map D.str)),z]=aa (.bl al):=
   aT (aB rfl aL) (mN nm ml)
  have r:=bR (ud u1 u2);have z0:(0<=aM)=True:=by simp
  simp only[ax,dI,szF,ak,qa,qd,qk,z0,cy,nz,F7,ck,itF,vSh,qb,oM];rw[hz];simp only[qa,eR,qb,qc,nz,F7];exact r
theorem Ko {u:SetT} (hb:∀y∈bn,aY y=al) (g:GoodU bn h u):tP [cc u,.lst (bn.map D.str),.int h]=aa (.bl al):=by simp only[tP,cc,aZ,ax,sIf,aK,aU,cJ,orT,ba,toB,cF,ae,ak,vSh,vC,b2,il,i7,oK,pP,qm,qO,qp,qR,bQ,qb,qc,qa,qd,cW,iW,qq,P2,nB g.b hb,jg g.p,jg g.q,jk _ 1 h g.n]
theorem H0 (hb:∀y∈bn,aY y=al) (l4:us.length<=100) (g:∀u∈us,GoodU bn h u) (nd:(us.map fun u=>[u.b,u.p,u.q]).Nodup):xu [.lst (us.map cc),.lst (bn.map D.str),.int h]=aa (.bl al):=by
 refine bH [oS (.lst (us.map cc)),oS (.lst (bn.map D.str)),oS (.int h)] rfl ((jc ?_ (gD (r:=[oS (.lst (bn.map D.str)),oS (.int h)]) (a:=ac) (xs:=us.map cc) rfl (by rw[qe];exact szN l4 (by decide)) rfl fun x hx=>?_)).trans (bR (aT (aB (jH (r:=[]) (a:=ac) (xs:=us.map cc) (f:=fun d=>match d with|.tup [a,b,c,d]=>.tup [a,b,c]|_=>.non) rfl (by rw[qe];exact szN l4 (by decide)) rfl fun x hx=>?_) aL) ?_)))
 .exact jT _ 0 100 ⟨by omega,by rw[qe];omega⟩
 .obtain⟨p,hp,rfl⟩:=bP.mp hx;simp only[cF,ae,ak,vSh,qb,qc,qa,qd,Ko hb (g p hp)]
 .obtain⟨p,hp,rfl⟩:=bP.mp hx;simp only[vSh,vC,slF,pN,pS,qb,qa,cc,Bd]
 .have:=DK nd (by rw[qe];omega);rw[qo] at this ⊢;exact this
theorem N1 {l:LinkT} (hs:∀y∈sn,aY y=al) (g:GoodL sn h l):uy [cu l,.lst (sn.map D.str),.int h]=aa (.bl al):=by have:=g.ne;simp only[uy,cu,aZ,ax,sIf,aK,aU,cJ,orT,ba,toB,cF,ae,ak,vSh,vC,b2,il,i7,oK,qm,qO,qp,qR,bQ,qb,qc,qa,qd,cW,iW,oF,qq,BU,nB g.a hs,nB g.b hs,zP,qN g.ne,jk _ 0 h g.g]
theorem Pi (hs:∀y∈sn,aY y=al) (l4:ls.length<=100) (g:∀l∈ls,GoodL sn h l) (nd:(ls.map fun l=>[l.a,l.b]).Nodup):vY [.lst (ls.map cu),.lst (sn.map D.str),.int h]=aa (.bl al):=by
 refine bH [oS (.lst (ls.map cu)),oS (.lst (sn.map D.str)),oS (.int h)] rfl ((jc ?_ (gD (r:=[oS (.lst (sn.map D.str)),oS (.int h)]) (a:=ac) (xs:=ls.map cu) rfl (by rw[qe];exact szN l4 (by decide)) rfl fun x hx=>?_)).trans (bR (aT (aB (jH (r:=[]) (a:=ac) (xs:=ls.map cu) (f:=fun d=>match d with|.tup [a,b,c]=>.tup [a,b]|_=>.non) rfl (by rw[qe];exact szN l4 (by decide)) rfl fun x hx=>?_) aL) ?_)))
 .exact jT _ 0 100 ⟨by omega,by rw[qe];omega⟩
 .obtain⟨p,hp,rfl⟩:=bP.mp hx;simp only[cF,ae,ak,vSh,qb,qc,qa,qd,N1 hs (g p hp)]
 .obtain⟨p,hp,rfl⟩:=bP.mp hx;simp only[vSh,vC,slF,pN,pS,qb,qa,cu,Hq]
 .have:=DK nd (by rw[qe];omega);rw[qo] at this ⊢;exact this
theorem Lg {w:ai×af} (hs:∀y∈sn,aY y=al) (g:w.1∈sn/\1<=w.2/\w.2<=1000000):uf [dW w,.lst (sn.map D.str)]=aa (.bl al):=by simp only[uf,dW,aZ,aK,cJ,cF,ae,ak,vSh,vC,b2,il,i7,qm,qO,qp,qR,bQ,qb,qc,qa,qd,sR,nB g.1 hs,jk w.2 1 1000000 g.2]
theorem En {ws:ab (ai×af)} (hs:∀y∈sn,aY y=al) (hl:sn.length<=40) (g:GoodA sn ws):tm [.lst (ws.map dW),.lst (sn.map D.str)]=aa (.bl al):=by
 have l4:ws.length<=40:=qM g.ln hl;refine bH [oS (.lst (ws.map dW)),oS (.lst (sn.map D.str))] rfl ((jc ?_ (gD (r:=[oS (.lst (sn.map D.str))]) (a:=ac) (xs:=ws.map dW) rfl (by rw[qe];exact szN l4 (by decide)) rfl fun x hx=>?_)).trans (bR ?_))
 .have e:=jT (ws.map dW) 0 ((sn.map D.str).length:ag) ⟨by omega,by rw[qe,qe];have:=g.ln;omega⟩;simp only[cF,ae,ak,vSh,vC,bT,qb,qc,qa,qd];exact e
 .obtain⟨p,hp,rfl⟩:=bP.mp hx;simp only[cF,ae,ak,vSh,qb,qc,qa,qd,Lg hs (g.ws p hp)]
 .have:=lK (i:=0) (fv:=[ac]) (ρ:=[oS (.lst (ws.map dW)),oS (.lst (sn.map D.str))]) (f:=dW) (nm:=(·.1)) (xs:=ws) (fun x=>⟨_,rfl⟩) rfl (szN l4 (by decide)) rfl;exact aT (aB this aL) (mN g.nd (by rw[qe];omega))
theorem GW {k:StockT} (hs:∀y∈sn,aY y=al) (hl:sn.length<=40) (g:GoodK sn k):tY [cC k,.lst (sn.map D.str)]=aa (.bl al):=by simp only[tY,cC,aZ,ax,sIf,aK,aU,cJ,orT,ba,toB,cF,ae,ak,vSh,vC,b2,il,i7,oK,pP,pE,qm,qO,qp,qR,bQ,qb,qc,qa,qd,cW,iW,qq,BS,jg g.nm,jk _ 0 1000000 g.hi,jk _ 0 _ g.lo,En hs hl g.tk,En hs hl g.pt]
theorem NG (hs:∀y∈sn,aY y=al) (hl:sn.length<=40) (l4:ks.length<=6) (g:∀k∈ks,GoodK sn k) (nd:(ks.map (·.nm)).Nodup):wF [.lst (ks.map cC),.lst (sn.map D.str)]=aa (.bl al):=by
 refine bH [oS (.lst (ks.map cC)),oS (.lst (sn.map D.str))] rfl ((jc ?_ (gD (r:=[oS (.lst (sn.map D.str))]) (a:=ac) (xs:=ks.map cC) rfl (by rw[qe];exact szN l4 (by decide)) rfl fun x hx=>?_)).trans (bR ?_))
 .exact jT _ 0 6 ⟨by omega,by rw[qe];omega⟩
 .obtain⟨p,hp,rfl⟩:=bP.mp hx;simp only[cF,ae,ak,vSh,qb,qc,qa,qd,GW hs hl (g p hp)]
 .have:=lK (i:=0) (fv:=[ac]) (ρ:=[oS (.lst (ks.map cC)),oS (.lst (sn.map D.str))]) (f:=cC) (nm:=(·.nm)) (xs:=ks) (fun x=>⟨_,rfl⟩) rfl (szN l4 (by decide)) rfl;exact aT (aB this aL) (mN nd (by rw[qe];omega))
end
section
variable {bs:ab BenchT}
theorem Good.bnn (g:Good bs ss js us ls ks h):∀y∈bs.map (·.nm),aY y=al:=fun y hy=>by obtain⟨b,hb,rfl⟩:=bP.mp hy;exact(g.b b hb).nm
theorem Good.snn (g:Good bs ss js us ls ks h):∀y∈ss.map (·.nm),aY y=al:=fun y hy=>by obtain⟨b,hb,rfl⟩:=bP.mp hy;exact(g.s b hb).nm
theorem J7 (g:Good bs ss js us ls ks h) (ml:(js.flatMap (·.ms)).length<=300):v6 [.lst (bs.map bU),.lst (ss.map bf),.lst (js.map bo),.lst (us.map cc),.lst (ls.map cu),.lst (ks.map cC),.int h]=aa .non:=by
 have hb:=g.bnn;have hs:=g.snn;have hl:(ss.map (·.nm)).length<=40:=by rw[qe];exact g.sl.2
 have n1:∀z:ao Slot,aD (bc (itF (vSh 0)) (ay 0) tT (b2 ixD (vSh 0) (vC (.int 0))) [ac]) [oS (.lst (bs.map bU)),oS (.lst (ss.map bf)),oS (.lst (js.map bo)),oS (.lst (us.map cc)),oS (.lst (ls.map cu)),oS (.lst (ks.map cC)),oS (.int h),ac,ac]=aa (.lst ((bs.map (·.nm)).map D.str)):=fun z=>
  lK (f:=bU) (nm:=(·.nm)) (xs:=bs) (fun x=>⟨_,rfl⟩) rfl (szN g.bl.2 (by decide)) rfl
 have n2:aD (bc (itF (vSh 1)) (ay 0) tT (b2 ixD (vSh 0) (vC (.int 0))) [ac]) [oS (.lst (bs.map bU)),oS (.lst (ss.map bf)),oS (.lst (js.map bo)),oS (.lst (us.map cc)),oS (.lst (ls.map cu)),oS (.lst (ks.map cC)),oS (.int h),oS (.lst ((bs.map (·.nm)).map D.str)),ac]=aa (.lst ((ss.map (·.nm)).map D.str)):=
  lK (f:=bf) (nm:=(·.nm)) (xs:=ss) (fun x=>⟨_,rfl⟩) rfl (szN g.sl.2 (by decide)) rfl
 refine bH [oS (.lst (bs.map bU)),oS (.lst (ss.map bf)),oS (.lst (js.map bo)),oS (.lst (us.map cc)),oS (.lst (ls.map cu)),oS (.lst (ks.map cC)),oS (.int h),ac,ac] rfl ((mK ?_).trans ((mK ?_).trans ((bz (n1 ac)).trans ((mK ?_).trans ((bz n2).trans ((mK ?_).trans ((mK ?_).trans ((mK ?_).trans ((mK ?_).trans (bR rfl))))))))))
 .exact jk h 1 1000000 g.hh
 .exact HZ g.bl.1 g.bl.2 g.b g.bn
 .exact OH hb g.sl.1 g.sl.2 g.s g.sn
 .exact Qt hs hl g.jl g.j g.jn g.jm ml
 .exact H0 hb g.ul g.u g.un
 .exact Pi hs g.ll g.l g.ln
 .exact NG hs hl g.kl g.k g.kn
end
noncomputable def Pl:ag->D->Prop
 |0,_=>False
 |n+1,.lst l=>l.length<=aM/\∀x∈l,Pl n x
 |n+1,.tup l=>l.length<=aM/\∀x∈l,Pl n x
 |_+1,.non=>True
 |_+1,.bl _=>True
 |_+1,.int _=>True
 |_+1,.str _=>True
 |_+1,_=>False
theorem cb {X E:FS} (h:ft ρ=aa aq):ax (sIf ft X aU) E ρ=E ρ:=by simp only[ax,sIf,h,qa,qq,cW,aU]
theorem rj {A E:FS} (h:ft ρ=aa al) (h2:A ρ=aa (.rt d,ρ')):ax (sIf ft A B) E ρ=aa (.rt d,ρ'):=by simp only[ax,sIf,h,qa,cy,h2]
theorem xB:∀(n:ag) (d:D),Pl n d->j0 n [d]=aa d
 |0,_,h=>h.elim
 |n+1,.lst l,h=>by
  refine bH [oS (.lst l)] rfl (rj (bx (b:=al) ?_) (bR ?_))
  .simp only[cF,ae,ak,vSh,vC,cU,tyD,qb,qa,qd,k1]
  .have:=jH (fi:=itF (vSh 0)) (fe:=cF (j0 n) (ae (vSh 0) ak)) (fv:=[ac]) (ρ:=[oS (.lst l)]) (r:=[]) (a:=ac) (xs:=l) (f:=fun x=>x) rfl h.1 rfl (fun x hx=>by simp only[cF,ae,ak,vSh,qb,qa,qd,xB n x (h.2 x hx)]);rw[zI] at this;exact this
 |n+1,.tup l,h=>by
  refine bH [oS (.tup l)] rfl ((cb (bx (b:=aq) ?_)).trans (rj (bx (b:=al) ?_) (bR (aT (aB (d:=.lst l) ?_ aL) rfl))))
  .simp only[cF,ae,ak,vSh,vC,cU,tyD,qb,qa,qd,k2]
  .simp only[cF,ae,ak,vSh,vC,cU,tyD,qb,qa,qd,k3]
  .have:=jH (fi:=itF (vSh 0)) (fe:=cF (j0 n) (ae (vSh 0) ak)) (fv:=[ac]) (ρ:=[oS (.tup l)]) (r:=[]) (a:=ac) (xs:=l) (f:=fun x=>x) rfl h.1 rfl (fun x hx=>by simp only[cF,ae,ak,vSh,qb,qa,qd,xB n x (h.2 x hx)]);rw[zI] at this;exact this
 |n+1,.non,h=>by
  show jD (j0 n) [.non]=aa .non;unfold jD;refine bH [oS .non] rfl ((cb (bx (b:=aq) ?_)).trans ((cb (bx (b:=aq) ?_)).trans (bR (f:=vSh 0) rfl)))<;>simp only[cF,ae,ak,vSh,vC,cU,tyD,qb,qa,qd,k10,k11]
 |n+1,.bl b,h=>by
  show jD (j0 n) [.bl b]=aa (.bl b);unfold jD;refine bH [oS (.bl b)] rfl ((cb (bx (b:=aq) ?_)).trans ((cb (bx (b:=aq) ?_)).trans (bR (f:=vSh 0) rfl)))<;>simp only[cF,ae,ak,vSh,vC,cU,tyD,qb,qa,qd,k8,k9]
 |n+1,.int b,h=>by
  show jD (j0 n) [.int b]=aa (.int b);unfold jD;refine bH [oS (.int b)] rfl ((cb (bx (b:=aq) ?_)).trans ((cb (bx (b:=aq) ?_)).trans (bR (f:=vSh 0) rfl)))<;>simp only[cF,ae,ak,vSh,vC,cU,tyD,qb,qa,qd,k6,k7]
 |n+1,.str b,h=>by show jD (j0 n) [.str b]=aa (.str b);unfold jD;refine bH [oS (.str b)] rfl ((cb (bx (b:=aq) ?_)).trans ((cb (bx (b:=aq) ?_)).trans (bR (f:=vSh 0) rfl)))<;>simp only[cF,ae,ak,vSh,vC,cU,tyD,qb,qa,qd,k4,k4,k5]
theorem iF (h:Pl 8 d):eJ [d]=aa d:=xB 8 d h
theorem eA {f:α->D} {xs:ab α} (hl:xs.length<=1000) (h:∀x∈xs,Pl n (f x)):Pl (n+1) (.lst (xs.map f)):=
 ⟨by rw[qe];exact szN hl (by decide),fun x hx=>by obtain⟨y,hy,rfl⟩:=bP.mp hx;exact h y hy⟩
theorem Qy {xs:ab ai} (hl:xs.length<=1000):Pl (n+2) (.lst (xs.map D.str)):=eA hl fun x _=>(trivial:Pl (n+1) (.str x))
theorem wD {xs:ab (ai×af)} (hl:xs.length<=1000):Pl (n+3) (.lst (xs.map dW)):=eA hl fun x _=>⟨by simp[aM],by intro y hy;simp only[qL,qJ,or_false] at hy;rcases hy with rfl|rfl<;>trivial⟩
theorem xi {b:BenchT} (g:GoodB h b):Pl (n+4) (bU b):=⟨by simp[aM],by
 intro y hy;simp only[qL,qJ,or_false] at hy;rcases hy with rfl|rfl
 .trivial
 .exact eA (by have:=g.len;omega) fun x _=>⟨by simp[aM],by intro y hy;simp only[qL,qJ,or_false] at hy;rcases hy with rfl|rfl<;>trivial⟩⟩
theorem xf {bn:ab ai} {s:StepT} (g:GoodS bn h s):Pl (n+4) (bf s):=⟨by simp[aM],by
 intro y hy;simp only[qL,qJ,or_false] at hy;rcases hy with rfl|rfl|rfl
 .trivial
 .trivial
 .exact wD (by have:=g.l4;omega)⟩
theorem wW {j:JobT} (hl:sn.length<=40) (g:GoodJ sn h j):Pl (n+3) (bo j):=⟨by simp[aM],by
 intro y hy;simp only[qL,qJ,or_false] at hy;rcases hy with rfl|rfl|rfl|rfl|rfl
 .trivial
 .trivial
 .trivial
 .trivial
 .exact Qy (by have:=g.ln;omega)⟩
theorem wv {u:SetT} :Pl (n+2) (cc u):=⟨by simp[aM],by intro y hy;simp only[qL,qJ,or_false] at hy;rcases hy with rfl|rfl|rfl|rfl<;>trivial⟩
theorem xX {u:LinkT} :Pl (n+2) (cu u):=⟨by simp[aM],by intro y hy;simp only[qL,qJ,or_false] at hy;rcases hy with rfl|rfl|rfl<;>trivial⟩
theorem x8 {k:StockT} (hl:sn.length<=40) (g:GoodK sn k):Pl (n+4) (cC k):=⟨by simp[aM],by
 intro y hy;simp only[qL,qJ,or_false] at hy;rcases hy with rfl|rfl|rfl|rfl|rfl
 .trivial
 .trivial
 .trivial
 .exact wD (by have:=g.tk.ln;omega)
 .exact wD (by have:=g.pt.ln;omega)⟩
theorem Av {α:Type} {nm:α->ai} {f:α->D}:∀(xs:ab α),nT (xs.map fun x=>.tup [.str (nm x),f x])=aa (xs.map fun x=>(.inr (nm x),f x))
 |[]=>rfl
 |x::r=>by simp only[qm,nT,jP,qa,Av r,qd]
theorem AN {α:Type} {t:α->ab ai} {f:α->D}:∀(xs:ab α),mR (xs.map fun x=>.tup [.tup ((t x).map D.str),f x])=aa (xs.map fun x=>((t x).map cK,f x))
 |[]=>rfl
 |x::r=>by simp only[qm,mR,uz,qa,AN r,qd]
theorem z4 [fC κ] {ps:ab (κ×D)} (h:(ps.map (·.1)).Nodup):tH ps=ps:=by
 have key:∀(l a:ab (κ×D)),((a++l).map (·.1)).Nodup->l.foldl (fun acc kv=>iq acc kv.1 kv.2) a=a++l:=by
  intro l
  induction l with
  |nil=>intro a _;simp
  |cons x r ih=>
   intro a hn;have hx:(a.any fun kv=>decide (kv.1=x.1))=aq:=by rw[Q8];intro y hy z;rw[dZ,lq] at hn;exact hn.2.2 y.1 (vn hy) x.1 (by simp) (zp z)
   rw[nc];have e:iq a x.1 x.2=a++[x]:=by unfold iq;rw[hx];rfl
   rw[e,ih (a++[x]) (by simpa using hn)];simp
 simpa[tH] using key ps [] (by simpa using h)
theorem sF {β:Type}:∀{fs:ab (ai×β)} {i:ag} {k:ai} {d:β},(fs.map (·.1)).Nodup->fs[i]?=aa (k,d)->fs.lookup k=aa d
 |[],i,k,d,_,h=>by simp at h
 |(a,b)::r,0,k,d,_,h=>by
  simp only[qb,T8,Prod.mk.injEq] at h;obtain⟨rfl,rfl⟩:=h;simp[dw]
 |(a,b)::r,i+1,k,d,nd,h=>by
  rw[qc] at h;rw[qm,dG] at nd;have ne:k≠a:=by intro z;subst z;exact nd.1 (vn (f:=(·.1)) (qP h))
  have hb:(k==a)=aq:=by simpa using ne
  simp only[dw,hb];exact sF nd.2 h
theorem pf {β:Type}:∀{fs:ab (ai×β)} {k:ai},k∉fs.map (·.1)->fs.lookup k=ac
 |[],_,_=>rfl
 |(a,b)::r,k,h=>by
  rw[qm,qL,oE] at h;have hb:(k==a)=aq:=by simpa using h.1
  simp only[dw,hb];exact pf h.2
noncomputable def jK (j:JobT) (acc:ab (Key×D)) (m:ai):ab (Key×D):=iq acc (.inr m) (bo j)
noncomputable def jkv (js:ab JobT):ab (Key×D):=js.foldl (fun acc j=>j.ms.foldl (jK j) acc) []
theorem Ma [fC κ] (kvs:ab (κ×D)) (k:κ) (v:D):(iq kvs k v).length<=kvs.length+1:=by
 unfold iq;split
 .rw[qe];omega
 .rw[qi];simp
theorem xU (j:JobT):∀(ms:ab ai) (acc:ab (Key×D)),(ms.foldl (jK j) acc).length<=acc.length+ms.length
 |[],acc=>by simp
 |m::r,acc=>by rw[nc];have h1:=xU j r (jK j acc m);have h2:(jK j acc m).length<=acc.length+1:=Ma _ _ _;rw[qh];omega
theorem C8 {m:ag}:∀{js:ab JobT} (acc:ab (Key×D)),(∀j∈js,j.ms.length<=m)->(js.foldl (fun acc j=>j.ms.foldl (jK j) acc) acc).length<=acc.length+js.length*m
 |[],acc,_=>by simp
 |j::r,acc,h=>by rw[nc];have h1:=C8 (js:=r) (j.ms.foldl (jK j) acc) fun y hy=>h y (qg _ hy);have h2:=xU j j.ms acc;have h3:=h j qf;rw[qh,zc];omega
noncomputable def iZ (bs:ab BenchT) (ss:ab StepT) (js:ab JobT) (us:ab SetT) (ls:ab LinkT) (ks:ab StockT) (h:af):ab (ai×D):=
 [("benches",.lst (bs.map bU)),("steps",.lst (ss.map bf)),("jobs",.lst (js.map bo)),("setups",.lst (us.map cc)),("links",.lst (ls.map cu)),("stocks",.lst (ks.map cC)),("horizon",.int h),
 ("bench_by_name",.dk (bs.map fun b=>(.inr b.nm,bU b))),("step_by_name",.dk (ss.map fun s=>(.inr s.nm,bf s))),("setup_by_names",.dt (us.map fun u=>([u.b,u.p,u.q].map cK,.int u.n)))]
noncomputable def oa (bs:ab BenchT) (ss:ab StepT) (js:ab JobT) (us:ab SetT) (ls:ab LinkT) (ks:ab StockT) (h:af):ab (ai×D):=iZ bs ss js us ls ks h++[(("job_by_step":ai),D.dk (jkv js))]
noncomputable def cg (bs:ab BenchT) (ss:ab StepT) (js:ab JobT) (us:ab SetT) (ls:ab LinkT) (ks:ab StockT) (h:af):D:=.ins "Shop" (oa bs ss js us ls ks h)
noncomputable def ly:ab ai:=["benches","steps","jobs","setups","links","stocks","horizon","bench_by_name","step_by_name","setup_by_names","job_by_step"]
theorem tJ:ly.Nodup:=by decide +kernel
theorem Bs {l:ab α} (h:l.Nodup) (n:ag):(l.take n).Nodup:=T9 (uQ n l) h
section
variable {fs:ab (ai×D)} {f:ai} {fv:FE} {r:aX}
theorem j9 (n:ag) (hk:ly[n]?=aa f) (hf:fs.map (·.1)=ly.take n) (h:fv (aa (.obj "Shop" fs)::r)=aa d):ax (gT "Shop" f 0 fv) g (aa (.obj "Shop" fs)::r)=g (aa (.obj "Shop" (fs++[(f,d)]))::r):=by
 have hno:fs.lookup f=ac:=pf (by
  rw[hf];intro z;obtain⟨i,hi⟩:=vo z;have hin:i<n:=by
   rcases lg i n with q|q
   .exact q
   .rw[lh (by rw[qE];omega)] at hi;cases hi
  rw[uP hin] at hi;have:=(List.getElem?_inj (cR.mp hi).1 tJ).mp (hi.trans hk.symm);omega)
 have hlen:fs.length<100:=by have:=df fF hf;rw[qe,qE] at this;have k:ly.length=11:=rfl;omega
 simp only[ax,gT,h,qa,qb,hno,hlen,vm,cy,nz]
theorem wA (n i:ag) (hf:fs.map (·.1)=ly.take n) (h:fs[i]?=aa (f,d)):kc "Shop" f 0 (aa (.obj "Shop" fs)::r)=aa d:=by have e:fs.lookup f=aa d:=sF (by rw[hf];exact Bs tJ n) h;show(if aa ("Shop":ai)=aa ("Shop":ai) then fs.lookup f else ac)=aa d;rw[qY rfl,e]
end
theorem EE {f:α->D} {nm:α->ai} {xs:ab α} (hf:∀x,∃r,f x=.tup (.str (nm x)::r)) (h1:fo ρ=aa (.lst (xs.map f))) (h2:xs.length<=1000) (nd:(xs.map nm).Nodup) :
  cF pJ (ae (aD (bc (itF fo) (ay 0) tT (bK (szF (ae (b2 ixD (vSh 0) (vC (.int 0))) (ae (vSh 0) ak)))) [ac])) ak) ρ=aa (.dk (xs.map fun x=>(.inr (nm x),f x))):=by
 have hc:=jH (fi:=itF fo) (fe:=bK (szF (ae (b2 ixD (vSh 0) (vC (.int 0))) (ae (vSh 0) ak)))) (fv:=[ac]) (ρ:=ρ) (r:=[]) (a:=ac) (xs:=xs.map f) (f:=fun d=>.tup [match d with|.tup (x::_)=>x|_=>.non,d]) (by unfold itF;rw[h1];rfl) (by rw[qe];exact szN h2 (by decide)) rfl (fun x hx=>by obtain⟨y,_,rfl⟩:=bP.mp hx;obtain⟨r,e⟩:=hf y;simp only[ae,ak,vSh,vC,b2,bK,szF,il,qb,qa,qd,cy,qh,qk,jA,sz2,e])
 have e:(xs.map f).map (fun d=>D.tup [match d with|.tup (x::_)=>x|_=>.non,d])=xs.map fun x=>.tup [.str (nm x),f x]:=by rw[qo];refine oH fun x _=>?_;obtain⟨r,e⟩:=hf x;simp[e]
 rw[e] at hc;have kn:((xs.map fun x=>((.inr (nm x):Key),f x)).map (·.1)).Nodup:=by rw[qo];have:=vi (S:=fun a b:Key=>a≠b) (cK:ai->Key) (fun a b hab z=>hab (rz z)) nd;rw[qo] at this;exact this
 refine aT (aB hc aL) ?_;show(if _ then _ else _)=_;rw[qY (by rw[qe];exact h2),Av,qd,z4 kn]
theorem Jk (h1:fo ρ=aa (.lst (us.map cc))) (h2:us.length<=1000) (nd:(us.map fun u=>[u.b,u.p,u.q]).Nodup) :
  cF um (ae (aD (bc (itF fo) (ay 0) tT (bK (szF (ae (slF (vSh 0) pN (pS (vC (.int 3)))) (ae (b2 ixD (vSh 0) (vC (.int 3))) ak)))) [ac])) ak) ρ=aa (.dt (us.map fun u=>([u.b,u.p,u.q].map cK,.int u.n))):=by
 have hc:=jH (fi:=itF fo) (fe:=bK (szF (ae (slF (vSh 0) pN (pS (vC (.int 3)))) (ae (b2 ixD (vSh 0) (vC (.int 3))) ak)))) (fv:=[ac]) (ρ:=ρ) (r:=[]) (a:=ac) (xs:=us.map cc) (f:=fun d=>match d with|.tup [a,b,c,d]=>.tup [.tup [a,b,c],d]|_=>.non) (by unfold itF;rw[h1];rfl) (by rw[qe];exact szN h2 (by decide)) rfl (fun x hx=>by obtain⟨y,_,rfl⟩:=bP.mp hx;simp only[ae,ak,vSh,vC,b2,bK,szF,slF,pN,pS,pP,qb,qa,qd,cy,qh,qk,jA,sz2,cc,Bd])
 rw[qo] at hc;have kn:((us.map fun u=>([u.b,u.p,u.q].map (cK:ai->Key),D.int u.n)).map (·.1)).Nodup:=by rw[qo];have inj:∀a b:ab ai,a.map (cK:ai->Key)=b.map cK->a=b:=fun a b z=>(Sy (fun x y q=>rz q)).mp z;have:=vi (S:=fun a b:ab Key=>a≠b) (List.map (cK:ai->Key)) (fun a b hab z=>hab (inj a b z)) nd;rw[qo] at this;exact this
 refine aT (aB hc aL) ?_;show(if _ then _ else _)=_;have e:=AN (t:=fun u:SetT=>[u.b,u.p,u.q]) (f:=fun u=>.int u.n) us;rw[qY (by rw[qe];exact h2)];have e2:mR (us.map ((fun d=>match d with|.tup [a,b,c,d]=>D.tup [.tup [a,b,c],d]|_=>.non) ∘ cc))=aa (us.map fun u=>([u.b,u.p,u.q].map cK,.int u.n)):=e;rw[e2,qd,z4 kn]
section
variable {bs:ab BenchT}
theorem wY:(iZ bs ss js us ls ks h).map (·.1)=ly.take 10:=rfl
theorem As:(oa bs ss js us ls ks h).map (·.1)=ly:=rfl
abbrev r9 (bs:ab BenchT) (ss:ab StepT) (js:ab JobT) (us:ab SetT) (ls:ab LinkT) (ks:ab StockT) (h:af) (a b:ao Slot):aX:=[oS (.lst (bs.map bU)),oS (.lst (ss.map bf)),oS (.lst (js.map bo)),oS (.lst (us.map cc)),oS (.lst (ls.map cu)),oS (.lst (ks.map cC)),oS (.int h),oS .non,a,b]
abbrev ob (bs:ab BenchT) (ss:ab StepT) (js:ab JobT) (us:ab SetT) (ls:ab LinkT) (ks:ab StockT) (h:af) (kvs:ab (Key×D)):ao Slot:=aa (.objd "Shop" (iZ bs ss js us ls ks h) "job_by_step" kvs)
theorem Qz {j:JobT} {kvs:ab (Key×D)} (hl:kvs.length<100000):jL "Shop" "job_by_step" 0 (vSh 10) (vSh 9) (ob bs ss js us ls ks h kvs::r9 bs ss js us ls ks h (oS (bo j)) (oS (.str m)))=aa (.nx,ob bs ss js us ls ks h (jK j kvs m)::r9 bs ss js us ls ks h (oS (bo j)) (oS (.str m))):=by have hno:(iZ bs ss js us ls ks h).lookup ("job_by_step":ai)=ac:=pf (by rw[wY];decide +kernel);simp only[jL,vSh,qb,qc,qa,jP,hno,hl,vm,cy,nz,jK]
theorem IN {j:JobT} {acc:ab (Key×D)} {z:ao Slot} (hl:acc.length+j.ms.length<100000):∃z',ck (itF (b2 ixD (vSh 9) (vC (.int 4)))) (ay 10) (jL "Shop" "job_by_step" 0 (vSh 10) (vSh 9)) (ob bs ss js us ls ks h acc::r9 bs ss js us ls ks h (oS (bo j)) z)=aa (.nx,ob bs ss js us ls ks h (j.ms.foldl (jK j) acc)::r9 bs ss js us ls ks h (oS (bo j)) z'):=by
 obtain⟨ρ',h1,z',h2⟩:=fg (gg:=ay 10) (body:=jL "Shop" "job_by_step" 0 (vSh 10) (vSh 9)) (xs:=j.ms.map D.str) (ρ:=ob bs ss js us ls ks h acc::r9 bs ss js us ls ks h (oS (bo j)) z)
  (fun i ρ=>∃z,ρ=ob bs ss js us ls ks h ((j.ms.take i).foldl (jK j) acc)::r9 bs ss js us ls ks h (oS (bo j)) z) ⟨z,by simp⟩ (fun i x ρ hx hI=>by
   obtain⟨z,rfl⟩:=hI;rw[qj] at hx;obtain⟨m,hm,rfl⟩:=oMd hx;have tk:j.ms.take (i+1)=j.ms.take i++[m]:=by rw[F6,hm];rfl
   have hlen:=xU j (j.ms.take i) acc;rw[qE] at hlen;refine⟨_,_,rfl,Qz (by omega),oS (.str m),?_⟩;rw[tk,zA];rfl)
 refine⟨z',?_⟩;have e:itF (b2 ixD (vSh 9) (vC (.int 4))) (ob bs ss js us ls ks h acc::r9 bs ss js us ls ks h (oS (bo j)) z)=aa (j.ms.map D.str):=by simp only[vSh,vC,b2,itF,oM,pE,qb,qc,qa,bo]
 unfold ck;rw[e,qa,h1,h2,qe,ny]
theorem Oq (hj:js.length<=40) (hm:∀j∈js,j.ms.length<=40):∃z z',dD (ay 9) (ck (itF (b2 ixD (vSh 9) (vC (.int 4)))) (ay 10) (jL "Shop" "job_by_step" 0 (vSh 10) (vSh 9))) (js.map bo) (ob bs ss js us ls ks h []::r9 bs ss js us ls ks h ac ac)=aa (.nx,ob bs ss js us ls ks h (jkv js)::r9 bs ss js us ls ks h z z'):=by
 obtain⟨ρ',h1,z,z',h2⟩:=fg (gg:=ay 9) (body:=ck (itF (b2 ixD (vSh 9) (vC (.int 4)))) (ay 10) (jL "Shop" "job_by_step" 0 (vSh 10) (vSh 9))) (xs:=js.map bo) (ρ:=ob bs ss js us ls ks h []::r9 bs ss js us ls ks h ac ac)
  (fun i ρ=>∃z z',ρ=ob bs ss js us ls ks h (jkv (js.take i))::r9 bs ss js us ls ks h z z') ⟨ac,ac,by simp[jkv]⟩ (fun i x ρ hx hI=>by
   obtain⟨z,z',rfl⟩:=hI;rw[qj] at hx;obtain⟨j,hjm,rfl⟩:=oMd hx;have tk:js.take (i+1)=js.take i++[j]:=by rw[F6,hjm];rfl
   have hlen:=C8 (m:=40) (js:=js.take i) [] fun y hy=>hm y (oB hy);rw[qE,qk] at hlen;have h4:=hm j (qP hjm);obtain⟨w,hw⟩:=IN (bs:=bs) (ss:=ss) (js:=js) (us:=us) (ls:=ls) (ks:=ks) (h:=h) (j:=j) (acc:=jkv (js.take i)) (z:=z') (by unfold jkv;omega);refine⟨_,_,rfl,hw,oS (bo j),w,?_⟩;rw[tk];unfold jkv;rw[zA];rfl)
 refine⟨z,z',?_⟩;rw[h1,h2,qe,ny]
theorem JL (g:Good bs ss js us ls ks h) (ml:(js.flatMap (·.ms)).length<=300):xv [.lst (bs.map bU),.lst (ss.map bf),.lst (js.map bo),.lst (us.map cc),.lst (ls.map cu),.lst (ks.map cC),.int h]=aa (cg bs ss js us ls ks h):=by
 have hl:(ss.map (·.nm)).length<=40:=by rw[qe];exact g.sl.2
 have f1:=iF (d:=.lst (bs.map bU)) (eA (by have:=g.bl.2;omega) fun x hx=>xi (g.b x hx));have f2:=iF (d:=.lst (ss.map bf)) (eA (by have:=g.sl.2;omega) fun x hx=>xf (g.s x hx));have f3:=iF (d:=.lst (js.map bo)) (eA (by have:=g.jl;omega) fun x hx=>wW hl (g.j x hx));have f4:=iF (d:=.lst (us.map cc)) (eA (by have:=g.ul;omega) fun x hx=>wv);have f5:=iF (d:=.lst (ls.map cu)) (eA (by have:=g.ll;omega) fun x hx=>xX);have f6:=iF (d:=.lst (ks.map cC)) (eA (by have:=g.kl;omega) fun x hx=>x8 hl (g.k x hx));obtain⟨z,z',ho⟩:=Oq (bs:=bs) (ss:=ss) (us:=us) (ls:=ls) (ks:=ks) (h:=h) g.jl fun j hj=>qM (g.j j hj).ln hl;have key:∀(G:FS) (ρ':aX),G (aa (.obj "Shop" [])::[oS (.lst (bs.map bU)),oS (.lst (ss.map bf)),oS (.lst (js.map bo)),oS (.lst (us.map cc)),oS (.lst (ls.map cu)),oS (.lst (ks.map cC)),oS (.int h),ac,ac,ac])=aa (.nx,ob bs ss js us ls ks h (jkv js)::ρ')->
   nR 3 "Shop" G [.lst (bs.map bU),.lst (ss.map bf),.lst (js.map bo),.lst (us.map cc),.lst (ls.map cu),.lst (ks.map cC),.int h]=aa (cg bs ss js us ls ks h):=fun G ρ' e=>by
  unfold nR;show(G (aa (.obj "Shop" [])::[oS (.lst (bs.map bU)),oS (.lst (ss.map bf)),oS (.lst (js.map bo)),oS (.lst (us.map cc)),oS (.lst (ls.map cu)),oS (.lst (ks.map cC)),oS (.int h),ac,ac,ac])).bind _=_;rw[e];rfl
 refine key _ (r9 bs ss js us ls ks h z z') ((bz (aT rfl (J7 g ml))).trans ?_);show ax _ _ (aa (.obj "Shop" [])::r9 bs ss js us ls ks h ac ac)=_;refine(cb (bx (b:=aq) rfl)).trans ?_;refine(j9 0 rfl rfl (aT rfl f1)).trans ?_;refine(j9 1 rfl rfl (aT rfl f2)).trans ?_;refine(j9 2 rfl rfl (aT rfl f3)).trans ?_;refine(j9 3 rfl rfl (aT rfl f4)).trans ?_;refine(j9 4 rfl rfl (aT rfl f5)).trans ?_;refine(j9 5 rfl rfl (aT rfl f6)).trans ?_;refine(j9 6 rfl rfl (d:=.int h) rfl).trans ?_;refine(j9 7 rfl rfl (EE (f:=bU) (nm:=(·.nm)) (xs:=bs) (fun x=>⟨_,rfl⟩) (wA 7 0 rfl rfl) (by have:=g.bl.2;omega) g.bn)).trans ?_;refine(j9 8 rfl rfl (EE (f:=bf) (nm:=(·.nm)) (xs:=ss) (fun x=>⟨_,rfl⟩) (wA 8 1 rfl rfl) (by have:=g.sl.2;omega) g.sn)).trans ?_;refine(j9 9 rfl rfl (Jk (us:=us) (wA 9 3 rfl rfl) (by have:=g.ul;omega) g.un)).trans ?_;have hno:(iZ bs ss js us ls ks h).lookup ("job_by_step":ai)=ac:=pf (by rw[wY];decide +kernel);have hle:(iZ bs ss js us ls ks h).length<100:=by simp[iZ]
 have e1:nS "Shop" "job_by_step" 0 (aa (.obj "Shop" (iZ bs ss js us ls ks h))::r9 bs ss js us ls ks h ac ac)=aa (.nx,ob bs ss js us ls ks h []::r9 bs ss js us ls ks h ac ac):=by simp only[nS,qb,hno,hle,vm,cy,nz]
 have e2:itF (kc "Shop" "jobs" 0) (ob bs ss js us ls ks h []::r9 bs ss js us ls ks h ac ac)=aa (js.map bo):=by
  have lk:(iZ bs ss js us ls ks h).lookup ("jobs":ai)=aa (.lst (js.map bo)):=sF (i:=2) (by rw[wY];exact Bs tJ 10) rfl;have n1:("jobs":ai)≠"job_by_step":=by decide +kernel
  have e:kc "Shop" "jobs" 0 (ob bs ss js us ls ks h []::r9 bs ss js us ls ks h ac ac)=aa (.lst (js.map bo)):=by show(if aa ("Shop":ai)=aa ("Shop":ai) then (if ("jobs":ai)="job_by_step" then ac else (iZ bs ss js us ls ks h).lookup ("jobs":ai)) else ac)=_;rw[qY rfl,qZ n1,lk]
  unfold itF;rw[e];rfl
 show ax (nS "Shop" "job_by_step" 0) (ck (itF (kc "Shop" "jobs" 0)) (ay 9) (ck (itF (b2 ixD (vSh 9) (vC (.int 4)))) (ay 10) (jL "Shop" "job_by_step" 0 (vSh 10) (vSh 9)))) (aa (.obj "Shop" (iZ bs ss js us ls ks h))::r9 bs ss js us ls ks h ac ac)=_;unfold ax;rw[e1,qa];show ck _ _ _ _=_;unfold ck;rw[e2,qa];exact ho
end
theorem g0 {g':FS} {b:bq} (h:ft ρ=aa b):sIf ft g g' ρ=if b=al then g ρ else g' ρ:=by unfold sIf;rw[h];rfl
theorem cZ {g':FS} (h:g ρ=aa (.nx,ρ1)):ax g g' ρ=g' ρ1:=by unfold ax;rw[h];rfl
theorem tZ (h:f ρ=aa d):aH i f ρ=aa (.nx,ρ.set i (oS d)):=by unfold aH;rw[h];rfl
theorem yg (h1:ρ[i]?=aa (aa (.own ds))) (h2:f ρ=aa d) (h3:ds.length<aM):b9 i f ρ=aa (.nx,ρ.set i (aa (.own (ds++[d])))):=by unfold b9;rw[h1];show(f ρ).bind _=_;rw[h2,qa,qY h3]
theorem gV :ax (dI i (szF ak)) g ρ=g (ρ.set i (aa (.own []))):=by
 have z0:(0<=aM)=True:=by simp
 simp only[ax,dI,szF,ak,qa,qd,qk,z0,cy]
theorem iA (h1:ρ[i]?=aa (aa (.own ds))):eR i g ρ=g (ρ.set i (oS (.lst ds))):=by unfold eR;rw[h1]
theorem fy {body:FS} {xs:ab D} (h:fi ρ=aa xs):ck fi gg body ρ=dD gg body xs ρ:=by unfold ck;rw[h];rfl
theorem db {a b:af} (h:0<b):bA (.int a) (.int b)=aa (.int (a%b)):=qY h
theorem nM {a b:af} (h:0<b/\b<1073741824):eY (.int a) (.int b)=aa (.int (a / b)):=qY h
theorem Nv:(2:af) ^ 64=18446744073709551616:=by decide +kernel
theorem gM {a b:af} (h:(-1000000000000<a/\a<1000000000000)\/(-1000000000000<b/\b<1000000000000)):cv (.int a) (.int b)=aa (.int (a*b)):=by show(if _ then _ else _)=_;rw[Nv];exact qY (by omega)
noncomputable def ui:FS:=sIf (eT (toB (vSh 3)) (toB (b2 gtD (vSh 4) (vC (.int 1))))) (ax (b9 6 (b2 bA (vSh 4) (vSh 8))) (aH 4 (b2 oN (vSh 4) (vSh 8)))) (ax (aH 5 (b2 aF (b2 aF (b2 bA (vSh 5) (vC (.int 1000000007))) (b2 cv (b2 cv (vC (.int 7919)) (vSh 7)) (vSh 7))) (b2 cv (b2 cv (vC (.int 104729)) (vSh 1)) (vSh 1)))) (ax (aH 5 (b2 bA (b2 cv (b2 aF (vSh 5) (vC (.int 1))) (vC (.int 48271))) (vC (.int 2147483629)))) (ax (aH 5 (b2 bA (b2 cv (vSh 5) (vSh 5)) (vC (.int 2147483587)))) (b9 6 (b2 bA (b2 eY (b2 cv (vSh 5) (b2 aF (vSh 5) (vC (.int 1)))) (vC (.int 97))) (vSh 8))))))
abbrev nE (ns:ab af) (k:ag) (bs:ab af) (fr:bq) (n sd:af) (ds:ab af) (a b:ao Slot):aX:=[oS (.scr ns),oS (.int k),oS (.lst (bs.map D.int)),oS (.bl fr),oS (.int n),oS (.int sd),aa (.own (ds.map D.int)),a,b]
theorem Nk {s:af} (h:0<s/\s<4398046511104):s.natAbs.log2<9000:=by
 have h1:s.natAbs≠0:=by omega
 have h3:(2:ag) ^ 42=4398046511104:=by decide
 have h2:s.natAbs<2 ^ 42:=by rw[h3];omega
 have:=(Sz h1).mpr h2;omega
theorem HJ {a b:af} (h:0<b/\b<4398046511104):oN (.int a) (.int b)=aa (.int (a / b)):=qY ⟨h.1,Nk h⟩
theorem Mm {bs ds:ab af} {k t:ag} {fr:bq} {n sd s:af} (hk:k<=1000) (ht:t<=100) (hs:0<s/\s<4398046511104) (hl:ds.length<=100):∃n' sd' d,ui (nE ns k bs fr n sd ds (oS (.int t)) (oS (.int s)))=aa (.nx,nE ns k bs fr n' sd' (ds++[d]) (oS (.int t)) (oS (.int s)))/\0<=d/\d<s:=by
 obtain⟨c,hc⟩:∃c,eT (toB (vSh 3)) (toB (b2 gtD (vSh 4) (vC (.int 1)))) (nE ns k bs fr n sd ds (oS (.int t)) (oS (.int s)))=aa c:=by
  cases fr with
  |false=>exact⟨aq,rfl⟩
  |true=>exact⟨_,rfl⟩
 have hsz:(ds.map D.int).length<aM:=by rw[qe];unfold aM;omega
 unfold ui;rw[g0 hc];cases c with
 |true=>
  refine⟨n / s,sd,n%s,(cZ (yg rfl (aC rfl rfl (db hs.1)) hsz)).trans (tZ (aC rfl rfl (HJ hs))) |>.trans ?_,qX _ (by omega),qV _ hs.1⟩;simp[nE]
 |false=>
  have q1:0<=sd%1000000007:=qX _ (by decide);have q2:sd%1000000007<1000000007:=qV _ (by decide)
  let s1:af:=sd%1000000007+7919*(t:af)*t+104729*(k:af)*k
  let s2:af:=(s1+1)*48271%2147483629
  let s3:af:=s2*s2%2147483587
  have r1:0<=s2/\s2<2147483629:=⟨qX _ (by decide),qV _ (by decide)⟩;have r2:0<=s3/\s3<2147483587:=⟨qX _ (by decide),qV _ (by decide)⟩;refine⟨n,s3,s3*(s3+1) / 97%s,(bz (d:=.int s1) (aC (aC (aC rfl rfl (db (by decide))) (aC (aC rfl rfl (gM (.inl (by decide)))) rfl (gM (.inr (by omega)))) rfl) (aC (aC rfl rfl (gM (.inl (by decide)))) rfl (gM (.inr (by omega)))) rfl)).trans ((bz (d:=.int s2) (aC (aC (aC rfl rfl rfl) rfl (gM (.inr (by decide)))) rfl (db (by decide)))).trans ((bz (d:=.int s3) (aC (aC rfl rfl (gM (.inl (by omega)))) rfl (db (by decide)))).trans (yg rfl (aC (aC (aC rfl (aC rfl rfl rfl) (gM (.inl (by omega)))) rfl (nM (by decide))) rfl (db hs.1)) hsz))) |>.trans ?_,qX _ (by omega),qV _ hs.1⟩;simp[nE]
theorem sq {xs:ab D} (h:(xs.mapIdx fun i d=>D.tup [.int i,d])[i]?=aa d):∃x,xs[i]?=aa x/\d=.tup [.int i,x]:=by rw[zn] at h;obtain⟨x,hx,rfl⟩:=oMd h;exact⟨x,hx,rfl⟩
theorem sI (h:ft ρ=aa al) (h2:f ρ=aa d):ax (sIf ft (aH i f) aU) g ρ=g (ρ.set i (oS d)):=by unfold ax sIf aH;rw[h];simp[h2]
theorem zX:∀ns:ab af,fP (ns.map oA)=al
 |[]=>rfl
 |n::ns=>by simp[fP,iy,zX ns]
theorem Ek:∀ns:ab af,jy (ns.map oA)=0
 |[]=>rfl
 |n::ns=>by simp[jy,jB,Ek ns]
theorem MC (ns:ab af):dH (.list (ns.map oA))=al:=by simp[dH,iy,zX ns,jB,Ek]
theorem Eo:dH (.list [])=al:=by simp[dH,iy,fP,jB,jy]
theorem Cm (ns:ab af):eqX (.scr ns) (.lst [])=aa (eX (.list (ns.map oA)) (.list [])):=by show(if dH (.list (ns.map oA))=al/\dH (.list [])=al then _ else _)=_;rw[qY ⟨MC ns,Eo⟩]
theorem Nl (n:af) (ns:ab af):eqA (.scr (n::ns)) (.lst [])=aa (.bl aq):=by show(eqX (.scr (n::ns)) (.lst [])).map D.bl=_;rw[Cm];rfl
theorem Ou (n:af) (ns:ab af):neA (.scr (n::ns)) (.lst [])=aa (.bl al):=by show(eqX (.scr (n::ns)) (.lst [])).map (fun b=>D.bl (!b))=_;rw[Cm];rfl
theorem vx (h:j<ns.length):∃n,ixD (.scr ns) (.int (j:af))=aa (.int n):=by refine⟨ns[j],?_⟩;show(atI ns (j:af)).map D.int=_;rw[kK];simp[h]
theorem xA (ns:ab af) (k:ag) (hk:k<=1000) (bs:ab af) (hs:∀s∈bs,0<s/\s<4398046511104) (hl:bs.length<=100) (fr:bq) (n0 sd0:af) :
  ∃ρ',dD (cD 2 (aN (ay 7) (aN (ay 8) cr))) ui ((bs.map D.int).mapIdx fun i d=>D.tup [.int i,d]) (nE ns k bs fr n0 sd0 [] ac ac)=aa (.nx,ρ')/\∃n sd ds a b,ρ'=nE ns k bs fr n sd ds a b/\ds.length=bs.length/\∀(j:ag) s,bs[j]?=aa s->∃d,ds[j]?=aa d/\0<=d/\d<s:=by
 obtain⟨ρ',h1,n,sd,ds,a,b,h2,h3,h4⟩:=fg (gg:=cD 2 (aN (ay 7) (aN (ay 8) cr))) (body:=ui) (xs:=(bs.map D.int).mapIdx fun i d=>D.tup [.int i,d]) (ρ:=nE ns k bs fr n0 sd0 [] ac ac)
  (fun i ρ=>∃n sd ds a b,ρ=nE ns k bs fr n sd ds a b/\ds.length=i/\∀(j:ag) s,j<i->bs[j]?=aa s->∃d,ds[j]?=aa d/\0<=d/\d<s) ⟨n0,sd0,[],ac,ac,rfl,rfl,fun j s hj=>by omega⟩ (fun i x ρ hx hI=>by
   obtain⟨n,sd,ds,a,b,rfl,hlen,hb⟩:=hI;obtain⟨y,hy,rfl⟩:=sq hx;rw[qj] at hy;obtain⟨s,hsi,rfl⟩:=oMd hy;have hi:i<bs.length:=(cR.mp hsi).1;obtain⟨n',sd',d,e1,e2,e3⟩:=Mm (ns:=ns) (n:=n) (sd:=sd) (k:=k) (t:=i) (bs:=bs) (ds:=ds) (fr:=fr) hk (by omega) (hs s (qP hsi)) (by omega);refine⟨_,_,rfl,e1,n',sd',ds++[d],_,_,rfl,by rw[qi,hlen];rfl,fun j s' hj hs'=>?_⟩;by_cases hji:j=i
   .subst hji;rw[hsi] at hs';cases hs';exact⟨d,by rw[qK (by omega),hlen,SA];rfl,e2,e3⟩
   .obtain⟨d',q1,q2⟩:=hb j s' (by omega) hs';exact⟨d',by rw[qz (by omega)];exact q1,q2⟩)
 rw[oz,qe] at h3 h4;exact⟨ρ',h1,n,sd,ds,a,b,h2,h3,fun j s hj=>h4 j s (cR.mp hj).1 hj⟩
theorem iE (ns:ab af) (k:ag) (hk:k<=1000) (bs:ab af) (hs:∀s∈bs,0<s/\s<4398046511104) (hl:bs.length<=100) :
  ∃ds:ab af,dz [.scr ns,.int (k:af),.lst (bs.map D.int)]=aa (.lst (ds.map D.int))/\ds.length=bs.length/\∀(i:ag) s,bs[i]?=aa s->∃d,ds[i]?=aa d/\0<=d/\d<s:=by
 have kk:cv (.int (k:af)) (.int (k:af))=aa (.int ((k:af)*k)):=gM (.inl (by omega));have e4:∀(a b c d e f:ao Slot),toB (b2 ltD (vSh 1) (cF bT (ae (vSh 0) ak))) [oS (.scr ns),oS (.int k),oS (.lst (bs.map D.int)),a,b,c,d,e,f]=aa (decide (k<ns.length)):=fun a b c d e f=>by simp only[toB,cF,ae,ak,vSh,b2,bT,ltD,qb,qc,qa,qd];exact df aa (decide_eq_decide.mpr Int.ofNat_lt)
 cases ns with
 |nil=>
  obtain⟨ρ',h1,n,sd,ds,a,b,h2,h3,h4⟩:=xA [] k hk bs hs hl al 0 ((k:af)*k);refine⟨ds,?_,h3,h4⟩;unfold dz;refine bH (ρ':=(nE [] k bs al n sd ds a b).set 6 (oS (.lst (ds.map D.int)))) [oS (.scr []),oS (.int k),oS (.lst (bs.map D.int)),ac,ac,ac,ac,ac,ac] rfl ?_;exact(bz (d:=.bl al) (by kernel_rfl)).trans ((bz (d:=.int 0) rfl).trans ((bz (aC rfl rfl kk)).trans ((cb (e4 _ _ _ _ _ _)).trans ((cb (bx (b:=aq) (by kernel_rfl))).trans (gV.trans ((cZ ((fy (xs:=(bs.map D.int).mapIdx fun i d=>D.tup [.int i,d]) rfl).trans (h1.trans (by rw[h2])))).trans ((iA rfl).trans (bR (f:=vSh 6) rfl))))))))
 |cons m r=>
  obtain⟨m0,hm0⟩:=vx (ns:=m::r) (j:=0) (by simp);obtain⟨m1,hm1⟩:=vx (ns:=m::r) (j:=k%(r.length+1)) (by rw[qh];exact iV _ (by omega));have e0:∀(a b c d e f:ao Slot),aD (szF ak) [oS (.scr (m::r)),oS (.int k),oS (.lst (bs.map D.int)),a,b,c,d,e,f]=aa (.lst []):=fun a b c d e f=>by kernel_rfl
  have e1:orD (b2 eqA (vSh 0) (aD (szF ak))) (b2 eqD (b2 bA (b2 ixD (vSh 0) (vC (.int 0))) (vC (.int 2))) (vC (.int 0))) [oS (.scr (m::r)),oS (.int k),oS (.lst (bs.map D.int)),ac,ac,ac,ac,ac,ac]=aa (.bl (decide (m0%2=0))):=by unfold orD;rw[aC (z:=.bl aq) rfl (e0 _ _ _ _ _ _) (Nl m r)];exact aC (aC (aC rfl rfl hm0) rfl (db (by decide))) rfl rfl
  have e2:∀(a b c d e f:ao Slot),b2 ixD (vSh 0) (b2 bA (vSh 1) (cF bT (ae (vSh 0) ak))) [oS (.scr (m::r)),oS (.int k),oS (.lst (bs.map D.int)),a,b,c,d,e,f]=aa (.int m1):=fun a b c d e f=>by refine aC (y:=.int ((k%(r.length+1):ag):af)) rfl (aC (y:=.int ((r.length+1:ag):af)) rfl (aT (aB rfl aL) rfl) ?_) hm1;exact db (by omega)
  have e3:∀(a b c d e f:ao Slot),toB (b2 neA (vSh 0) (aD (szF ak))) [oS (.scr (m::r)),oS (.int k),oS (.lst (bs.map D.int)),a,b,c,d,e,f]=aa al:=fun a b c d e f=>bx (aC rfl (e0 _ _ _ _ _ _) (Ou m r));by_cases hlt:k<(m::r).length
  .obtain⟨n0,hn0⟩:=vx hlt;obtain⟨ρ',h1,n,sd,ds,a,b,h2,h3,h4⟩:=xA (m::r) k hk bs hs hl (decide (m0%2=0)) n0 m1;refine⟨ds,?_,h3,h4⟩;unfold dz;refine bH (ρ':=(nE (m::r) k bs (decide (m0%2=0)) n sd ds a b).set 6 (oS (.lst (ds.map D.int)))) [oS (.scr (m::r)),oS (.int k),oS (.lst (bs.map D.int)),ac,ac,ac,ac,ac,ac] rfl ?_;exact(bz e1).trans ((bz (d:=.int 0) rfl).trans ((bz (aC rfl rfl kk)).trans ((sI ((e4 _ _ _ _ _ _).trans (by rw[qS hlt])) (aC rfl rfl hn0)).trans ((sI (e3 _ _ _ _ _ _) (e2 _ _ _ _ _ _)).trans (gV.trans ((cZ ((fy (xs:=(bs.map D.int).mapIdx fun i d=>D.tup [.int i,d]) rfl).trans (h1.trans (by rw[h2])))).trans ((iA rfl).trans (bR (f:=vSh 6) rfl))))))))
  .obtain⟨ρ',h1,n,sd,ds,a,b,h2,h3,h4⟩:=xA (m::r) k hk bs hs hl (decide (m0%2=0)) 0 m1;refine⟨ds,?_,h3,h4⟩;unfold dz;refine bH (ρ':=(nE (m::r) k bs (decide (m0%2=0)) n sd ds a b).set 6 (oS (.lst (ds.map D.int)))) [oS (.scr (m::r)),oS (.int k),oS (.lst (bs.map D.int)),ac,ac,ac,ac,ac,ac] rfl ?_;exact(bz e1).trans ((bz (d:=.int 0) rfl).trans ((bz (aC rfl rfl kk)).trans ((cb ((e4 _ _ _ _ _ _).trans (by rw[qN hlt]))).trans ((sI (e3 _ _ _ _ _ _) (e2 _ _ _ _ _ _)).trans (gV.trans ((cZ ((fy (xs:=(bs.map D.int).mapIdx fun i d=>D.tup [.int i,d]) rfl).trans (h1.trans (by rw[h2])))).trans ((iA rfl).trans (bR (f:=vSh 6) rfl))))))))
noncomputable def nm (p k:ag):ai:=match eI [.int (p:af),.int (k:af)] with
 |some (.str x)=>x
 |_=>⟨#[]⟩
noncomputable def Ar (x:ai):ag:=(x.cps.toList.filter fun c=>c<117).foldl (fun a c=>a*20+(c-97)) 0
noncomputable def Ag (p k:ag):bq:=match eI [.int (p:af),.int (k:af)] with
 |some (.str x)=>aY x && (Ar x==k)
 |_=>aq
theorem LL:((bj 62).all fun p=>(bj 60).all fun k=>Ag p k)=al:=by decide +kernel
theorem jU {p k:ag} (hp:p<62) (hk:k<60):eI [.int (p:af),.int (k:af)]=aa (.str (nm p k))/\aY (nm p k)=al/\Ar (nm p k)=k:=by
 have:=ma.mp (ma.mp LL p (dU.mpr hp)) k (dU.mpr hk);unfold Ag at this;unfold nm;split at this
 .rename_i x e;rw[e];have h:=Bool.and_eq_true_iff.mp this;exact⟨rfl,h.1,by simpa using h.2⟩
 .cases this
theorem rh {p:ag} (hp:p<62) (hi:i<60) (hj:j<60) (h:nm p i=nm p j):i=j:=by rw[←(jU hp hi).2.2,←(jU hp hj).2.2,h]
structure GoodI (h:af) (br:ab (af×af)):Prop where
 iv:∀p∈br,0<=p.1/\p.1<p.2/\p.2<=h
 gap:∀(i:ag) p q,br[i]?=aa p->br[i+1]?=aa q->p.2<q.1
theorem gW {g:FE} {x y:D} (h1:f ρ=aa x) (h2:g ρ=aa y):bK (szF (ae f (ae g ak))) ρ=aa (.tup [x,y]):=by simp only[bK,szF,ae,ak,h1,h2,qa,qd,qh,qk,jA,sz2,cy]
theorem n4 {g e:FE} {x y:D} (h1:f ρ=aa x) (h2:g ρ=aa y) (h3:e ρ=aa z):bK (szF (ae f (ae g (ae e ak)))) ρ=aa (.tup [x,y,z]):=by simp only[bK,szF,ae,ak,h1,h2,h3,qa,qd,qh,qk,jA,sz3,cy]
theorem NH {g e a:FE} {x y w:D} (h1:f ρ=aa x) (h2:g ρ=aa y) (h3:e ρ=aa z) (h4:a ρ=aa w):bK (szF (ae f (ae g (ae e (ae a ak))))) ρ=aa (.tup [x,y,z,w]):=by simp only[bK,szF,ae,ak,h1,h2,h3,h4,qa,qd,qh,qk,jA,sz4,cy]
theorem yd {g e a b:FE} {x y w u:D} (h1:f ρ=aa x) (h2:g ρ=aa y) (h3:e ρ=aa z) (h4:a ρ=aa w) (h5:b ρ=aa u):bK (szF (ae f (ae g (ae e (ae a (ae b ak)))))) ρ=aa (.tup [x,y,z,w,u]):=by simp only[bK,szF,ae,ak,h1,h2,h3,h4,h5,qa,qd,qh,qk,jA,sz5,cy]
theorem fR {g:α->D} {xs:ab α} {x:α} (h1:ρ[i]?=aa (aa (.own (xs.map g)))) (h2:f ρ=aa (g x)) (h3:xs.length<=1000):b9 i f ρ=aa (.nx,ρ.set i (aa (.own ((xs++[x]).map g)))):=by rw[yg h1 h2 (by rw[qe];unfold aM;omega),dZ];rfl
theorem CH {g e:FE} {x y:D} (h1:f ρ=aa x) (h2:g ρ=aa y) (h3:e ρ=aa z):aD (szF (ae f (ae g (ae e ak)))) ρ=aa (.lst [x,y,z]):=by simp only[aD,szF,ae,ak,h1,h2,h3,qa,qd,qh,qk,jA,sz3,cy]
theorem kW {ds:ab af} {d:af} (h1:f ρ=aa (.lst (ds.map D.int))) (h2:ds[n]?=aa d):b2 ixD f (vC (.int (n:af))) ρ=aa (.int d):=
 aC h1 rfl (by rw[ixL,qj,h2];rfl)
theorem yu {g:FE} {ds:ab af} {i d:af} (h1:f ρ=aa (.lst (ds.map D.int))) (hg:g ρ=aa (.int i)) (hi:i=(n:af)) (h2:ds[n]?=aa d):b2 ixD f g ρ=aa (.int d):=
 aC h1 hg (by rw[hi,ixL,qj,h2];rfl)
theorem P8 {f hi:af} (hg:GoodI h br) (hf:0<=f) (hlt:∀p∈br,p.2<f) (h1:f<=lo) (h2:lo<hi) (h3:hi<=h):GoodI h (br++[(lo,hi)]):=by
 refine⟨fun q hq=>?_,fun j q q' hq hq'=>?_⟩
 .rcases cL.mp hq with z|z
  .exact hg.iv q z
  .rw[bY.mp z];exact⟨by omega,h2,h3⟩
 .have hj:j+1<br.length+1:=by have:=(cR.mp hq').1;simpa using this
  rw[qz (by omega)] at hq;by_cases hj2:j+1<br.length
  .rw[qz hj2] at hq';exact hg.gap j q q' hq hq'
  .rw[qK (by omega),show j+1-br.length=0 by omega] at hq';cases hq';have:=hlt q (qP hq);show q.2<lo;omega
abbrev kE (S M:ao Slot) (p:ag) (h:af) (bs:ab BenchT) (k:ag) (br:ab (af×af)) (ds:ab af) (f:af) (a b c:ao Slot):aX:=[S,oS (.int p),M,oS (.int h),aa (.own (bs.map bU)),oS (.int k),aa (.own (br.map dIv)),oS (.lst (ds.map D.int)),oS (.int f),a,b,c]
noncomputable def uv:FS:=ax (aH 10 (b2 aF (vSh 8) (b2 ixD (vSh 7) (b2 aF (vC (.int 1)) (b2 cv (vC (.int 2)) (vSh 9)))))) (ax (aH 11 (b2 aF (b2 aF (vSh 10) (vC (.int 1))) (b2 ixD (vSh 7) (b2 aF (vC (.int 2)) (b2 cv (vC (.int 2)) (vSh 9)))))) (ax (sIf (toB (b2 leD (vSh 11) (vSh 3))) (b9 6 (bK (szF (ae (vSh 10) (ae (vSh 11) ak))))) aU) (aH 8 (b2 aF (vSh 11) (vC (.int 1))))))
theorem Ql (h:ft ρ=aa al) (h2:b9 i f ρ=aa (.nx,ρ')):ax (sIf ft (b9 i f) aU) g ρ=g ρ':=by unfold ax sIf;rw[h];simp[h2]
theorem LH {M:ao Slot} {p k:ag} {bs:ab BenchT} {ds:ab af} {a b c:ao Slot} (hn:n<=10) (hd:∀j:ag,j<21->∃d,ds[j]?=aa d/\0<=d) :
  ∃ρ',dD (ay 9) uv ((bj n).map fun i:ag=>D.int (0+(i:af))) (kE S M p h bs k [] ds 0 a b c)=aa (.nx,ρ')/\∃br f a b c,ρ'=kE S M p h bs k br ds f a b c/\br.length<=n/\GoodI h br:=by
 obtain⟨ρ',h1,br,f,a',b',c',h2,h3,h4,_,_⟩:=fg (gg:=ay 9) (body:=uv) (xs:=(bj n).map fun i:ag=>D.int (0+(i:af))) (ρ:=kE S M p h bs k [] ds 0 a b c)
  (fun i ρ=>∃br f a b c,ρ=kE S M p h bs k br ds f a b c/\br.length<=i/\GoodI h br/\0<=f/\∀q∈br,q.2<f) ⟨[],0,a,b,c,rfl,qv _,⟨fun p hp=>(by cases hp),fun i p q hp=>(by simp at hp)⟩,Int.le_refl _,fun p hp=>(by cases hp)⟩ (fun i x ρ hx hI=>by
   obtain⟨br,f,a,b,c,rfl,hlen,hg,hf,hlt⟩:=hI;rw[qj] at hx;obtain⟨j,hj,rfl⟩:=oMd hx;have hi:i<n:=by simpa using(cR.mp hj).1
   have hji:i=j:=by rw[kq hi] at hj;exact qH hj
   subst hji;obtain⟨d1,q1,p1⟩:=hd (1+2*i) (by omega);obtain⟨d2,q2,p2⟩:=hd (2+2*i) (by omega);have pre:∀ρ2,ax (sIf (toB (b2 leD (vSh 11) (vSh 3))) (b9 6 (bK (szF (ae (vSh 10) (ae (vSh 11) ak))))) aU) (aH 8 (b2 aF (vSh 11) (vC (.int 1)))) (kE S M p h bs k br ds f (oS (.int (0+(i:af)))) (oS (.int (f+d1))) (oS (.int (f+d1+1+d2))))=aa (.nx,ρ2)->uv (kE S M p h bs k br ds f (oS (.int (0+(i:af)))) b c)=aa (.nx,ρ2):=fun ρ2 q=>
    (bz (aC rfl (yu (n:=1+2*i) rfl (aC rfl (aC rfl rfl (gM (.inl (by decide)))) rfl) (by omega) q1) rfl)).trans ((bz (aC (aC rfl rfl rfl) (yu (n:=2+2*i) rfl (aC rfl (aC rfl rfl (gM (.inl (by decide)))) rfl) (by omega) q2) rfl)).trans q)
   have e:toB (b2 leD (vSh 11) (vSh 3)) (kE S M p h bs k br ds f (oS (.int (0+(i:af)))) (oS (.int (f+d1))) (oS (.int (f+d1+1+d2))))=aa (decide (f+d1+1+d2<=h)):=bx (aC rfl rfl rfl);by_cases hh:f+d1+1+d2<=h
   .rw[qS hh] at e;refine⟨_,_,rfl,pre _ ((Ql e (fR (x:=(f+d1,f+d1+1+d2)) rfl (gW rfl rfl) (by omega))).trans (tZ (aC rfl rfl rfl))),br++[(f+d1,f+d1+1+d2)],f+d1+1+d2+1,_,_,_,rfl,by rw[qi];simp;omega,P8 hg hf hlt (by omega) (by omega) hh,by omega,fun q hq=>?_⟩;rcases cL.mp hq with z|z
    .have:=hlt q z;omega
    .rw[bY.mp z];show f+d1+1+d2 < _;omega
   .rw[qN hh] at e;refine⟨_,_,rfl,pre _ ((cb e).trans (tZ (aC rfl rfl rfl))),br,f+d1+1+d2+1,_,_,_,rfl,by omega,hg,by omega,fun q hq=>?_⟩;have:=hlt q hq;omega)
 rw[qe,qU] at h3;exact⟨ρ',h1,br,f,a',b',c',h2,h3,h4⟩
noncomputable def tx (i:af):ai:=yV (yH i)
theorem io {i:af} (h0:0<=i) (h1:i<=1000000):(tx i).length<=8:=by
 obtain⟨m,rfl⟩:=SB h0;have e0:(tx (m:af)).cps.toList=(lu 10 m).map F8:=SC m;have e:(tx (m:af)).length=(lu 10 m).length:=by have:=df fF e0;simpa[gU] using this
 rw[e];exact SD (by decide) (by omega)
theorem O3 {i:af} (h0:0<=i) (h1:i<=1000000):i.natAbs.log2<1920:=by
 obtain⟨m,rfl⟩:=SB h0;show m.log2<1920;rcases SE m with z|z
 .subst z;decide
 .rw[Sz (by omega)];exact qF (show m<10000000 by omega) (by decide +kernel)
theorem oV {g:D->FQ} (h0:f ρ=aa d) (h1:fr ρ=aa ds) (h2:g d ds=aa z):mF g f fr ρ=aa z:=by unfold mF;rw[h0,qa,h1];exact h2
theorem jX {i:af} (h:f ρ=aa (.int i)) (h0:0<=i) (h1:i<=1000000):cF cV (ae f ak) ρ=aa (.str (tx i)):=aT (aB h aL) (qY (O3 h0 h1))
theorem Oi (h:x.length+y.length<=10000):aF (.str x) (.str y)=aa (.str (x++y)):=qY (by unfold aM;omega)
theorem Hj {x y:ab ai} (h:x.length+y.length<=1000):aF (.lst (x.map D.str)) (.lst (y.map D.str))=aa (.lst ((x++y).map D.str)):=by rw[dZ];exact qY (by rw[qe,qe];unfold aM;omega)
theorem jN {g:FE} (h1:f ρ=aa (.str x)) (h2:g ρ=aa (.str y)) (h:x.length+y.length<=10000):b2 aF f g ρ=aa (.str (x++y)):=aC h1 h2 (Oi h)
theorem lF {g:FE} {x y:ab ai} (h1:f ρ=aa (.lst (x.map D.str))) (h2:g ρ=aa (.lst (y.map D.str))) (h:x.length+y.length<=1000):b2 aF f g ρ=aa (.lst ((x++y).map D.str)):=aC h1 h2 (Hj h)
theorem Bw:∀ys:ab ai,mH (ys.map D.str)=aa ys
 |[]=>rfl
 |y::r=>by show(mH (r.map D.str)).map (y::·)=_;rw[Bw r];rfl
theorem D7 {sep:ai} {B:ag} (h:f ρ=aa (.lst (ys.map D.str))) (hB:∀y∈ys,y.length<=B) (hb:B<=20000) (hs:sep.length<=10) (hl:ys.length<=200):mF fK (vC (.str sep)) (ae f ak) ρ=aa (.str (dY sep ys)):=by refine oV rfl (aB h aL) ?_;show((mH (ys.map D.str)).bind fun ys=>if (ys.map (·.length)).sum+ys.length*sep.length<=16777216 then aa (D.str (dY sep ys)) else ac)=_;have h1:=StrLaws.sumLen_le (B:=B) ys hB;have h2:ys.length*B<=200*20000:=zi hl hb;have h3:ys.length*sep.length<=200*10:=zi hl hs;rw[Bw,qa,qY (by omega)]
theorem wN (sep:ai) (B:ag):∀ys:ab ai,(∀y∈ys,y.length<=B)->(iz sep ys).length<=ys.length*(B+sep.length)
 |[],_=>by show 0<=_;omega
 |[x],h=>by
  show x.length<=_;have:=h x qf;simp only[qh,qk,jA,SF];omega
 |x::y::r,h=>by have ih:=wN sep B (y::r) fun z hz=>h z (qg _ hz);have hx:=h x qf;show(x++sep++iz sep (y::r)).length<=_;rw[jC,jC,qh,Nat.add_mul,SF];omega
theorem ph:(" ":ai).length=1:=by decide +kernel
theorem Dw {gg:FG} {fe:FE} {n:ag} {α:Type} {dx g:α->D}:∀{xs:ab α} {ρ:aX},ρ.length=n->(∀x∈xs,∀ρ:aX,ρ.length=n->∃ρ1,gg (dx x) ρ=aa ρ1/\ρ1.length=n/\fe ρ1=aa (g x))->gy gg tT fe (xs.map dx) ρ=aa (xs.map g)
 |[],_,_,_=>rfl
 |x::xs,ρ,hn,h=>by obtain⟨ρ1,h1,h2,h3⟩:=h x qf ρ hn;have ih:=Dw (xs:=xs) h2 fun y hy=>h y (qg _ hy);simp only[qm,gy,h1,qa,tT,cy,h3,ih,qd]
theorem An {ρ0:aX} {dx g:α->D} {xs:ab α} (h1:fi ρ=aa (xs.map dx)) (h2:xs.length<=1000) (h3:gw fv ρ=ρ0) (h4:ρ0.length=n) (h:∀x∈xs,∀ρ:aX,ρ.length=n->∃ρ1,gg (dx x) ρ=aa ρ1/\ρ1.length=n/\fe ρ1=aa (g x)) :
  aD (bc fi gg tT fe fv) ρ=aa (.lst (xs.map g)):=by
 simp only[aD,bc,h1,qa,qY (show(xs.map dx).length<=aM by rw[qe];exact szN h2 (by decide)),h3,Dw h4 h,qd]
theorem en2 (h:ρ.length=2):∃a b,ρ=[a,b]:=match ρ,h with|[a,b],_=>⟨a,b,rfl⟩
noncomputable def pI (p:af×af):ai:=tx p.1++"-"++tx p.2
noncomputable def pW (s:ai) (w:ai×af):ai:=w.1++s++tx w.2
abbrev g2:FG:=cD 2 (aN (ay 0) (aN (ay 1) cr))
theorem rf:("-":ai).length=1:=by decide +kernel
theorem Ax:("+":ai).length=1:=by decide +kernel
theorem Ah:("/":ai).length=1:=by decide +kernel
theorem D5 {p:af×af} (h:0<=p.1/\p.1<=1000000/\0<=p.2/\p.2<=1000000):(pI p).length<=60:=by have a1:=io h.1 h.2.1;have a2:=io h.2.2.1 h.2.2.2;unfold pI;rw[jC,jC,rf];omega
theorem sy {s:ai} {w:ai×af} (hs:s.length=1) (h:w.1.length<=8/\0<=w.2/\w.2<=1000000):(pW s w).length<=60:=by have a2:=io h.2.1 h.2.2;unfold pW;rw[jC,jC,hs];omega
theorem O5 (h:fi ρ=aa (br.map dIv)) (hl:br.length<=1000) (hb:∀p∈br,0<=p.1/\p.1<=1000000/\0<=p.2/\p.2<=1000000):aD (bc fi g2 tT (b2 aF (b2 aF (cF cV (ae (vSh 0) ak)) (vC (.str "-"))) (cF cV (ae (vSh 1) ak))) [ac,ac]) ρ=aa (.lst ((br.map pI).map D.str)):=by rw[qo];refine An (n:=2) h hl rfl rfl fun p hp ρ hr=>?_;obtain⟨a,b,rfl⟩:=en2 hr;obtain⟨q1,q2,q3,q4⟩:=hb p hp;have a1:=io q1 q2;have a2:=io q3 q4;exact⟨[oS (.int p.1),oS (.int p.2)],rfl,rfl,jN (jN (jX rfl q1 q2) rfl (by rw[rf];omega)) (jX rfl q3 q4) (by rw[jC,rf];omega)⟩
theorem wt {s:ai} {ws:ab (ai×af)} (hs:s.length=1) (h:fi ρ=aa (ws.map dW)) (hl:ws.length<=1000) (hb:∀w∈ws,w.1.length<=8/\0<=w.2/\w.2<=1000000):aD (bc fi g2 tT (b2 aF (b2 aF (vSh 0) (vC (.str s))) (cF cV (ae (vSh 1) ak))) [ac,ac]) ρ=aa (.lst ((ws.map (pW s)).map D.str)):=by rw[qo];refine An (n:=2) h hl rfl rfl fun p hp ρ hr=>?_;obtain⟨a,b,rfl⟩:=en2 hr;obtain⟨q1,q3,q4⟩:=hb p hp;have a2:=io q3 q4;exact⟨[oS (.str p.1),oS (.int p.2)],rfl,rfl,jN (jN rfl rfl (by rw[hs];omega)) (jX rfl q3 q4) (by rw[jC,hs];omega)⟩
noncomputable def wB (b:BenchT):ab ai:=([("bench":ai),b.nm]:ab ai)++b.br.map pI
noncomputable def wS (s:StepT):ab ai:=([("step":ai),s.nm,s.kd]:ab ai)++s.ws.map (pW "/")
noncomputable def wJ (j:JobT):ab ai:=([("job":ai),j.nm,tx j.ea,tx j.du,if j.od then ("in":ai) else ("of":ai)]:ab ai)++j.ms
noncomputable def wK (k:StockT):ab ai:=([("stock":ai),k.nm,tx k.lo,tx k.hi]:ab ai)++k.tk.map (pW "-")++k.pt.map (pW "+")
noncomputable def rB (b:BenchT):ai:=dY " " (wB b)
noncomputable def rS (s:StepT):ai:=dY " " (wS s)
noncomputable def rJ (j:JobT):ai:=dY " " (wJ j)
noncomputable def rK (k:StockT):ai:=dY " " (wK k)
noncomputable def rU (u:SetT):ai:=("setup ":ai)++u.b++" "++u.p++" "++u.q++" "++tx u.n
noncomputable def rL (l:LinkT):ai:=("link ":ai)++l.a++" "++l.b++" "++tx l.g
theorem kC:("bench":ai).length=5/\("step":ai).length=4/\("job":ai).length=3/\("in":ai).length=2/\("of":ai).length=2/\("stock":ai).length=5/\("setup ":ai).length=6/\("link ":ai).length=5/\("setup":ai).length=5/\("horizon ":ai).length=8:=by decide +kernel
section
variable {bn:ab ai}
theorem GoodB.bd {b:BenchT} (g:GoodB h b) (hh:h<=1000000):∀p∈b.br,0<=p.1/\p.1<=1000000/\0<=p.2/\p.2<=1000000:=fun p hp=>by have:=g.iv p hp;omega
theorem GoodS.bd {s:StepT} (g:GoodS bn h s) (hb:∀y∈bn,aY y=al) (hh:h<=1000000):∀w∈s.ws,w.1.length<=8/\0<=w.2/\w.2<=1000000:=fun w hw=>by have:=g.ws w hw;exact⟨(eD (hb _ this.1)).2,by omega,by omega⟩
theorem GoodA.bd (g:GoodA sn am) (hb:∀y∈sn,aY y=al):∀w∈am,w.1.length<=8/\0<=w.2/\w.2<=1000000:=fun w hw=>by have:=g.ws w hw;exact⟨(eD (hb _ this.1)).2,by omega,by omega⟩
theorem Al {b:BenchT} (g:GoodB h b) (hh:h<=1000000):(∀y∈wB b,y.length<=60)/\(wB b).length<=100:=by
 have gl:=g.len;have gn:=(eD g.nm).2;refine⟨fun y hy=>?_,by unfold wB;rw[qi,qe];simp only[qh,qk];omega⟩;unfold wB at hy;rcases cL.mp hy with z|z
 .have:y="bench"\/y=b.nm:=by simpa using z
  rcases this with rfl|rfl
  .rw[kC.1];omega
  .omega
 .obtain⟨p,hp,rfl⟩:=bP.mp z;exact D5 (g.bd hh p hp)
theorem Bx {s:StepT} (g:GoodS bn h s) (hb:∀y∈bn,aY y=al) (hh:h<=1000000):(∀y∈wS s,y.length<=60)/\(wS s).length<=100:=by
 have gl:=g.l4;have gn:=(eD g.nm).2;have gk:=(eD g.kd).2;refine⟨fun y hy=>?_,by unfold wS;rw[qi,qe];simp only[qh,qk];omega⟩;unfold wS at hy;rcases cL.mp hy with z|z
 .have:y="step"\/y=s.nm\/y=s.kd:=by simpa using z
  rcases this with rfl|rfl|rfl
  .rw[kC.2.1];omega
  .omega
  .omega
 .obtain⟨p,hp,rfl⟩:=bP.mp z;exact sy Ah (g.bd hb hh p hp)
theorem z5 {j:JobT} (g:GoodJ sn h j) (hb:∀y∈sn,aY y=al) (hl:sn.length<=40) (hh:h<=1000000):(∀y∈wJ j,y.length<=60)/\(wJ j).length<=100:=by
 have gl:=g.ln;have gn:=(eD g.nm).2;have g1:=io g.ea.1 (si g.ea.2 hh);have g2:=io g.du.1 (si g.du.2 hh);refine⟨fun y hy=>?_,by unfold wJ;rw[qi];simp only[qh,qk];omega⟩;unfold wJ at hy;rcases cL.mp hy with z|z
 .have:y="job"\/y=j.nm\/y=tx j.ea\/y=tx j.du\/y=if j.od then ("in":ai) else ("of":ai):=by simpa using z
  rcases this with rfl|rfl|rfl|rfl|rfl
  .rw[kC.2.2.1];omega
  .omega
  .omega
  .omega
  .split
   .rw[kC.2.2.2.1];omega
   .rw[kC.2.2.2.2.1];omega
 .have:=(eD (hb _ (g.ms y z))).2;omega
theorem Cj {k:StockT} (g:GoodK sn k) (hb:∀y∈sn,aY y=al) (hl:sn.length<=40):(∀y∈wK k,y.length<=60)/\(wK k).length<=100:=by
 have gl:=g.tk.ln;have gm:=g.pt.ln;have gn:=(eD g.nm).2;have g1:=io g.lo.1 (si g.lo.2 g.hi.2);have g2:=io g.hi.1 g.hi.2;refine⟨fun y hy=>?_,by unfold wK;rw[qi,qi,qe,qe];simp only[qh,qk];omega⟩;unfold wK at hy;rcases cL.mp hy with z|z
 .rcases cL.mp z with z|z
  .have:y="stock"\/y=k.nm\/y=tx k.lo\/y=tx k.hi:=by simpa using z
   rcases this with rfl|rfl|rfl|rfl
   .rw[kC.2.2.2.2.2.1];omega
   .omega
   .omega
   .omega
  .obtain⟨p,hp,rfl⟩:=bP.mp z;exact sy rf (g.tk.bd hb p hp)
 .obtain⟨p,hp,rfl⟩:=bP.mp z;exact sy Ax (g.pt.bd hb p hp)
theorem IY:(" ":ai).length<=10:=by rw[ph];omega
theorem lv (h:fr ρ=aa (ys.map D.str)) (hl:ys.length<=1000):aD (szF fr) ρ=aa (.lst (ys.map D.str)):=by unfold aD szF;rw[h,qa,qY (by rw[qe];exact szN hl (by decide))];rfl
theorem pz (h:f ρ=aa (.lst (ys.map D.str))) (hw:(∀y∈ys,y.length<=60)/\ys.length<=100):mF fK (vC (.str " ")) (ae f ak) ρ=aa (.str (dY " " ys)):=D7 (B:=60) h hw.1 (by decide) IY (by have:=hw.2;omega)
theorem Le {E:FS} (h:fr ρ=aa (ys.map D.str)) (hl:ys.length<=1000):ax (dI i (szF fr)) E ρ=E (ρ.set i (aa (.own (ys.map D.str)))):=by
 have e:szF fr ρ=aa (ys.map D.str):=by unfold szF;rw[h,qa,qY (by rw[qe];exact szN hl (by decide))]
 unfold ax dI;rw[e];rfl
end
noncomputable def pK (bs:ab BenchT) (ss:ab StepT) (js:ab JobT) (us:ab SetT) (ls:ab LinkT) (ks:ab StockT) (h:af):ab ai:=[("horizon ":ai)++tx h]++bs.map rB++ss.map rS++js.map rJ++us.map rU++ls.map rL++ks.map rK
theorem mP (h:f ρ=aa (.lst l)):itF f ρ=aa l:=by unfold itF;rw[h];rfl
section
variable {bs:ab BenchT}
theorem hZ {f:ai} (i:ag) (h1:fo ρ=aa (cg bs ss js us ls ks h)) (h2:(oa bs ss js us ls ks h)[i]?=aa (f,d)):fL "Shop" f fo ρ=aa d:=by unfold fL;rw[h1];show(if ("Shop":ai)="Shop" then (oa bs ss js us ls ks h).lookup f else ac)=aa d;rw[qY rfl];exact sF (by rw[As];exact tJ) h2
theorem gK {F:FQ} (hm:m∉ly) (h1:fo ρ=aa (cg bs ss js us ls ks h)) (h2:fr ρ=aa ds) (h3:F (cg bs ss js us ls ks h::ds)=aa d):dE "Shop" m F fo fr ρ=aa d:=by have hno:(oa bs ss js us ls ks h).lookup m=ac:=pf (by rw[As];exact hm);unfold dE;rw[h1];show(if ("Shop":ai)="Shop"/\(oa bs ss js us ls ks h).lookup m=ac then (fr ρ).bind fun ds=>F (cg bs ss js us ls ks h::ds) else ac)=_;rw[qY ⟨rfl,hno⟩,h2];exact h3
theorem AR:nZ [cg bs ss js us ls ks h]=aa (.int h):=by unfold nZ;exact bH [oS (cg bs ss js us ls ks h)] rfl (bR (hZ (bs:=bs) (ss:=ss) (js:=js) (us:=us) (ls:=ls) (ks:=ks) (h:=h) (fo:=vSh 0) 6 rfl rfl))
theorem GX (g:Good bs ss js us ls ks h):vQ [cg bs ss js us ls ks h]=aa (.lst (bs.map bU)):=
 bH [oS (cg bs ss js us ls ks h)] rfl (bR (aT (aB (hZ 0 rfl rfl) aL) (iF (eA (by have:=g.bl.2;omega) fun x hx=>xi (g.b x hx)))))
theorem QA (g:Good bs ss js us ls ks h):xH [cg bs ss js us ls ks h]=aa (.lst (ss.map bf)):=
 bH [oS (cg bs ss js us ls ks h)] rfl (bR (aT (aB (hZ 1 rfl rfl) aL) (iF (eA (by have:=g.sl.2;omega) fun x hx=>xf (g.s x hx)))))
theorem Nj (g:Good bs ss js us ls ks h):wx [cg bs ss js us ls ks h]=aa (.lst (js.map bo)):=
 bH [oS (cg bs ss js us ls ks h)] rfl (bR (aT (aB (hZ 2 rfl rfl) aL) (iF (eA (by have:=g.jl;omega) fun x hx=>wW (by rw[qe];exact g.sl.2) (g.j x hx)))))
theorem Lo (g:Good bs ss js us ls ks h):xE [cg bs ss js us ls ks h]=aa (.lst (us.map cc)):=
 bH [oS (cg bs ss js us ls ks h)] rfl (bR (aT (aB (hZ 3 rfl rfl) aL) (iF (eA (by have:=g.ul;omega) fun x hx=>wv))))
theorem Jc (g:Good bs ss js us ls ks h):yz [cg bs ss js us ls ks h]=aa (.lst (ls.map cu)):=
 bH [oS (cg bs ss js us ls ks h)] rfl (bR (aT (aB (hZ 4 rfl rfl) aL) (iF (eA (by have:=g.ll;omega) fun x hx=>xX))))
theorem Mt (g:Good bs ss js us ls ks h):yf [cg bs ss js us ls ks h]=aa (.lst (ks.map cC)):=
 bH [oS (cg bs ss js us ls ks h)] rfl (bR (aT (aB (hZ 5 rfl rfl) aL) (iF (eA (by have:=g.kl;omega) fun x hx=>x8 (by rw[qe];exact g.sl.2) (g.k x hx)))))
end
structure BenchAt (p:ag) (h:af) (i:ag) (b:BenchT):Prop where
 nm:b.nm=nm p i
 len:b.br.length<=10
 good:GoodI h b.br
noncomputable def sx:ab af:=[11,7,6,7,6,7,6,7,6,7,6,7,6,7,6,7,6,7,6,7,6]
noncomputable def bnF:FE:=b2 aF (aD (szF (ae (vC (.int 11)) ak))) (b2 cv (aD (szF (ae (vC (.int 7)) (ae (vC (.int 6)) ak)))) (vC (.int 10)))
theorem Ji (ρ:aX):bnF ρ=aa (.lst (sx.map D.int)):=by kernel_rfl
noncomputable def Cf:FS:=ax (dI 6 (szF ak)) (ax (aH 7 (cF dz (ae (vSh 0) (ae (b2 aF (vC (.int 3)) (vSh 5)) (ae bnF ak))))) (ax (aH 8 (vC (.int 0))) (ax (ck (itR ff (ae (b2 ixD (vSh 7) (vC (.int 0))) ak)) (ay 9) uv) (eR 6 (b9 4 (bK (szF (ae (cF eI (ae (vSh 1) (ae (vSh 5) ak))) (ae (vSh 6) ak)))))))))
abbrev bE (ns:ab af) (p n:ag) (h:af) (bs:ab BenchT) (a b c d e f g:ao Slot):aX:=[oS (.scr ns),oS (.int p),oS (.int n),oS (.int h),aa (.own (bs.map bU)),a,b,c,d,e,f,g]
theorem Gv {p k:ag} {bs:ab BenchT} {b c d e f g:ao Slot} (hp:p<62) (hk:k<8) (hl:bs.length<=8) :
  ∃t b' c' d' e' f' g',Cf (bE ns p n h bs (oS (.int (0+(k:af)))) b c d e f g)=aa (.nx,bE ns p n h (bs++[t]) (oS (.int (0+(k:af)))) b' c' d' e' f' g')/\BenchAt p h k t:=by
 have hk0:(0:af)+(k:af)=(k:af):=by omega
 rw[hk0];obtain⟨ds,e1,hd,hb⟩:=iE ns (3+k) (by omega) sx (by decide) (by decide);have hall:∀j:ag,j<21->∃d,ds[j]?=aa d/\0<=d:=fun j hj=>by obtain⟨s,hs⟩:∃s,sx[j]?=aa s:=⟨sx[j]'(by show j<21;exact hj),qD _⟩;obtain⟨d,q1,q2,_⟩:=hb j s hs;exact⟨d,q1,q2⟩
 obtain⟨d0,q0,p0,p0'⟩:=hb 0 11 rfl;obtain⟨ρ',h1,br,fz,a',b',c',h2,h3,h4⟩:=LH (S:=oS (.scr ns)) (M:=oS (.int n)) (p:=p) (k:=k) (n:=d0.toNat) (h:=h) (bs:=bs) (ds:=ds) (a:=e) (b:=f) (c:=g) (by omega) hall;have hn:=(jU hp (k:=k) (by omega)).1;refine⟨⟨nm p k,br⟩,_,_,_,_,_,_,gV.trans ((bz (d:=.lst (ds.map D.int)) (aT (aB rfl (aB (d:=.int ((3+k:ag):af)) (aC rfl rfl ?_) (aB (Ji _) aL))) e1)).trans ((bz (d:=.int 0) rfl).trans ((cZ ((fy (jQ (aB (kW (n:=0) rfl q0) aL) (ku ⟨p0,by omega⟩))).trans (h1.trans (by rw[h2])))).trans ((iA rfl).trans (fR (xs:=bs) (x:=(⟨nm p k,br⟩:BenchT)) rfl (gW (aT (aB rfl (aB rfl aL)) hn) rfl) (by omega)))))),rfl,by show br.length<=10;omega,h4⟩;show aa (D.int (3+(k:af)))=_
 congr 2
theorem Qf (ns:ab af) (p n:ag) (h:af) (hp:p<62) (hn:n<=8):∃bs:ab BenchT,pv [.scr ns,.int (p:af),.int (n:af),.int h]=aa (.lst (bs.map bU))/\bs.length=n/\∀(i:ag) b,bs[i]?=aa b->BenchAt p h i b:=by
 obtain⟨ρ',h1,bs,a,b,c,d,e,f,g,h2,h3,h4⟩:=fg (gg:=ay 5) (body:=Cf) (xs:=(bj n).map fun i:ag=>D.int (0+(i:af))) (ρ:=bE ns p n h [] ac ac ac ac ac ac ac)
  (fun i ρ=>∃bs a b c d e f g,ρ=bE ns p n h bs a b c d e f g/\bs.length=i/\∀(j:ag) b,bs[j]?=aa b->BenchAt p h j b) ⟨[],ac,ac,ac,ac,ac,ac,ac,rfl,rfl,fun j b hj=>(by simp at hj)⟩ (fun i x ρ hx hI=>by
   obtain⟨bs,a,b,c,d,e,f,g,rfl,hlen,hb⟩:=hI;rw[qj] at hx;obtain⟨j,hj,rfl⟩:=oMd hx;have hi:i<n:=by simpa using(cR.mp hj).1
   have hji:i=j:=by rw[kq hi] at hj;exact qH hj
   subst hji;obtain⟨t,b',c',d',e',f',g',e1,e2⟩:=Gv (ns:=ns) (p:=p) (n:=n) (k:=i) (h:=h) (bs:=bs) (b:=b) (c:=c) (d:=d) (e:=e) (f:=f) (g:=g) hp (by omega) (by omega);refine⟨_,_,rfl,e1,bs++[t],_,_,_,_,_,_,_,rfl,by rw[qi,hlen];rfl,fun j b'' hj=>?_⟩;by_cases hji:j<bs.length
   .rw[qz hji] at hj;exact hb j b'' hj
   .have hl2:=(cR.mp hj).1;rw[qi,qW] at hl2;rw[qK (by omega),show j-bs.length=0 by omega] at hj;cases hj;rw[show j=i by omega];exact e2)
 rw[qe,qU] at h3;refine⟨bs,?_,h3,h4⟩;have hz:=ku (j:=(n:af)) (by omega);rw[l0] at hz;unfold pv;exact bH (ρ':=(bE ns p n h bs a b c d e f g).set 4 (oS (.lst (bs.map bU)))) [oS (.scr ns),oS (.int p),oS (.int n),oS (.int h),ac,ac,ac,ac,ac,ac,ac,ac] rfl (gV.trans ((cZ ((fy (jQ (aB rfl aL) hz)).trans (h1.trans (by rw[h2])))).trans ((iA rfl).trans (bR (f:=vSh 4) rfl))))
theorem MZ {d L:ag} (hi:i<L) (hj:j<L) (h:(d+i)%L=(d+j)%L):i=j:=by
 rcases Nat.le_total i j with z|z
 .have:=SG h.symm;rw[show d+j-(d+i)=j-i by omega,SH (by omega)] at this;omega
 .have:=SG h;rw[show d+i-(d+j)=i-j by omega,SH (by omega)] at this;omega
abbrev uE (S M:ao Slot) (p:ag) (bs:ab BenchT) (h:af) (ss:ab StepT) (k:ag) (ds:ab af) (mo:af) (ws:ab (ai×af)) (a b:ao Slot):aX:=[S,oS (.int p),M,oS (.lst (bs.map bU)),oS (.int h),aa (.own (ss.map bf)),oS (.int k),oS (.lst (ds.map D.int)),oS (.int mo),aa (.own (ws.map dW)),a,b]
noncomputable def wU:FS:=ax (aH 11 (b2 ixD (b2 ixD (vSh 3) (b2 bA (b2 aF (b2 ixD (vSh 7) (vC (.int 1))) (vSh 10)) (cF bT (ae (vSh 3) ak)))) (vC (.int 0)))) (b9 9 (bK (szF (ae (vSh 11) (ae (b2 aF (vC (.int 1)) (b2 bA (b2 ixD (vSh 7) (b2 aF (vC (.int 4)) (vSh 10))) (vSh 8))) ak)))))
theorem QL {M:ao Slot} {p k d1:ag} {mo:af} {bs:ab BenchT} {ds:ab af} {a b:ao Slot} (hbs:∀(i:ag) b,bs[i]?=aa b->b.nm=nm p i) (hL:1<=bs.length) (hn:n<=4) (hnL:n<=bs.length) (hmo:1<=mo/\mo<=h) (hd1:ds[1]?=aa (d1:af)) (hd:∀j:ag,j<8->∃d,ds[j]?=aa d) :
  ∃ρ',dD (ay 10) wU ((bj n).map fun i:ag=>D.int (0+(i:af))) (uE S M p bs h ss k ds mo [] a b)=aa (.nx,ρ')/\∃ws a b,ρ'=uE S M p bs h ss k ds mo ws a b/\ws.length=n/\∀(j:ag) w,ws[j]?=aa w->w.1=nm p ((d1+j)%bs.length)/\1<=w.2/\w.2<=h:=by
 obtain⟨ρ',h1,ws,a',b',h2,h3,h4⟩:=fg (gg:=ay 10) (body:=wU) (xs:=(bj n).map fun i:ag=>D.int (0+(i:af))) (ρ:=uE S M p bs h ss k ds mo [] a b)
  (fun i ρ=>∃ws a b,ρ=uE S M p bs h ss k ds mo ws a b/\ws.length=i/\∀(j:ag) w,ws[j]?=aa w->w.1=nm p ((d1+j)%bs.length)/\1<=w.2/\w.2<=h) ⟨[],a,b,rfl,rfl,fun j w hj=>(by simp at hj)⟩ (fun i x ρ hx hI=>by
   obtain⟨ws,a,b,rfl,hlen,hw⟩:=hI;rw[qj] at hx;obtain⟨j,hj,rfl⟩:=oMd hx;have hi:i<n:=by simpa using(cR.mp hj).1
   have hji:i=j:=by rw[kq hi] at hj;exact qH hj
   subst hji;obtain⟨d4,q4⟩:=hd (4+i) (by omega);have hm:(d1+i)%bs.length<bs.length:=iV _ (by omega);have hb:=hbs _ _ (qD hm);have e1:b2 ixD (b2 ixD (vSh 3) (b2 bA (b2 aF (b2 ixD (vSh 7) (vC (.int 1))) (vSh 10)) (cF bT (ae (vSh 3) ak)))) (vC (.int 0)) (uE S M p bs h ss k ds mo ws (oS (.int (0+(i:af)))) b)=aa (.str (nm p ((d1+i)%bs.length))):=by
    refine aC (x:=bU bs[(d1+i)%bs.length]) (aC (y:=.int (((d1+i)%bs.length:ag):af)) rfl (aC (y:=.int ((bs.length:ag):af)) (aC (kW (n:=1) rfl hd1) rfl rfl) (aT (aB rfl aL) ?_) ?_) ?_) rfl ?_
    .show aa (D.int (((bs.map bU).length:ag):af))=_;rw[qe]
    .rw[db (by omega)];show aa (D.int (((d1:af)+(0+(i:af)))%(bs.length:af)))=_;rw[show(d1:af)+(0+(i:af))=((d1+i:ag):af) by omega];rfl
    .rw[ixL,qj,qD hm];rfl
    .rw[←hb];rfl
   have q5:0<=d4%mo:=qX _ (by omega);have q6:d4%mo<mo:=qV _ (by omega);refine⟨_,_,rfl,(bz e1).trans (fR (xs:=ws) (x:=(nm p ((d1+i)%bs.length),1+d4%mo)) rfl (gW rfl (aC rfl (aC (yu (n:=4+i) rfl (aC rfl rfl rfl) (by omega) q4) rfl (db (by omega))) rfl)) (by omega)),ws++[(nm p ((d1+i)%bs.length),1+d4%mo)],_,_,rfl,by rw[qi,hlen];rfl,fun j w hj=>?_⟩;by_cases hji:j<ws.length
   .rw[qz hji] at hj;exact hw j w hj
   .have hl2:=(cR.mp hj).1;rw[qi,qW] at hl2;rw[qK (by omega),show j-ws.length=0 by omega] at hj;cases hj;rw[show j=i by omega];exact⟨rfl,by show 1<=1+d4%mo;omega,by show 1+d4%mo<=h;omega⟩)
 rw[qe,qU] at h3;exact⟨ρ',h1,ws,a',b',h2,h3,h4⟩
theorem wb {l:ab α} {f:α->ai} {g:ag->ai} (hn:l.length<=n) (hg:∀i,i<n->∀j,j<n->g i=g j->i=j) (h:∀(j:ag) k,l[j]?=aa k->f k=g j):(l.map f).Nodup:=by rw[FM,FC];intro i j hi hj hij e;rw[qe] at hi hj;rw[SI,SI,h i _ (qD hi),h j _ (qD hj)] at e;have:=hg i (by omega) j (by omega) e;omega
structure StepAt (p:ag) (bn:ab ai) (h:af) (i:ag) (s:StepT):Prop where
 nm:s.nm=nm p (20*(p%2)+i)
 good:GoodS bn h s
noncomputable def sw:ab af:=[4,8,5,3,1000000,1000000,1000000,1000000]
noncomputable def stF:FE:=b2 aF (aD (szF (ae (vC (.int 4)) (ae (vC (.int 8)) (ae (vC (.int 5)) (ae (vC (.int 3)) ak)))))) (b2 cv (aD (szF (ae (b2 ce (vC (.int 10)) (vC (.int 6))) ak))) (vC (.int 4)))
theorem IU (ρ:aX):stF ρ=aa (.lst (sw.map D.int)):=by kernel_rfl
noncomputable def moF:FE:=aD (szF (ae (vC (.int 5)) (ae (vC (.int 40)) (ae (b2 ce (vC (.int 10)) (vC (.int 6))) ak))))
theorem JG (ρ:aX):moF ρ=aa (.lst (([5,40,1000000]:ab af).map D.int)):=by kernel_rfl
noncomputable def D0:FS:=ax (aH 7 (cF dz (ae (vSh 0) (ae (b2 aF (vC (.int 11)) (vSh 6)) (ae stF ak))))) (ax (aH 8 (cF eO (ae (vSh 4) (ae (b2 ixD moF (b2 ixD (vSh 7) (vC (.int 3)))) ak)))) (ax (dI 9 (szF ak)) (ax (ck (itR ff (ae (cF eO (ae (b2 aF (vC (.int 1)) (b2 ixD (vSh 7) (vC (.int 0)))) (ae (cF bT (ae (vSh 3) ak)) ak))) ak)) (ay 10) wU) (eR 9 (b9 5 (bK (szF (ae (cF eI (ae (vSh 1) (ae (b2 aF (b2 cv (vC (.int 20)) (b2 bA (vSh 1) (vC (.int 2)))) (vSh 6)) ak))) (ae (cF eI (ae (b2 eY (vSh 1) (vC (.int 2))) (ae (b2 ixD (vSh 7) (vC (.int 2))) ak))) (ae (vSh 9) ak))))))))))
abbrev tE (ns:ab af) (p n:ag) (bs:ab BenchT) (h:af) (ss:ab StepT) (a b c d e f:ao Slot):aX:=[oS (.scr ns),oS (.int p),oS (.int n),oS (.lst (bs.map bU)),oS (.int h),aa (.own (ss.map bf)),a,b,c,d,e,f]
theorem xb {l:ab af} {d:af} (h:l[i]?=aa d) (h0:0<=d):l[i]?=aa ((d.toNat:ag):af):=by rw[h];congr 1;omega
theorem OW {p k:ag} {bs:ab BenchT} {b c d e f:ao Slot} (hp:p<60) (hk:k<40) (hl:ss.length<=40) (hh:1<=h) (hb:1<=bs.length/\bs.length<=8) (hbs:∀(i:ag) b,bs[i]?=aa b->b.nm=nm p i) :
  ∃t b' c' d' e' f',D0 (tE ns p n bs h ss (oS (.int (0+(k:af)))) b c d e f)=aa (.nx,tE ns p n bs h (ss++[t]) (oS (.int (0+(k:af)))) b' c' d' e' f')/\StepAt p (bs.map (·.nm)) h k t:=by
 have hk0:(0:af)+(k:af)=(k:af):=by omega
 rw[hk0];obtain⟨ds,e1,hd,hq⟩:=iE ns (11+k) (by omega) sw (by decide) (by decide);have hall:∀j:ag,j<8->∃d,ds[j]?=aa d:=fun j hj=>by obtain⟨s,hs⟩:∃s,sw[j]?=aa s:=⟨sw[j]'(by show j<8;exact hj),qD _⟩;obtain⟨d,q1,_⟩:=hq j s hs;exact⟨d,q1⟩
 obtain⟨d0,q0,p0,p0'⟩:=hq 0 4 rfl;obtain⟨d1,q1,p1,p1'⟩:=hq 1 8 rfl;obtain⟨d2,q2,p2,p2'⟩:=hq 2 5 rfl;obtain⟨d3,q3,p3,p3'⟩:=hq 3 3 rfl;obtain⟨mx,hmx,m1⟩:∃mx:af,ixD (.lst (([5,40,1000000]:ab af).map D.int)) (.int d3)=aa (.int mx)/\1<=mx:=by
  have:d3=0\/d3=1\/d3=2:=by omega
  rcases this with rfl|rfl|rfl
  .exact⟨5,rfl,by decide⟩
  .exact⟨40,rfl,by decide⟩
  .exact⟨1000000,rfl,by decide⟩
 obtain⟨mo,hmo,mo1,mo2⟩:∃mo:af,eO [.int h,.int mx]=aa (.int mo)/\1<=mo/\mo<=h:=⟨if mx<h then mx else h,rfl,by split<;>omega,by split<;>omega⟩;obtain⟨m,hm,hm1,hm4,hmL⟩:∃m:ag,eO [.int (1+d0),.int ((bs.length:ag):af)]=aa (.int (m:af))/\1<=m/\m<=4/\m<=bs.length:=by
  refine⟨(if (bs.length:af)<1+d0 then (bs.length:af) else 1+d0).toNat,?_,?_,?_,?_⟩
  .show aa (D.int (if (bs.length:af)<1+d0 then (bs.length:af) else 1+d0))=_
   congr 2
   split<;>omega
  all_goals split<;>omega
 obtain⟨ρ',h1,ws,a',b',h2,h3,h4⟩:=QL (S:=oS (.scr ns)) (M:=oS (.int n)) (p:=p) (k:=k) (n:=m) (d1:=d1.toNat) (h:=h) (mo:=mo) (bs:=bs) (ss:=ss) (ds:=ds) (a:=e) (b:=f) hbs hb.1 hm4 hmL ⟨mo1,mo2⟩ (xb q1 p1) hall;have n1:=jU (p:=p) (k:=20*(p%2)+k) (by omega) (by omega);have n2:=jU (p:=p / 2) (k:=d2.toNat) (by omega) (by omega);have hz:=ku (j:=(m:af)) (by omega);rw[l0] at hz;have mem:∀j,j<bs.length->nm p j∈bs.map (·.nm):=fun j hj=>by rw[←hbs j _ (qD hj)];exact vn (zm hj)
 refine⟨⟨nm p (20*(p%2)+k),nm (p / 2) d2.toNat,ws⟩,_,_,_,_,_,(bz (d:=.lst (ds.map D.int)) (aT (aB rfl (aB (d:=.int ((11+k:ag):af)) (aC rfl rfl ?_) (aB (IU _) aL))) e1)).trans ((bz (d:=.int mo) (aT (aB rfl (aB (aC (JG _) (kW (n:=3) rfl q3) hmx) aL)) hmo)).trans (gV.trans ((cZ ((fy (jQ (aB (aT (aB (aC rfl (kW (n:=0) rfl q0) rfl) (aB (aT (aB rfl aL) ?_) aL)) hm) aL) hz)).trans (h1.trans (by rw[h2])))).trans ((iA rfl).trans (fR (xs:=ss) (x:=(⟨nm p (20*(p%2)+k),nm (p / 2) d2.toNat,ws⟩:StepT)) rfl (n4 (aT (aB rfl (aB (d:=.int ((20*(p%2)+k:ag):af)) (aC (aC (x:=.int 20) rfl (aC (x:=.int (p:af)) (y:=.int 2) rfl rfl (db (by decide))) (gM (.inl (by decide)))) rfl ?_) aL)) n1.1) (aT (aB (d:=.int ((p / 2:ag):af)) (aC (x:=.int (p:af)) (y:=.int 2) rfl rfl (nM (by decide))) (aB (d:=.int ((d2.toNat:ag):af)) (kW (n:=2) rfl (xb q2 p2)) aL)) n2.1) rfl) (by omega)))))),rfl,n1.2.1,n2.2.1,by show 1<=ws.length;omega,by show ws.length<=4;omega,fun w hw=>?_,?_⟩
 .show aa (D.int (11+(k:af)))=_
  congr 2
 .show aa (D.int (((bs.map bU).length:ag):af))=_;rw[qe]
 .show aa (D.int (20*((p:af)%2)+(k:af)))=_
  congr 2
 .obtain⟨j,hj⟩:=vo hw;obtain⟨w1,w2,w3⟩:=h4 j w hj;exact⟨by rw[w1];exact mem _ (iV _ (by omega)),w2,w3⟩
 .exact wb (n:=bs.length) (g:=fun j=>nm p ((d1.toNat+j)%bs.length)) (by show ws.length<=_;omega) (fun i hi j hj z=>MZ hi hj (rh (by omega) (qF (iV _ (by omega)) (by omega)) (qF (iV _ (by omega)) (by omega)) z)) (fun j w hj=>(h4 j w hj).1)
theorem KL (ns:ab af) (p n:ag) (bs:ab BenchT) (h:af) (hp:p<60) (hn:n<=40) (hh:1<=h) (hb:1<=bs.length/\bs.length<=8) (hbs:∀(i:ag) b,bs[i]?=aa b->b.nm=nm p i) :
  ∃ss:ab StepT,sP [.scr ns,.int (p:af),.int (n:af),.lst (bs.map bU),.int h]=aa (.lst (ss.map bf))/\ss.length=n/\∀(i:ag) s,ss[i]?=aa s->StepAt p (bs.map (·.nm)) h i s:=by
 obtain⟨ρ',h1,ss,a,b,c,d,e,f,h2,h3,h4⟩:=fg (gg:=ay 6) (body:=D0) (xs:=(bj n).map fun i:ag=>D.int (0+(i:af))) (ρ:=tE ns p n bs h [] ac ac ac ac ac ac)
  (fun i ρ=>∃ss a b c d e f,ρ=tE ns p n bs h ss a b c d e f/\ss.length=i/\∀(j:ag) s,ss[j]?=aa s->StepAt p (bs.map (·.nm)) h j s) ⟨[],ac,ac,ac,ac,ac,ac,rfl,rfl,fun j b hj=>(by simp at hj)⟩ (fun i x ρ hx hI=>by
   obtain⟨ss,a,b,c,d,e,f,rfl,hlen,hs⟩:=hI;rw[qj] at hx;obtain⟨j,hj,rfl⟩:=oMd hx;have hi:i<n:=by simpa using(cR.mp hj).1
   have hji:i=j:=by rw[kq hi] at hj;exact qH hj
   subst hji;obtain⟨t,b',c',d',e',f',e1,e2⟩:=OW (ns:=ns) (p:=p) (n:=n) (k:=i) (bs:=bs) (h:=h) (ss:=ss) (b:=b) (c:=c) (d:=d) (e:=e) (f:=f) hp (by omega) (by omega) hh hb hbs;refine⟨_,_,rfl,e1,ss++[t],_,_,_,_,_,_,rfl,by rw[qi,hlen];rfl,fun j b'' hj=>?_⟩;by_cases hji:j<ss.length
   .rw[qz hji] at hj;exact hs j b'' hj
   .have hl2:=(cR.mp hj).1;rw[qi,qW] at hl2;rw[qK (by omega),show j-ss.length=0 by omega] at hj;cases hj;rw[show j=i by omega];exact e2)
 rw[qe,qU] at h3;refine⟨ss,?_,h3,h4⟩;have hz:=ku (j:=(n:af)) (by omega);rw[l0] at hz;unfold sP;exact bH (ρ':=(tE ns p n bs h ss a b c d e f).set 5 (oS (.lst (ss.map bf)))) [oS (.scr ns),oS (.int p),oS (.int n),oS (.lst (bs.map bU)),oS (.int h),ac,ac,ac,ac,ac,ac,ac] rfl (gV.trans ((cZ ((fy (jQ (aB rfl aL) hz)).trans (h1.trans (by rw[h2])))).trans ((iA rfl).trans (bR (f:=vSh 5) rfl))))
theorem Eu {α:Type} {x:α}:∀{gs:ab (ab α)} {j:ag} {g:ab α},gs[j]?=aa g->(gs.set j (g++[x])).flatten.Perm (x::gs.flatten)
 |[],_,_,h=>by simp at h
 |g'::gs,0,g,h=>by
  cases h;show((g'++[x])++gs.flatten).Perm (x::(g'++gs.flatten));rw[qw];exact SJ
 |g'::gs,j+1,g,h=>by have h':gs[j]?=aa g:=h;show(g'++(gs.set j (g++[x])).flatten).Perm (x::(g'++gs.flatten));exact((Eu h').append_left g').trans SJ
theorem v8 (h1:ρ[i]?=aa (aa (.oll dss))) (h2:fk ρ=aa (.int (j:af))) (h3:f ρ=aa d) (h4:dss[j]?=aa ds) (h5:ds.length<aM):gC i fk f ρ=aa (.nx,ρ.set i (aa (.oll (dss.set j (ds++[d]))))):=by
 have hj:=(cR.mp h4).1;unfold gC;rw[h1];simp only[h2,h3,qa];have e:pR dss.length (.int (j:af))=aa (j,(j:af)):=by
  have e2:ixN dss.length (j:af)=aa j:=by unfold ixN;rw[qY (by omega),qY (by omega)];rfl
  show(ixN dss.length (j:af)).map _=_;rw[e2];rfl
 rw[e,qa];simp only[h4];rw[qY h5]
noncomputable def Ev:ab af:=[4,8,5,3,1000000,1000000,1000000,1000000,10]
noncomputable def jbF:FE:=aD (szF (ae (vC (.int 4)) (ae (vC (.int 8)) (ae (vC (.int 5)) (ae (vC (.int 3)) (ae (b2 ce (vC (.int 10)) (vC (.int 6))) (ae (b2 ce (vC (.int 10)) (vC (.int 6))) (ae (b2 ce (vC (.int 10)) (vC (.int 6))) (ae (b2 ce (vC (.int 10)) (vC (.int 6))) (ae (vC (.int 10)) ak))))))))))
theorem Pg (ρ:aX):jbF ρ=aa (.lst (Ev.map D.int)):=by kernel_rfl
noncomputable def Ay:FS:=ax (aH 11 (b2 ixD (cF dz (ae (vSh 0) (ae (b2 aF (vC (.int 11)) (vSh 9)) (ae jbF ak)))) (vC (.int 8)))) (sIf (toB (b2 ltD (vSh 11) (vSh 4))) (gC 8 (vSh 11) (b2 ixD (vSh 10) (vC (.int 0)))) aU)
abbrev gE (ns:ab af) (P:ao Slot) (ss:ab StepT) (H:ao Slot) (m:ag) (a b c:ao Slot) (gs:ab (ab ai)) (d e f g h i:ao Slot):aX:=[oS (.scr ns),P,oS (.lst (ss.map bf)),H,oS (.int m),a,b,c,aa (.oll (gs.map fun l=>l.map D.str)),d,e,f,g,h,i]
structure GpInv (sn:ab ai) (m i:ag) (gs:ab (ab ai)):Prop where
 len:gs.length=m
 nd:gs.flatten.Nodup
 sub:∀x∈gs.flatten,x∈sn.take i
 sz:gs.flatten.length<=i
theorem GpInv.put {m:ag} {g:ab ai} (v:GpInv sn m i gs) (nd:sn.Nodup) (hx:sn[i]?=aa x) (hg:gs[j]?=aa g):GpInv sn m (i+1) (gs.set j (g++[x])):=by
 have pr:=Eu (x:=x) hg;have hi:=(cR.mp hx).1;have ht:sn.take (i+1)=sn.take i++[x]:=by rw[lj,hx];rfl
 have nd2:(sn.take (i+1)).Nodup:=nd.sublist (uQ _ _);rw[ht] at nd2;have hnx:x∉sn.take i:=fun z=>(lq.mp nd2).2.2 x z x (bY.mpr rfl) rfl;refine⟨by rw[vj];exact v.len,pr.nodup_iff.mpr (dG.mpr ⟨fun z=>hnx (v.sub x z),v.nd⟩),fun y hy=>?_,?_⟩
 .rw[ht];rcases cG.mp (pr.mem_iff.mp hy) with rfl|z
  .exact qQ _ (bY.mpr rfl)
  .exact EM _ (v.sub y z)
 .rw[pr.length_eq,qh];have:=v.sz;omega
theorem GpInv.next {m:ag} (v:GpInv sn m i gs):GpInv sn m (i+1) gs:=⟨v.len,v.nd,fun y hy=>oB (i:=i) (by rw[SK,ko (by omega)];exact v.sub y hy),vq v.sz⟩
theorem xR {s:StepT} (h:ss[i]?=aa s):(ss.map (·.nm))[i]?=aa s.nm:=by rw[qj,h];rfl
theorem zZ {g:ab ai} (h:gs[j]?=aa g):g.length<=gs.flatten.length:=by
 have:g∈gs:=qP h
 induction gs generalizing j with
 |nil=>cases this
 |cons a r ih=>
  rw[l7,qi];rcases cG.mp this with rfl|z
  .omega
  .obtain⟨k,hk⟩:=vo z;have:=ih hk z;omega
theorem Jv {P H:ao Slot} {m:ag} {a b c d e f g h i:ao Slot} (hl:ss.length<=40) (hm:m<=9) (nd:(ss.map (·.nm)).Nodup) :
  ∃ρ',dD (cD 2 (aN (ay 9) (aN (ay 10) cr))) Ay ((ss.map bf).mapIdx fun i d=>D.tup [.int i,d]) (gE ns P ss H m a b c (bQ m []) d e f g h i)=aa (.nx,ρ')/\∃gs d e f,ρ'=gE ns P ss H m a b c gs d e f g h i/\GpInv (ss.map (·.nm)) m ss.length gs:=by
 obtain⟨ρ',h1,gs,d',e',f',h2,h3⟩:=fg (gg:=cD 2 (aN (ay 9) (aN (ay 10) cr))) (body:=Ay) (xs:=(ss.map bf).mapIdx fun i d=>D.tup [.int i,d]) (ρ:=gE ns P ss H m a b c (bQ m []) d e f g h i)
  (fun t ρ=>∃gs d e f,ρ=gE ns P ss H m a b c gs d e f g h i/\GpInv (ss.map (·.nm)) m t gs) ⟨bQ m [],d,e,f,rfl,by simp,by simp,by simp,by simp⟩ (fun t x ρ hx hI=>by
   obtain⟨gs,d,e,f,rfl,v⟩:=hI;obtain⟨y,hy,rfl⟩:=sq hx;rw[qj] at hy;obtain⟨s,hs,rfl⟩:=oMd hy;have ht:t<ss.length:=(cR.mp hs).1;obtain⟨ds,e1,hd,hq⟩:=iE ns (11+t) (by omega) Ev (by decide) (by decide);obtain⟨d8,q8,p8,p8'⟩:=hq 8 10 rfl;have hset:∀G:FS,ax (aH 11 (b2 ixD (cF dz (ae (vSh 0) (ae (b2 aF (vC (.int 11)) (vSh 9)) (ae jbF ak)))) (vC (.int 8)))) G (gE ns P ss H m a b c gs (oS (.int t)) (oS (bf s)) f g h i)=G (gE ns P ss H m a b c gs (oS (.int t)) (oS (bf s)) (oS (.int ((d8.toNat:ag):af))) g h i):=fun G=>by
    refine bz (kW (n:=8) (aT (aB rfl (aB (d:=.int ((11+t:ag):af)) (aC rfl rfl ?_) (aB (Pg _) aL))) e1) (xb q8 p8));show aa (D.int (11+(t:af)))=_
    congr 2
   have hte:toB (b2 ltD (vSh 11) (vSh 4)) (gE ns P ss H m a b c gs (oS (.int t)) (oS (bf s)) (oS (.int ((d8.toNat:ag):af))) g h i)=aa (decide (((d8.toNat:ag):af)<(m:af))):=bx (aC rfl rfl rfl);by_cases hlt:((d8.toNat:ag):af)<(m:af)
   .rw[qS hlt] at hte;have hjl:d8.toNat<gs.length:=by rw[v.len];omega
    have hg:=qD hjl;have hgl:=zZ hg;have hvz:=v.sz;refine⟨_,_,rfl,(hset _).trans ((g0 hte).trans ((qY rfl).trans (v8 (i:=8) (j:=d8.toNat) (dss:=gs.map fun l=>l.map D.str) (ds:=(gs[d8.toNat]).map D.str) (d:=.str s.nm) rfl rfl rfl (by rw[qj,hg];rfl) (by rw[qe];unfold aM;omega)))),gs.set d8.toNat (gs[d8.toNat]++[s.nm]),oS (.int t),oS (bf s),oS (.int ((d8.toNat:ag):af)),?_,v.put nd (xR hs) hg⟩;have e9:((gs.map fun l=>l.map D.str).set d8.toNat (gs[d8.toNat].map D.str++[D.str s.nm]))=(gs.set d8.toNat (gs[d8.toNat]++[s.nm])).map fun l=>l.map D.str:=by rw[show gs[d8.toNat].map D.str++[D.str s.nm]=(gs[d8.toNat]++[s.nm]).map D.str by rw[dZ];rfl,←List.map_set]
    rw[e9];rfl
   .rw[qN hlt] at hte;exact⟨_,_,rfl,(hset _).trans ((g0 hte).trans rfl),gs,_,_,_,rfl,v.next⟩)
 rw[oz,qe] at h3;exact⟨ρ',h1,gs,d',e',f',h2,h3⟩
theorem ym:∀(ns:ab ai),jy (ns.map gF)=0
 |[]=>by simp[jy]
 |x::r=>by simp[jy,jB,ym r]
theorem O1 {ns:ab ai} (h:∀x∈ns,aY x=al):dH (.list (ns.map gF))=al:=by simp[dH,iy,o6 h,jB,ym]
theorem Hx {ns:ab ai} (h:∀x∈ns,aY x=al):neA (.lst (ns.map D.str)) (.lst [])=aa (.bl (!ns.isEmpty)):=by
 have e0:neA (.lst (ns.map D.str)) (.lst [])=mB (.lst (ns.map D.str)) (.lst []):=rfl;have s1:=O1 h;have p1:pdD (.lst (ns.map D.str))=aa (.list (ns.map gF)):=by simp[pdD,t7]
 have p2:pdD (.lst [])=aa (.list []):=by simp[pdD,eL]
 have q:eX (.list (ns.map gF)) (.list [])=ns.isEmpty:=by cases ns<;>simp[eX,me]
 rw[e0];unfold mB eqX;rw[p1,p2,qa,qa,qY ⟨s1,Eo⟩,q];rfl
noncomputable def DU:aX->ao (Fl×aX):=ax (sIf (toB (b2 eqD (b2 bA (b2 eY (vSh 7) (vC (.int 7))) (vC (.int 2))) (vC (.int 0)))) (aH 13 (b1 i6 (vSh 13))) aU) (ax (aH 5 (b2 bA (b2 cv (vSh 5) (vC (.int 7))) (b2 aF (vSh 3) (vC (.int 1))))) (ax (aH 6 (b2 bA (b2 cv (vSh 6) (vC (.int 11))) (b2 aF (vSh 3) (vC (.int 1))))) (aH 14 (b2 eqD (b2 bA (b2 jd (vSh 7) (cF eO (ae (vSh 9) (ae (vC (.int 8)) ak)))) (vC (.int 2))) (vC (.int 0))))))
abbrev hE (S:ao Slot) (p:ag) (T:ao Slot) (h:af) (M:ao Slot) (ea du od:af) (gs:ab (ab ai)) (k b c:ao Slot) (js:ab JobT) (g o:ao Slot):aX:=[S,oS (.int p),T,oS (.int h),M,oS (.int ea),oS (.int du),oS (.int od),aa (.sh (.lst (gs.map fun l=>.lst (l.map D.str)))),k,b,c,aa (.own (js.map bo)),g,o]
theorem Ml {T M b c o:ao Slot} {p t:ag} {od:af} {g:ab ai} (hh:1<=h/\h<=1000000) :
  ∃(ea' du':af) (or':bq) (g':ab ai),DU (hE S p T h M ea du od gs (oS (.int (t:af))) b c js (oS (.lst (g.map D.str))) o)=aa (.nx,hE S p T h M ea' du' od gs (oS (.int (t:af))) b c js (oS (.lst (g'.map D.str))) (oS (.bl or')))/\0<=ea'/\ea'<=h/\0<=du'/\du'<=h/\g'.Perm g:=by
 have e1:∀(x:D) (o:ao Slot),toB (b2 eqD (b2 bA (b2 eY (vSh 7) (vC (.int 7))) (vC (.int 2))) (vC (.int 0))) (hE S p T h M ea du od gs (oS (.int (t:af))) b c js (oS x) o)=aa (decide (od / 7%2=0)):=fun x o=>bx (aC (aC (aC (x:=.int od) (y:=.int 7) rfl rfl (nM (by decide))) rfl (db (by decide))) rfl rfl);have p1:0<=ea*7%(h+1):=qX _ (by omega);have p2:ea*7%(h+1)<h+1:=qV _ (by omega);have p3:0<=du*11%(h+1):=qX _ (by omega);have p4:du*11%(h+1)<h+1:=qV _ (by omega);obtain⟨mi,hmi,mi0⟩:∃mi:af,eO [.int (t:af),.int 8]=aa (.int mi)/\0<=mi:=⟨if (8:af)<(t:af) then 8 else (t:af),rfl,by split<;>omega⟩;have fin:∀g':ab ai,ax (aH 5 (b2 bA (b2 cv (vSh 5) (vC (.int 7))) (b2 aF (vSh 3) (vC (.int 1))))) (ax (aH 6 (b2 bA (b2 cv (vSh 6) (vC (.int 11))) (b2 aF (vSh 3) (vC (.int 1))))) (aH 14 (b2 eqD (b2 bA (b2 jd (vSh 7) (cF eO (ae (vSh 9) (ae (vC (.int 8)) ak)))) (vC (.int 2))) (vC (.int 0))))) (hE S p T h M ea du od gs (oS (.int (t:af))) b c js (oS (.lst (g'.map D.str))) o)=aa (.nx,hE S p T h M (ea*7%(h+1)) (du*11%(h+1)) od gs (oS (.int (t:af))) b c js (oS (.lst (g'.map D.str))) (oS (.bl (decide (od / 2 ^ mi.toNat%2=0))))):=fun g'=>
  (bz (d:=.int (ea*7%(h+1))) (aC (aC (x:=.int ea) (y:=.int 7) rfl rfl (gM (.inr (by decide)))) (aC (x:=.int h) (y:=.int 1) rfl rfl rfl) (db (by omega)))).trans ((bz (d:=.int (du*11%(h+1))) (aC (aC (x:=.int du) (y:=.int 11) rfl rfl (gM (.inr (by decide)))) (aC (x:=.int h) (y:=.int 1) rfl rfl rfl) (db (by omega)))).trans (tZ (aC (aC (aC (x:=.int od) (y:=.int mi) rfl (aT (aB rfl (aB rfl aL)) hmi) (qY mi0)) rfl (db (by decide))) rfl rfl)))
 unfold DU;by_cases ho:od / 7%2=0
 .refine⟨_,_,_,g.reverse,(sI ((e1 _ _).trans (by rw[qS ho])) (d:=.lst (g.reverse.map D.str)) ?_).trans (fin g.reverse),p1,by omega,p3,by omega,F9 g⟩;rw[zJ];rfl
 .exact⟨_,_,_,g,(cb ((e1 _ _).trans (by rw[qN ho]))).trans (fin g),p1,by omega,p3,by omega,.refl _⟩
theorem wP {A E:FS} :ax A (ax B E)=ax (ax A B) E:=by
 funext ρ
 unfold ax;cases A ρ with
 |none=>rfl
 |some r=>
  obtain⟨fl,ρ1⟩:=r;cases fl<;>rfl
theorem Pc {A C E' E:FS} (h:ax A (ax B (ax C E')) ρ=aa (.nx,ρ1)):ax A (ax B (ax C (ax E' E))) ρ=E ρ1:=by rw[wP (A:=C),wP (A:=B),wP (A:=A)];exact cZ h
noncomputable def jnF (F:FQ):FE:=bK (szF (ae (cF F (ae (b2 aF (vSh 1) (vC (.int 1))) (ae (vSh 9) ak))) (ae (vSh 5) (ae (vSh 6) (ae (vSh 14) (ae (vSh 13) ak))))))
noncomputable def Dd:FS:=sIf (toB (b2 neA (vSh 13) (aD (szF ak)))) (ax (sIf (toB (b2 eqD (b2 bA (b2 eY (vSh 7) (vC (.int 7))) (vC (.int 2))) (vC (.int 0)))) (aH 13 (b1 i6 (vSh 13))) aU) (ax (aH 5 (b2 bA (b2 cv (vSh 5) (vC (.int 7))) (b2 aF (vSh 3) (vC (.int 1))))) (ax (aH 6 (b2 bA (b2 cv (vSh 6) (vC (.int 11))) (b2 aF (vSh 3) (vC (.int 1))))) (ax (aH 14 (b2 eqD (b2 bA (b2 jd (vSh 7) (cF eO (ae (vSh 9) (ae (vC (.int 8)) ak)))) (vC (.int 2))) (vC (.int 0)))) (b9 12 (jnF eI)))))) aU
structure RInv (sn:ab ai) (p:ag) (h:af) (gs:ab (ab ai)) (t:ag) (js:ab JobT):Prop where
 len:js.length<=t
 good:∀j∈js,GoodJ sn h j
 nms:∀j∈js,∃k,k<t/\j.nm=nm (p+1) k
 nd:(js.map (·.nm)).Nodup
 ms:(js.flatMap (·.ms)).Perm (gs.take t).flatten
theorem OC {T M:ao Slot} {p:ag} {od:af} {a b c g o:ao Slot} (hh:1<=h/\h<=1000000) (hp:p<60) (hm:gs.length<=9) (hsn:∀x∈sn,aY x=al) (hsub:∀x∈gs.flatten,x∈sn) (hsz:gs.flatten.length<=sn.length) :
  ∃ρ',dD (cD 2 (aN (ay 9) (aN (ay 13) cr))) Dd ((gs.map fun l=>D.lst (l.map D.str)).mapIdx fun i d=>D.tup [.int i,d]) (hE S p T h M ea du od gs a b c [] g o)=aa (.nx,ρ')/\∃ea du js a g o,ρ'=hE S p T h M ea du od gs a b c js g o/\RInv sn p h gs gs.length js:=by
 obtain⟨ρ',h1,ea',du',js,a',g',o',h2,h3⟩:=fg (gg:=cD 2 (aN (ay 9) (aN (ay 13) cr))) (body:=Dd) (xs:=(gs.map fun l=>D.lst (l.map D.str)).mapIdx fun i d=>D.tup [.int i,d]) (ρ:=hE S p T h M ea du od gs a b c [] g o)
  (fun t ρ=>∃ea du js a g o,ρ=hE S p T h M ea du od gs a b c js g o/\RInv sn p h gs t js) ⟨ea,du,[],a,g,o,rfl,qv _,fun j hj=>(by cases hj),fun j hj=>(by cases hj),lm,.refl _⟩ (fun t x ρ hx hI=>by
   obtain⟨ea,du,js,a,g,o,rfl,v⟩:=hI;obtain⟨y,hy,rfl⟩:=sq hx;rw[qj] at hy;obtain⟨l,hl,rfl⟩:=oMd hy;have ht:t<gs.length:=(cR.mp hl).1;have hin:∀x∈l,x∈sn:=fun x hx=>hsub x (List.mem_flatten.mpr ⟨l,qP hl,hx⟩);have htk:(gs.take (t+1)).flatten=(gs.take t).flatten++l:=by rw[lj,hl,SL];simp
   have hte:toB (b2 neA (vSh 13) (aD (szF ak))) (hE S p T h M ea du od gs (oS (.int (t:af))) b c js (oS (.lst (l.map D.str))) o)=aa (!l.isEmpty):=bx (aC (x:=.lst (l.map D.str)) (y:=.lst []) rfl (by kernel_rfl) (Hx fun x hx=>hsn x (hin x hx)));cases l with
   |nil=>
    refine⟨_,_,rfl,(g0 hte).trans rfl,ea,du,js,_,_,_,rfl,vq v.len,v.good,fun j hj=>?_,v.nd,?_⟩
    .obtain⟨k,hk,e⟩:=v.nms j hj;exact⟨k,rW hk,e⟩
    .rw[htk,iR];exact v.ms
   |cons x r=>
    obtain⟨ea',du',or',g',e1,q1,q2,q3,q4,pr⟩:=Ml (S:=S) (T:=T) (M:=M) (b:=b) (c:=c) (o:=o) (p:=p) (t:=t) (h:=h) (ea:=ea) (du:=du) (od:=od) (gs:=gs) (js:=js) (g:=x::r) hh;have n1:=jU (p:=p+1) (k:=t) (by omega) (by omega);have hgl:=zZ hl;have hjl:=v.len;have e2:eI [.int ((p:af)+1),.int (t:af)]=aa (.str (nm (p+1) t)):=by rw[←n1.1];congr 2
    refine⟨_,_,rfl,(g0 hte).trans ((qY rfl).trans ((Pc e1).trans (fR (xs:=js) (x:=(⟨nm (p+1) t,ea',du',or',g'⟩:JobT)) rfl (yd (aT (aB (aC (x:=.int (p:af)) (y:=.int 1) rfl rfl rfl) (aB rfl aL)) e2) rfl rfl rfl rfl) (by omega)))),ea',du',js++[⟨nm (p+1) t,ea',du',or',g'⟩],_,_,_,rfl,?_,fun j hj=>?_,fun j hj=>?_,?_,?_⟩
    .rw[qi,qW];omega
    .rcases cL.mp hj with z|z
     .exact v.good j z
     .rw[bY.mp z];refine⟨n1.2.1,⟨q1,q2⟩,⟨q3,q4⟩,?_,?_,fun y hy=>hin y (pr.mem_iff.mp hy)⟩
      .show 1<=g'.length;rw[pr.length_eq];simp
      .show g'.length<=sn.length;rw[pr.length_eq];omega
    .rcases cL.mp hj with z|z
     .obtain⟨k,hk,e⟩:=v.nms j z;exact⟨k,rW hk,e⟩
     .rw[bY.mp z];exact⟨t,ot t,rfl⟩
    .rw[dZ];refine lq.mpr ⟨v.nd,by simp,fun y hy z hz e=>?_⟩;obtain⟨j,hj,rfl⟩:=bP.mp hy;obtain⟨k,hk,ek⟩:=v.nms j hj;have hz':z=nm (p+1) t:=by simpa using hz
     rw[ek,hz'] at e;exact bN (rh (by omega) (by omega) (by omega) e) (by omega)
    .rw[SM,htk];refine v.ms.append ?_;simpa using pr)
 rw[oz,qe] at h3;exact⟨ρ',h1,ea',du',js,a',g',o',h2,h3⟩
theorem Jo {m:ag} (h:fi ρ=aa ((bj m).map fun i:ag=>D.int (0+(i:af)))) (hm:m<=1000):nJ (bc fi (ay 0) tT (vC .non) [ac]) ρ=aa m:=by have hc:=jH (fi:=fi) (fe:=vC .non) (fv:=[ac]) (ρ:=ρ) (r:=[]) (a:=ac) (f:=fun _=>D.non) h (by rw[qe,qU];exact szN hm (by decide)) rfl (fun x hx=>rfl);unfold aD at hc;obtain⟨l,hl,e⟩:=oMd hc;unfold nJ;rw[hl];have e':=D.lst.inj e;simp[e']
theorem Bm {m:ag} (h:fn ρ=aa m):ax (kf i fn) g ρ=g (ρ.set i (aa (.oll (bQ m [])))):=by unfold ax kf;rw[h];rfl
theorem C3 (h1:ρ[i]?=aa (aa (.oll dss))):kH i g ρ=g (ρ.set i (oS (.lst (dss.map D.lst)))):=by unfold kH;rw[h1]
noncomputable def Bc:ab af:=[9,1000000,1000000,512]
noncomputable def j4F:FE:=aD (szF (ae (vC (.int 9)) (ae (b2 ce (vC (.int 10)) (vC (.int 6))) (ae (b2 ce (vC (.int 10)) (vC (.int 6))) (ae (vC (.int 512)) ak)))))
theorem Kr (ρ:aX):j4F ρ=aa (.lst (Bc.map D.int)):=by kernel_rfl
theorem Dc {ds:ab af} {a b c d:af} (hl:ds.length=4) (h0:ds[0]?=aa a) (h1:ds[1]?=aa b) (h2:ds[2]?=aa c) (h3:ds[3]?=aa d):ds=[a,b,c,d]:=by
 match ds,hl with
 |[x,y,z,w],_=>
  cases h0;cases h1;cases h2;cases h3;rfl
theorem o5 (h1:f ρ=aa d) (h2:gg d ρ=aa ρ'):ax (iH gg f) g ρ=g ρ':=by unfold ax iH;rw[h1,qa,h2];rfl
theorem PZ (ns:ab af) (p:ag) (ss:ab StepT) (h:af) (hp:p<60) (hh:1<=h/\h<=1000000) (hl:ss.length<=40) (hsn:∀x∈ss.map (·.nm),aY x=al) (nd:(ss.map (·.nm)).Nodup) :
  ∃js:ab JobT,sM [.scr ns,.int (p:af),.lst (ss.map bf),.int h]=aa (.lst (js.map bo))/\js.length<=9/\(∀j∈js,GoodJ (ss.map (·.nm)) h j)/\(js.map (·.nm)).Nodup/\(js.flatMap (·.ms)).Nodup/\(js.flatMap (·.ms)).length<=40:=by
 obtain⟨ds,e1,hd,hq⟩:=iE ns 1 (by omega) Bc (by decide) (by decide);obtain⟨d0,q0,p0,p0'⟩:=hq 0 9 rfl;obtain⟨d1,q1,p1,p1'⟩:=hq 1 1000000 rfl;obtain⟨d2,q2,p2,p2'⟩:=hq 2 1000000 rfl;obtain⟨d3,q3,p3,p3'⟩:=hq 3 512 rfl;obtain⟨m,rfl⟩:∃m:ag,d0=(m:af):=⟨d0.toNat,by omega⟩;have hds:ds=[(m:af),d1,d2,d3]:=Dc hd q0 q1 q2 q3;subst hds;obtain⟨ρ1,a1,gs,x9,x10,x11,b1,v⟩:=Jv (ns:=ns) (P:=oS (.int p)) (H:=oS (.int h)) (ss:=ss) (m:=m) (a:=oS (.int d1)) (b:=oS (.int d2)) (c:=oS (.int d3)) (d:=ac) (e:=ac) (f:=ac) (g:=ac) (h:=ac) (i:=ac) hl (by omega) nd;have hmem:∀x∈gs.flatten,x∈ss.map (·.nm):=fun x hx=>oB (v.sub x hx);obtain⟨ρ2,a2,ea,du,js,y9,y13,y14,b2',w⟩:=OC (S:=oS (.scr ns)) (T:=oS (.lst (ss.map bf))) (M:=oS (.int m)) (p:=p) (h:=h) (ea:=d1) (du:=d2) (od:=d3) (gs:=gs) (sn:=ss.map (·.nm)) (a:=x9) (b:=x10) (c:=x11) (g:=ac) (o:=ac) hh hp (by rw[v.len];omega) hsn hmem (by rw[qe];exact v.sz);have wl:=w.len;have wm:=w.ms;rw[ny] at wm;refine⟨js,?_,by rw[v.len] at wl;omega,w.good,w.nd,wm.nodup_iff.mpr v.nd,by rw[wm.length_eq];exact qM v.sz hl⟩;have hz:=ku (j:=(m:af)) (by omega);rw[l0] at hz;unfold sM;refine bH (ρ':=(hE (oS (.scr ns)) p (oS (.lst (ss.map bf))) h (oS (.int m)) ea du d3 gs y9 x10 x11 js y13 y14).set 12 (oS (.lst (js.map bo)))) [oS (.scr ns),oS (.int p),oS (.lst (ss.map bf)),oS (.int h),ac,ac,ac,ac,ac,ac,ac,ac,ac,ac,ac] rfl ?_;refine(o5 (ρ':=[oS (.scr ns),oS (.int p),oS (.lst (ss.map bf)),oS (.int h),oS (.int m),oS (.int d1),oS (.int d2),oS (.int d3),ac,ac,ac,ac,ac,ac,ac]) (aT (aB rfl (aB (d:=.int ((1:ag):af)) rfl (aB (Kr _) aL))) e1) rfl).trans ?_;refine(Bm (Jo (jQ (aB rfl aL) hz) (by omega))).trans ?_;have er:(bQ m ([]:ab ai)).map (fun l=>l.map D.str)=bQ m []:=by rw[List.map_replicate];rfl
 unfold gE at a1;rw[er] at a1;refine(cZ ((fy (xs:=(ss.map bf).mapIdx fun i d=>D.tup [.int i,d]) rfl).trans (a1.trans (by rw[b1])))).trans ?_;refine gV.trans ((C3 rfl).trans ?_);have em:(gs.map fun l=>l.map D.str).map D.lst=gs.map fun l=>D.lst (l.map D.str):=by rw[qo];rfl
 rw[em];exact(cZ ((fy (xs:=(gs.map fun l=>D.lst (l.map D.str)).mapIdx fun i d=>D.tup [.int i,d]) rfl).trans (a2.trans (by rw[b2'])))).trans ((iA rfl).trans (bR (f:=vSh 12) rfl))
theorem AX (t:ab ai):pdD (.tup (t.map D.str))=aa (.tuple (t.map gF)):=by simp[pdD,t7]
theorem C5:∀(ts:ab (ab ai)),eL (ts.map fun t=>.tup (t.map D.str))=aa (ts.map fun t=>.tuple (t.map gF))
 |[]=>by simp[eL]
 |t::r=>by simp[eL,AX,C5 r]
theorem zR:∀{ts:ab (ab ai)},(∀t∈ts,∀x∈t,aY x=al)->fP (ts.map fun t=>.tuple (t.map gF))=al
 |[],_=>by simp[fP]
 |t::r,h=>by simp only[qm,fP,iy,o6 (h t qf),zC];exact zR fun y hy=>h y (qg _ hy)
theorem Er:∀(a b:ab ai),me (a.map gF) (b.map gF)=decide (a=b)
 |[],[]=>by simp[me]
 |[],_::_=>by simp[me]
 |_::_,[]=>by simp[me]
 |x::r,y::t=>by
  simp only[qm,me,eX,Er r t];by_cases e:x=y
  .subst e;simp
  .simp[e]
theorem CB (t:ab ai):∀(ts:ab (ab ai)),((ts.map fun t=>RM (t.map gF)).any fun z=>eX z (.tuple (t.map gF)))=decide (t∈ts)
 |[]=>by simp
 |y::r=>by
  rw[qm,ni,CB t r];simp only[eX,Er];by_cases e:y=t
  .subst e;simp
  .have:t≠y:=fun z=>e z.symm;simp[e,this]
theorem BJ {t:ab ai} {ts:ab (ab ai)} (hx:∀x∈t,aY x=al) (hn:∀y∈ts,∀x∈y,aY x=al):i8 (.tup (t.map D.str)) (.lst (ts.map fun t=>.tup (t.map D.str)))=aa (.bl (!decide (t∈ts))):=by
 have sh:dH (.tuple (t.map gF))=al:=by simp[dH,iy,o6 hx,jB,ym]
 have p1:pdD (.lst (ts.map fun t=>.tup (t.map D.str)))=aa (.list (ts.map fun t=>.tuple (t.map gF))):=by simp[pdD,C5]
 unfold i8 inX;rw[AX,p1,qa,qa];simp only[sh,zR hn,vm,cy,CB,qd]
theorem Cz {d:ag} (h1:vSh 1 ρ=aa (.lst (ss.map bf))) (h2:vSh i ρ=aa (.int (d:af))) (hL:1<=ss.length):∃x,x∈ss.map (·.nm)/\b2 ixD (b2 ixD (vSh 1) (b2 bA (vSh i) (cF bT (ae (vSh 1) ak)))) (vC (.int 0)) ρ=aa (.str x):=by
 have hm:d%ss.length<ss.length:=iV _ (by omega);refine⟨ss[d%ss.length].nm,vn (zm hm),aC (x:=bf ss[d%ss.length]) (aC (y:=.int ((d%ss.length:ag):af)) h1 (aC (y:=.int ((ss.length:ag):af)) h2 (aT (aB h1 aL) ?_) ?_) ?_) rfl rfl⟩
 .show aa (D.int (((ss.map bf).length:ag):af))=_;rw[qe]
 .exact db (by omega)
 .rw[ixL,qj,qD hm];rfl
noncomputable def Da:ab af:=[40,40,3,1000000]
noncomputable def lkF:FE:=aD (szF (ae (vC (.int 40)) (ae (vC (.int 40)) (ae (vC (.int 3)) (ae (b2 ce (vC (.int 10)) (vC (.int 6))) ak)))))
theorem Jx (ρ:aX):lkF ρ=aa (.lst (Da.map D.int)):=by kernel_rfl
noncomputable def ltF:FE:=aD (szF (ae (vC (.int 1)) (ae (vC (.int 8)) (ae (b2 aF (b2 ce (vC (.int 10)) (vC (.int 6))) (vC (.int 1))) ak))))
theorem IA (ρ:aX):ltF ρ=aa (.lst (([1,8,1000001]:ab af).map D.int)):=by kernel_rfl
noncomputable def lp (l:LinkT):ab ai:=[l.a,l.b]
noncomputable def jI (t:ab ai):D:=.tup (t.map D.str)
structure LkInv (sn:ab ai) (h:af) (i:ag) (ls:ab LinkT):Prop where
 len:ls.length<=i
 good:∀l∈ls,GoodL sn h l
 nd:(ls.map lp).Nodup
abbrev lE (ns:ab af) (ss:ab StepT) (h:af) (ls:ab LinkT) (a b c d e:ao Slot):aX:=[oS (.scr ns),oS (.lst (ss.map bf)),oS (.int h),aa (.own (ls.map cu)),aa (.own ((ls.map lp).map jI)),a,b,c,d,e]
noncomputable def lkT:FT:=bwT 4 (eT (toB (b2 neA (vSh 6) (vSh 7))) (toB (b2 i8 (bK (szF (ae (vSh 6) (ae (vSh 7) ak)))) (vSh 4))))
noncomputable def lkG:FE:=bK (szF (ae (vSh 6) (ae (vSh 7) (ae (b2 bA (vSh 9) (cF eO (ae (b2 aF (vSh 2) (vC (.int 1))) (ae (b2 ixD ltF (vSh 8)) ak)))) ak))))
noncomputable def vw:FS:=ax (iH (ja 4 (aN (ay 6) (aN (ay 7) (aN (ay 8) (aN (ay 9) cr))))) (cF dz (ae (vSh 0) (ae (b2 aF (vC (.int 41)) (vSh 5)) (ae lkF ak))))) (ax (aH 6 (b2 ixD (b2 ixD (vSh 1) (b2 bA (vSh 6) (cF bT (ae (vSh 1) ak)))) (vC (.int 0)))) (ax (aH 7 (b2 ixD (b2 ixD (vSh 1) (b2 bA (vSh 7) (cF bT (ae (vSh 1) ak)))) (vC (.int 0)))) (sIf lkT (ax (b9 4 (bK (szF (ae (vSh 6) (ae (vSh 7) ak))))) (b9 3 lkG)) aU)))
theorem JI {k:ag} {b c d e:ao Slot} (hk:k<=20) (hi:i<=20) (hh:1<=h) (hL:1<=ss.length) (hsn:∀x∈ss.map (·.nm),aY x=al) (v:LkInv (ss.map (·.nm)) h i ls) :
  ∃ls' b' c' d' e',vw (lE ns ss h ls (oS (.int (0+(k:af)))) b c d e)=aa (.nx,lE ns ss h ls' (oS (.int (0+(k:af)))) b' c' d' e')/\LkInv (ss.map (·.nm)) h (i+1) ls':=by
 have hk0:(0:af)+(k:af)=(k:af):=by omega
 rw[hk0];obtain⟨ds,e1,hd,hq⟩:=iE ns (41+k) (by omega) Da (by decide) (by decide);obtain⟨d0,q0,p0,_⟩:=hq 0 40 rfl;obtain⟨d1,q1,p1,_⟩:=hq 1 40 rfl;obtain⟨d2,q2,p2,p2'⟩:=hq 2 3 rfl;obtain⟨d3,q3,p3,_⟩:=hq 3 1000000 rfl;obtain⟨m0,rfl⟩:∃m:ag,d0=(m:af):=⟨d0.toNat,by omega⟩;obtain⟨m1,rfl⟩:∃m:ag,d1=(m:af):=⟨d1.toNat,by omega⟩;have hds:ds=[(m0:af),(m1:af),d2,d3]:=Dc hd q0 q1 q2 q3;subst hds;obtain⟨x,hx,ex⟩:=Cz (ss:=ss) (d:=m0) (i:=6) (ρ:=lE ns ss h ls (oS (.int (k:af))) (oS (.int (m0:af))) (oS (.int (m1:af))) (oS (.int d2)) (oS (.int d3))) rfl rfl hL;obtain⟨y,hy,ey⟩:=Cz (ss:=ss) (d:=m1) (i:=7) (ρ:=lE ns ss h ls (oS (.int (k:af))) (oS (.str x)) (oS (.int (m1:af))) (oS (.int d2)) (oS (.int d3))) rfl rfl hL;obtain⟨mx,hmx,mx1⟩:∃mx:af,ixD (.lst (([1,8,1000001]:ab af).map D.int)) (.int d2)=aa (.int mx)/\1<=mx:=by
  have:d2=0\/d2=1\/d2=2:=by omega
  rcases this with rfl|rfl|rfl
  .exact⟨1,rfl,by decide⟩
  .exact⟨8,rfl,by decide⟩
  .exact⟨1000001,rfl,by decide⟩
 obtain⟨mn,hmn,mn1,mn2⟩:∃mn:af,eO [.int (h+1),.int mx]=aa (.int mn)/\1<=mn/\mn<=h+1:=⟨if mx<h+1 then mx else h+1,rfl,by split<;>omega,by split<;>omega⟩;have g1:0<=d3%mn:=qX _ (by omega);have g2:d3%mn<mn:=qV _ (by omega);have hkn:∀z∈ls.map lp,∀w∈z,aY w=al:=fun z hz w hw=>by
  obtain⟨l,hl,rfl⟩:=bP.mp hz;have hw':w=l.a\/w=l.b:=by simpa[lp] using hw
  rcases hw' with rfl|rfl
  .exact hsn _ (v.good l hl).a
  .exact hsn _ (v.good l hl).b
 have hxy:∀w∈[x,y],aY w=al:=fun w hw=>by
  have hw':w=x\/w=y:=by simpa using hw
  rcases hw' with rfl|rfl
  .exact hsn _ hx
  .exact hsn _ hy
 have hte:lkT (lE ns ss h ls (oS (.int (k:af))) (oS (.str x)) (oS (.str y)) (oS (.int d2)) (oS (.int d3)))=aa ((!decide (x=y)) && !decide ([x,y]∈ls.map lp)):=by
  have t1:toB (b2 neA (vSh 6) (vSh 7)) [oS (.scr ns),oS (.lst (ss.map bf)),oS (.int h),aa (.own (ls.map cu)),oS (.lst ((ls.map lp).map jI)),oS (.int (k:af)),oS (.str x),oS (.str y),oS (.int d2),oS (.int d3)]=aa (!decide (x=y)):=bx (aC rfl rfl (zP x y));have t2:toB (b2 i8 (bK (szF (ae (vSh 6) (ae (vSh 7) ak)))) (vSh 4)) [oS (.scr ns),oS (.lst (ss.map bf)),oS (.int h),aa (.own (ls.map cu)),oS (.lst ((ls.map lp).map jI)),oS (.int (k:af)),oS (.str x),oS (.str y),oS (.int d2),oS (.int d3)]=aa (!decide ([x,y]∈ls.map lp)):=bx (aC (gW rfl rfl) rfl (BJ (t:=[x,y]) (ts:=ls.map lp) hxy hkn));have hbw:lkT (lE ns ss h ls (oS (.int (k:af))) (oS (.str x)) (oS (.str y)) (oS (.int d2)) (oS (.int d3)))=eT (toB (b2 neA (vSh 6) (vSh 7))) (toB (b2 i8 (bK (szF (ae (vSh 6) (ae (vSh 7) ak)))) (vSh 4))) [oS (.scr ns),oS (.lst (ss.map bf)),oS (.int h),aa (.own (ls.map cu)),oS (.lst ((ls.map lp).map jI)),oS (.int (k:af)),oS (.str x),oS (.str y),oS (.int d2),oS (.int d3)]:=rfl;rw[hbw];unfold eT;rw[t1,qa];cases hb:(!decide (x=y)) with
  |false=>rfl
  |true=>exact t2
 have hvl:=v.len;have pre:∀R,(sIf lkT (ax (b9 4 (bK (szF (ae (vSh 6) (ae (vSh 7) ak))))) (b9 3 lkG)) aU) (lE ns ss h ls (oS (.int (k:af))) (oS (.str x)) (oS (.str y)) (oS (.int d2)) (oS (.int d3)))=R->vw (lE ns ss h ls (oS (.int (k:af))) b c d e)=R:=fun R q=>by
  refine(o5 (ρ':=lE ns ss h ls (oS (.int (k:af))) (oS (.int (m0:af))) (oS (.int (m1:af))) (oS (.int d2)) (oS (.int d3))) (aT (aB rfl (aB (d:=.int ((41+k:ag):af)) (aC rfl rfl ?_) (aB (Jx _) aL))) e1) rfl).trans ((bz ex).trans ((bz ey).trans q));show aa (D.int (41+(k:af)))=_
  congr 2
 by_cases hc:x≠y/\[x,y]∉ls.map lp
 .have hb:((!decide (x=y)) && !decide ([x,y]∈ls.map lp))=al:=by simp[hc.1,hc.2]
  rw[hb] at hte;refine⟨ls++[⟨x,y,d3%mn⟩],oS (.str x),oS (.str y),oS (.int d2),oS (.int d3),pre _ ((g0 hte).trans ((qY rfl).trans ((cZ (fR (g:=jI) (xs:=ls.map lp) (x:=[x,y]) rfl (gW rfl rfl) (by rw[qe];omega))).trans ((fR (g:=cu) (xs:=ls) (x:=(⟨x,y,d3%mn⟩:LinkT)) rfl (n4 rfl rfl (aC rfl (aT (aB (aC (x:=.int h) (y:=.int 1) rfl rfl rfl) (aB (aC (IA _) rfl hmx) aL)) hmn) (db (by omega)))) (by omega)).trans ?_)))),by rw[qi,qW];omega,fun l hl=>?_,?_⟩
  .show _=aa (Fl.nx,[_,_,_,_,aa (Slot.own (((ls++[(⟨x,y,d3%mn⟩:LinkT)]).map lp).map jI)),_,_,_,_,_]);rw[dZ (f:=lp)];rfl
  .rcases cL.mp hl with z|z
   .exact v.good l z
   .rw[bY.mp z];exact⟨hx,hy,hc.1,g1,by show d3%mn<=h;omega⟩
  .rw[dZ];refine lq.mpr ⟨v.nd,by simp,fun z hz w hw ez=>?_⟩;have hw':w=[x,y]:=by simpa[lp] using hw
   exact hc.2 (by rw[←hw',←ez];exact hz)
 .have hb:((!decide (x=y)) && !decide ([x,y]∈ls.map lp))=aq:=by
   by_cases h1:x=y
   .simp[h1]
   .have h2:[x,y]∈ls.map lp:=by
     by_cases h3:[x,y]∈ls.map lp
     .exact h3
     .exact bN ⟨h1,h3⟩ hc
    rw[qS h2];simp
  rw[hb] at hte;exact⟨ls,_,_,_,_,pre _ ((g0 hte).trans rfl),vq v.len,v.good,v.nd⟩
noncomputable def lmF:FE:=aD (szF (ae (vC (.int 21)) (ae (vC (.int 21)) ak)))
theorem P0 (ρ:aX):lmF ρ=aa (.lst (([21,21]:ab af).map D.int)):=by kernel_rfl
theorem JB (ns:ab af) (ss:ab StepT) (h:af) (hh:1<=h) (hL:1<=ss.length) (hsn:∀x∈ss.map (·.nm),aY x=al) :
  ∃ls:ab LinkT,tV [.scr ns,.lst (ss.map bf),.int h]=aa (.lst (ls.map cu))/\ls.length<=20/\(∀l∈ls,GoodL (ss.map (·.nm)) h l)/\(ls.map fun l=>[l.a,l.b]).Nodup:=by
 obtain⟨ds,e1,hd,hq⟩:=iE ns 2 (by omega) [21,21] (by decide) (by decide);obtain⟨d1,q1,p1,p1'⟩:=hq 1 21 rfl;obtain⟨m,rfl⟩:∃m:ag,d1=(m:af):=⟨d1.toNat,by omega⟩;obtain⟨ρ',h1,ls,a,b,c,d,e,h2,v⟩:=fg (gg:=ay 5) (body:=vw) (xs:=(bj m).map fun i:ag=>D.int (0+(i:af))) (ρ:=lE ns ss h [] ac ac ac ac ac)
  (fun i ρ=>∃ls a b c d e,ρ=lE ns ss h ls a b c d e/\LkInv (ss.map (·.nm)) h i ls) ⟨[],ac,ac,ac,ac,ac,rfl,qv _,fun l hl=>(by cases hl),lm⟩ (fun i x ρ hx hI=>by
   obtain⟨ls,a,b,c,d,e,rfl,v⟩:=hI;rw[qj] at hx;obtain⟨j,hj,rfl⟩:=oMd hx;have hi:i<m:=by simpa using(cR.mp hj).1
   have hji:i=j:=by rw[kq hi] at hj;exact qH hj
   subst hji;obtain⟨ls',b',c',d',e',t1,t2⟩:=JI (ns:=ns) (ss:=ss) (h:=h) (ls:=ls) (k:=i) (i:=i) (b:=b) (c:=c) (d:=d) (e:=e) (by omega) (by omega) hh hL hsn v;exact⟨_,_,rfl,t1,ls',_,_,_,_,_,rfl,t2⟩)
 rw[qe,qU] at v;have vl:=v.len;refine⟨ls,?_,by omega,v.good,v.nd⟩;have hz:=ku (j:=(m:af)) (by omega);rw[l0] at hz;unfold tV;exact bH (ρ':=(lE ns ss h ls a b c d e).set 3 (oS (.lst (ls.map cu)))) [oS (.scr ns),oS (.lst (ss.map bf)),oS (.int h),ac,ac,ac,ac,ac,ac,ac] rfl (gV.trans (gV.trans ((cZ ((fy (jQ (aB (kW (n:=1) (aT (aB rfl (aB (d:=.int ((2:ag):af)) rfl (aB (P0 _) aL))) e1) q1) aL) hz)).trans (h1.trans (by rw[h2])))).trans ((iA rfl).trans (bR (f:=vSh 3) rfl)))))
theorem M8 {bs:ab BenchT} {d:ag} (h1:vSh 1 ρ=aa (.lst (bs.map bU))) (h2:vSh i ρ=aa (.int (d:af))) (hL:1<=bs.length):∃x,x∈bs.map (·.nm)/\b2 ixD (b2 ixD (vSh 1) (b2 bA (vSh i) (cF bT (ae (vSh 1) ak)))) (vC (.int 0)) ρ=aa (.str x):=by
 have hm:d%bs.length<bs.length:=iV _ (by omega);refine⟨bs[d%bs.length].nm,vn (zm hm),aC (x:=bU bs[d%bs.length]) (aC (y:=.int ((d%bs.length:ag):af)) h1 (aC (y:=.int ((bs.length:ag):af)) h2 (aT (aB h1 aL) ?_) ?_) ?_) rfl rfl⟩
 .show aa (D.int (((bs.map bU).length:ag):af))=_;rw[qe]
 .exact db (by omega)
 .rw[ixL,qj,qD hm];rfl
noncomputable def up (u:SetT):ab ai:=[u.b,u.p,u.q]
structure SuInv (bn:ab ai) (h:af) (i:ag) (us:ab SetT):Prop where
 len:us.length<=i
 good:∀u∈us,GoodU bn h u
 nd:(us.map up).Nodup
noncomputable def Dx:ab af:=[8,6,6,2,1000000]
noncomputable def suF:FE:=aD (szF (ae (vC (.int 8)) (ae (vC (.int 6)) (ae (vC (.int 6)) (ae (vC (.int 2)) (ae (b2 ce (vC (.int 10)) (vC (.int 6))) ak))))))
theorem He (ρ:aX):suF ρ=aa (.lst (Dx.map D.int)):=by kernel_rfl
noncomputable def svF:FE:=aD (szF (ae (vC (.int 6)) (ae (b2 ce (vC (.int 10)) (vC (.int 6))) ak)))
theorem JT (ρ:aX):svF ρ=aa (.lst (([6,1000000]:ab af).map D.int)):=by kernel_rfl
theorem JY {ds:ab af} {a b c d e:af} (hl:ds.length=5) (h0:ds[0]?=aa a) (h1:ds[1]?=aa b) (h2:ds[2]?=aa c) (h3:ds[3]?=aa d) (h4:ds[4]?=aa e):ds=[a,b,c,d,e]:=by
 match ds,hl with
 |[x,y,z,w,v],_=>
  cases h0;cases h1;cases h2;cases h3;cases h4;rfl
theorem Gh {x y:D} {w:D} :kF (.tup [x,y,z]) (.tup [w])=aa (.tup [x,y,z,w]):=by show(if [x,y,z]≠[]/\[w]≠[]/\[x,y,z].length+[w].length<=aM then aa (D.tup ([x,y,z]++[w])) else ac)=_;rw[qY ⟨by simp,by simp,by simp[aM]⟩];rfl
abbrev suE (ns:ab af) (bs:ab BenchT) (p:ag) (h:af) (us:ab SetT) (k a b c d e f:ao Slot):aX:=[oS (.scr ns),oS (.lst (bs.map bU)),oS (.int p),oS (.int h),aa (.own (us.map cc)),aa (.own ((us.map up).map jI)),k,a,b,c,d,e,f]
noncomputable def suT:FT:=bwT 5 (toB (b2 i8 (vSh 12) (vSh 5)))
noncomputable def suG:FE:=b2 kF (vSh 12) (bK (szF (ae (b2 aF (vC (.int 1)) (b2 bA (vSh 11) (cF eO (ae (vSh 3) (ae (b2 ixD svF (vSh 10)) ak))))) ak)))
noncomputable def xV:FS:=ax (iH (ja 5 (aN (ay 7) (aN (ay 8) (aN (ay 9) (aN (ay 10) (aN (ay 11) cr)))))) (cF dz (ae (vSh 0) (ae (b2 aF (vC (.int 30)) (vSh 6)) (ae suF ak))))) (ax (aH 7 (b2 ixD (b2 ixD (vSh 1) (b2 bA (vSh 7) (cF bT (ae (vSh 1) ak)))) (vC (.int 0)))) (ax (aH 12 (bK (szF (ae (vSh 7) (ae (cF eI (ae (b2 eY (vSh 2) (vC (.int 2))) (ae (vSh 8) ak))) (ae (cF eI (ae (b2 eY (vSh 2) (vC (.int 2))) (ae (vSh 9) ak))) ak)))))) (sIf suT (ax (b9 5 (vSh 12)) (b9 4 suG)) aU)))
theorem PL {x:D} (h:f ρ=aa x):bK (szF (ae f ak)) ρ=aa (.tup [x]):=by simp only[bK,szF,ae,ak,h,qa,qd,qh,qk,jA,sz1,cy]
theorem P7 {bs:ab BenchT} {p:ag} {k:ag} {a b c d e f:ao Slot} (hp:p<60) (hk:k<=20) (hi:i<=20) (hh:1<=h) (hL:1<=bs.length) (hbn:∀x∈bs.map (·.nm),aY x=al) (v:SuInv (bs.map (·.nm)) h i us) :
  ∃us' a' b' c' d' e' f',xV (suE ns bs p h us (oS (.int (0+(k:af)))) a b c d e f)=aa (.nx,suE ns bs p h us' (oS (.int (0+(k:af)))) a' b' c' d' e' f')/\SuInv (bs.map (·.nm)) h (i+1) us':=by
 have hk0:(0:af)+(k:af)=(k:af):=by omega
 rw[hk0];obtain⟨ds,e1,hd,hq⟩:=iE ns (30+k) (by omega) Dx (by decide) (by decide);obtain⟨d0,q0,p0,_⟩:=hq 0 8 rfl;obtain⟨d1,q1,p1,p1'⟩:=hq 1 6 rfl;obtain⟨d2,q2,p2,p2'⟩:=hq 2 6 rfl;obtain⟨d3,q3,p3,p3'⟩:=hq 3 2 rfl;obtain⟨d4,q4,p4,_⟩:=hq 4 1000000 rfl;obtain⟨m0,rfl⟩:∃m:ag,d0=(m:af):=⟨d0.toNat,by omega⟩;obtain⟨m1,rfl⟩:∃m:ag,d1=(m:af):=⟨d1.toNat,by omega⟩;obtain⟨m2,rfl⟩:∃m:ag,d2=(m:af):=⟨d2.toNat,by omega⟩;have hds:ds=[(m0:af),(m1:af),(m2:af),d3,d4]:=JY hd q0 q1 q2 q3 q4;subst hds;obtain⟨x,hx,ex⟩:=M8 (bs:=bs) (d:=m0) (i:=7) (ρ:=suE ns bs p h us (oS (.int (k:af))) (oS (.int (m0:af))) (oS (.int (m1:af))) (oS (.int (m2:af))) (oS (.int d3)) (oS (.int d4)) f) rfl rfl hL;have n1:=jU (p:=p / 2) (k:=m1) (by omega) (by omega);have n2:=jU (p:=p / 2) (k:=m2) (by omega) (by omega);obtain⟨mx,hmx,mx1⟩:∃mx:af,ixD (.lst (([6,1000000]:ab af).map D.int)) (.int d3)=aa (.int mx)/\1<=mx:=by
  have:d3=0\/d3=1:=by omega
  rcases this with rfl|rfl
  .exact⟨6,rfl,by decide⟩
  .exact⟨1000000,rfl,by decide⟩
 obtain⟨mn,hmn,mn1,mn2⟩:∃mn:af,eO [.int h,.int mx]=aa (.int mn)/\1<=mn/\mn<=h:=⟨if mx<h then mx else h,rfl,by split<;>omega,by split<;>omega⟩;have g1:0<=d4%mn:=qX _ (by omega);have g2:d4%mn<mn:=qV _ (by omega);have hkn:∀z∈us.map up,∀w∈z,aY w=al:=fun z hz w hw=>by
  obtain⟨u,hu,rfl⟩:=bP.mp hz;have hw':w=u.b\/w=u.p\/w=u.q:=by simpa[up] using hw
  rcases hw' with rfl|rfl|rfl
  .exact hbn _ (v.good u hu).b
  .exact(v.good u hu).p
  .exact(v.good u hu).q
 have hxy:∀w∈[x,nm (p / 2) m1,nm (p / 2) m2],aY w=al:=fun w hw=>by
  have hw':w=x\/w=nm (p / 2) m1\/w=nm (p / 2) m2:=by simpa using hw
  rcases hw' with rfl|rfl|rfl
  .exact hbn _ hx
  .exact n1.2.1
  .exact n2.2.1
 have hte:suT (suE ns bs p h us (oS (.int (k:af))) (oS (.str x)) (oS (.int (m1:af))) (oS (.int (m2:af))) (oS (.int d3)) (oS (.int d4)) (oS (.tup [.str x,.str (nm (p / 2) m1),.str (nm (p / 2) m2)])))=aa (!decide ([x,nm (p / 2) m1,nm (p / 2) m2]∈us.map up)):=by have hbw:suT (suE ns bs p h us (oS (.int (k:af))) (oS (.str x)) (oS (.int (m1:af))) (oS (.int (m2:af))) (oS (.int d3)) (oS (.int d4)) (oS (.tup [.str x,.str (nm (p / 2) m1),.str (nm (p / 2) m2)])))=toB (b2 i8 (vSh 12) (vSh 5)) [oS (.scr ns),oS (.lst (bs.map bU)),oS (.int p),oS (.int h),aa (.own (us.map cc)),oS (.lst ((us.map up).map jI)),oS (.int (k:af)),oS (.str x),oS (.int (m1:af)),oS (.int (m2:af)),oS (.int d3),oS (.int d4),oS (.tup [.str x,.str (nm (p / 2) m1),.str (nm (p / 2) m2)])]:=rfl;rw[hbw];exact bx (aC rfl rfl (BJ (t:=[x,nm (p / 2) m1,nm (p / 2) m2]) (ts:=us.map up) hxy hkn))
 have hvl:=v.len;have pre:∀R,(sIf suT (ax (b9 5 (vSh 12)) (b9 4 suG)) aU) (suE ns bs p h us (oS (.int (k:af))) (oS (.str x)) (oS (.int (m1:af))) (oS (.int (m2:af))) (oS (.int d3)) (oS (.int d4)) (oS (.tup [.str x,.str (nm (p / 2) m1),.str (nm (p / 2) m2)])))=R->xV (suE ns bs p h us (oS (.int (k:af))) a b c d e f)=R:=fun R q=>by
  refine(o5 (ρ':=suE ns bs p h us (oS (.int (k:af))) (oS (.int (m0:af))) (oS (.int (m1:af))) (oS (.int (m2:af))) (oS (.int d3)) (oS (.int d4)) f) (aT (aB rfl (aB (d:=.int ((30+k:ag):af)) (aC rfl rfl ?_) (aB (He _) aL))) e1) rfl).trans ((bz ex).trans ((bz (n4 rfl (aT (aB (d:=.int ((p / 2:ag):af)) (aC (x:=.int (p:af)) (y:=.int 2) rfl rfl (nM (by decide))) (aB rfl aL)) n1.1) (aT (aB (d:=.int ((p / 2:ag):af)) (aC (x:=.int (p:af)) (y:=.int 2) rfl rfl (nM (by decide))) (aB rfl aL)) n2.1))).trans q));show aa (D.int (30+(k:af)))=_
  congr 2
 by_cases hc:[x,nm (p / 2) m1,nm (p / 2) m2]∈us.map up
 .rw[qS hc] at hte;exact⟨us,_,_,_,_,_,_,pre _ ((g0 hte).trans rfl),vq v.len,v.good,v.nd⟩
 .rw[qN hc] at hte;refine⟨us++[⟨x,nm (p / 2) m1,nm (p / 2) m2,1+d4%mn⟩],oS (.str x),oS (.int (m1:af)),oS (.int (m2:af)),oS (.int d3),oS (.int d4),oS (.tup [.str x,.str (nm (p / 2) m1),.str (nm (p / 2) m2)]),pre _ ((g0 hte).trans ((qY rfl).trans ((cZ (fR (g:=jI) (xs:=us.map up) (x:=[x,nm (p / 2) m1,nm (p / 2) m2]) rfl rfl (by rw[qe];omega))).trans ((fR (g:=cc) (xs:=us) (x:=(⟨x,nm (p / 2) m1,nm (p / 2) m2,1+d4%mn⟩:SetT)) rfl (aC rfl (PL (aC (x:=.int 1) rfl (aC (x:=.int d4) (y:=.int mn) rfl (aT (aB rfl (aB (aC (JT _) rfl hmx) aL)) hmn) (db (by omega))) rfl)) Gh) (by omega)).trans ?_)))),by rw[qi,qW];omega,fun u hu=>?_,?_⟩
  .show _=aa (Fl.nx,[_,_,_,_,_,aa (Slot.own (((us++[(⟨x,nm (p / 2) m1,nm (p / 2) m2,1+d4%mn⟩:SetT)]).map up).map jI)),_,_,_,_,_,_,_]);rw[dZ (f:=up)];rfl
  .rcases cL.mp hu with z|z
   .exact v.good u z
   .rw[bY.mp z];exact⟨hx,n1.2.1,n2.2.1,by show 1<=1+d4%mn;omega,by show 1+d4%mn<=h;omega⟩
  .rw[dZ];refine lq.mpr ⟨v.nd,by simp,fun z hz w hw ez=>?_⟩;have hw':w=[x,nm (p / 2) m1,nm (p / 2) m2]:=by simpa[up] using hw
   exact hc (by rw[←hw',←ez];exact hz)
noncomputable def smF:FE:=aD (szF (ae (vC (.int 21)) ak))
theorem Pf (ρ:aX):smF ρ=aa (.lst (([21]:ab af).map D.int)):=by kernel_rfl
theorem GT (ns:ab af) (bs:ab BenchT) (p:ag) (h:af) (hp:p<60) (hh:1<=h) (hL:1<=bs.length) (hbn:∀x∈bs.map (·.nm),aY x=al) :
  ∃us:ab SetT,tf [.scr ns,.lst (bs.map bU),.int (p:af),.int h]=aa (.lst (us.map cc))/\us.length<=20/\(∀u∈us,GoodU (bs.map (·.nm)) h u)/\(us.map fun u=>[u.b,u.p,u.q]).Nodup:=by
 obtain⟨ds,e1,hd,hq⟩:=iE ns 2 (by omega) [21] (by decide) (by decide);obtain⟨d1,q1,p1,p1'⟩:=hq 0 21 rfl;obtain⟨m,rfl⟩:∃m:ag,d1=(m:af):=⟨d1.toNat,by omega⟩;obtain⟨ρ',h1,us,k,a,b,c,d,e,f,h2,v⟩:=fg (gg:=ay 6) (body:=xV) (xs:=(bj m).map fun i:ag=>D.int (0+(i:af))) (ρ:=suE ns bs p h [] ac ac ac ac ac ac ac)
  (fun i ρ=>∃us k a b c d e f,ρ=suE ns bs p h us k a b c d e f/\SuInv (bs.map (·.nm)) h i us) ⟨[],ac,ac,ac,ac,ac,ac,ac,rfl,qv _,fun l hl=>(by cases hl),lm⟩ (fun i x ρ hx hI=>by
   obtain⟨us,k,a,b,c,d,e,f,rfl,v⟩:=hI;rw[qj] at hx;obtain⟨j,hj,rfl⟩:=oMd hx;have hi:i<m:=by simpa using(cR.mp hj).1
   have hji:i=j:=by rw[kq hi] at hj;exact qH hj
   subst hji;obtain⟨us',a',b',c',d',e',f',t1,t2⟩:=P7 (ns:=ns) (bs:=bs) (p:=p) (h:=h) (us:=us) (k:=i) (i:=i) (a:=a) (b:=b) (c:=c) (d:=d) (e:=e) (f:=f) hp (by omega) (by omega) hh hL hbn v;exact⟨_,_,rfl,t1,us',_,_,_,_,_,_,_,rfl,t2⟩)
 rw[qe,qU] at v;have vl:=v.len;refine⟨us,?_,by omega,v.good,v.nd⟩;have hz:=ku (j:=(m:af)) (by omega);rw[l0] at hz;unfold tf;exact bH (ρ':=(suE ns bs p h us k a b c d e f).set 4 (oS (.lst (us.map cc)))) [oS (.scr ns),oS (.lst (bs.map bU)),oS (.int p),oS (.int h),ac,ac,ac,ac,ac,ac,ac,ac,ac] rfl (gV.trans (gV.trans ((cZ ((fy (jQ (aB (kW (n:=0) (aT (aB rfl (aB (d:=.int ((2:ag):af)) rfl (aB (Pf _) aL))) e1) q1) aL) hz)).trans (h1.trans (by rw[h2])))).trans ((iA rfl).trans (bR (f:=vSh 4) rfl)))))
structure AmInv (sn:ab ai) (i:ag) (am:ab (ai×af)):Prop where
 len:am.length<=i
 ws:∀w∈am,w.1∈sn.take i/\1<=w.2/\w.2<=1000000
 nd:(am.map (·.1)).Nodup
theorem AmInv.next (v:AmInv sn i am):AmInv sn (i+1) am:=
 ⟨vq v.len,fun w hw=>⟨oB (i:=i) (by rw[SK,ko (by omega)];exact(v.ws w hw).1),(v.ws w hw).2⟩,v.nd⟩
theorem AmInv.put {n:af} (v:AmInv sn i am) (nd:sn.Nodup) (hx:sn[i]?=aa x) (hn:1<=n/\n<=1000000):AmInv sn (i+1) (am++[(x,n)]):=by
 have ht:sn.take (i+1)=sn.take i++[x]:=by rw[lj,hx];rfl
 have nd2:(sn.take (i+1)).Nodup:=nd.sublist (uQ _ _);rw[ht] at nd2;have hnx:x∉sn.take i:=fun z=>(lq.mp nd2).2.2 x z x (bY.mpr rfl) rfl;have vl:=v.len;refine⟨by rw[qi,qW];omega,fun w hw=>?_,?_⟩
 .rcases cL.mp hw with z|z
  .exact v.next.ws w z
  .rw[bY.mp z,ht];exact⟨qQ _ (bY.mpr rfl),hn⟩
 .rw[dZ];refine lq.mpr ⟨v.nd,by simp,fun y hy z hz e=>?_⟩;obtain⟨w,hw,rfl⟩:=bP.mp hy;have hz':z=x:=by simpa using hz
  rw[hz'] at e;exact hnx (e▸(v.ws w hw).1)
theorem AmInv.good (v:AmInv sn sn.length am):GoodA sn am:=
 ⟨v.len,fun w hw=>⟨oB (v.ws w hw).1,(v.ws w hw).2⟩,v.nd⟩
theorem GoodA.rev {sn:ab ai} {am:ab (ai×af)} (g:GoodA sn am):GoodA sn am.reverse:=
 ⟨by rw[Si];exact g.ln,fun w hw=>g.ws w (List.mem_reverse.mp hw),by rw[zJ];exact(F9 _).nodup_iff.mpr g.nd⟩
abbrev aoE (S P:ao Slot) (ss:ab StepT) (F K B:ao Slot) (sz rm fi tk pt raw:af) (a b:ab (ai×af)) (x y z r:ao Slot):aX:=[S,P,oS (.lst (ss.map bf)),F,K,B,oS (.int sz),oS (.int rm),oS (.int fi),oS (.int tk),oS (.int pt),oS (.int raw),aa (.oll [a.map dW,b.map dW]),x,y,z,r]
theorem CJ {i j:af} (h:0<=j):jd (.int i) (.int j)=aa (.int (i / 2 ^ j.toNat)):=by unfold jd;exact qY h
noncomputable def saF:FE:=aD (szF (ae (vC (.int 9)) (ae (b2 ce (vC (.int 10)) (vC (.int 6))) ak)))
theorem Md (ρ:aX):saF ρ=aa (.lst (([9,1000000]:ab af).map D.int)):=by kernel_rfl
noncomputable def amW:FE:=bK (szF (ae (b2 ixD (vSh 14) (vC (.int 0))) (ae (vSh 15) ak)))
noncomputable def amT (i:ag):FT:=toB (b2 eqD (b2 bA (b2 jd (vSh i) (vSh 13)) (vC (.int 2))) (vC (.int 1)))
noncomputable def vJ:FS:=ax (aH 15 (b2 aF (vC (.int 1)) (b2 bA (b2 aF (vSh 11) (b2 cv (vC (.int 7919)) (vSh 13))) (b2 ixD saF (vSh 6))))) (ax (sIf (amT 9) (gC 12 (vC (.int 0)) amW) aU) (sIf (amT 10) (gC 12 (vC (.int 1)) amW) aU))
section
variable {P F K B r:ao Slot} {sz rm fi tk pt raw n:af} {a b:ab (ai×af)} {t:ag} {s:StepT}
theorem am0 (hl:ss.length<=40) (nd:(ss.map (·.nm)).Nodup) (hs:ss[t]?=aa s) (hn:1<=n/\n<=1000000) (v:AmInv (ss.map (·.nm)) t a) :
  ∃a',sIf (amT 9) (gC 12 (vC (.int 0)) amW) aU (aoE S P ss F K B sz rm fi tk pt raw a b (oS (.int (t:af))) (oS (bf s)) (oS (.int n)) r)=aa (.nx,aoE S P ss F K B sz rm fi tk pt raw a' b (oS (.int (t:af))) (oS (bf s)) (oS (.int n)) r)/\AmInv (ss.map (·.nm)) (t+1) a':=by
 have ht:t<ss.length:=(cR.mp hs).1;have vl:=v.len;have hte:amT 9 (aoE S P ss F K B sz rm fi tk pt raw a b (oS (.int (t:af))) (oS (bf s)) (oS (.int n)) r)=aa (decide (tk / 2 ^ (t:af).toNat%2=1)):=bx (aC (aC (aC (x:=.int tk) (y:=.int (t:af)) rfl rfl (CJ (by omega))) rfl (db (by decide))) rfl rfl);by_cases hc:tk / 2 ^ (t:af).toNat%2=1
 .rw[qS hc] at hte;refine⟨a++[(s.nm,n)],(g0 hte).trans ((qY rfl).trans ((v8 (i:=12) (j:=0) (dss:=[a.map dW,b.map dW]) (ds:=a.map dW) (d:=dW (s.nm,n)) rfl rfl (gW rfl rfl) rfl (by rw[qe];unfold aM;omega)).trans ?_)),v.put nd (xR hs) hn⟩;have e9:a.map dW++[dW (s.nm,n)]=(a++[(s.nm,n)]).map dW:=by rw[dZ];rfl
  rw[e9];rfl
 .rw[qN hc] at hte;exact⟨a,(g0 hte).trans rfl,v.next⟩
theorem am1 (hl:ss.length<=40) (nd:(ss.map (·.nm)).Nodup) (hs:ss[t]?=aa s) (hn:1<=n/\n<=1000000) (v:AmInv (ss.map (·.nm)) t b) :
  ∃b',sIf (amT 10) (gC 12 (vC (.int 1)) amW) aU (aoE S P ss F K B sz rm fi tk pt raw a b (oS (.int (t:af))) (oS (bf s)) (oS (.int n)) r)=aa (.nx,aoE S P ss F K B sz rm fi tk pt raw a b' (oS (.int (t:af))) (oS (bf s)) (oS (.int n)) r)/\AmInv (ss.map (·.nm)) (t+1) b':=by
 have ht:t<ss.length:=(cR.mp hs).1;have vl:=v.len;have hte:amT 10 (aoE S P ss F K B sz rm fi tk pt raw a b (oS (.int (t:af))) (oS (bf s)) (oS (.int n)) r)=aa (decide (pt / 2 ^ (t:af).toNat%2=1)):=bx (aC (aC (aC (x:=.int pt) (y:=.int (t:af)) rfl rfl (CJ (by omega))) rfl (db (by decide))) rfl rfl);by_cases hc:pt / 2 ^ (t:af).toNat%2=1
 .rw[qS hc] at hte;refine⟨b++[(s.nm,n)],(g0 hte).trans ((qY rfl).trans ((v8 (i:=12) (j:=1) (dss:=[a.map dW,b.map dW]) (ds:=b.map dW) (d:=dW (s.nm,n)) rfl rfl (gW rfl rfl) rfl (by rw[qe];unfold aM;omega)).trans ?_)),v.put nd (xR hs) hn⟩;have e9:b.map dW++[dW (s.nm,n)]=(b++[(s.nm,n)]).map dW:=by rw[dZ];rfl
  rw[e9];rfl
 .rw[qN hc] at hte;exact⟨b,(g0 hte).trans rfl,v.next⟩
theorem II {x y z:ao Slot} (hl:ss.length<=40) (nd:(ss.map (·.nm)).Nodup) (hsz:sz=0\/sz=1) :
  ∃ρ',dD (cD 2 (aN (ay 13) (aN (ay 14) cr))) vJ ((ss.map bf).mapIdx fun i d=>D.tup [.int i,d]) (aoE S P ss F K B sz rm fi tk pt raw [] [] x y z r)=aa (.nx,ρ')/\∃a b x y z,ρ'=aoE S P ss F K B sz rm fi tk pt raw a b x y z r/\AmInv (ss.map (·.nm)) ss.length a/\AmInv (ss.map (·.nm)) ss.length b:=by
 obtain⟨mx,hmx,mx1,mx2⟩:∃mx:af,ixD (.lst (([9,1000000]:ab af).map D.int)) (.int sz)=aa (.int mx)/\1<=mx/\mx<=1000000:=by
  rcases hsz with rfl|rfl
  .exact⟨9,rfl,by decide,by decide⟩
  .exact⟨1000000,rfl,by decide,by decide⟩
 obtain⟨ρ',h1,a',b',x',y',z',h2,h3,h4⟩:=fg (gg:=cD 2 (aN (ay 13) (aN (ay 14) cr))) (body:=vJ) (xs:=(ss.map bf).mapIdx fun i d=>D.tup [.int i,d]) (ρ:=aoE S P ss F K B sz rm fi tk pt raw [] [] x y z r)
  (fun t ρ=>∃a b x y z,ρ=aoE S P ss F K B sz rm fi tk pt raw a b x y z r/\AmInv (ss.map (·.nm)) t a/\AmInv (ss.map (·.nm)) t b) ⟨[],[],x,y,z,rfl,⟨qv _,fun w hw=>(by cases hw),lm⟩,⟨qv _,fun w hw=>(by cases hw),lm⟩⟩ (fun t x ρ hx hI=>by
   obtain⟨a,b,x,y,z,rfl,v,u⟩:=hI;obtain⟨y,hy,rfl⟩:=sq hx;rw[qj] at hy;obtain⟨s,hs,rfl⟩:=oMd hy;have g1:0<=(raw+7919*(t:af))%mx:=qX _ (by omega);have g2:(raw+7919*(t:af))%mx<mx:=qV _ (by omega);have hn:1<=1+(raw+7919*(t:af))%mx/\1+(raw+7919*(t:af))%mx<=1000000:=by omega
   obtain⟨a',f1,v'⟩:=am0 (S:=S) (P:=P) (F:=F) (K:=K) (B:=B) (r:=r) (ss:=ss) (sz:=sz) (rm:=rm) (fi:=fi) (tk:=tk) (pt:=pt) (raw:=raw) (a:=a) (b:=b) (t:=t) (s:=s) (n:=1+(raw+7919*(t:af))%mx) hl nd hs hn v;obtain⟨b',f2,u'⟩:=am1 (S:=S) (P:=P) (F:=F) (K:=K) (B:=B) (r:=r) (ss:=ss) (sz:=sz) (rm:=rm) (fi:=fi) (tk:=tk) (pt:=pt) (raw:=raw) (a:=a') (b:=b) (t:=t) (s:=s) (n:=1+(raw+7919*(t:af))%mx) hl nd hs hn u;exact⟨_,_,rfl,(bz (aC (x:=.int 1) rfl (aC (x:=.int (raw+7919*(t:af))) (y:=.int mx) (aC (x:=.int raw) (y:=.int (7919*(t:af))) rfl (aC (x:=.int 7919) (y:=.int (t:af)) rfl rfl (gM (.inl (by decide)))) rfl) (aC (Md _) rfl hmx) (db (by omega))) rfl)).trans ((cZ f1).trans f2),a',b',_,_,_,rfl,v',u'⟩)
 rw[oz,qe] at h3 h4;exact⟨ρ',h1,a',b',x',y',z',h2,h3,h4⟩
end
noncomputable def pd:ab af:=[2,1000001,1000001,1099511627776,1099511627776,1000000]
noncomputable def skF:FE:=aD (szF (ae (vC (.int 2)) (ae (b2 aF (b2 ce (vC (.int 10)) (vC (.int 6))) (vC (.int 1))) (ae (b2 aF (b2 ce (vC (.int 10)) (vC (.int 6))) (vC (.int 1))) (ae (b2 ce (vC (.int 2)) (vC (.int 40))) (ae (b2 ce (vC (.int 2)) (vC (.int 40))) (ae (b2 ce (vC (.int 10)) (vC (.int 6))) ak)))))))
theorem Jj (ρ:aX):skF ρ=aa (.lst (pd.map D.int)):=by kernel_rfl
noncomputable def srF:FE:=aD (szF (ae (vC (.int 20)) (ae (b2 aF (b2 ce (vC (.int 10)) (vC (.int 6))) (vC (.int 1))) ak)))
theorem Lb (ρ:aX):srF ρ=aa (.lst (([20,1000001]:ab af).map D.int)):=by kernel_rfl
noncomputable def skm:FE:=aD (szF (ae (vC (.int 21)) (ae (vC (.int 21)) (ae (vC (.int 7)) ak))))
theorem Of (ρ:aX):skm ρ=aa (.lst (([21,21,7]:ab af).map D.int)):=by kernel_rfl
theorem DZ {ds:ab af} {a b c d e f:af} (hl:ds.length=6) (h0:ds[0]?=aa a) (h1:ds[1]?=aa b) (h2:ds[2]?=aa c) (h3:ds[3]?=aa d) (h4:ds[4]?=aa e) (h5:ds[5]?=aa f):ds=[a,b,c,d,e,f]:=by
 match ds,hl with
 |[x,y,z,w,v,u],_=>
  cases h0;cases h1;cases h2;cases h3;cases h4;cases h5;rfl
theorem PH {x y u w:D} :kF (.tup [x,y,z]) (.tup [u,w])=aa (.tup [x,y,z,u,w]):=by show(if [x,y,z]≠[]/\[u,w]≠[]/\[x,y,z].length+[u,w].length<=aM then aa (D.tup ([x,y,z]++[u,w])) else ac)=_;rw[qY ⟨by simp,by simp,by simp[aM]⟩];rfl
theorem px {g:D->ao D} {x:D} (h1:f ρ=aa x) (h2:g x=aa z):b1 g f ρ=aa z:=by unfold b1;rw[h1,qa];exact h2
structure SkInv (sn:ab ai) (p i:ag) (ks:ab StockT):Prop where
 len:ks.length<=i
 good:∀k∈ks,GoodK sn k
 nms:∀k∈ks,∃j,j<i/\k.nm=nm (p+2) j
 nd:(ks.map (·.nm)).Nodup
abbrev skE (ns:ab af) (p:ag) (ss:ab StepT) (ks:ab StockT) (k a b c d e f g h x y z w:ao Slot):aX:=[oS (.scr ns),oS (.int p),oS (.lst (ss.map bf)),aa (.own (ks.map cC)),k,a,b,c,d,e,f,g,h,x,y,z,w]
noncomputable def OM (F:FQ):FE:=bK (szF (ae (cF F (ae (b2 aF (vSh 1) (vC (.int 2))) (ae (vSh 4) ak))) (ae (b2 bA (vSh 8) (b2 aF (vSh 7) (vC (.int 1)))) (ae (vSh 7) ak))))
noncomputable def Ke:FE:=b2 kF (vSh 16) (bK (szF (ae (b2 ixD (vSh 12) (vC (.int 0))) (ae (b1 i6 (b2 ixD (vSh 12) (vC (.int 1)))) ak))))
noncomputable def z9:FS:=ax (aH 5 skF) (ax (iH (ja 6 (aN (ay 6) (aN (ay 7) (aN (ay 8) (aN (ay 9) (aN (ay 10) (aN (ay 11) cr))))))) (cF dz (ae (vSh 0) (ae (b2 aF (vC (.int 52)) (vSh 4)) (ae (vSh 5) ak))))) (ax (aH 7 (b2 bA (vSh 7) (b2 ixD srF (vSh 6)))) (ax (kf 12 fun _=>aa 2) (ax (ck (itE (vSh 2)) (cD 2 (aN (ay 13) (aN (ay 14) cr))) vJ) (ax (aH 16 (OM eI)) (kH 12 (b9 3 Ke)))))))
theorem Lx {p:ag} {k:ag} {a b c d e f g h x y z w:ao Slot} (hp:p<60) (hk:k<=6) (hl:ss.length<=40) (nd:(ss.map (·.nm)).Nodup) (v:SkInv (ss.map (·.nm)) p k ks) :
  ∃ks' a' b' c' d' e' f' g' h' x' y' z' w',z9 (skE ns p ss ks (oS (.int (0+(k:af)))) a b c d e f g h x y z w)=aa (.nx,skE ns p ss ks' (oS (.int (0+(k:af)))) a' b' c' d' e' f' g' h' x' y' z' w')/\SkInv (ss.map (·.nm)) p (k+1) ks':=by
 have hk0:(0:af)+(k:af)=(k:af):=by omega
 rw[hk0];obtain⟨ds,e1,hd,hq⟩:=iE ns (52+k) (by omega) pd (by decide +kernel) (by decide);obtain⟨d0,q0,p0,p0'⟩:=hq 0 2 rfl;obtain⟨d1,q1,p1,p1'⟩:=hq 1 1000001 rfl;obtain⟨d2,q2,p2,p2'⟩:=hq 2 1000001 rfl;obtain⟨d3,q3,p3,p3'⟩:=hq 3 1099511627776 rfl;obtain⟨d4,q4,p4,p4'⟩:=hq 4 1099511627776 rfl;obtain⟨d5,q5,p5,p5'⟩:=hq 5 1000000 rfl;have hds:ds=[d0,d1,d2,d3,d4,d5]:=DZ hd q0 q1 q2 q3 q4 q5;subst hds;have h01:d0=0\/d0=1:=by omega
 obtain⟨mx,hmx,mx1,mx2⟩:∃mx:af,ixD (.lst (([20,1000001]:ab af).map D.int)) (.int d0)=aa (.int mx)/\1<=mx/\mx<=1000001:=by
  rcases h01 with rfl|rfl
  .exact⟨20,rfl,by decide,by decide⟩
  .exact⟨1000001,rfl,by decide,by decide⟩
 have g1:0<=d1%mx:=qX _ (by omega);have g2:d1%mx<mx:=qV _ (by omega);have g3:0<=d2%(d1%mx+1):=qX _ (by omega);have g4:d2%(d1%mx+1)<d1%mx+1:=qV _ (by omega);have n1:=jU (p:=p+2) (k:=k) (by omega) (by omega);have e2:eI [.int ((p:af)+2),.int (k:af)]=aa (.str (nm (p+2) k)):=by rw[←n1.1];congr 2
 obtain⟨ρ1,l1,ta,pa,x1,y1,z1,l2,l3,l4⟩:=II (S:=oS (.scr ns)) (P:=oS (.int p)) (F:=aa (.own (ks.map cC))) (K:=oS (.int (k:af))) (B:=oS (.lst (pd.map D.int))) (r:=w) (ss:=ss) (sz:=d0) (rm:=d1%mx) (fi:=d2) (tk:=d3) (pt:=d4) (raw:=d5) (x:=x) (y:=y) (z:=z) hl nd h01;have xh:(ss.map (·.nm)).length=ss.length:=qe _;rw[←xh] at l3 l4;have hvl:=v.len;refine⟨ks++[⟨nm (p+2) k,d2%(d1%mx+1),d1%mx,ta,pa.reverse⟩],oS (.lst (pd.map D.int)),oS (.int d0),oS (.int (d1%mx)),oS (.int d2),oS (.int d3),oS (.int d4),oS (.int d5),oS (.lst [.lst (ta.map dW),.lst (pa.map dW)]),x1,y1,z1,oS (.tup [.str (nm (p+2) k),.int (d2%(d1%mx+1)),.int (d1%mx)]),?_,by rw[qi,qW];omega,fun u hu=>?_,fun u hu=>?_,?_⟩
 .refine(bz (Jj _)).trans ?_;refine(o5 (ρ':=skE ns p ss ks (oS (.int (k:af))) (oS (.lst (pd.map D.int))) (oS (.int d0)) (oS (.int d1)) (oS (.int d2)) (oS (.int d3)) (oS (.int d4)) (oS (.int d5)) h x y z w) (aT (aB rfl (aB (d:=.int ((52+k:ag):af)) (aC rfl rfl ?_) (aB rfl aL))) e1) rfl).trans ?_
  .show aa (D.int (52+(k:af)))=_
   congr 2
  refine(bz (d:=.int (d1%mx)) (aC (x:=.int d1) (y:=.int mx) rfl (aC (Lb _) rfl hmx) (db (by omega)))).trans ?_;refine(Bm (m:=2) rfl).trans ?_;refine(cZ ((fy (xs:=(ss.map bf).mapIdx fun i d=>D.tup [.int i,d]) rfl).trans (l1.trans (by rw[l2])))).trans ?_;refine(bz (n4 (aT (aB (aC (x:=.int (p:af)) (y:=.int 2) rfl rfl rfl) (aB rfl aL)) e2) (aC (x:=.int d2) (y:=.int (d1%mx+1)) rfl (aC (x:=.int (d1%mx)) (y:=.int 1) rfl rfl rfl) (db (by omega))) rfl)).trans ?_;refine(C3 (dss:=[ta.map dW,pa.map dW]) rfl).trans ?_;exact fR (g:=cC) (xs:=ks) (x:=(⟨nm (p+2) k,d2%(d1%mx+1),d1%mx,ta,pa.reverse⟩:StockT)) rfl (aC (y:=.tup [.lst (ta.map dW),.lst (pa.reverse.map dW)]) rfl (gW rfl (px (x:=.lst (pa.map dW)) rfl (by rw[zJ];rfl))) PH) (by omega)
 .rcases cL.mp hu with z|z
  .exact v.good u z
  .rw[bY.mp z];exact⟨n1.2.1,⟨g3,by show d2%(d1%mx+1)<=d1%mx;omega⟩,⟨g1,by show d1%mx<=1000000;omega⟩,l3.good,l4.good.rev⟩
 .rcases cL.mp hu with z|z
  .obtain⟨j,hj,e⟩:=v.nms u z;exact⟨j,rW hj,e⟩
  .rw[bY.mp z];exact⟨k,ot k,rfl⟩
 .rw[dZ];refine lq.mpr ⟨v.nd,by simp,fun y hy z hz e=>?_⟩;obtain⟨u,hu,rfl⟩:=bP.mp hy;obtain⟨j,hj,ej⟩:=v.nms u hu;have hz':z=nm (p+2) k:=by simpa using hz
  rw[ej,hz'] at e;exact bN (rh (by omega) (by omega) (by omega) e) (by omega)
theorem LR (ns:ab af) (p:ag) (ss:ab StepT) (hp:p<60) (hl:ss.length<=40) (nd:(ss.map (·.nm)).Nodup) :
  ∃ks:ab StockT,ub [.scr ns,.int (p:af),.lst (ss.map bf)]=aa (.lst (ks.map cC))/\ks.length<=6/\(∀k∈ks,GoodK (ss.map (·.nm)) k)/\(ks.map (·.nm)).Nodup:=by
 obtain⟨ds,e1,hd,hq⟩:=iE ns 2 (by omega) [21,21,7] (by decide) (by decide);obtain⟨d1,q1,p1,p1'⟩:=hq 2 7 rfl;obtain⟨m,rfl⟩:∃m:ag,d1=(m:af):=⟨d1.toNat,by omega⟩;obtain⟨ρ',h1,ks,k,a,b,c,d,e,f,g,h,x,y,z,w,h2,v⟩:=fg (gg:=ay 4) (body:=z9) (xs:=(bj m).map fun i:ag=>D.int (0+(i:af))) (ρ:=skE ns p ss [] ac ac ac ac ac ac ac ac ac ac ac ac ac)
  (fun i ρ=>∃ks k a b c d e f g h x y z w,ρ=skE ns p ss ks k a b c d e f g h x y z w/\SkInv (ss.map (·.nm)) p i ks) ⟨[],ac,ac,ac,ac,ac,ac,ac,ac,ac,ac,ac,ac,ac,rfl,qv _,fun l hl=>(by cases hl),fun l hl=>(by cases hl),lm⟩ (fun i x ρ hx hI=>by
   obtain⟨ks,k,a,b,c,d,e,f,g,h,x,y,z,w,rfl,v⟩:=hI;rw[qj] at hx;obtain⟨j,hj,rfl⟩:=oMd hx;have hi:i<m:=by simpa using(cR.mp hj).1
   have hji:i=j:=by rw[kq hi] at hj;exact qH hj
   subst hji;obtain⟨ks',a',b',c',d',e',f',g',h',x',y',z',w',t1,t2⟩:=Lx (ns:=ns) (p:=p) (ss:=ss) (ks:=ks) (k:=i) (a:=a) (b:=b) (c:=c) (d:=d) (e:=e) (f:=f) (g:=g) (h:=h) (x:=x) (y:=y) (z:=z) (w:=w) hp (by omega) hl nd v;exact⟨_,_,rfl,t1,ks',_,_,_,_,_,_,_,_,_,_,_,_,_,rfl,t2⟩)
 rw[qe,qU] at v;have vl:=v.len;refine⟨ks,?_,by omega,v.good,v.nd⟩;have hz:=ku (j:=(m:af)) (by omega);rw[l0] at hz;unfold ub;exact bH (ρ':=(skE ns p ss ks k a b c d e f g h x y z w).set 3 (oS (.lst (ks.map cC)))) [oS (.scr ns),oS (.int p),oS (.lst (ss.map bf)),ac,ac,ac,ac,ac,ac,ac,ac,ac,ac,ac,ac,ac,ac] rfl (gV.trans ((cZ ((fy (jQ (aB (kW (n:=2) (aT (aB rfl (aB (d:=.int ((2:ag):af)) rfl (aB (Of _) aL))) e1) q1) aL) hz)).trans (h1.trans (by rw[h2])))).trans ((iA rfl).trans (bR (f:=vSh 3) rfl))))
noncomputable def cw (bs:ab BenchT) (ss:ab StepT) (js:ab JobT) (us:ab SetT) (ls:ab LinkT) (ks:ab StockT) (h:af):ab D:=[.lst (bs.map bU),.lst (ss.map bf),.lst (js.map bo),.lst (us.map cc),.lst (ls.map cu),.lst (ks.map cC),.int h]
noncomputable def Ea:ab af:=[60,8,3,40,3,1000000]
noncomputable def shF:FE:=aD (szF (ae (vC (.int 60)) (ae (vC (.int 8)) (ae (vC (.int 3)) (ae (vC (.int 40)) (ae (vC (.int 3)) (ae (b2 ce (vC (.int 10)) (vC (.int 6))) ak)))))))
theorem HY (ρ:aX):shF ρ=aa (.lst (Ea.map D.int)):=by kernel_rfl
noncomputable def hzF:FE:=aD (szF (ae (vC (.int 12)) (ae (vC (.int 400)) (ae (b2 ce (vC (.int 10)) (vC (.int 6))) ak))))
theorem LX (ρ:aX):hzF ρ=aa (.lst (([12,400,1000000]:ab af).map D.int)):=by kernel_rfl
noncomputable def cnF:FE:=aD (szF (ae (vC (.int 3)) (ae (vC (.int 8)) (ae (vC (.int 40)) ak))))
theorem Ic (ρ:aX):cnF ρ=aa (.lst (([3,8,40]:ab af).map D.int)):=by kernel_rfl
theorem Pj {x5 x6 x7:D} (h1:f1 ρ=aa x1) (h2:f2 ρ=aa x2) (h3:f3 ρ=aa x3) (h4:f4 ρ=aa x4) (h5:f5 ρ=aa x5) (h6:f6 ρ=aa x6) (h7:f7 ρ=aa x7):aD (szF (ae f1 (ae f2 (ae f3 (ae f4 (ae f5 (ae f6 (ae f7 ak)))))))) ρ=aa (.lst [x1,x2,x3,x4,x5,x6,x7]):=by simp only[aD,szF,ae,ak,h1,h2,h3,h4,h5,h6,h7,qa,qd,qh,qk,jA,sz7,cy]
theorem Nw (ns:ab af):∃bs ss js us ls ks h,uD [.scr ns]=aa (.lst (cw bs ss js us ls ks h))/\Good bs ss js us ls ks h/\(js.flatMap (·.ms)).length<=300/\js.length<=9/\us.length<=20/\ls.length<=20:=by
 obtain⟨ds,e1,hd,hq⟩:=iE ns 0 (by omega) Ea (by decide) (by decide);obtain⟨d0,q0,p0,p0'⟩:=hq 0 60 rfl;obtain⟨d1,q1,p1,p1'⟩:=hq 1 8 rfl;obtain⟨d2,q2,p2,p2'⟩:=hq 2 3 rfl;obtain⟨d3,q3,p3,p3'⟩:=hq 3 40 rfl;obtain⟨d4,q4,p4,p4'⟩:=hq 4 3 rfl;obtain⟨d5,q5,p5,p5'⟩:=hq 5 1000000 rfl;obtain⟨p,rfl⟩:∃m:ag,d0=(m:af):=⟨d0.toNat,by omega⟩;obtain⟨m,rfl⟩:∃m:ag,d1=(m:af):=⟨d1.toNat,by omega⟩;have hds:ds=[(p:af),(m:af),d2,d3,d4,d5]:=DZ hd q0 q1 q2 q3 q4 q5;subst hds;obtain⟨mx,hmx,mx1,mx2⟩:∃mx:af,ixD (.lst (([12,400,1000000]:ab af).map D.int)) (.int d4)=aa (.int mx)/\1<=mx/\mx<=1000000:=by
  have:d4=0\/d4=1\/d4=2:=by omega
  rcases this with rfl|rfl|rfl
  .exact⟨12,rfl,by decide,by decide⟩
  .exact⟨400,rfl,by decide,by decide⟩
  .exact⟨1000000,rfl,by decide,by decide⟩
 obtain⟨cx,hcx,cx1,cx2⟩:∃mx:af,ixD (.lst (([3,8,40]:ab af).map D.int)) (.int d2)=aa (.int mx)/\1<=mx/\mx<=40:=by
  have:d2=0\/d2=1\/d2=2:=by omega
  rcases this with rfl|rfl|rfl
  .exact⟨3,rfl,by decide,by decide⟩
  .exact⟨8,rfl,by decide,by decide⟩
  .exact⟨40,rfl,by decide,by decide⟩
 have g1:0<=d5%mx:=qX _ (by omega);have g2:d5%mx<mx:=qV _ (by omega);have g3:0<=d3%cx:=qX _ (by omega);have g4:d3%cx<cx:=qV _ (by omega);have hh:1<=1+d5%mx/\1+d5%mx<=1000000:=by omega
 generalize hH:1+d5%mx=h at hh;obtain⟨n,hn⟩:∃n:ag,1+d3%cx=(n:af):=⟨(1+d3%cx).toNat,by omega⟩;obtain⟨bs,b1,b2',b3⟩:=Qf ns p (1+m) h (by omega) (by omega);have hbn:∀(i:ag) b,bs[i]?=aa b->b.nm=nm p i:=fun i b hb=>(b3 i b hb).nm;have hB:1<=bs.length/\bs.length<=8:=by omega
 obtain⟨ss,s1,s2,s3⟩:=KL ns p n bs h (by omega) (by omega) hh.1 hB hbn;have hS:1<=ss.length/\ss.length<=40:=by omega
 have gB:∀x∈bs,GoodB h x:=fun x hx=>by obtain⟨i,hi⟩:=vo hx;have:=b3 i x hi;have hi':=(cR.mp hi).1;exact⟨by rw[this.nm];exact(jU (by omega) (by omega)).2.1,this.len,this.good.iv,this.good.gap⟩
 have gS:∀x∈ss,GoodS (bs.map (·.nm)) h x:=fun x hx=>by obtain⟨i,hi⟩:=vo hx;exact(s3 i x hi).good
 have bnd:(bs.map (·.nm)).Nodup:=wb (n:=8) (g:=fun i=>nm p i) hB.2 (fun i hi j hj e=>rh (by omega) (by omega) (by omega) e) hbn;have snd:(ss.map (·.nm)).Nodup:=wb (n:=40) (g:=fun i=>nm p (20*(p%2)+i)) hS.2 (fun i hi j hj e=>by have:=rh (by omega) (by omega) (by omega) e;omega) fun i s hs=>(s3 i s hs).nm;have hbN:∀x∈bs.map (·.nm),aY x=al:=fun x hx=>by obtain⟨b,hb,rfl⟩:=bP.mp hx;exact(gB b hb).nm
 have hsN:∀x∈ss.map (·.nm),aY x=al:=fun x hx=>by obtain⟨b,hb,rfl⟩:=bP.mp hx;exact(gS b hb).nm
 obtain⟨js,j1,j2,j3,j4,j5,j6⟩:=PZ ns p ss h (by omega) hh hS.2 hsN snd;obtain⟨us,u1,u2,u3,u4⟩:=GT ns bs p h (by omega) hh.1 hB.1 hbN;obtain⟨ls,l1,l2,l3,l4⟩:=JB ns ss h hh.1 hS.1 hsN;obtain⟨ks,k1,k2,k3,k4⟩:=LR ns p ss (by omega) hS.2 snd;refine⟨bs,ss,js,us,ls,ks,h,?_,⟨hh,hB,gB,bnd,hS,gS,snd,by omega,j3,j4,j5,by omega,u3,u4,by omega,l3,l4,k2,k3,k4⟩,by omega,j2,u2,l2⟩;have eb:pv [.scr ns,.int (p:af),.int (1+(m:af)),.int h]=aa (.lst (bs.map bU)):=by rw[←b1];congr 2
 unfold uD;refine bH (ρ':=[oS (.scr ns),oS (.int p),oS (.int m),oS (.int d2),oS (.int d3),oS (.int d4),oS (.int d5),oS (.int h),oS (.lst (bs.map bU)),oS (.lst (ss.map bf)),oS (.lst (js.map bo)),oS (.lst (us.map cc)),oS (.lst (ls.map cu)),oS (.lst (ks.map cC))]) [oS (.scr ns),ac,ac,ac,ac,ac,ac,ac,ac,ac,ac,ac,ac,ac] rfl ?_;refine(o5 (ρ':=[oS (.scr ns),oS (.int p),oS (.int m),oS (.int d2),oS (.int d3),oS (.int d4),oS (.int d5),ac,ac,ac,ac,ac,ac,ac]) (aT (aB rfl (aB (d:=.int ((0:ag):af)) rfl (aB (HY _) aL))) e1) rfl).trans ?_;refine(bz (d:=.int h) (aC (x:=.int 1) (y:=.int (d5%mx)) rfl (aC (x:=.int d5) (y:=.int mx) rfl (aC (LX _) rfl hmx) (db (by omega))) (by rw[←hH];rfl))).trans ?_;refine(bz (aT (aB rfl (aB rfl (aB (aC (x:=.int 1) (y:=.int (m:af)) rfl rfl rfl) (aB rfl aL)))) eb)).trans ?_;refine(bz (aT (aB rfl (aB rfl (aB (d:=.int (n:af)) (aC (x:=.int 1) (y:=.int (d3%cx)) rfl (aC (x:=.int d3) (y:=.int cx) rfl (aC (Ic _) rfl hcx) (db (by omega))) (by rw[←hn];rfl)) (aB rfl (aB rfl aL))))) s1)).trans ?_;refine(bz (aT (aB rfl (aB rfl (aB rfl (aB rfl aL)))) j1)).trans ?_;refine(bz (aT (aB rfl (aB rfl (aB rfl (aB rfl aL)))) u1)).trans ?_;refine(bz (aT (aB rfl (aB rfl (aB rfl aL))) l1)).trans ?_;refine(bz (aT (aB rfl (aB rfl (aB rfl aL))) k1)).trans ?_;exact bR (Pj rfl rfl rfl rfl rfl rfl rfl)
theorem fM :∀{ρ:ab α},ρ.length=n+1->∃a r,ρ=a::r/\r.length=n
 |a::r,h=>⟨a,r,rfl,Nat.succ.inj h⟩
theorem nX (h:ρ.length=17):∃a2 a3 a4 a5 a6 a7 a8 a9 a10 a11 a12 a13 a14 a15 a16 a17 a18,ρ=[a2,a3,a4,a5,a6,a7,a8,a9,a10,a11,a12,a13,a14,a15,a16,a17,a18]:=by
 obtain⟨a2,r2,rfl,h2⟩:=fM h;obtain⟨a3,r3,rfl,h3⟩:=fM h2;obtain⟨a4,r4,rfl,h4⟩:=fM h3;obtain⟨a5,r5,rfl,h5⟩:=fM h4;obtain⟨a6,r6,rfl,h6⟩:=fM h5;obtain⟨a7,r7,rfl,h7⟩:=fM h6;obtain⟨a8,r8,rfl,h8⟩:=fM h7;obtain⟨a9,r9,rfl,h9⟩:=fM h8;obtain⟨a10,r10,rfl,h10⟩:=fM h9;obtain⟨a11,r11,rfl,h11⟩:=fM h10;obtain⟨a12,r12,rfl,h12⟩:=fM h11;obtain⟨a13,r13,rfl,h13⟩:=fM h12;obtain⟨a14,r14,rfl,h14⟩:=fM h13;obtain⟨a15,r15,rfl,h15⟩:=fM h14;obtain⟨a16,r16,rfl,h16⟩:=fM h15;obtain⟨a17,r17,rfl,h17⟩:=fM h16;obtain⟨a18,r18,rfl,h18⟩:=fM h17;cases r18 with
 |nil=>exact⟨a2,a3,a4,a5,a6,a7,a8,a9,a10,a11,a12,a13,a14,a15,a16,a17,a18,rfl⟩
 |cons=>cases h18
theorem mU {gg:FG} {body:FS} {α:Type} {dx:α->D} {g:α->ai} {P:ao Slot}:∀{xs:ab α} {acc:ab ai} {r:aX},r.length=17->acc.length+xs.length<=1000->(∀x∈xs,∀(acc:ab ai) (r:aX),r.length=17->acc.length<=1000->∃ρ1 r',gg (dx x) (P::aa (.own (acc.map D.str))::r)=aa ρ1/\body ρ1=aa (.nx,P::aa (.own ((acc++[g x]).map D.str))::r')/\r'.length=17)->
  ∃r',dD gg body (xs.map dx) (P::aa (.own (acc.map D.str))::r)=aa (.nx,P::aa (.own ((acc++xs.map g).map D.str))::r')/\r'.length=17
 |[],acc,r,hr,_,_=>⟨r,by rw[qO,qO,iR];rfl,hr⟩
 |x::xs,acc,r,hr,hl,h=>by rw[qh] at hl;obtain⟨ρ1,r1,h1,h2,h3⟩:=h x qf acc r hr (by omega);obtain⟨r',h4,h5⟩:=mU (xs:=xs) (acc:=acc++[g x]) h3 (by rw[qi,qW];omega) fun y hy=>h y (qg _ hy);refine⟨r',?_,h5⟩;rw[qm,qm,List.append_cons];simp only[dD,h1,qa,h2,h4]
theorem zM (u:SetT):dY " " ["setup",u.b,u.p,u.q,tx u.n]=rU u:=by
 show zK " " _=_;rw[oI];show("setup":ai)++" "++(u.b++" "++(u.p++" "++(u.q++" "++tx u.n)))=_;have e:("setup ":ai)="setup"++" ":=by decide +kernel
 unfold rU;rw[e];simp only[SN]
section
variable {bn acc:ab ai} {P:ao Slot} {r:aX}
theorem NF {b:BenchT} (g:GoodB h b) (hh:h<=1000000) (hr:r.length=17) (hl:acc.length<=1000) :
  ∃ρ1 r',cD 2 (aN (ay 2) (aN (ay 3) cr)) (bU b) (P::aa (.own (acc.map D.str))::r)=aa ρ1/\(ax (aH 4 (aD (bc (itF (vSh 3)) g2 tT (b2 aF (b2 aF (cF cV (ae (vSh 0) ak)) (vC (.str "-"))) (cF cV (ae (vSh 1) ak))) [ac,ac]))) (b9 1 (mF fK (vC (.str " ")) (ae (b2 aF (aD (szF (ae (vC (.str "bench")) (ae (vSh 2) ak)))) (vSh 4)) ak)))) ρ1=aa (.nx,P::aa (.own ((acc++[rB b]).map D.str))::r')/\r'.length=17:=by
 obtain⟨a2,a3,a4,a5,a6,a7,a8,a9,a10,a11,a12,a13,a14,a15,a16,a17,a18,rfl⟩:=nX hr;have gl:=g.len;exact⟨P::aa (.own (acc.map D.str))::[oS (.str b.nm),oS (.lst (b.br.map dIv)),a4,a5,a6,a7,a8,a9,a10,a11,a12,a13,a14,a15,a16,a17,a18],[oS (.str b.nm),oS (.lst (b.br.map dIv)),oS (.lst ((b.br.map pI).map D.str)),a5,a6,a7,a8,a9,a10,a11,a12,a13,a14,a15,a16,a17,a18],rfl,
  (bz (O5 (fi:=itF (vSh 3)) rfl (by omega) (g.bd hh))).trans (fR (g:=D.str) (xs:=acc) (x:=rB b) rfl (pz (ys:=wB b) (lF (x:=["bench",b.nm]) (y:=b.br.map pI) (lv rfl (by simp)) rfl (by rw[qe];simp only[qh,qk];omega)) (Al g hh)) hl),rfl⟩
theorem GB {s:StepT} (g:GoodS bn h s) (hb:∀y∈bn,aY y=al) (hh:h<=1000000) (hr:r.length=17) (hl:acc.length<=1000) :
  ∃ρ1 r',cD 3 (aN (ay 2) (aN (ay 5) (aN (ay 6) cr))) (bf s) (P::aa (.own (acc.map D.str))::r)=aa ρ1/\(ax (aH 4 (aD (bc (itF (vSh 6)) g2 tT (b2 aF (b2 aF (vSh 0) (vC (.str "/"))) (cF cV (ae (vSh 1) ak))) [ac,ac]))) (b9 1 (mF fK (vC (.str " ")) (ae (b2 aF (aD (szF (ae (vC (.str "step")) (ae (vSh 2) (ae (vSh 5) ak))))) (vSh 4)) ak)))) ρ1=aa (.nx,P::aa (.own ((acc++[rS s]).map D.str))::r')/\r'.length=17:=by
 obtain⟨a2,a3,a4,a5,a6,a7,a8,a9,a10,a11,a12,a13,a14,a15,a16,a17,a18,rfl⟩:=nX hr;have gl:=g.l4;exact⟨P::aa (.own (acc.map D.str))::[oS (.str s.nm),a3,a4,oS (.str s.kd),oS (.lst (s.ws.map dW)),a7,a8,a9,a10,a11,a12,a13,a14,a15,a16,a17,a18],[oS (.str s.nm),a3,oS (.lst ((s.ws.map (pW "/")).map D.str)),oS (.str s.kd),oS (.lst (s.ws.map dW)),a7,a8,a9,a10,a11,a12,a13,a14,a15,a16,a17,a18],rfl,
  (bz (wt (s:="/") (fi:=itF (vSh 6)) Ah rfl (by omega) (g.bd hb hh))).trans (fR (g:=D.str) (xs:=acc) (x:=rS s) rfl (pz (ys:=wS s) (lF (x:=["step",s.nm,s.kd]) (y:=s.ws.map (pW "/")) (lv rfl (by simp)) rfl (by rw[qe];simp only[qh,qk];omega)) (Bx g hb hh)) hl),rfl⟩
theorem HP {j:JobT} (g:GoodJ sn h j) (hb:∀y∈sn,aY y=al) (hs:sn.length<=40) (hh:h<=1000000) (hr:r.length=17) (hl:acc.length<=1000) :
  ∃ρ1 r',cD 5 (aN (ay 2) (aN (ay 7) (aN (ay 8) (aN (ay 9) (aN (ay 10) cr))))) (bo j) (P::aa (.own (acc.map D.str))::r)=aa ρ1/\(ax (aH 4 (aD (szF (ae (vC (.str "job")) (ae (vSh 2) (ae (cF cV (ae (vSh 7) ak)) (ae (cF cV (ae (vSh 8) ak)) ak))))))) (b9 1 (mF fK (vC (.str " ")) (ae (b2 aF (b2 aF (vSh 4) (aD (szF (ae (b2 ixD (aD (szF (ae (vC (.str "of")) (ae (vC (.str "in")) ak)))) (cF tp (ae (vSh 9) ak))) ak)))) (vSh 10)) ak)))) ρ1=aa (.nx,P::aa (.own ((acc++[rJ j]).map D.str))::r')/\r'.length=17:=by
 obtain⟨a2,a3,a4,a5,a6,a7,a8,a9,a10,a11,a12,a13,a14,a15,a16,a17,a18,rfl⟩:=nX hr;have gl:=g.ln;refine⟨P::aa (.own (acc.map D.str))::[oS (.str j.nm),a3,a4,a5,a6,oS (.int j.ea),oS (.int j.du),oS (.bl j.od),oS (.lst (j.ms.map D.str)),a11,a12,a13,a14,a15,a16,a17,a18],[oS (.str j.nm),a3,oS (.lst (([("job":ai),j.nm,tx j.ea,tx j.du]:ab ai).map D.str)),a5,a6,oS (.int j.ea),oS (.int j.du),oS (.bl j.od),oS (.lst (j.ms.map D.str)),a11,a12,a13,a14,a15,a16,a17,a18],rfl,
  (bz (d:=.lst (([("job":ai),j.nm,tx j.ea,tx j.du]:ab ai).map D.str)) (lv (aB rfl (aB rfl (aB (jX rfl g.ea.1 (si g.ea.2 hh)) (aB (jX rfl g.du.1 (si g.du.2 hh)) aL)))) (by simp))).trans (fR (g:=D.str) (xs:=acc) (x:=rJ j) rfl (pz (ys:=wJ j) (lF (x:=([("job":ai),j.nm,tx j.ea,tx j.du]:ab ai)++[if j.od then ("in":ai) else ("of":ai)]) (y:=j.ms) (lF (x:=([("job":ai),j.nm,tx j.ea,tx j.du]:ab ai)) (y:=[if j.od then ("in":ai) else ("of":ai)]) rfl (lv (aB (d:=.str (if j.od then ("in":ai) else ("of":ai))) ?_ aL) (by simp)) (by simp)) rfl (by simp only[qi,qh,qk];omega)) (z5 g hb hs hh)) hl),rfl⟩
 refine aC (x:=.lst ([("of":ai),"in"].map D.str)) (y:=.int (if j.od then 1 else 0)) (lv rfl (by simp)) (aT (aB rfl aL) rfl) ?_;cases j.od
 .exact ixL _ 0
 .exact ixL _ 1
theorem Oj {u:SetT} (g:GoodU bn h u) (hb:∀y∈bn,aY y=al) (hh:h<=1000000) (hr:r.length=17) (hl:acc.length<=1000) :
  ∃ρ1 r',ay 11 (cc u) (P::aa (.own (acc.map D.str))::r)=aa ρ1/\(b9 1 (mF fK (vC (.str " ")) (ae (b2 aF (b2 aF (aD (szF (ae (vC (.str "setup")) ak))) (cF sV (ae (slF (vSh 11) pN (pS (vC (.int 3)))) ak))) (aD (szF (ae (cF cV (ae (b2 ixD (vSh 11) (vC (.int 3))) ak)) ak)))) ak))) ρ1=aa (.nx,P::aa (.own ((acc++[rU u]).map D.str))::r')/\r'.length=17:=by
 obtain⟨a2,a3,a4,a5,a6,a7,a8,a9,a10,a11,a12,a13,a14,a15,a16,a17,a18,rfl⟩:=nX hr;have a1':=(eD (hb _ g.b)).2;have a2':=(eD g.p).2;have a3':=(eD g.q).2;have q1:0<=u.n:=by have:=g.n;omega
 have q2:u.n<=1000000:=by have:=g.n;omega
 have a4':=io q1 q2;refine⟨P::aa (.own (acc.map D.str))::[a2,a3,a4,a5,a6,a7,a8,a9,a10,oS (cc u),a12,a13,a14,a15,a16,a17,a18],[a2,a3,a4,a5,a6,a7,a8,a9,a10,oS (cc u),a12,a13,a14,a15,a16,a17,a18],rfl,
  fR (g:=D.str) (xs:=acc) (x:=rU u) rfl (Eq.trans (pz (ys:=(["setup",u.b,u.p,u.q,tx u.n]:ab ai)) (lF (x:=(["setup",u.b,u.p,u.q]:ab ai)) (y:=[tx u.n]) (lF (x:=(["setup"]:ab ai)) (y:=[u.b,u.p,u.q]) (lv rfl (by simp)) (aT (aB (d:=.tup [.str u.b,.str u.p,.str u.q]) ?_ aL) rfl) (by simp)) (lv (aB (jX (aC rfl rfl pP) q1 q2) aL) (by simp)) (by simp)) ⟨fun y hy=>?_,by simp⟩) (by rw[zM])) hl,rfl⟩
 .rfl
 .have:y="setup"\/y=u.b\/y=u.p\/y=u.q\/y=tx u.n:=by simpa using hy
  rcases this with rfl|rfl|rfl|rfl|rfl
  .rw[kC.2.2.2.2.2.2.2.2.1];omega
  .omega
  .omega
  .omega
  .omega
theorem Px {l:LinkT} (g:GoodL sn h l) (hb:∀y∈sn,aY y=al) (hh:h<=1000000) (hr:r.length=17) (hl:acc.length<=1000) :
  ∃ρ1 r',cD 3 (aN (ay 12) (aN (ay 13) (aN (ay 14) cr))) (cu l) (P::aa (.own (acc.map D.str))::r)=aa ρ1/\(b9 1 (b2 aF (b2 aF (b2 aF (b2 aF (b2 aF (vC (.str "link ")) (vSh 12)) (vC (.str " "))) (vSh 13)) (vC (.str " "))) (cF cV (ae (vSh 14) ak)))) ρ1=aa (.nx,P::aa (.own ((acc++[rL l]).map D.str))::r')/\r'.length=17:=by
 obtain⟨a2,a3,a4,a5,a6,a7,a8,a9,a10,a11,a12,a13,a14,a15,a16,a17,a18,rfl⟩:=nX hr;have a1':=(eD (hb _ g.a)).2;have a2':=(eD (hb _ g.b)).2;have q1:0<=l.g:=g.g.1;have q2:l.g<=1000000:=by have:=g.g;omega
 have a4':=io q1 q2;have w1:=kC.2.2.2.2.2.2.2.1;exact⟨P::aa (.own (acc.map D.str))::[a2,a3,a4,a5,a6,a7,a8,a9,a10,a11,oS (.str l.a),oS (.str l.b),oS (.int l.g),a15,a16,a17,a18],[a2,a3,a4,a5,a6,a7,a8,a9,a10,a11,oS (.str l.a),oS (.str l.b),oS (.int l.g),a15,a16,a17,a18],rfl,
  fR (g:=D.str) (xs:=acc) (x:=rL l) rfl (jN (jN (jN (jN (jN rfl rfl (by omega)) rfl (by simp only[jC,ph,w1];omega)) rfl (by simp only[jC,ph,w1];omega)) rfl (by simp only[jC,ph,w1];omega)) (jX rfl q1 q2) (by simp only[jC,ph,w1];omega)) hl,rfl⟩
theorem Jg {k:StockT} (g:GoodK sn k) (hb:∀y∈sn,aY y=al) (hs:sn.length<=40) (hr:r.length=17) (hl:acc.length<=1000) :
  ∃ρ1 r',cD 5 (aN (ay 2) (aN (ay 15) (aN (ay 16) (aN (ay 17) (aN (ay 18) cr))))) (cC k) (P::aa (.own (acc.map D.str))::r)=aa ρ1/\(ax (aH 4 (aD (szF (ae (vC (.str "stock")) (ae (vSh 2) (ae (cF cV (ae (vSh 15) ak)) (ae (cF cV (ae (vSh 16) ak)) ak))))))) (ax (aH 4 (b2 aF (vSh 4) (aD (bc (itF (vSh 17)) g2 tT (b2 aF (b2 aF (vSh 0) (vC (.str "-"))) (cF cV (ae (vSh 1) ak))) [ac,ac])))) (ax (aH 4 (b2 aF (vSh 4) (aD (bc (itF (vSh 18)) g2 tT (b2 aF (b2 aF (vSh 0) (vC (.str "+"))) (cF cV (ae (vSh 1) ak))) [ac,ac])))) (b9 1 (mF fK (vC (.str " ")) (ae (vSh 4) ak)))))) ρ1=aa (.nx,P::aa (.own ((acc++[rK k]).map D.str))::r')/\r'.length=17:=by
 obtain⟨a2,a3,a4,a5,a6,a7,a8,a9,a10,a11,a12,a13,a14,a15,a16,a17,a18,rfl⟩:=nX hr;have gl:=g.tk.ln;have gm:=g.pt.ln;exact⟨P::aa (.own (acc.map D.str))::[oS (.str k.nm),a3,a4,a5,a6,a7,a8,a9,a10,a11,a12,a13,a14,oS (.int k.lo),oS (.int k.hi),oS (.lst (k.tk.map dW)),oS (.lst (k.pt.map dW))],[oS (.str k.nm),a3,oS (.lst ((wK k).map D.str)),a5,a6,a7,a8,a9,a10,a11,a12,a13,a14,oS (.int k.lo),oS (.int k.hi),oS (.lst (k.tk.map dW)),oS (.lst (k.pt.map dW))],rfl,
  (bz (d:=.lst (([("stock":ai),k.nm,tx k.lo,tx k.hi]:ab ai).map D.str)) (lv (aB rfl (aB rfl (aB (jX rfl g.lo.1 (si g.lo.2 g.hi.2)) (aB (jX rfl g.hi.1 g.hi.2) aL)))) (by simp))).trans ((bz (lF (x:=([("stock":ai),k.nm,tx k.lo,tx k.hi]:ab ai)) (y:=k.tk.map (pW "-")) rfl (wt (s:="-") (fi:=itF (vSh 17)) rf rfl (by omega) (g.tk.bd hb)) (by simp only[qi,qe,qh,qk];omega))).trans ((bz (lF (x:=([("stock":ai),k.nm,tx k.lo,tx k.hi]:ab ai)++k.tk.map (pW "-")) (y:=k.pt.map (pW "+")) rfl (wt (s:="+") (fi:=itF (vSh 18)) Ax rfl (by omega) (g.pt.bd hb)) (by simp only[qi,qe,qh,qk];omega))).trans (fR (g:=D.str) (xs:=acc) (x:=rK k) rfl (pz (ys:=wK k) rfl (Cj g hb hs)) hl))),rfl⟩
end
section
variable {bs:ab BenchT}
theorem nY {body E:FS} {o:ao Slot} {r:aX} {xs:ab D} {R:ao (Fl×aX)} (hx:(cw bs ss js us ls ks h)[n]?=aa (.lst xs)) (hf:dD gg body xs (oS (.lst (cw bs ss js us ls ks h))::o::r)=aa (.nx,ρ')) (hE:E ρ'=R):ax (ck (itF (b2 ixD (vSh 0) (vC (.int (n:af))))) gg body) E (oS (.lst (cw bs ss js us ls ks h))::o::r)=R:=
 (cZ ((fy (mP (aC rfl rfl ((ixL _ n).trans hx)))).trans hf)).trans hE
theorem Kt (g:Good bs ss js us ls ks h):t0 [.lst (cw bs ss js us ls ks h)]=aa (.lst ((pK bs ss js us ls ks h).map D.str)):=by
 have b1:=g.bl.2;have b2:=g.sl.2;have b3:=g.kl;have b4:=g.jl;have b5:=g.ul;have b6:=g.ll;have hh:=g.hh;have sl:(ss.map (·.nm)).length<=40:=by rw[qe];exact g.sl.2
 have hz:=io (i:=h) (by omega) hh.2;unfold t0;obtain⟨r1,f1,g1⟩:=mU (P:=oS (.lst (cw bs ss js us ls ks h))) (dx:=bU) (g:=rB) (xs:=bs) (acc:=[("horizon ":ai)++tx h]) (r:=bQ 17 ac) rfl (by simp only[qi,qe,qh,qk];omega) fun x hx acc r hr hl=>NF (P:=oS (.lst (cw bs ss js us ls ks h))) (g.b x hx) hh.2 hr hl;obtain⟨r2,f2,g2'⟩:=mU (P:=oS (.lst (cw bs ss js us ls ks h))) (dx:=bf) (g:=rS) (xs:=ss) (acc:=[("horizon ":ai)++tx h]++bs.map rB) (r:=r1) g1 (by simp only[qi,qe,qh,qk];omega) fun x hx acc r hr hl=>GB (P:=oS (.lst (cw bs ss js us ls ks h))) (g.s x hx) g.bnn hh.2 hr hl;obtain⟨r3,f3,g3⟩:=mU (P:=oS (.lst (cw bs ss js us ls ks h))) (dx:=bo) (g:=rJ) (xs:=js) (acc:=[("horizon ":ai)++tx h]++bs.map rB++ss.map rS) (r:=r2) g2' (by simp only[qi,qe,qh,qk];omega) fun x hx acc r hr hl=>HP (P:=oS (.lst (cw bs ss js us ls ks h))) (g.j x hx) g.snn sl hh.2 hr hl;obtain⟨r4,f4,g4⟩:=mU (P:=oS (.lst (cw bs ss js us ls ks h))) (dx:=cc) (g:=rU) (xs:=us) (acc:=[("horizon ":ai)++tx h]++bs.map rB++ss.map rS++js.map rJ) (r:=r3) g3 (by simp only[qi,qe,qh,qk];omega) fun x hx acc r hr hl=>Oj (P:=oS (.lst (cw bs ss js us ls ks h))) (g.u x hx) g.bnn hh.2 hr hl;obtain⟨r5,f5,g5⟩:=mU (P:=oS (.lst (cw bs ss js us ls ks h))) (dx:=cu) (g:=rL) (xs:=ls) (acc:=[("horizon ":ai)++tx h]++bs.map rB++ss.map rS++js.map rJ++us.map rU) (r:=r4) g4 (by simp only[qi,qe,qh,qk];omega) fun x hx acc r hr hl=>Px (P:=oS (.lst (cw bs ss js us ls ks h))) (g.l x hx) g.snn hh.2 hr hl;obtain⟨r6,f6,g6⟩:=mU (P:=oS (.lst (cw bs ss js us ls ks h))) (dx:=cC) (g:=rK) (xs:=ks) (acc:=[("horizon ":ai)++tx h]++bs.map rB++ss.map rS++js.map rJ++us.map rU++ls.map rL) (r:=r5) g5 (by simp only[qi,qe,qh,qk];omega) fun x hx acc r hr hl=>Jg (P:=oS (.lst (cw bs ss js us ls ks h))) (g.k x hx) g.snn sl hr hl;refine bH (ρ':=oS (.lst (cw bs ss js us ls ks h))::oS (.lst ((pK bs ss js us ls ks h).map D.str))::r6) (oS (.lst (cw bs ss js us ls ks h))::ac::bQ 17 ac) rfl ?_;refine(Le (ys:=[("horizon ":ai)++tx h]) (aB (d:=.str (("horizon ":ai)++tx h)) (jN rfl (jX (aC rfl rfl (ixL _ 6)) (by omega) hh.2) (by rw[kC.2.2.2.2.2.2.2.2.2];omega)) aL) (by simp)).trans ?_;refine nY (n:=0) rfl f1 (nY (n:=1) rfl f2 (nY (n:=2) rfl f3 (nY (n:=3) rfl f4 (nY (n:=4) rfl f5 (nY (n:=5) rfl f6 ?_)))));exact(iA rfl).trans (bR (f:=vSh 1) rfl)
end
noncomputable def Sm:ag->D->Prop
 |0,_=>False
 |n+1,.lst l=>∀x∈l,Sm n x
 |n+1,.tup l=>∀x∈l,Sm n x
 |_+1,.bl _=>True
 |_+1,.int _=>True
 |_+1,.str x=>F4 x=al
 |_+1,_=>False
noncomputable def SmP (n:ag) (d:D):Prop:=∃p,pdD d=aa p/\iy p=al/\p.depth<=n/\eX p p=al
theorem yv {n:ag}:∀{l:ab D},(∀x∈l,SmP n x)->∃ps,eL l=aa ps/\fP ps=al/\jy ps<=n/\me ps ps=al
 |[],_=>⟨[],by simp[eL],by simp[fP],by simp[jy],by simp[me]⟩
 |x::r,h=>by obtain⟨p,a1,a2,a3,a4⟩:=h x qf;obtain⟨ps,b1,b2,b3,b4⟩:=yv (l:=r) fun y hy=>h y (qg _ hy);refine⟨p::ps,by simp[eL,a1,b1],by simp[fP,a2,b2],?_,by simp[me,a4,b4]⟩;simp only[jy];omega
theorem pO:∀(n:ag) (d:D),Sm n d->SmP n d
 |0,_,h=>h.elim
 |n+1,.lst l,h=>by
  obtain⟨ps,b1,b2,b3,b4⟩:=yv (n:=n) (l:=l) fun x hx=>pO n x (h x hx);exact⟨.list ps,by simp[pdD,b1],by simp[iy,b2],by simp only[jB];omega,by simp[eX,b4]⟩
 |n+1,.tup l,h=>by
  obtain⟨ps,b1,b2,b3,b4⟩:=yv (n:=n) (l:=l) fun x hx=>pO n x (h x hx);exact⟨.tuple ps,by simp[pdD,b1],by simp[iy,b2],by simp only[jB];omega,by simp[eX,b4]⟩
 |n+1,.bl b,h=>⟨.bool b,by simp[pdD],by simp[iy],by simp[jB],by simp[eX]⟩
 |n+1,.int i,h=>⟨.int i,by simp[pdD],by simp[iy],by simp[jB],by simp[eX]⟩
 |n+1,.str x,h=>⟨.str x,by simp[pdD],by simp only[iy];exact h,by simp[jB],by simp[eX]⟩
theorem z6 (h:Sm 64 (.lst l)):neA (.lst l) (.lst l)=aa (.bl aq):=by
 obtain⟨p,a1,a2,a3,a4⟩:=pO 64 _ h;have hs:dH p=al:=by unfold dH;rw[a2,qS a3];rfl
 have e0:neA (.lst l) (.lst l)=mB (.lst l) (.lst l):=rfl;rw[e0];unfold mB eqX;rw[a1,qa,qa,qY ⟨hs,hs⟩,a4];rfl
theorem kB {f:α->D} {xs:ab α} (h:∀x∈xs,Sm n (f x)):Sm (n+1) (.lst (xs.map f)):=fun x hx=>by obtain⟨y,hy,rfl⟩:=bP.mp hx;exact h y hy
theorem HR {xs:ab ai} (h:∀x∈xs,aY x=al):Sm (n+2) (.lst (xs.map D.str)):=kB fun x hx=>(oR (h x hx):Sm (n+1) (.str x))
theorem jE (h:∀x∈l,Sm n x):Sm (n+1) (.tup l):=h
section
variable {bn:ab ai}
theorem i4 (hx:aY x=al):Sm (n+1) (.str x):=oR hx
theorem N8 (br:ab (af×af)):Sm (n+3) (.lst (br.map dIv)):=kB fun p _=>jE fun y hy=>by simp only[qL,qJ,or_false] at hy;rcases hy with rfl|rfl<;>trivial
theorem wz {ws:ab (ai×af)} (hw:∀w∈ws,aY w.1=al):Sm (n+3) (.lst (ws.map dW)):=kB fun p hp=>jE fun y hy=>by
 simp only[qL,qJ,or_false] at hy;rcases hy with rfl|rfl
 .exact i4 (hw p hp)
 .trivial
theorem HN {b:BenchT} (g:GoodB h b):Sm (n+4) (bU b):=jE fun y hy=>by
 simp only[qL,qJ,or_false] at hy;rcases hy with rfl|rfl
 .exact i4 g.nm
 .exact N8 _
theorem JK {s:StepT} (hb:∀y∈bn,aY y=al) (g:GoodS bn h s):Sm (n+4) (bf s):=jE fun y hy=>by
 simp only[qL,qJ,or_false] at hy;rcases hy with rfl|rfl|rfl
 .exact i4 g.nm
 .exact i4 g.kd
 .exact wz fun w hw=>hb _ (g.ws w hw).1
theorem Gw {j:JobT} (hb:∀y∈sn,aY y=al) (g:GoodJ sn h j):Sm (n+3) (bo j):=jE fun y hy=>by
 simp only[qL,qJ,or_false] at hy;rcases hy with rfl|rfl|rfl|rfl|rfl
 .exact i4 g.nm
 .trivial
 .trivial
 .trivial
 .exact HR fun x hx=>hb _ (g.ms x hx)
theorem PX {u:SetT} (hb:∀y∈bn,aY y=al) (g:GoodU bn h u):Sm (n+2) (cc u):=jE fun y hy=>by
 simp only[qL,qJ,or_false] at hy;rcases hy with rfl|rfl|rfl|rfl
 .exact i4 (hb _ g.b)
 .exact i4 g.p
 .exact i4 g.q
 .trivial
theorem Ks {l:LinkT} (hb:∀y∈sn,aY y=al) (g:GoodL sn h l):Sm (n+2) (cu l):=jE fun y hy=>by
 simp only[qL,qJ,or_false] at hy;rcases hy with rfl|rfl|rfl
 .exact i4 (hb _ g.a)
 .exact i4 (hb _ g.b)
 .trivial
theorem Pb {k:StockT} (hb:∀y∈sn,aY y=al) (g:GoodK sn k):Sm (n+4) (cC k):=jE fun y hy=>by
 simp only[qL,qJ,or_false] at hy;rcases hy with rfl|rfl|rfl|rfl|rfl
 .exact i4 g.nm
 .trivial
 .trivial
 .exact wz fun w hw=>hb _ (g.tk.ws w hw).1
 .exact wz fun w hw=>hb _ (g.pt.ws w hw).1
end
section
variable {bs:ab BenchT}
theorem PD (g:Good bs ss js us ls ks h):Sm 64 (.lst (cw bs ss js us ls ks h)):=fun y hy=>by
 simp only[cw,qL,qJ,or_false] at hy;rcases hy with rfl|rfl|rfl|rfl|rfl|rfl|rfl
 .exact kB (n:=62) fun x hx=>HN (n:=58) (g.b x hx)
 .exact kB (n:=62) fun x hx=>JK (n:=58) g.bnn (g.s x hx)
 .exact kB (n:=62) fun x hx=>Gw (n:=59) g.snn (g.j x hx)
 .exact kB (n:=62) fun x hx=>PX (n:=60) g.bnn (g.u x hx)
 .exact kB (n:=62) fun x hx=>Ks (n:=60) g.snn (g.l x hx)
 .exact kB (n:=62) fun x hx=>Pb (n:=58) g.snn (g.k x hx)
 .trivial
theorem mj {x y:ab D} (h:x.length+y.length<=1000):aF (.lst x) (.lst y)=aa (.lst (x++y)):=qY (szN h (by decide))
theorem tS {g:FE} {x y:D} (h1:f ρ=aa x) (h2:g ρ=aa y):aD (szF (ae f (ae g ak))) ρ=aa (.lst [x,y]):=by simp only[aD,szF,ae,ak,h1,h2,qa,qd,qh,qk,jA,sz2,cy]
theorem PK (g:Good bs ss js us ls ks h):lQ [cg bs ss js us ls ks h]=aa (.lst (cw bs ss js us ls ks h)):=by unfold lQ;refine bH (ρ':=[oS (cg bs ss js us ls ks h),oS (.lst [.lst (bs.map bU),.lst (ss.map bf),.lst (js.map bo),.lst (us.map cc),.lst (ls.map cu)])]) [oS (cg bs ss js us ls ks h),ac] rfl ?_;refine(bz (CH (gK (by decide +kernel) rfl aL (GX g)) (gK (by decide +kernel) rfl aL (QA g)) (gK (by decide +kernel) rfl aL (Nj g)))).trans ?_;refine(bz (aC rfl (tS (gK (by decide +kernel) rfl aL (Lo g)) (gK (by decide +kernel) rfl aL (Jc g))) (mj (by simp)))).trans ?_;exact bR (aC rfl (tS (gK (by decide +kernel) rfl aL (Mt g)) (gK (by decide +kernel) rfl aL AR)) (mj (by simp)))
end
end Law
variable {c0:ag} {ws:ab ai} {γ:Type} {O:ao Slot}
namespace Law
open PySem L2 PySem.StrLaws PySem.Builtin.Str
theorem CY {r:ab ag} (hy:y.cps.toList=c0::r) {k:ag} (h:vt x y x.length k):x.cps.toList[k]?=aa c0:=by
 have h2:=h.2;rw[subAt_eq,hy] at h2;have e:=E9 h2;have e0:((x.cps.toList.drop k).take y.length)[0]?=aa c0:=by rw[e];rfl
 have hl:0<y.length:=by
  have:y.cps.toList.length=(c0::r).length:=by rw[hy]
  simp only[iu,qh] at this;show 0<y.cps.size;omega
 rw[uP hl,vc] at e0;simpa using e0
theorem Ku {k:ag} {l:ab ag} (hk:k<=x.length) (h:x.cps.toList.drop k=y.cps.toList++l):vt x y x.length k:=by
 have hy:y.cps.toList.length=y.length:=by simp[gU]
 have hx:x.cps.toList.length=x.length:=by simp[gU]
 refine⟨?_,?_⟩
 .have:=df fF h;rw[l5,qi,hy,hx] at this;omega
 .rw[subAt_eq,h,←hy,SO];simp
theorem zQ {p:ai} {a b:ag} {l:ab ag} (h:x.cps.toList.drop a=p.cps.toList++l) (hb:b-a=p.length):zL x a b=p:=by
 apply Str.ext';apply Array.toList_inj.mp;have hp:p.cps.toList.length=p.length:=by simp[gU]
 rw[strSub_toList,h,hb,←hp,SO]
theorem Cu (y p q:ai) (r:ab ai):(iz y (p::q::r)).cps.toList=p.cps.toList++(y.cps.toList++(iz y (q::r)).cps.toList):=by show((p++y++iz y (q::r)).cps).toList=_;simp only[Str.cps_append,SQ,qw]
theorem Ai {x y:ai} {c0:ag} {w:ab ag} (hy:y.cps.toList=c0::w):∀(ps:ab ai) (p:ai) (a:ag) (cuts:ab ag) (f:ag),a<=x.length->x.cps.toList.drop a=(iz y (p::ps)).cps.toList->(∀q∈p::ps,c0∉q.cps.toList)->
  ChainG x y x.length a cuts f->(∀k,f<=k->¬vt x y x.length k)->partsFrom x y.length a cuts=p::ps
 |[],p,a,cuts,f,ha,hx,hf,hc,hn=>by
  have hx':x.cps.toList.drop a=p.cps.toList:=hx;cases cuts with
  |nil=>
   show[zL x a x.length]=[p];rw[zQ (l:=[]) (by rw[hx',iR])];have:=df fF hx';simp only[l5,iu] at this;exact this
  |cons c r=>
   have h1:=CY hy hc.2.1;have h2:(x.cps.toList.drop a)[c-a]?=aa c0:=by rw[vc,SS hc.1];exact h1
   rw[hx'] at h2;exact bN (qP h2) (hf p qf)
 |q::ps,p,a,cuts,f,ha,hx,hf,hc,hn=>by
  rw[Cu] at hx;have hpl:p.cps.toList.length=p.length:=by simp[gU]
  have hyl:y.cps.toList.length=y.length:=by simp[gU]
  have hd:x.cps.toList.drop (a+p.length)=y.cps.toList++(iz y (q::ps)).cps.toList:=by rw[←F3,hx,←hpl,SU]
  have hle:a+p.length<=x.length:=by
   have:=df fF hx;rw[l5,qi,hpl] at this;have hx2:x.cps.toList.length=x.length:=by simp[gU]
   omega
  have hA:vt x y x.length (a+p.length):=Ku hle hd;have low:∀k,a<=k->vt x y x.length k->a+p.length<=k:=fun k hk h=>by
   rcases lg k (a+p.length) with z|z
   .have h1:=CY hy h;have h2:(x.cps.toList.drop a)[k-a]?=aa c0:=by rw[vc,SS hk];exact h1
    rw[hx,qz (by rw[hpl];omega)] at h2;exact bN (qP h2) (hf p qf)
   .exact z
  cases cuts with
  |nil=>
   have e:f=a:=hc;subst e;exact bN hA (hn _ (u8 _ _))
  |cons c r=>
   obtain⟨c1,c2,c3,c4⟩:=hc;have e:c=a+p.length:=by
    have:=low c c1 c2;rcases lg (a+p.length) c with z|z
    .exact bN hA (c3 _ (u8 _ _) z)
    .omega
   subst e;show zL x a (a+p.length)::partsFrom x y.length (a+p.length+y.length) r=p::q::ps;rw[zQ hx (by omega),Ai hy ps q (a+p.length+y.length) r f hA.1 (by rw[←F3,hd,←hyl,SU]) (fun z hz=>hf z (qg _ hz)) c4 hn]
theorem xy {w:ab ag} (hy:y.cps.toList=c0::w) (hk:rY y=1) (p:ai) (ps:ab ai) (hf:∀q∈p::ps,c0∉q.cps.toList):ix (dY y (p::ps)) y=p::ps:=by
 have ej:dY y (p::ps)=iz y (p::ps):=glued_eq_join y _;rw[ej];generalize hX:iz y (p::ps)=x;have hyl:1<=y.length:=by
  have:y.cps.toList.length=(c0::w).length:=by rw[hy]
  simp only[iu,qh] at this;show 1<=y.cps.size;omega
 obtain⟨f,hc,hn⟩:=occ_tight x y hyl;have key:=Ai hy ps p 0 _ f (gd _) (by rw[l',hX]) hf hc hn;have whole:(occurrences x y 0 x.length (x.length+1))=[]->[x]=p::ps:=fun e=>by rw[e] at key;rw[←key];show[x]=[zL x 0 x.length];rw[sub_whole]
 unfold ix;split
 .rename_i h1;rw[Ft,u9,u9] at h1;apply whole;cases e:occurrences x y 0 x.length (x.length+1) with
  |nil=>rfl
  |cons c r=>
   rw[e] at hc;have:=hc.2.1.1;rcases h1 with h1|h1
   .omega
   .rw[hk] at h1;have:1<=rY x:=by unfold rY;split;exact qv _;split<;>decide
    omega
 .split
  .rename_i h2;exact whole (List.isEmpty_iff.mp h2)
  .rw[partsBetween_eq];exact key
theorem dO {f g:FT} (h1:f ρ=aa aq) (h2:g ρ=aa aq):orT f g ρ=aa aq:=by unfold orT;rw[h1];exact h2
theorem fH {A:FE} (hA:A ρ=aa (.bl al)):ba (toB A) ρ=aa aq:=by unfold ba;rw[bx hA];rfl
noncomputable def c8 (m:ag):ai:=yV (yH (m:af))
theorem ut (m:ag):(c8 m).cps.toList=(lu 10 m).map F8:=SC m
theorem CT (m:ag):∀c∈(c8 m).cps.toList,48<=c/\c<=57:=fun c hc=>by rw[ut] at hc;obtain⟨ch,hch,e⟩:=bP.mp hc;have r:=T' (Nat.isDigit_of_mem_toDigits (by decide) (by decide) hch);rw[←e];exact r
theorem J4 (m:ag):∃c r,(c8 m).cps.toList=c::r/\(m=0\/c≠48):=by
 have key:∀m:ag,∃c r,lu 10 m=c::r/\(m=0\/c.toNat≠48):=fun m=>by
  induction m using RN with
  |_ m ih=>
   by_cases h:m<10
   .refine⟨_,[],Nat.toDigits_of_lt_base h,?_⟩;rcases SE m with z|z
    .exact .inl z
    .right
     have:∀d:ag,d<10->0<d->(Nat.digitChar d).toNat≠48:=by decide
     exact this m h z
   .have hm:m%10<10:=iV m (by decide);have t:lu 10 (m / 10)++lu 10 (m%10)=lu 10 (10*(m / 10)+m%10):=Nat.toDigits_append_toDigits (by decide) (by omega) hm;rw[F'] at t;obtain⟨c,r,e1,e2⟩:=ih (m / 10) (by omega);refine⟨c,r++lu 10 (m%10),by rw[←t,e1];rfl,?_⟩;rcases e2 with e2|e2
    .omega
    .exact .inr e2
 obtain⟨c,r,e1,e2⟩:=key m;exact⟨c.toNat,r.map F8,by rw[ut,e1];rfl,e2⟩
theorem Mw:c8 0="0":=by decide +kernel
theorem MB {m:ag} (h:m<10 ^ 30):1<=(c8 m).length/\(c8 m).length<=30:=by
 have e:(c8 m).length=(lu 10 m).length:=by have:=df fF (ut m);simpa[gU] using this
 rw[e];exact⟨Ua 10 m,SD (by decide) h⟩
theorem Jw:("0123456789":ai).cps.toList=[48,49,50,51,52,53,54,55,56,57]:=by decide +kernel
theorem Ii {c:ag} (h:48<=c/\c<=57):inS ⟨#[c]⟩ "0123456789"=al:=by
 unfold inS;rw[SV,Jw];have:c=48\/c=49\/c=50\/c=51\/c=52\/c=53\/c=54\/c=55\/c=56\/c=57:=by omega
 rcases this with rfl|rfl|rfl|rfl|rfl|rfl|rfl|rfl|rfl|rfl<;>decide
theorem OA {c:ag} {r:ab ag} (h:x.cps.toList=c::r) (hz:x.length<=aM):ixD (.str x) (.int 0)=aa (.str ⟨#[c]⟩):=by
 have e:atI x.cps.toList ((0:ag):af)=aa c:=by rw[kK,h];rfl
 show(if x.length<=aM then (atI x.cps.toList 0).map (fun c=>D.str ⟨#[c]⟩) else ac)=_;rw[qY hz];have e':atI x.cps.toList (0:af)=aa c:=e;rw[e'];rfl
theorem NK {m:ag} (hm:m<10 ^ 30):ya [.str (c8 m)]=aa (.bl al):=by
 obtain⟨l1,l2⟩:=MB hm;obtain⟨c,r,hc,h0⟩:=J4 m;have hz:(c8 m).length<=aM:=by unfold aM;omega
 have hl:((c8 m).cps.toList.map fun c=>D.str ⟨#[c]⟩).length<=aM:=by simpa[gU] using hz
 have ha:=gD (fi:=itS (vSh 0)) (fe:=b2 kR (vSh 0) (vC (.str "0123456789"))) (fv:=[ac]) (ρ:=[oS (.str (c8 m))]) (r:=[]) (a:=ac) (xs:=(c8 m).cps.toList.map fun c=>D.str ⟨#[c]⟩)
  (by simp[itS,vSh,uj]) hl rfl (fun y hy=>by obtain⟨c,hc,rfl⟩:=bP.mp hy;exact aC (x:=.str ⟨#[c]⟩) (y:=.str "0123456789") rfl rfl (by show aa (D.bl (inS ⟨#[c]⟩ "0123456789"))=_;rw[Ii (CT m c hc)]))
 have ne:c8 m≠"":=fun z=>by rw[z] at l1;exact bN l1 (by decide)
 refine xK (ρ':=[oS (.str (c8 m))]) ((cb (dO ?_ ?_)).trans (bR ha))
 .exact bx (aC (x:=.str (c8 m)) (y:=.str "") rfl rfl (by show aa (D.bl (decide (c8 m="")))=_;rw[qN ne]))
 .have f1:toB (b2 eqD (b2 ixD (vSh 0) (vC (.int 0))) (vC (.str "0"))) [oS (.str (c8 m))]=aa (decide ((⟨#[c]⟩:ai)="0")):=
   bx (aC (x:=.str ⟨#[c]⟩) (y:=.str "0") (aC (x:=.str (c8 m)) (y:=.int 0) rfl rfl (OA hc hz)) rfl rfl)
  show eT _ _ [oS (.str (c8 m))]=aa aq;unfold eT;rw[f1,qa];have z0:("0":ai)=⟨#[48]⟩:=by decide +kernel
  by_cases e:c=48
  .rcases h0 with h0|h0
   .subst h0;rw[qY (by rw[e,z0];exact qS rfl)];exact bx (aC (x:=.str (c8 0)) (y:=.str "0") rfl rfl (by show aa (D.bl (!decide (c8 0="0")))=_;rw[qS Mw];rfl))
   .exact bN e h0
  .rw[qZ];rw[u9,z0];intro z;have:=df (fun s:ai=>s.cps.toList) z;simp at this;exact e this
theorem xk {i:af} (h0:0<=i):tx i=c8 i.toNat:=by unfold tx c8;rw[SW h0]
theorem J6 {m:ag} (h:m<10 ^ 7):1<=(c8 m).length/\(c8 m).length<=7:=by
 have e:(c8 m).length=(lu 10 m).length:=by show(c8 m).cps.size=_;rw[←iu,ut,qe]
 rw[e];exact⟨Nat.length_toDigits_pos,(Nat.length_toDigits_le_iff (by decide) (by decide)).mpr h⟩
theorem oQ {i:af} (h0:0<=i) (h1:i<=1000000):1<=(tx i).length/\(tx i).length<=7:=by rw[xk h0];exact J6 (by omega)
theorem AY {i:af} (h0:0<=i):∀c∈(tx i).cps.toList,48<=c/\c<=57:=by rw[xk h0];exact CT _
theorem xh (h:x.length<=1000):bT [.str x]=aa (.int x.length):=qY (by unfold aM;omega)
theorem yb {i:af} (h0:0<=i) (h1:i<=1000000):lO [.str (tx i)]=aa (.bl al):=by
 have hl:=oQ h0 h1;refine bH [oS (.str (tx i))] rfl (bR (ud (aC (aT (aB rfl aL) (xh (by omega))) rfl ?_) (aT (aB rfl aL) ?_)))
 .show aa (D.bl (decide (((tx i).length:af)<=7)))=_;rw[qS (by omega)]
 .rw[xk h0];exact NK (by omega)
theorem ua {i:af} (h0:0<=i) (h1:i<=1000000):gJ [.str (tx i)]=aa (.int i):=by show(if (tx i).length<=640 then (zF (tx i)).map D.int else ac)=_;rw[qY (by have:=oQ h0 h1;omega),show zF (tx i)=aa i from Ub h0 (by omega)];rfl
theorem OG {c:ag} :az c=al↔97<=c/\c<=122:=by
 have z:("z":ai)=⟨#[122]⟩:=by decide +kernel
 have a:("a":ai)=⟨#[97]⟩:=by decide +kernel
 unfold az ltS;rw[z,a];simp only[iS,Sv,Sw];have one:∀i j:ag,(([i]:ab ag) < [j])↔i<j:=fun i j=>by
  constructor
  .intro h;cases h with
   |rel h=>exact h
   |cons h=>cases h
  .intro h;exact Sx h
 show ¬([c]:ab ag) < [97]/\¬([122]:ab ag) < [c]↔_;rw[one,one];omega
theorem Dy (h:aY x=al):∀c∈x.cps.toList,97<=c/\c<=122:=fun c hc=>OG.mp (wZ h c hc)
theorem o9 (a b:ai):(a++b).cps.toList=a.cps.toList++b.cps.toList:=by show(a.cps++b.cps).toList=_;rw[SQ]
structure Sg (s:ai) (c0:ag):Prop where
 cps:s.cps.toList=[c0]
 kd:rY s=1
theorem Sg.len {s:ai} {c0:ag} (h:Sg s c0):s.length=1:=by show s.cps.size=1;rw[←iu,h.cps];rfl
theorem pY:Sg "-" 45:=⟨by decide +kernel,by decide +kernel⟩
theorem yq:Sg "+" 43:=⟨by decide +kernel,by decide +kernel⟩
theorem EG:Sg "/" 47:=⟨by decide +kernel,by decide +kernel⟩
theorem uh:Sg " " 32:=⟨by decide +kernel,by decide +kernel⟩
theorem wM:Sg "\n" 10:=⟨by decide +kernel,by decide +kernel⟩
theorem Dp {s a b:ai} (hs:Sg s c0) (ha:c0∉a.cps.toList) (hb:c0∉b.cps.toList):ix (a++s++b) s=[a,b]:=by
 have e:a++s++b=dY s [a,b]:=by show _=zK s _;rw[oI];rfl
 rw[e];exact xy hs.cps hs.kd a [b] (fun q hq=>by
  rcases cG.mp hq with rfl|hq
  .exact ha
  .rw[bY.mp hq];exact hb)
theorem sG (h1:y.length≠0) (h2:x.length<=1000000):kO (.str x) [.str y]=aa (.lst ((ix x y).map D.str)):=qY ⟨h1,h2⟩
theorem sQ {i:af} (h0:0<=i) (hc:c0<48):c0∉(tx i).cps.toList:=fun h=>by have:=AY h0 c0 h;omega
theorem CA (h:aY x=al) (hc:c0<97):c0∉x.cps.toList:=fun z=>by have:=Dy h c0 z;omega
theorem nA (l:ab D):bT [.lst l]=aa (.int l.length):=rfl
theorem pi {n:af} (h:ρ[i]?=aa (oS (.lst l))) (hl:(l.length:af)=n):toB (b2 neD (cF bT (ae (vSh i) ak)) (vC (.int n))) ρ=aa aq:=by
 refine bx (aC (aT (aB (d:=.lst l) ?_ aL) (nA l)) rfl ?_)
 .unfold vSh;rw[h]
 .show aa (D.bl (!decide ((l.length:af)=n)))=_;rw[qS hl];rfl
theorem tI {n:af} (h:ρ[i]?=aa (oS (.lst l))) (hl:n<=(l.length:af)):toB (b2 ltD (cF bT (ae (vSh i) ak)) (vC (.int n))) ρ=aa aq:=by
 refine bx (aC (aT (aB (d:=.lst l) ?_ aL) (nA l)) rfl ?_)
 .unfold vSh;rw[h]
 .show aa (D.bl (decide ((l.length:af)<n)))=_;rw[qN (by omega)]
theorem eh (n:ag) (h:ρ[i]?=aa (oS (.lst l))) (hd:l[n]?=aa d):b2 ixD (vSh i) (vC (.int (n:af))) ρ=aa d:=aC (x:=.lst l) (by unfold vSh;rw[h]) rfl ((ixL l n).trans hd)
theorem sJ {xs:ab ai} (h:f ρ=aa (.lst (xs.map D.str))) (hl:xs.length<=1000) (hn:∀x∈xs,aY x=al):cF nP (ae f ak) ρ=aa (.bl al):=by refine aT (aB h aL) (bH [oS (.lst (xs.map D.str))] rfl (bR ?_));refine gD (r:=[]) (a:=ac) (xs:=xs.map D.str) rfl (by rw[qe];exact szN hl (by decide)) rfl (fun y hy=>?_);obtain⟨x,hx,rfl⟩:=bP.mp hy;exact aT (aB rfl aL) (jg (hn x hx))
theorem xq {xs:ab af} (h:f ρ=aa (.lst (xs.map fun i=>D.str (tx i)))) (hl:xs.length<=1000) (hn:∀x∈xs,0<=x/\x<=1000000):cF pL (ae f ak) ρ=aa (.bl al):=by refine aT (aB h aL) (bH [aa (.sh (.lst (xs.map fun i=>D.str (tx i))))] rfl (bR ?_));refine gD (r:=[]) (a:=ac) (xs:=xs.map fun i=>D.str (tx i)) rfl (by rw[qe];exact szN hl (by decide)) rfl (fun y hy=>?_);obtain⟨x,hx,rfl⟩:=bP.mp hy;exact aT (aB rfl aL) (yb (hn x hx).1 (hn x hx).2)
theorem NO {p:af×af} (h:0<=p.1/\p.1<=1000000/\0<=p.2/\p.2<=1000000):wE [.str (pI p)]=aa (dIv p):=by
 have e:ix (pI p) "-"=[tx p.1,tx p.2]:=Dp pY (sQ h.1 (by decide)) (sQ h.2.2.1 (by decide));have hl:=D5 h;refine bH [oS (.str (pI p)),ac] rfl ((bz (oV (d:=.str (pI p)) (ds:=[.str "-"]) rfl rfl ((sG (by decide +kernel) (by omega)).trans (by rw[e];rfl)))).trans ((cb (dO (pi (l:=[.str (tx p.1),.str (tx p.2)]) rfl rfl) (fH (xq (xs:=[p.1,p.2]) rfl (by simp) ?_)))).trans (bR (gW (aT (aB (eh 0 (l:=[.str (tx p.1),.str (tx p.2)]) rfl rfl) aL) (ua h.1 h.2.1)) (aT (aB (eh 1 (l:=[.str (tx p.1),.str (tx p.2)]) rfl rfl) aL) (ua h.2.2.1 h.2.2.2))))));intro x hx;have:x=p.1\/x=p.2:=by simpa using hx
 rcases this with rfl|rfl
 .exact⟨h.1,h.2.1⟩
 .exact h.2.2
theorem yt {s:ai} {w:ai×af} (hs:Sg s c0) (hc:c0<48) (hn:aY w.1=al) (h:0<=w.2/\w.2<=1000000):o0 [.str (pW s w),.str s]=aa (dW w):=by have e:ix (pW s w) s=[w.1,tx w.2]:=Dp hs (CA hn (by omega)) (sQ h.1 hc);have hl:=sy hs.len ⟨(eD hn).2,h.1,h.2⟩;exact bH [oS (.str (pW s w)),oS (.str s),ac] rfl ((bz (oV (d:=.str (pW s w)) (ds:=[.str s]) rfl rfl ((sG (by rw[hs.len];decide) (by omega)).trans (by rw[e];rfl)))).trans ((cb (dO (pi (l:=[.str w.1,.str (tx w.2)]) rfl rfl) (dO (fH (aT (aB (eh 0 (l:=[.str w.1,.str (tx w.2)]) rfl rfl) aL) (jg hn))) (fH (aT (aB (eh 1 (l:=[.str w.1,.str (tx w.2)]) rfl rfl) aL) (yb h.1 h.2)))))).trans (bR (gW (eh 0 (l:=[.str w.1,.str (tx w.2)]) rfl rfl) (aT (aB (eh 1 (l:=[.str w.1,.str (tx w.2)]) rfl rfl) aL) (ua h.1 h.2))))))
theorem mM {fl:aX->ao (ao af)} {lo:ao af} (h:fe ρ=aa (.lst l)) (h1:fl ρ=aa lo) (h2:fh ρ=aa hi):slF fe fl fh ρ=aa (.lst (eK l lo hi)):=by unfold slF;rw[h,qa,h1,qa,h2];rfl
theorem wg (l:ab α) (n:ag):eK l (aa (n:af)) ac=l.drop n:=by
 unfold eK;rw[HT.sIx_nat,HT.sIx_none];by_cases h:n<=l.length
 .rw[ko h];exact km (by rw[l5];exact qv _)
 .rw[F1 (by omega),Ga (qv _),Ga (by omega),List.take_nil]
theorem Ce (l:ab α) (n:ag):eK l ac (aa (n:af))=l.take n:=by
 unfold eK;rw[HT.sIx_nat,HT.sIx_none,l',Ss];by_cases h:n<=l.length
 .rw[ko h]
 .rw[F1 (by omega),km (qv _),km (by omega)]
theorem Cy (l:ab α) {m:ag} (hm:m<=n) (hn:n<=l.length):eK l (aa (m:af)) (aa (n:af))=(l.drop m).take (n-m):=by unfold eK;rw[HT.sIx_nat,HT.sIx_nat,ko hn,ko (by omega)]
theorem mQ (h:ρ[i]?=aa (oS d)):vSh i ρ=aa d:=by unfold vSh;rw[h]
theorem sr (n:ag) (h:ρ[i]?=aa (oS (.lst l))):slF (vSh i) (pS (vC (.int (n:af)))) pN ρ=aa (.lst (l.drop n)):=(mM (mQ h) rfl rfl).trans (by rw[wg])
theorem pM (m n:ag) (h:ρ[i]?=aa (oS (.lst l))) (hm:m<=n) (hn:n<=l.length):slF (vSh i) (pS (vC (.int (m:af)))) (pS (vC (.int (n:af)))) ρ=aa (.lst ((l.drop m).take (n-m))):=(mM (mQ h) rfl rfl).trans (by rw[Cy l hm hn])
theorem AK {α:Type} {dx g:α->D} {fe:FE} {r:aX}:∀{xs:ab α} {a:ao Slot},(∀x∈xs,fe (oS (dx x)::r)=aa (g x))->gy (ay 0) tT fe (xs.map dx) (a::r)=aa (xs.map g)
 |[],_,_=>rfl
 |x::xs,a,h=>by have h1:=h x qf;have ih:=AK (xs:=xs) (a:=oS (dx x)) fun y hy=>h y (qg _ hy);simp only[qm,gy,ay,nz,qa,tT,cy,h1,ih,qd]
theorem lH {dx g:α->D} {r:aX} {a:ao Slot} {xs:ab α} (h1:fi ρ=aa (xs.map dx)) (h2:xs.length<=1000) (h3:gw fv ρ=a::r) (h:∀x∈xs,fe (oS (dx x)::r)=aa (g x)) :
  aD (bc fi (ay 0) tT fe fv) ρ=aa (.lst (xs.map g)):=by
 simp only[aD,bc,h1,qa,qe,qY (szN h2 (by decide)),h3,AK (a:=a) h,qd]
theorem AA {n:ag}:∀{l:ab D},(∀x∈l,Sm n x/\∃t,x=.tup t)->∃ps,eL l=aa ps/\fP ps=al/\(ps.any fun z=>eX z .none)=aq
 |[],_=>⟨[],by simp[eL],by simp[fP],rfl⟩
 |x::r,h=>by obtain⟨h1,t,rfl⟩:=h x qf;obtain⟨p,a1,a2,a3,a4⟩:=pO n _ h1;obtain⟨ps,b1,b2,b3⟩:=AA (n:=n) (l:=r) fun y hy=>h y (qg _ hy);have a1':=a1;unfold pdD at a1';obtain⟨q,hq,rfl⟩:=oMd a1';refine⟨.tuple q::ps,by simp[eL,a1,b1],by simp[fP,a2,b2],?_⟩;rw[ni,b3];rfl
theorem sK (hi:ρ[i]?=aa (oS (.lst l))) (h:∀x∈l,Sm n x/\∃t,x=.tup t):toB (b2 jb (vC .non) (vSh i)) ρ=aa aq:=by obtain⟨ps,b1,b2,b3⟩:=AA h;refine bx (aC (x:=.non) (y:=.lst l) rfl (mQ hi) ?_);unfold jb inX;simp only[pdD,b1,qd,qa,b2,and_true];rw[qY (by decide),b3];rfl
theorem Hz (p:af×af):Sm (n+2) (dIv p):=jE fun y hy=>by
 have:y=.int p.1\/y=.int p.2:=by simpa[dIv] using hy
 rcases this with rfl|rfl<;>trivial
theorem vX {w:ai×af} (h:aY w.1=al):Sm (n+2) (dW w):=jE fun y hy=>by
 have:y=.str w.1\/y=.int w.2:=by simpa[dW] using hy
 rcases this with rfl|rfl
 .exact oR h
 .trivial
theorem mL {k:af} (h:ρ[i]?=aa (oS (.lst l))) (hd:l[n]?=aa (.str (tx k))) (h0:0<=k) (h1:k<=1000000):cF gJ (ae (b2 ixD (vSh i) (vC (.int (n:af)))) ak) ρ=aa (.int k):=aT (aB (eh n h hd) aL) (ua h0 h1)
theorem xm (h:ρ[i]?=aa (oS (.lst l))) (hd:l[n]?=aa (.str x)) (hx:aY x=al):cF f8 (ae (b2 ixD (vSh i) (vC (.int (n:af)))) ak) ρ=aa (.bl al):=aT (aB (eh n h hd) aL) (jg hx)
theorem wo {k:af} (h:ρ[i]?=aa (oS (.lst l))) (hd:l[n]?=aa (.str (tx k))) (h0:0<=k) (h1:k<=1000000):cF lO (ae (b2 ixD (vSh i) (vC (.int (n:af)))) ak) ρ=aa (.bl al):=aT (aB (eh n h hd) aL) (yb h0 h1)
abbrev W (ws:ab ai):D:=.lst (ws.map D.str)
theorem IR (h0:0<=h) (h1:h<=1000000):su [W ["horizon",tx h]]=aa (.int h):=
 bH [oS (W ["horizon",tx h])] rfl ((cb (dO (pi (l:=[.str "horizon",.str (tx h)]) rfl rfl) (fH (wo (l:=[.str "horizon",.str (tx h)]) (n:=1) rfl rfl h0 h1)))).trans (bR (mL (n:=1) (l:=[.str "horizon",.str (tx h)]) rfl rfl h0 h1)))
theorem LA {b:BenchT} (g:GoodB h b) (hh:h<=1000000):uA [W (wB b)]=aa (bU b):=by
 have e0:([oS (W (wB b)),ac]:aX)[0]?=aa (oS (.lst (.str "bench"::.str b.nm::(b.br.map pI).map D.str))):=rfl;refine bH [oS (W (wB b)),ac] rfl ((bz (d:=.lst (b.br.map dIv)) (lH (r:=[]) (a:=ac) (xs:=b.br) (dx:=fun p=>D.str (pI p)) ((mP (sr 2 e0)).trans (by simp[oJ])) (by have:=g.len;omega) rfl (fun p hp=>aT (aB rfl aL) (NO (g.bd hh p hp))))).trans ((cb (dO (tI (l:=.str "bench"::.str b.nm::(b.br.map pI).map D.str) rfl ?_) (dO (fH (xm (n:=1) (l:=.str "bench"::.str b.nm::(b.br.map pI).map D.str) rfl rfl g.nm)) (sK (n:=2) (l:=b.br.map dIv) rfl ?_)))).trans (bR (gW (eh 1 (l:=.str "bench"::.str b.nm::(b.br.map pI).map D.str) rfl rfl) rfl))))
 .simp only[qh];omega
 .intro x hx;obtain⟨p,hp,rfl⟩:=bP.mp hx;exact⟨Hz p,_,rfl⟩
theorem Hs {bn:ab ai} {s:StepT} (g:GoodS bn h s) (hb:∀y∈bn,aY y=al) (hh:h<=1000000):sA [W (wS s)]=aa (bf s):=by
 have e0:([oS (W (wS s)),ac]:aX)[0]?=aa (oS (.lst (.str "step"::.str s.nm::.str s.kd::(s.ws.map (pW "/")).map D.str))):=rfl;refine bH [oS (W (wS s)),ac] rfl ((bz (d:=.lst (s.ws.map dW)) (lH (r:=[]) (a:=ac) (xs:=s.ws) (dx:=fun p=>D.str (pW "/" p)) ((mP (sr 3 e0)).trans (by simp[oJ])) (by have:=g.l4;omega) rfl (fun p hp=>aT (aB rfl (aB rfl aL)) (yt EG (by decide) (hb _ (g.ws p hp).1) (g.bd hb hh p hp).2)))).trans ((cb (dO (tI (l:=.str "step"::.str s.nm::.str s.kd::(s.ws.map (pW "/")).map D.str) rfl ?_) (dO (fH (sJ (xs:=[s.nm,s.kd]) ((pM 1 3 (l:=.str "step"::.str s.nm::.str s.kd::(s.ws.map (pW "/")).map D.str) rfl (by decide) (by simp only[qh];omega)).trans rfl) (by simp) ?_)) (sK (n:=2) (l:=s.ws.map dW) rfl ?_)))).trans (bR (n4 (eh 1 (l:=.str "step"::.str s.nm::.str s.kd::(s.ws.map (pW "/")).map D.str) rfl rfl) (eh 2 (l:=.str "step"::.str s.nm::.str s.kd::(s.ws.map (pW "/")).map D.str) rfl rfl) rfl))))
 .simp only[qh];omega
 .intro x hx;have:x=s.nm\/x=s.kd:=by simpa using hx
  rcases this with rfl|rfl
  .exact g.nm
  .exact g.kd
 .intro x hx;obtain⟨p,hp,rfl⟩:=bP.mp hx;exact⟨vX (hb _ (g.ws p hp).1),_,rfl⟩
section
variable {bn:ab ai}
theorem CM {a b:af} (ha:0<=a/\a<=1000000) (hb:0<=b/\b<=1000000):∀x∈[a,b],0<=x/\x<=1000000:=fun x hx=>by
 have:x=a\/x=b:=by simpa using hx
 rcases this with rfl|rfl<;>assumption
theorem ML (b:bq):xL (.str (if b then "in" else "of")) (.tup [.str "in",.str "of"])=aa (.bl aq):=by cases b<;>kernel_rfl
theorem HD (b:bq):eqD (.str (if b then "in" else "of")) (.str "in")=aa (.bl b):=by cases b<;>kernel_rfl
theorem JO {j:JobT} (g:GoodJ sn h j) (hb:∀y∈sn,aY y=al) (hs:sn.length<=40) (hh:h<=1000000):tu [W (wJ j)]=aa (bo j):=by have hl:∀{ρ:aX},ρ[0]?=aa (oS (W (wJ j)))->ρ[0]?=aa (oS (.lst (.str "job"::.str j.nm::.str (tx j.ea)::.str (tx j.du)::.str (if j.od then "in" else "of")::j.ms.map D.str))):=fun e=>e;refine bH [oS (W (wJ j))] rfl ((cb (dO (tI (hl rfl) ?_) (dO (fH (xm (n:=1) (hl rfl) rfl g.nm)) (fH (xq (xs:=[j.ea,j.du]) ((pM 2 4 (hl rfl) (by decide) (by simp only[qh];omega)).trans rfl) (by simp) (CM (by have:=g.ea;omega) (by have:=g.du;omega))))))).trans ((cb (dO (bx (aC (eh 4 (hl rfl) rfl) (gW rfl rfl) (ML j.od))) (fH (sJ (xs:=j.ms) ((sr 5 (hl rfl)).trans rfl) (by have:=g.ln;omega) fun y hy=>hb y (g.ms y hy))))).trans (bR (yd (eh 1 (hl rfl) rfl) (mL (n:=2) (hl rfl) rfl (by have:=g.ea;omega) (by have:=g.ea;omega)) (mL (n:=3) (hl rfl) rfl (by have:=g.du;omega) (by have:=g.du;omega)) (aC (eh 4 (hl rfl) rfl) rfl (HD j.od)) ((sr 5 (hl rfl)).trans rfl)))));simp only[qh];omega
theorem Me {u:SetT} (g:GoodU bn h u) (hb:∀y∈bn,aY y=al) (hh:h<=1000000):sO [W ["setup",u.b,u.p,u.q,tx u.n]]=aa (cc u):=by
 have hl:∀{ρ:aX},ρ[0]?=aa (oS (W ["setup",u.b,u.p,u.q,tx u.n]))->ρ[0]?=aa (oS (.lst [.str "setup",.str u.b,.str u.p,.str u.q,.str (tx u.n)])):=fun e=>e;refine bH [oS (W ["setup",u.b,u.p,u.q,tx u.n])] rfl ((cb (dO (pi (hl rfl) rfl) (dO (fH (sJ (xs:=[u.b,u.p,u.q]) ((pM 1 4 (hl rfl) (by decide) (by simp)).trans rfl) (by simp) ?_)) (fH (wo (n:=4) (hl rfl) rfl (by have:=g.n;omega) (by have:=g.n;omega)))))).trans (bR (NH (eh 1 (hl rfl) rfl) (eh 2 (hl rfl) rfl) (eh 3 (hl rfl) rfl) (mL (n:=4) (hl rfl) rfl (by have:=g.n;omega) (by have:=g.n;omega)))));intro x hx;have:x=u.b\/x=u.p\/x=u.q:=by simpa using hx
 rcases this with rfl|rfl|rfl
 .exact hb _ g.b
 .exact g.p
 .exact g.q
theorem LB {l:LinkT} (g:GoodL sn h l) (hb:∀y∈sn,aY y=al) (hh:h<=1000000):uw [W ["link",l.a,l.b,tx l.g]]=aa (cu l):=by
 have hl:∀{ρ:aX},ρ[0]?=aa (oS (W ["link",l.a,l.b,tx l.g]))->ρ[0]?=aa (oS (.lst [.str "link",.str l.a,.str l.b,.str (tx l.g)])):=fun e=>e;refine bH [oS (W ["link",l.a,l.b,tx l.g])] rfl ((cb (dO (pi (hl rfl) rfl) (dO (fH (sJ (xs:=[l.a,l.b]) ((pM 1 3 (hl rfl) (by decide) (by simp)).trans rfl) (by simp) ?_)) (fH (wo (n:=3) (hl rfl) rfl (by have:=g.g;omega) (by have:=g.g;omega)))))).trans (bR (n4 (eh 1 (hl rfl) rfl) (eh 2 (hl rfl) rfl) (mL (n:=3) (hl rfl) rfl (by have:=g.g;omega) (by have:=g.g;omega)))));intro x hx;have:x=l.a\/x=l.b:=by simpa using hx
 rcases this with rfl|rfl
 .exact hb _ g.a
 .exact hb _ g.b
theorem mn:("-":ai)=⟨#[45]⟩:=by decide +kernel
theorem D3 (x:ai):kR (.str "-") (.str x)=aa (.bl (decide (45∈x.cps.toList))):=by show aa (D.bl (inS "-" x))=_;unfold inS;rw[mn,SV]
abbrev lB (x:ai):Prop:=45∈x.cps.toList
theorem OI {w:ai×af} :lB (pW "-" w):=by unfold lB pW;rw[o9,o9,pY.cps];simp
theorem Gy {w:ai×af} (hn:aY w.1=al) (h0:0<=w.2):¬lB (pW "+" w):=by unfold lB pW;rw[o9,o9,yq.cps];have h1:=CA (c0:=45) hn (by decide);have h2:=sQ (c0:=45) h0 (by decide);simp only[cL,bY,oE];exact⟨⟨h1,by decide⟩,h2⟩
noncomputable def wT:FT:=eT (toB (b2 ltD (vSh 1) (cF bT (ae (vSh 0) ak)))) (toB (b2 kR (vC (.str "-")) (b2 ixD (vSh 0) (vSh 1))))
noncomputable def wB':FS:=aH 1 (b2 aF (vSh 1) (vC (.int 1)))
theorem Be {p:ag} {a b:ao Slot} :toB (b2 ltD (vSh 1) (cF bT (ae (vSh 0) ak))) [oS (W ws),oS (.int p),a,b]=aa (decide (p<ws.length)):=by
 refine bx (aC (x:=.int p) rfl (aT (aB rfl aL) (nA _)) ?_);show aa (D.bl (decide ((p:af)<((ws.map D.str).length:af))))=_;rw[qe]
 congr 2
 by_cases h:p<ws.length
 .rw[qS h,qS (by omega)]
 .rw[qN h,qN (by omega)]
theorem LQ {p:ag} {a b:ao Slot} (h:∀x,ws[p]?=aa x->¬lB x):wT [oS (W ws),oS (.int p),a,b]=aa aq:=by
 unfold wT eT;rw[Be,qa];by_cases hp:p<ws.length
 .rw[qS hp];have:=h _ (qD hp);have e:toB (b2 kR (vC (.str "-")) (b2 ixD (vSh 0) (vSh 1))) [oS (W ws),oS (.int p),a,b]=aa aq:=by refine bx (aC (x:=.str "-") rfl (aC (x:=W ws) (y:=.int p) rfl rfl ((ixL _ p).trans (by rw[qj,qD hp];rfl))) ((D3 _).trans ?_));rw[qN this]
  simpa using e
 .rw[qN hp];rfl
theorem Mn {p:ag} {a b:ao Slot} (hx:ws[p]?=aa x) (h:lB x):wT [oS (W ws),oS (.int p),a,b]=aa al:=by
 unfold wT eT;have hp:p<ws.length:=(cR.mp hx).1;rw[Be,qa,qS hp];have e:toB (b2 kR (vC (.str "-")) (b2 ixD (vSh 0) (vSh 1))) [oS (W ws),oS (.int p),a,b]=aa al:=by refine bx (aC (x:=.str "-") rfl (aC (x:=W ws) (y:=.int p) rfl rfl ((ixL _ p).trans (by rw[qj,hx];rfl))) ((D3 _).trans ?_));rw[qS h]
 simpa using e
theorem NS {a b:ao Slot} (n:ag):∀(m p:ag),m<n->(∀i,p<=i->i<p+m->∃x,ws[i]?=aa x/\lB x)->(∀x,ws[p+m]?=aa x->¬lB x)->whL wT wB' n [oS (W ws),oS (.int p),a,b]=aa (.nx,[oS (W ws),oS (.int ((p+m:ag):af)),a,b]):=by
 induction n with
 |zero=>intro m p h;omega
 |succ n ih=>
  intro m p h h1 h2;unfold whL;cases m with
  |zero=>
   rw[LQ (p:=p) h2,qa,qZ qr];rfl
  |succ m=>
   obtain⟨x,hx,hm⟩:=h1 p (qv _) (by omega);rw[Mn hx hm,qa,qY rfl];have e:wB' [oS (W ws),oS (.int p),a,b]=aa (.nx,[oS (W ws),oS (.int ((p+1:ag):af)),a,b]):=rfl;rw[e,qa];show whL wT wB' n _=_;rw[ih m (p+1) (by omega) (fun i a b=>h1 i (by omega) (by omega)) (by rw[show p+1+m=p+(m+1) by omega];exact h2),show p+1+m=p+(m+1) by omega]
theorem N5 {k:StockT} (g:GoodK sn k) (hb:∀y∈sn,aY y=al) (hs:sn.length<=40):tF [W (wK k)]=aa (cC k):=by
 have lt:=g.tk.ln;have lp:=g.pt.ln;have ew:wK k=("stock":ai)::k.nm::tx k.lo::tx k.hi::(k.tk.map (pW "-")++k.pt.map (pW "+")):=by unfold wK;rw[qw];rfl
 have hl:∀{ρ:aX},ρ[0]?=aa (oS (W (wK k)))->ρ[0]?=aa (oS (.lst (.str "stock"::.str k.nm::.str (tx k.lo)::.str (tx k.hi)::(k.tk.map (pW "-")++k.pt.map (pW "+")).map D.str))):=fun e=>by rw[e,ew];rfl
 have lw:(wK k).length=4+k.tk.length+k.pt.length:=by rw[ew];simp;omega
 have at4:∀i,(wK k)[4+i]?=(k.tk.map (pW "-")++k.pt.map (pW "+"))[i]?:=fun i=>by rw[ew,show 4+i=i+1+1+1+1 by omega];rfl
 have w:=NS (ws:=wK k) (a:=ac) (b:=ac) 200 k.tk.length 4 (by omega) (fun i h1 h2=>by
  obtain⟨j,rfl⟩:∃j,i=4+j:=⟨i-4,by omega⟩;rw[at4,qz (by rw[qe];omega),qj,qD (by omega)];exact⟨_,rfl,OI⟩) (fun x hx=>by
  rw[at4,qK (by rw[qe];exact qv _),qe,SA,qj] at hx;obtain⟨w,hw,rfl⟩:=oMd hx;have:=g.pt.ws w (qP hw);exact Gy (hb _ this.1) (by omega))
 refine bH [oS (W (wK k)),ac,ac,ac] rfl ((cb (dO (tI (hl rfl) ?_) (dO (fH (xm (n:=1) (hl rfl) rfl g.nm)) (fH (xq (xs:=[k.lo,k.hi]) ((pM 2 4 (hl rfl) (by decide) (by simp only[qh];omega)).trans rfl) (by simp) (CM (by have:=g.lo;have:=g.hi;omega) (by have:=g.hi;omega))))))).trans ((bz (d:=.int 4) rfl).trans ((cZ w).trans ((bz (d:=.lst (k.tk.map dW)) (lH (r:=[]) (a:=ac) (xs:=k.tk) (dx:=fun p=>D.str (pW "-" p)) ((mP ((mM (l:=(wK k).map D.str) (lo:=aa ((4:ag):af)) (hi:=aa ((4+k.tk.length:ag):af)) rfl rfl rfl).trans (by rw[Cy _ (by omega) (by rw[qe];omega)]))).trans ?_) (by omega) rfl (fun p hp=>aT (aB rfl (aB rfl aL)) (yt pY (by decide) (hb _ (g.tk.ws p hp).1) (g.tk.bd hb p hp).2)))).trans ((bz (d:=.lst (k.pt.map dW)) (lH (r:=[]) (a:=ac) (xs:=k.pt) (dx:=fun p=>D.str (pW "+" p)) ((mP ((mM (l:=(wK k).map D.str) (lo:=aa ((4+k.tk.length:ag):af)) (hi:=ac) rfl rfl rfl).trans (by rw[wg]))).trans ?_) (by omega) rfl (fun p hp=>aT (aB rfl (aB rfl aL)) (yt yq (by decide) (hb _ (g.pt.ws p hp).1) (g.pt.bd hb p hp).2)))).trans ((cb (dO (sK (n:=2) (l:=k.tk.map dW) rfl ?_) (sK (n:=2) (l:=k.pt.map dW) rfl ?_))).trans (bR (yd (eh 1 (hl rfl) rfl) (mL (n:=2) (hl rfl) rfl (by have:=g.lo;omega) (by have:=g.lo;have:=g.hi;omega)) (mL (n:=3) (hl rfl) rfl (by have:=g.hi;omega) (by have:=g.hi;omega)) rfl rfl))))))))
 .simp only[qh];omega
 .rw[ew]
  congr 1
  show((k.tk.map (pW "-")++k.pt.map (pW "+")).map D.str).take (4+k.tk.length-4)=_;rw[dZ,List.take_append_of_le_length (by simp),km (by simp)];simp[oJ]
 .rw[ew]
  congr 1
  rw[show 4+k.tk.length=k.tk.length+1+1+1+1 by omega];show((k.tk.map (pW "-")++k.pt.map (pW "+")).map D.str).drop k.tk.length=_;rw[dZ,List.drop_append_of_le_length (by simp),Ga (by simp)];simp[oJ]
 .intro x hx;obtain⟨p,hp,rfl⟩:=bP.mp hx;exact⟨vX (hb _ (g.tk.ws p hp).1),_,rfl⟩
 .intro x hx;obtain⟨p,hp,rfl⟩:=bP.mp hx;exact⟨vX (hb _ (g.pt.ws p hp).1),_,rfl⟩
end
inductive Th where
 |ho|be (b:BenchT)|st (s:StepT)|jo (j:JobT)|se (u:SetT)|li (l:LinkT)|sk (k:StockT)
noncomputable def cA (bs:ab BenchT) (ss:ab StepT) (js:ab JobT) (us:ab SetT) (ls:ab LinkT) (ks:ab StockT):ab Th:=[Th.ho]++bs.map .be++ss.map .st++js.map .jo++us.map .se++ls.map .li++ks.map .sk
noncomputable def wds (h:af):Th->ab ai
 |.ho=>["horizon",tx h]
 |.be b=>wB b
 |.st s=>wS s
 |.jo j=>wJ j
 |.se u=>["setup",u.b,u.p,u.q,tx u.n]
 |.li l=>["link",l.a,l.b,tx l.g]
 |.sk k=>wK k
noncomputable def row (h:af) (t:Th):ai:=dY " " (wds h t)
noncomputable def dTh (h:af):Th->D
 |.ho=>.int h
 |.be b=>bU b
 |.st s=>bf s
 |.jo j=>bo j
 |.se u=>cc u
 |.li l=>cu l
 |.sk k=>cC k
noncomputable def kx:Th->ag
 |.ho=>0|.be _=>1|.st _=>2|.jo _=>3|.se _=>4|.li _=>5|.sk _=>6
noncomputable def eN:ab ai:=["horizon","bench","step","job","setup","link","stock"]
noncomputable def kw (t:Th):ai:=eN.getD (kx t) ""
theorem yi (h:af) (t:Th):∃r,wds h t=kw t::r:=by cases t<;>exact⟨_,rfl⟩
theorem kx7 (t:Th):kx t<7:=by cases t<;>simp[kx]
theorem Ap (t:Th):kix eN (kw t)=aa (kx t):=(show ∀n,n<7->kix eN (eN.getD n "")=aa n by decide +kernel) _ (kx7 t)
theorem Qc (s a b:ai):dY s [a,b]=a++s++b:=by show zK s _=_;rw[oI];rfl
theorem Ha (l:LinkT):dY " " ["link",l.a,l.b,tx l.g]=rL l:=by
 show zK " " _=_;rw[oI];show("link":ai)++" "++(l.a++" "++(l.b++" "++tx l.g))=_;have e:("link ":ai)="link"++" ":=by decide +kernel
 unfold rL;rw[e];simp only[SN]
theorem Qg (bs:ab BenchT) (ss:ab StepT) (js:ab JobT) (us:ab SetT) (ls:ab LinkT) (ks:ab StockT) (h:af):pK bs ss js us ls ks h=(cA bs ss js us ls ks).map (row h):=by
 have e:("horizon ":ai)++tx h=row h .ho:=by show _=dY " " [("horizon":ai),tx h];rw[Qc,show("horizon ":ai)="horizon"++" " by decide +kernel]
 have e1:us.map rU=us.map fun u=>row h (.se u):=oH fun u _=>(zM u).symm;have e2:ls.map rL=ls.map fun l=>row h (.li l):=oH fun l _=>(Ha l).symm;unfold pK cA;rw[e1,e2,e];simp only[dZ,qo,qm,qO,oJ];rfl
noncomputable def Wc (x:ai):Prop:=∀c∈x.cps.toList,43<=c/\c<=122
theorem iD (h:aY x=al):Wc x:=fun c hc=>by have:=Dy h c hc;omega
theorem jR {i:af} (h:0<=i):Wc (tx i):=fun c hc=>by have:=AY h c hc;omega
theorem tG {a b:ai} (ha:Wc a) (hb:Wc b):Wc (a++b):=fun c hc=>by
 rw[o9] at hc;rcases cL.mp hc with h|h
 .exact ha c h
 .exact hb c h
theorem Dq {s:ai} (h:Sg s c0) (hc:43<=c0/\c0<=122):Wc s:=fun c hcc=>by rw[h.cps] at hcc;rw[bY.mp hcc];exact hc
theorem mT (t:Th):Wc (kw t):=by
 have h:∀x∈eN,∀c∈x.cps.toList,43<=c/\c<=122:=by decide +kernel
 cases t<;>exact h _ (by simp[kw,kx,eN])
theorem Qa (b:bq):Wc (if b then "in" else "of"):=by
 have h:∀x∈([("in":ai),"of"]:ab ai),∀c∈x.cps.toList,43<=c/\c<=122:=by decide +kernel
 cases b
 .exact h "of" (by simp)
 .exact h "in" (by simp)
theorem v7 {s:ai} {w:ai×af} (hs:Sg s c0) (hc:43<=c0/\c0<=122) (hn:aY w.1=al) (h0:0<=w.2):Wc (pW s w):=tG (tG (iD hn) (Dq hs hc)) (jR h0)
theorem Mb {p:af×af} (h:0<=p.1/\0<=p.2):Wc (pI p):=tG (tG (jR h.1) (Dq pY (by decide))) (jR h.2)
variable {ss:ab StepT} {js:ab JobT} {us:ab SetT} {ls:ab LinkT} {ks:ab StockT}
section
variable {bs:ab BenchT}
theorem Good.hb (g:Good bs ss js us ls ks h):∀y∈bs.map (·.nm),aY y=al:=fun y hy=>by obtain⟨b,hb,rfl⟩:=bP.mp hy;exact(g.b b hb).nm
theorem Good.hs (g:Good bs ss js us ls ks h):∀y∈ss.map (·.nm),aY y=al:=fun y hy=>by obtain⟨b,hb,rfl⟩:=bP.mp hy;exact(g.s b hb).nm
structure TOk (h:af) (t:Th):Prop where
 rd:iY [W (wds h t)]=aa (dTh h t)
 wc:∀x∈wds h t,Wc x
 wl:(∀y∈wds h t,y.length<=60)/\(wds h t).length<=100
theorem mh {k:ai} {F:FQ} {E:FS} (hk:ws[0]?=aa k) (h:F [W ws]=aa d) :
  ax (sIf (toB (b2 eqD (b2 ixD (vSh 0) (vC (.int 0))) (vC (.str k)))) (aK (cF F (ae (vSh 0) ak))) aU) E [oS (W ws)]=aa (.rt d,[oS (W ws)]):=by
 refine rj (bx (aC (x:=.str k) (y:=.str k) (aC (x:=W ws) (y:=.int 0) rfl rfl ((ixL _ 0).trans (by rw[qj,hk];rfl))) rfl ?_)) (bR (aT (aB rfl aL) h));show aa (D.bl (decide (k=k)))=_;rw[qS rfl]
theorem eB {k k':ai} {X E:FS} (hk:ws[0]?=aa k') (hn:k'≠k) :
  ax (sIf (toB (b2 eqD (b2 ixD (vSh 0) (vC (.int 0))) (vC (.str k)))) X aU) E [oS (W ws)]=E [oS (W ws)]:=by
 refine cb (bx (aC (x:=.str k') (y:=.str k) (aC (x:=W ws) (y:=.int 0) rfl rfl ((ixL _ 0).trans (by rw[qj,hk];rfl))) rfl ?_));show aa (D.bl (decide (k'=k)))=_;rw[qN hn]
theorem M6 (hk:ws[0]?=aa ("horizon":ai)) (h:su [W ws]=aa d):iY [W ws]=aa d:=bH [oS (W ws)] rfl (mh hk h)
theorem NE (hk:ws[0]?=aa ("bench":ai)) (h:uA [W ws]=aa d):iY [W ws]=aa d:=bH [oS (W ws)] rfl ((eB hk (by decide +kernel)).trans (mh hk h))
theorem MH (hk:ws[0]?=aa ("step":ai)) (h:sA [W ws]=aa d):iY [W ws]=aa d:=bH [oS (W ws)] rfl ((eB hk (by decide +kernel)).trans ((eB hk (by decide +kernel)).trans (mh hk h)))
theorem M' (hk:ws[0]?=aa ("job":ai)) (h:tu [W ws]=aa d):iY [W ws]=aa d:=bH [oS (W ws)] rfl ((eB hk (by decide +kernel)).trans ((eB hk (by decide +kernel)).trans ((eB hk (by decide +kernel)).trans (mh hk h))))
theorem Mc (hk:ws[0]?=aa ("setup":ai)) (h:sO [W ws]=aa d):iY [W ws]=aa d:=bH [oS (W ws)] rfl ((eB hk (by decide +kernel)).trans ((eB hk (by decide +kernel)).trans ((eB hk (by decide +kernel)).trans ((eB hk (by decide +kernel)).trans (mh hk h)))))
theorem IE (hk:ws[0]?=aa ("link":ai)) (h:uw [W ws]=aa d):iY [W ws]=aa d:=bH [oS (W ws)] rfl ((eB hk (by decide +kernel)).trans ((eB hk (by decide +kernel)).trans ((eB hk (by decide +kernel)).trans ((eB hk (by decide +kernel)).trans ((eB hk (by decide +kernel)).trans (mh hk h))))))
theorem MO (hk:ws[0]?=aa ("stock":ai)) (h:tF [W ws]=aa d):iY [W ws]=aa d:=bH [oS (W ws)] rfl ((eB hk (by decide +kernel)).trans ((eB hk (by decide +kernel)).trans ((eB hk (by decide +kernel)).trans ((eB hk (by decide +kernel)).trans ((eB hk (by decide +kernel)).trans ((eB hk (by decide +kernel)).trans (mh hk h)))))))
end
variable {L:ab Th}
section
variable {bs:ab BenchT}
theorem Hf (h0:0<=h) (h1:h<=1000000):TOk h .ho:=by
 refine⟨M6 rfl (IR h0 h1),fun x hx=>?_,fun x hx=>?_,by simp[wds]⟩
 .have:x=("horizon":ai)\/x=tx h:=by simpa[wds] using hx
  rcases this with rfl|rfl
  .exact mT .ho
  .exact jR h0
 .have:x=("horizon":ai)\/x=tx h:=by simpa[wds] using hx
  rcases this with rfl|rfl
  .decide +kernel
  .have:=oQ h0 h1;omega
theorem Nr {b:BenchT} (g:GoodB h b) (hh:h<=1000000):TOk h (.be b):=by
 refine⟨NE rfl (LA g hh),fun x hx=>?_,Al g hh⟩;rcases cL.mp hx with hx|hx
 .have:x=("bench":ai)\/x=b.nm:=by simpa using hx
  rcases this with rfl|rfl
  .exact mT (.be b)
  .exact iD g.nm
 .obtain⟨p,hp,rfl⟩:=bP.mp hx;have:=g.bd hh p hp;exact Mb ⟨this.1,this.2.2.1⟩
theorem LU {bn:ab ai} {s:StepT} (g:GoodS bn h s) (hb:∀y∈bn,aY y=al) (hh:h<=1000000):TOk h (.st s):=by
 refine⟨MH rfl (Hs g hb hh),fun x hx=>?_,Bx g hb hh⟩;rcases cL.mp hx with hx|hx
 .have:x=("step":ai)\/x=s.nm\/x=s.kd:=by simpa using hx
  rcases this with rfl|rfl|rfl
  .exact mT (.st s)
  .exact iD g.nm
  .exact iD g.kd
 .obtain⟨p,hp,rfl⟩:=bP.mp hx;exact v7 EG (by decide) (hb _ (g.ws p hp).1) (g.bd hb hh p hp).2.1
theorem QP {j:JobT} (g:GoodJ sn h j) (hb:∀y∈sn,aY y=al) (hs:sn.length<=40) (hh:h<=1000000):TOk h (.jo j):=by
 refine⟨M' rfl (JO g hb hs hh),fun x hx=>?_,z5 g hb hs hh⟩;rcases cL.mp hx with hx|hx
 .have:x=("job":ai)\/x=j.nm\/x=tx j.ea\/x=tx j.du\/x=(if j.od then ("in":ai) else "of"):=by simpa using hx
  rcases this with rfl|rfl|rfl|rfl|rfl
  .exact mT (.jo j)
  .exact iD g.nm
  .exact jR g.ea.1
  .exact jR g.du.1
  .exact Qa j.od
 .exact iD (hb x (g.ms x hx))
theorem KO {bn:ab ai} {u:SetT} (g:GoodU bn h u) (hb:∀y∈bn,aY y=al) (hh:h<=1000000):TOk h (.se u):=by
 have n0:0<=u.n:=by have:=g.n;omega
 have n1:u.n<=1000000:=by have:=g.n;omega
 refine⟨Mc rfl (Me g hb hh),fun x hx=>?_,fun x hx=>?_,by simp[wds]⟩
 .have:x=("setup":ai)\/x=u.b\/x=u.p\/x=u.q\/x=tx u.n:=by simpa[wds] using hx
  rcases this with rfl|rfl|rfl|rfl|rfl
  .exact mT (.se u)
  .exact iD (hb _ g.b)
  .exact iD g.p
  .exact iD g.q
  .exact jR n0
 .have:x=("setup":ai)\/x=u.b\/x=u.p\/x=u.q\/x=tx u.n:=by simpa[wds] using hx
  rcases this with rfl|rfl|rfl|rfl|rfl
  .decide +kernel
  .have:=eD (hb _ g.b);omega
  .have:=eD g.p;omega
  .have:=eD g.q;omega
  .have:=oQ n0 n1;omega
theorem NV {l:LinkT} (g:GoodL sn h l) (hb:∀y∈sn,aY y=al) (hh:h<=1000000):TOk h (.li l):=by
 have n1:l.g<=1000000:=by have:=g.g;omega
 refine⟨IE rfl (LB g hb hh),fun x hx=>?_,fun x hx=>?_,by simp[wds]⟩
 .have:x=("link":ai)\/x=l.a\/x=l.b\/x=tx l.g:=by simpa[wds] using hx
  rcases this with rfl|rfl|rfl|rfl
  .exact mT (.li l)
  .exact iD (hb _ g.a)
  .exact iD (hb _ g.b)
  .exact jR g.g.1
 .have:x=("link":ai)\/x=l.a\/x=l.b\/x=tx l.g:=by simpa[wds] using hx
  rcases this with rfl|rfl|rfl|rfl
  .decide +kernel
  .have:=eD (hb _ g.a);omega
  .have:=eD (hb _ g.b);omega
  .have:=oQ g.g.1 n1;omega
theorem GH {k:StockT} (g:GoodK sn k) (hb:∀y∈sn,aY y=al) (hs:sn.length<=40):TOk h (.sk k):=by
 refine⟨MO (by unfold wds wK;rfl) (N5 g hb hs),fun x hx=>?_,Cj g hb hs⟩;rcases cL.mp hx with hx|hx
 .rcases cL.mp hx with hx|hx
  .have:x=("stock":ai)\/x=k.nm\/x=tx k.lo\/x=tx k.hi:=by simpa using hx
   rcases this with rfl|rfl|rfl|rfl
   .exact mT (.sk k)
   .exact iD g.nm
   .exact jR g.lo.1
   .exact jR g.hi.1
  .obtain⟨p,hp,rfl⟩:=bP.mp hx;exact v7 pY (by decide) (hb _ (g.tk.ws p hp).1) (g.tk.bd hb p hp).2.1
 .obtain⟨p,hp,rfl⟩:=bP.mp hx;exact v7 yq (by decide) (hb _ (g.pt.ws p hp).1) (g.pt.bd hb p hp).2.1
theorem vM (g:Good bs ss js us ls ks h):∀t∈cA bs ss js us ls ks,TOk h t:=by
 have hh:=g.hh;have sl:(ss.map (·.nm)).length<=40:=by rw[qe];exact g.sl.2
 intro t ht;unfold cA at ht;simp only[cL,bP,bY] at ht;rcases ht with(((((rfl|⟨b,hb,rfl⟩)|⟨b,hb,rfl⟩)|⟨b,hb,rfl⟩)|⟨b,hb,rfl⟩)|⟨b,hb,rfl⟩)|⟨b,hb,rfl⟩
 .exact Hf (by omega) hh.2
 .exact Nr (g.b b hb) hh.2
 .exact LU (g.s b hb) g.hb hh.2
 .exact QP (g.j b hb) g.hs sl hh.2
 .exact KO (g.u b hb) g.hb hh.2
 .exact NV (g.l b hb) g.hs hh.2
 .exact GH (g.k b hb) g.hs sl
theorem Bq {s:ai} {c:ag}:∀{ws:ab ai},c∈(iz s ws).cps.toList->c∈s.cps.toList\/∃w∈ws,c∈w.cps.toList
 |[],hc=>by
  have e:(iz s []).cps.toList=[]:=by show(yL).cps.toList=[];decide +kernel
  rw[e] at hc;cases hc
 |[w],hc=>.inr ⟨w,qf,hc⟩
 |p::q::r,hc=>by
  rw[Cu] at hc;rcases cL.mp hc with hc|hc
  .exact .inr ⟨p,qf,hc⟩
  .rcases cL.mp hc with hc|hc
   .exact .inl hc
   .rcases Bq hc with hc|⟨w,hw,hc⟩
    .exact .inl hc
    .exact .inr ⟨w,qg _ hw,hc⟩
theorem TOk.split {t:Th} (g:TOk h t):ix (row h t) " "=wds h t:=by obtain⟨r,hr⟩:=yi h t;have wc:=g.wc;unfold row;rw[hr] at wc ⊢;exact xy uh.cps uh.kd _ _ fun q hq z=>by have:=wc q hq 32 z;omega
theorem TOk.no10 {t:Th} (g:TOk h t):10∉(row h t).cps.toList:=fun z=>by
 have e:row h t=iz " " (wds h t):=oI _ _;rw[e] at z;rcases Bq z with hc|⟨w,hw,hc⟩
 .rw[uh.cps] at hc;simp at hc
 .have:=g.wc w hw 10 hc;omega
theorem TOk.len {t:Th} (g:TOk h t):(row h t).length<=6100:=by have e:row h t=iz " " (wds h t):=oI _ _;rw[e];have:=wN " " 60 (wds h t) g.wl.1;have l2:=g.wl.2;rw[uh.len] at this;have:(wds h t).length*61<=100*61:=SX _ l2;omega
theorem Iu (hl:∀t∈L,TOk h t) (hne:L≠[]):ix (dY "\n" (L.map (row h))) "\n"=L.map (row h):=by
 cases L with
 |nil=>exact bN rfl hne
 |cons t L=>
  rw[qm];refine xy wM.cps wM.kd _ _ fun q hq=>?_;rw[←qm] at hq;obtain⟨t',ht,rfl⟩:=bP.mp hq;exact(hl t' ht).no10
theorem NX (hl:∀t∈L,TOk h t) (hn:L.length<=110):(dY "\n" (L.map (row h))).length<=1000000:=by
 have e:dY "\n" (L.map (row h))=iz "\n" (L.map (row h)):=oI _ _;rw[e];have:=wN "\n" 6100 (L.map (row h)) fun y hy=>by obtain⟨t,ht,rfl⟩:=bP.mp hy;exact(hl t ht).len
 rw[wM.len,qe] at this;have:L.length*6101<=110*6101:=SX _ hn;omega
end
noncomputable def cls (h:af) (i:ag) (L:ab Th):ab D:=(L.filter fun t=>kx t==i).map (dTh h)
noncomputable def fW (h:af) (L:ab Th):ab (ab D):=(bj 7).map fun i=>cls h i L
theorem oO (L:ab Th) (hi:i<7):(fW h L)[i]?=aa (cls h i L):=by unfold fW;rw[qj,kq hi];rfl
theorem wu (i:ag) (L:ab Th) (t:Th):cls h i (L++[t])=if kx t=i then cls h i L++[dTh h t] else cls h i L:=by
 unfold cls;rw[Gb,dZ];by_cases hk:kx t=i
 .rw[qY hk,Gc (by simpa using hk)];rfl
 .rw[qZ hk,SY (by simpa using hk)];simp
theorem Ol (L:ab Th) (t:Th):(fW h L).set (kx t) (cls h (kx t) L++[dTh h t])=fW h (L++[t]):=by
 apply Fs;intro i;by_cases hi:i<7
 .rw[oO _ hi,wu];by_cases hk:kx t=i
  .rw[qY hk,←hk,mX (by unfold fW;rw[qe,qU];exact kx7 t)]
  .rw[qZ hk,qy hk,oO _ hi]
 .have l1:(fW h L).length=7:=by simp[fW]
  have l2:(fW h (L++[t])).length=7:=by simp[fW]
  rw[lh (by rw[vj];omega),lh (by omega)]
theorem AU:∀{ks:ab ai} {ds:ab D} {k:ai} {j:ag} {d:D},kix ks k=aa j->ds[j]?=aa d->lI (lL ks ds) (cK k)=aa d
 |[],_,_,_,_,h,_=>by cases h
 |_::_,[],_,_,_,_,h=>by simp at h
 |x::ks,e::ds,k,j,d,h,hd=>by
  unfold kix at h;split at h
  .rename_i hx;cases h;cases hd;show(zG _ ((cK x,e)::lL ks ds)).map _=_;rw[So (by simp[hx])];rfl
  .rename_i hx;obtain⟨j',h1,rfl⟩:=oMd h;have:=AU (ks:=ks) (ds:=ds) h1 (by simpa using hd);show(zG _ ((cK x,e)::lL ks ds)).map _=_;rw[Sq (by simpa using hx)];exact this
theorem zW {k:ai} (h:kix eN k=aa j) (hd:dss[j]?=aa ds):gQ (dlD eN dss) (.str k)=aa (.lst ds):=by show((aa (cK k):ao Key).map fun kk=>lI (lL eN (dss.map D.lst)) kk).bind id=_;rw[qd,qa,id,AU h (by rw[qj,hd];rfl)]
noncomputable def rdT:FT:=orT (toB (b2 isD (vSh 6) (vC .non))) (eT (toB (b2 eqD (b2 ixD (vSh 5) (vC (.int 0))) (vC (.str "horizon")))) (toB (b2 gtD (cF bT (ae (b2 gQ (vSh 2) (vC (.str "horizon"))) ak)) (vC (.int 0)))))
noncomputable def wq:FS:=ax (aH 5 (mF kO (vSh 4) (ae (vC (.str " ")) ak))) (ax (aH 6 (cF iY (ae (vSh 5) ak))) (ax (sIf (oX 2 rdT) sNo aU) (nV 2 (b2 ixD (vSh 5) (vC (.int 0))) (vSh 6))))
noncomputable def rdG:FG:=cD 2 (aN (ay 3) (aN (ay 4) cr))
abbrev rdE (T R:D) (L:ab Th) (h:af) (a b c d:ao Slot):aX:=[oS T,oS R,aa (.odl eN (fW h L)),a,b,c,d]
theorem kw0 {t:Th} (hk:kx t≠0):kw t≠"horizon":=fun e=>hk (by have:=Ap t;rw[e] at this;exact(qH (this.symm.trans (show kix eN "horizon"=aa 0 by decide +kernel))))
theorem Iy {T R:D} {t:Th} {a b:ao Slot} (hno:kx t=0->cls h 0 L=[]):oX 2 rdT (rdE T R L h a b (oS (W (wds h t))) (oS (dTh h t)))=aa aq:=by
 obtain⟨r,hr⟩:=yi h t;show rdT [oS T,oS R,oS (dlD eN (fW h L)),a,b,oS (W (wds h t)),oS (dTh h t)]=aa aq;refine dO (bx (aC (x:=dTh h t) (y:=.non) rfl rfl ?_)) ?_
 .show aa (D.bl (my (dTh h t)))=_;cases t<;>rfl
 .unfold eT;have e:toB (b2 eqD (b2 ixD (vSh 5) (vC (.int 0))) (vC (.str "horizon"))) [oS T,oS R,oS (dlD eN (fW h L)),a,b,oS (W (wds h t)),oS (dTh h t)]=aa (decide (kw t="horizon")):=
   bx (aC (x:=.str (kw t)) (y:=.str "horizon") (aC (x:=W (wds h t)) (y:=.int 0) rfl rfl ((ixL _ 0).trans (by rw[hr];rfl))) rfl rfl)
  rw[e,qa];by_cases hk:kx t=0
  .split
   .refine bx (aC (aT (aB (aC (x:=dlD eN (fW h L)) (y:=.str "horizon") rfl rfl (zW (j:=0) (by decide +kernel) ((oO L (by decide)).trans (by rw[hno hk])))) aL) (nA [])) rfl ?_);rfl
   .rfl
  .rw[qN (kw0 hk),qZ qr]
theorem NQ {T R:D} {t:Th} {c d:ao Slot} (g:TOk h t) (hl:L.length<=200) (hno:kx t=0->cls h 0 L=[]) :
  wq (rdE T R L h (oS (.int n)) (oS (.str (row h t))) c d)=aa (.nx,rdE T R (L++[t]) h (oS (.int n)) (oS (.str (row h t))) (oS (W (wds h t))) (oS (dTh h t))):=by
 obtain⟨r,hr⟩:=yi h t;refine(bz (d:=W (wds h t)) (oV (d:=.str (row h t)) (ds:=[.str " "]) rfl rfl ((sG (by decide +kernel) (by have:=g.len;omega)).trans (by rw[g.split])))).trans ((bz (d:=dTh h t) (aT (aB rfl aL) g.rd)).trans ((cb (Iy (a:=oS (.int n)) (b:=oS (.str (row h t))) hno)).trans ?_));have hw:b2 ixD (vSh 5) (vC (.int 0)) (rdE T R L h (oS (.int n)) (oS (.str (row h t))) (oS (W (wds h t))) (oS (dTh h t)))=aa (.str (kw t)):=aC (x:=W (wds h t)) (y:=.int 0) rfl rfl ((ixL _ 0).trans (by rw[hr];rfl));show nV 2 (b2 ixD (vSh 5) (vC (.int 0))) (vSh 6) (rdE T R L h (oS (.int n)) (oS (.str (row h t))) (oS (W (wds h t))) (oS (dTh h t)))=_;unfold nV;show((b2 ixD (vSh 5) (vC (.int 0)) (rdE T R L h (oS (.int n)) (oS (.str (row h t))) (oS (W (wds h t))) (oS (dTh h t)))).bind fun k=>_)=_;rw[hw,qa];show((kix eN (kw t)).bind fun j=>_)=_;rw[Ap,qa];have hc:(cls h (kx t) L).length<aM:=by
  have:(cls h (kx t) L).length<=L.length:=by unfold cls;rw[qe];exact SZ _ _
  have:=fE;omega
 simp only[oO L (kx7 t),qY hc,Ol];rfl
theorem LK {T R:D} (hl:∀t∈L,TOk h t) (hn:L.length<=110) (h1:∀(i:ag) t,L[i]?=aa t->kx t=0->cls h 0 (L.take i)=[]) :
  ∃a b c d,dD rdG wq (((L.map (row h)).map D.str).mapIdx fun i d=>D.tup [.int i,d]) (rdE T R [] h ac ac ac ac)=aa (.nx,rdE T R L h a b c d):=by
 have:=fg (gg:=rdG) (body:=wq) (xs:=((L.map (row h)).map D.str).mapIdx fun i d=>D.tup [.int i,d]) (ρ:=rdE T R [] h ac ac ac ac) (fun i ρ=>∃a b c d,ρ=rdE T R (L.take i) h a b c d) ⟨ac,ac,ac,ac,rfl⟩ (fun i x ρ hx hI=>by
  obtain⟨a,b,c,d,rfl⟩:=hI;rw[zn] at hx;obtain⟨y,hy,rfl⟩:=oMd hx;rw[qj,qj] at hy;obtain⟨z,hz,rfl⟩:=oMd hy;obtain⟨t,ht,rfl⟩:=oMd hz;refine⟨_,_,rfl,NQ (n:=i) (hl t (qP ht)) (by rw[qE];omega) (h1 i t ht),?_⟩;have:L.take (i+1)=L.take i++[t]:=by rw[lj,ht];rfl
  exact⟨_,_,_,_,by rw[this]⟩)
 obtain⟨ρ',e1,a,b,c,d,rfl⟩:=this;rw[oz,qe,qe,km (qv _)] at e1;exact⟨a,b,c,d,e1⟩
noncomputable def im (L:ab Th):ab BenchT:=L.filterMap fun t=>match t with|.be b=>aa b|_=>ac
noncomputable def ip (L:ab Th):ab StepT:=L.filterMap fun t=>match t with|.st b=>aa b|_=>ac
noncomputable def gv (L:ab Th):ab JobT:=L.filterMap fun t=>match t with|.jo b=>aa b|_=>ac
noncomputable def gZ (L:ab Th):ab SetT:=L.filterMap fun t=>match t with|.se b=>aa b|_=>ac
noncomputable def ic (L:ab Th):ab LinkT:=L.filterMap fun t=>match t with|.li b=>aa b|_=>ac
noncomputable def gY (L:ab Th):ab StockT:=L.filterMap fun t=>match t with|.sk b=>aa b|_=>ac
section
variable {bs bs':ab BenchT} {ss':ab StepT} {js':ab JobT} {us':ab SetT} {ls':ab LinkT} {ks':ab StockT}
theorem mq {α:Type} {f:Th->ao α} {d:α->D} {i:ag} (hf:∀t,kx t=i->∃x,f t=aa x/\dTh h t=d x) (hn:∀t,kx t≠i->f t=ac):∀L:ab Th,cls h i L=(L.filterMap f).map d
 |[]=>rfl
 |t::L=>by
  have ih:=mq hf hn L;unfold cls at ih ⊢;by_cases hk:kx t=i
  .obtain⟨x,h1,h2⟩:=hf t hk;rw[Gc (by simpa using hk),nt h1,qm,qm,ih,h2]
  .rw[SY (by simpa using hk),Gd (hn t hk),ih]
theorem Ae (L:ab Th):cls h 1 L=(im L).map bU:=mq (fun t ht=>by cases t<;>first|exact⟨_,rfl,rfl⟩|(simp[kx] at ht)) (fun t ht=>by cases t<;>first|rfl|(simp[kx] at ht)) L
theorem wf (L:ab Th):cls h 2 L=(ip L).map bf:=mq (fun t ht=>by cases t<;>first|exact⟨_,rfl,rfl⟩|(simp[kx] at ht)) (fun t ht=>by cases t<;>first|rfl|(simp[kx] at ht)) L
theorem BK (L:ab Th):cls h 3 L=(gv L).map bo:=mq (fun t ht=>by cases t<;>first|exact⟨_,rfl,rfl⟩|(simp[kx] at ht)) (fun t ht=>by cases t<;>first|rfl|(simp[kx] at ht)) L
theorem Cs (L:ab Th):cls h 4 L=(gZ L).map cc:=mq (fun t ht=>by cases t<;>first|exact⟨_,rfl,rfl⟩|(simp[kx] at ht)) (fun t ht=>by cases t<;>first|rfl|(simp[kx] at ht)) L
theorem AD (L:ab Th):cls h 5 L=(ic L).map cu:=mq (fun t ht=>by cases t<;>first|exact⟨_,rfl,rfl⟩|(simp[kx] at ht)) (fun t ht=>by cases t<;>first|rfl|(simp[kx] at ht)) L
theorem BV (L:ab Th):cls h 6 L=(gY L).map cC:=mq (fun t ht=>by cases t<;>first|exact⟨_,rfl,rfl⟩|(simp[kx] at ht)) (fun t ht=>by cases t<;>first|rfl|(simp[kx] at ht)) L
theorem NY (f:β->ao γ) (c:α->β) (xs:ab α):(xs.map c).filterMap f=xs.filterMap fun x=>f (c x):=by rw[E7];rfl
theorem Kn (xs:ab α):(xs.filterMap fun _=>(ac:ao γ))=[]:=by induction xs with|nil=>rfl|cons x r ih=>rw[Gd rfl,ih]
theorem Qi (xs:ab α):(xs.filterMap fun x=>aa x)=xs:=by induction xs with|nil=>rfl|cons x r ih=>rw[nt rfl,ih]
theorem CN:im (cA bs ss js us ls ks)=bs/\ip (cA bs ss js us ls ks)=ss/\gv (cA bs ss js us ls ks)=js/\gZ (cA bs ss js us ls ks)=us/\ic (cA bs ss js us ls ks)=ls/\gY (cA bs ss js us ls ks)=ks:=by
 refine⟨?_,?_,?_,?_,?_,?_⟩
 all_goals
  first|unfold im|unfold ip|unfold gv|unfold gZ|unfold ic|unfold gY
  unfold cA;simp only[S0,NY,Kn,Qi,iR,qR,Gd,List.filterMap_nil]
theorem Good.perm (g:Good bs ss js us ls ks h) (pb:bs'.Perm bs) (ps:ss'.Perm ss) (pj:js'.Perm js) (pu:us'.Perm us) (pl:ls'.Perm ls) (pk:ks'.Perm ks):Good bs' ss' js' us' ls' ks' h:=by
 have mb:∀{x},x∈bs.map (·.nm)->x∈bs'.map (·.nm):=fun hx=>(pb.map _).mem_iff.mpr hx;have ms:∀{x},x∈ss.map (·.nm)->x∈ss'.map (·.nm):=fun hx=>(ps.map _).mem_iff.mpr hx;have ls':(ss.map (·.nm)).length=(ss'.map (·.nm)).length:=(ps.map (·.nm)).length_eq.symm;have ga:∀{am},GoodA (ss.map (·.nm)) am->GoodA (ss'.map (·.nm)) am:=fun a=>⟨by rw[←ls'];exact a.ln,fun w hw=>⟨ms (a.ws w hw).1,(a.ws w hw).2⟩,a.nd⟩;exact⟨g.hh,by rw[pb.length_eq];exact g.bl,fun x hx=>g.b x (pb.mem_iff.mp hx),(pb.map _).nodup_iff.mpr g.bn,
  by rw[ps.length_eq];exact g.sl,fun x hx=>by have:=g.s x (ps.mem_iff.mp hx);exact⟨this.nm,this.kd,this.l1,this.l4,fun w hw=>⟨mb (this.ws w hw).1,(this.ws w hw).2⟩,this.nd⟩,(ps.map _).nodup_iff.mpr g.sn,
  by rw[pj.length_eq];exact g.jl,fun x hx=>by have:=g.j x (pj.mem_iff.mp hx);exact⟨this.nm,this.ea,this.du,this.l1,by rw[←ls'];exact this.ln,fun m hm=>ms (this.ms m hm)⟩,(pj.map _).nodup_iff.mpr g.jn,(pj.flatMap_right _).nodup_iff.mpr g.jm,
  by rw[pu.length_eq];exact g.ul,fun x hx=>by have:=g.u x (pu.mem_iff.mp hx);exact⟨mb this.b,this.p,this.q,this.n⟩,(pu.map _).nodup_iff.mpr g.un,
  by rw[pl.length_eq];exact g.ll,fun x hx=>by have:=g.l x (pl.mem_iff.mp hx);exact⟨ms this.a,ms this.b,this.ne,this.g⟩,(pl.map _).nodup_iff.mpr g.ln,
  by rw[pk.length_eq];exact g.kl,fun x hx=>by have:=g.k x (pk.mem_iff.mp hx);exact⟨this.nm,this.lo,this.hi,ga this.tk,ga this.pt⟩,(pk.map _).nodup_iff.mpr g.kn⟩
theorem Good.of (g:Good bs ss js us ls ks h) (hp:L.Perm (cA bs ss js us ls ks)):Good (im L) (ip L) (gv L) (gZ L) (ic L) (gY L) h:=by
 obtain⟨e1,e2,e3,e4,e5,e6⟩:=CN (bs:=bs) (ss:=ss) (js:=js) (us:=us) (ls:=ls) (ks:=ks);refine g.perm ?_ ?_ ?_ ?_ ?_ ?_
 .rw[←e1];exact hp.filterMap _
 .rw[←e2];exact hp.filterMap _
 .rw[←e3];exact hp.filterMap _
 .rw[←e4];exact hp.filterMap _
 .rw[←e5];exact hp.filterMap _
 .rw[←e6];exact hp.filterMap _
theorem BY (hp:L.Perm (cA bs ss js us ls ks)):L.filter (fun t=>kx t==0)=[.ho]:=by
 have e:(cA bs ss js us ls ks).filter (fun t=>kx t==0)=[.ho]:=by unfold cA;simp only[Gb,List.filter_map];simp[oJ,kx]
 have:=hp.filter fun t=>kx t==0;rw[e] at this;exact List.perm_singleton.mp this
theorem N6 (hp:L.Perm (cA bs ss js us ls ks)):∀(i:ag) t,L[i]?=aa t->kx t=0->cls h 0 (L.take i)=[]:=fun i t ht hk=>by
 have h1:=BY hp;obtain⟨hi,e⟩:=cR.mp ht;have h2:L=L.take i++t::L.drop (i+1):=by rw[←e,List.getElem_cons_drop,FJ]
 rw[h2,Gb,Gc (by simpa using hk)] at h1;have h3:=df fF h1;rw[qi,qh,qW] at h3;unfold cls;rw[zl.mp (show(List.filter (fun t=>kx t==0) (L.take i)).length=0 by omega)];rfl
theorem Hd (g:Good bs ss js us ls ks h) (ml:(js.flatMap (·.ms)).length<=300) (hj:js.length<=9) (hu:us.length<=20) (hl:ls.length<=20) (hp:L.Perm (cA bs ss js us ls ks)) :
  uo [.str (dY "\n" (L.map (row h)))]=aa (cg (im L) (ip L) (gv L) (gZ L) (ic L) (gY L) h):=by
 have tok:∀t∈L,TOk h t:=fun t ht=>vM g t (hp.mem_iff.mp ht);have ln:L.length<=110:=by rw[hp.length_eq];have:=g.bl;have:=g.sl;have:=g.kl;unfold cA;simp only[qi,qe,qW];omega
 have ne:L≠[]:=fun z=>by have:=hp.length_eq;rw[z] at this;unfold cA at this;simp at this
 generalize hT:dY "\n" (L.map (row h))=T;have sp:=Iu tok ne;have tl:=NX tok ln;rw[hT] at sp tl;obtain⟨a,b,c,d,lp⟩:=LK (T:=.str T) (R:=.lst ((L.map (row h)).map D.str)) tok ln (N6 hp);have c0:cls h 0 L=[.int h]:=by unfold cls;rw[BY hp];rfl
 have gt:∀{k:ai} {j:ag} {ρ:aX} {ds:ab D},kix eN k=aa j->j<7->cls h j L=ds->ρ[2]?=aa (oS (dlD eN (fW h L)))->b2 gQ (vSh 2) (vC (.str k)) ρ=aa (.lst ds):=fun h1 h2 h3 h4=>aC (mQ h4) rfl (zW h1 ((oO L h2).trans (by rw[h3])));have pj:((gv L).flatMap (·.ms)).length<=300:=by
  have e:=(CN (bs:=bs) (ss:=ss) (js:=js) (us:=us) (ls:=ls) (ks:=ks)).2.2.1;have:(gv L).Perm js:=by rw[←e];exact hp.filterMap _
  rw[(this.flatMap_right (·.ms)).length_eq];exact ml
 refine bH (ρ':=[oS (.str T),oS (.lst ((L.map (row h)).map D.str)),oS (dlD eN (fW h L)),a,b,c,d]) [oS (.str T),ac,ac,ac,ac,ac,ac] rfl ((cb (fH (aT (aB rfl (aB rfl aL)) (show cU [.str T,.ty "str"]=aa (.bl al) from rfl)))).trans ((bz (d:=.lst ((L.map (row h)).map D.str)) (oV (d:=.str T) (ds:=[.str "\n"]) rfl rfl ((sG (by decide +kernel) tl).trans (by rw[sp])))).trans ((cZ (ρ1:=rdE (.str T) (.lst ((L.map (row h)).map D.str)) [] h ac ac ac ac) rfl).trans ((cZ (ρ1:=rdE (.str T) (.lst ((L.map (row h)).map D.str)) L h a b c d) ((fy (xs:=((L.map (row h)).map D.str).mapIdx fun i d=>D.tup [.int i,d]) rfl).trans lp)).trans ?_))));show ax _ _ [oS (.str T),oS (.lst ((L.map (row h)).map D.str)),oS (dlD eN (fW h L)),a,b,c,d]=aa (.rt (cg (im L) (ip L) (gv L) (gZ L) (ic L) (gY L) h),_);refine(cb (bx (aC (aT (aB (gt (j:=0) (by decide +kernel) (by decide) c0 rfl) aL) (nA _)) rfl (show eqD (.int 1) (.int 0)=aa (.bl aq) from rfl)))).trans (bR (aT (aB (gt (j:=1) (by decide +kernel) (by decide) (Ae L) rfl) (aB (gt (j:=2) (by decide +kernel) (by decide) (wf L) rfl) (aB (gt (j:=3) (by decide +kernel) (by decide) (BK L) rfl) (aB (gt (j:=4) (by decide +kernel) (by decide) (Cs L) rfl) (aB (gt (j:=5) (by decide +kernel) (by decide) (AD L) rfl) (aB (gt (j:=6) (by decide +kernel) (by decide) (BV L) rfl) (aB (aC (gt (j:=0) (by decide +kernel) (by decide) c0 rfl) rfl (ixL _ 0)) aL))))))) (JL (g.of hp) pj)))
end
noncomputable def pk (n k a:ag):ab ag:=iJ n (a:af) (k:af)
noncomputable def gG (n k m:ag):ab ag:=(bj m).flatMap fun a=>pk n k a
noncomputable def cnt (n k a:ag):ag:=if a<n then (n-a+k-1) / k else 0
theorem uu {k a:ag} (hk:k=3\/k=7):pk n k a=(bj (cnt n k a)).map fun j=>a+k*j:=by
 have k0:((k:ag):af) > 0:=by rcases hk with rfl|rfl<;>decide
 have e1:(iT (aa (a:af)) ac (aa (k:af)) n).1=((min a n:ag):af):=by show(if (k:af) > 0 then max 0 (min (if (a:af)<0 then (a:af)+n else a) (n:af)) else _)=_;rw[qY k0,qZ (by omega)];omega
 have e2:(iT (aa (a:af)) ac (aa (k:af)) n).2.1=(n:af):=by show(if (k:af) > 0 then (n:af) else -1)=_;rw[qY k0]
 have e3:(iT (aa (a:af)) ac (aa (k:af)) n).2.2=(k:af):=rfl;unfold pk iJ sliceRange;simp only[e1,e2,e3];rw[qY k0];by_cases h:a<n
 .rw[qY (by omega)];have ec:(((n:af)-((min a n:ag):af)+(k:af)-1) / (k:af)).toNat=cnt n k a:=by
   unfold cnt;rw[qY h];have:(n:af)-((min a n:ag):af)+(k:af)-1=((n-a+k-1:ag):af):=by omega
   rw[this,←Int.natCast_ediv];rfl
  rw[ec];refine oH fun j _=>?_;rw[ko (by omega)];have:(a:af)+(k:af)*(j:af)=((a+k*j:ag):af):=by simp
  rw[this];rfl
 .rw[qZ (by omega)];unfold cnt;rw[qZ h];rfl
theorem CU {k a:ag} (ha:a<k):cnt n k a=(n+(k-1-a)) / k:=by
 unfold cnt;split
 .congr 1;omega
 .exact(u7 (by omega)).symm
theorem BF {k a:ag} (ha:a<k) (h:n%k=a):(n+1+(k-1-a)) / k=(n+(k-1-a)) / k+1/\a+k*((n+(k-1-a)) / k)=n:=by
 have k0:0<k:=by omega
 have e:=F' n k;rw[h] at e;have e1:n+(k-1-a)=k*(n / k)+(k-1):=by omega
 have e2:n+1+(k-1-a)=k*(n / k+1):=by rw[Nat.mul_add,Nat.mul_one];omega
 rw[e1,e2,Ge k0,Nat.mul_div_cancel_left _ k0,u7 (show k-1<k by omega),RS];exact⟨rfl,by rw[Rx];exact e⟩
theorem L9 {k a:ag} (ha:a<k) (h:n%k≠a):(n+1+(k-1-a)) / k=(n+(k-1-a)) / k:=by
 have k0:0<k:=by omega
 have e:=F' n k;have hr:=iV n k0;generalize n%k=r at *;generalize n / k=q at *;subst e;have e1:k*q+r+(k-1-a)=k*q+(r+(k-1-a)):=by omega
 have e2:k*q+r+1+(k-1-a)=k*q+(r+1+(k-1-a)):=by omega
 rw[e1,e2,Ge k0,Ge k0];by_cases hl:r<a
 .rw[u7 (by omega),u7 (by omega)]
 .rw[S1 (k:=1) (by omega) (by omega),S1 (k:=1) (by omega) (by omega)]
theorem P1 {k a:ag} (hk:k=3\/k=7) (ha:a<k):pk (n+1) k a=if n%k=a then pk n k a++[n] else pk n k a:=by
 rw[uu hk,uu hk,CU ha,CU ha];split
 .rename_i h;rw[(BF ha h).1,Gf,dZ,List.map_singleton,(BF ha h).2]
 .rename_i h;rw[L9 ha h]
theorem Bk {f f':ag->ab ag} {x a0:ag}:∀(as:ab ag),as.Nodup->a0∈as->(∀a∈as,f' a=if a0=a then f a++[x] else f a)->(as.flatMap f').Perm (as.flatMap f++[x])
 |[],_,h,_=>by cases h
 |b::r,nd,hm,hf=>by
  have nd':=dG.mp nd;rw[F5,F5];by_cases hb:a0=b
  .subst hb;have e:r.flatMap f'=r.flatMap f:=by
    rw[S3,S3]
    congr 1
    refine oH fun a ha=>?_;rw[hf a (qg _ ha),qZ (fun z=>nd'.1 (by rw[z];exact ha))]
   rw[hf a0 qf,qY rfl,e,qw,qw];exact S4 _ S5
  .rw[hf b qf,qZ hb,qw];exact S4 _ (Bk r nd'.2 ((cG.mp hm).resolve_left hb) fun a ha=>hf a (qg _ ha))
theorem vD {k:ag} (hk:k=3\/k=7):∀n:ag,(gG n k k).Perm (bj n)
 |0=>by
  have e:gG 0 k k=[]:=by unfold gG;rw[List.flatMap_eq_nil_iff];intro a _;rw[uu hk];rfl
  rw[e];exact .nil
 |n+1=>by rw[Gf];exact(Bk (f:=fun a=>pk n k a) (a0:=n%k) (bj k) zu (dU.mpr (iV _ (by rcases hk with rfl|rfl<;>decide))) fun a ha=>P1 hk (dU.mp ha)).trans ((vD hk n).append_right [n])
theorem PU {k:ag} (hn:n<=110) (hk:k=3\/k=7):(∀a,a<k->(∀i∈pk n k a,i<n)/\(pk n k a).length<=n)/\(gG n k k).Perm (bj n):=by
 refine⟨fun a ha=>?_,vD hk n⟩;rw[uu hk];refine⟨fun i hi=>?_,?_⟩
 .obtain⟨j,hj,rfl⟩:=bP.mp hi;have:=dU.mp hj;unfold cnt at this;rcases hk with rfl|rfl<;>(split at this<;>omega)
 .rw[qe,qU];unfold cnt;rcases hk with rfl|rfl<;>(split<;>omega)
abbrev IL (o:ab ag):D:=.lst (o.map fun i=>D.int ((i:ag):af))
theorem Ck (hn:n<=110):lrD (.int (n:af))=aa (IL (bj n)):=by show(if 0<=(n:af)/\(n:af)<=1000000 then aa (D.lst ((bj (n:af).toNat).map fun i=>.int (i:ag))) else ac)=_;rw[qY (by omega)];rfl
theorem Ls {k a:ag} (hk:k=3\/k=7) (h:(∀i∈pk n k a,i<n)/\(pk n k a).length<=n):pq (IL (bj n)) (.int (a:af)) (.int (k:af))=aa (IL (pk n k a)):=by
 have hl:((bj n).map fun i=>D.int ((i:ag):af)).length=n:=by simp
 show(if (k:af)=0\/(iJ ((bj n).map fun i=>D.int ((i:ag):af)).length a k).length > ((bj n).map fun i=>D.int ((i:ag):af)).length then ac else aa (D.lst ((iJ ((bj n).map fun i=>D.int ((i:ag):af)).length a k).filterMap (((bj n).map fun i=>D.int ((i:ag):af))[·]?))))=_;rw[hl,qZ (by have:(iJ n (a:af) (k:af)).length<=n:=h.2;omega)]
 congr 2
 show(pk n k a).filterMap _=(pk n k a).map _;have:=h.1;generalize pk n k a=l at this ⊢
 induction l with
 |nil=>rfl
 |cons i l ih=>
  have hi:i<n:=this i qf;rw[nt (by rw[qj,kq hi];rfl),qm,ih fun j hj=>this j (qg _ hj)]
theorem Aq {a b:ab ag} (h:a.length+b.length<=1000):aF (IL a) (IL b)=aa (IL (a++b)):=by rw[mj (by rw[qe,qe];exact h),←dZ]
theorem rot {o:ab ag} {b:ag} (h4:ρ[4]?=aa (oS (IL o))) (h3:ρ[3]?=aa (oS (.int (b:af)))) (hl:o.length<=500):b2 aF (slF (vSh 4) (pS (vSh 3)) pN) (slF (vSh 4) pN (pS (vSh 3))) ρ=aa (IL (o.drop b++o.take b)):=by
 have e3:pS (vSh 3) ρ=aa (aa ((b:ag):af)):=by unfold pS;rw[mQ h3];rfl
 refine aC ((mM (mQ h4) e3 rfl).trans (by rw[wg,←List.map_drop])) ((mM (mQ h4) rfl e3).trans (by rw[Ce,←List.map_take])) (Aq ?_);rw[l5,qE];omega
theorem EI (n k m:ag):gG n k (m+1)=gG n k m++pk n k m:=by unfold gG;rw[Gf,SM];simp
theorem vy (h:f ρ=aa d):aH i f ρ=aa (.nx,ρ.set i (oS d)):=by unfold aH;rw[h];rfl
noncomputable def o2:FS:=aH 4 (b2 aF (vSh 4) (b3 pq (b1 lrD (vSh 0)) (vSh 6) (vSh 5)))
theorem KJ {g:D->D->D->ao D} {x y w:D} (h1:fa ρ=aa x) (h2:fb ρ=aa y) (h3:fc ρ=aa z) (h4:g x y z=aa w):b3 g fa fb fc ρ=aa w:=by unfold b3;rw[h1,qa,h2,qa,h3];exact h4
theorem N3 {k:ag} {x y z:ao Slot} (hn:n<=110) (hk:k=3\/k=7):∃w,dD (ay 6) o2 ((bj k).map fun i:ag=>D.int (0+i)) [oS (.int (n:af)),x,y,z,oS (IL []),oS (.int (k:af)),ac]=aa (.nx,[oS (.int (n:af)),x,y,z,oS (IL (gG n k k)),oS (.int (k:af)),w]):=by
 have hc:=(PU hn hk).1;have hlen:∀m,m<=k->(gG n k m).length<=m*n:=fun m=>by
  induction m with
  |zero=>intro _;simp[gG]
  |succ m ih=>
   intro hm;rw[EI,qi,zc];have:=ih (by omega);have:=(hc m (by omega)).2;omega
 have:=fg (gg:=ay 6) (body:=o2) (xs:=(bj k).map fun i:ag=>D.int (0+i)) (ρ:=[oS (.int (n:af)),x,y,z,oS (IL []),oS (.int (k:af)),ac]) (fun i ρ=>∃w,ρ=[oS (.int (n:af)),x,y,z,oS (IL (gG n k i)),oS (.int (k:af)),w]) ⟨ac,rfl⟩ (fun i d ρ hx hI=>by obtain⟨w,rfl⟩:=hI;rw[qj] at hx;obtain⟨j,hj,rfl⟩:=oMd hx;obtain⟨hi,e⟩:=cR.mp hj;rw[List.getElem_range] at e;subst e;rw[qU] at hi;have hm:i*n<=7*110:=zi (by rcases hk with rfl|rfl<;>omega) hn;have hd:=hlen i (by omega);have hp:=(hc i hi).2;refine⟨_,_,rfl,(vy (d:=IL (gG n k i++pk n k i)) (aC rfl (KJ (x:=IL (bj n)) (y:=.int (i:af)) (z:=.int (k:af)) (px rfl (Ck hn)) (by rw[Int.zero_add];rfl) rfl (Ls hk (hc i hi))) (Aq (by omega)))),?_⟩;exact⟨_,by rw[EI];rfl⟩)
 obtain⟨ρ',e1,w,rfl⟩:=this;rw[qe,qU] at e1;exact⟨w,e1⟩
theorem Gj (o:ab ag):i6 (IL o)=aa (IL o.reverse):=by show aa (D.lst (o.map _).reverse)=_;rw[←zJ]
theorem OF {d:af} (h1:1<=n) (hn:n<=110) (hd:0<=d):∃o:ab ag,yk [.int (n:af),.int d]=aa (IL o)/\o.Perm (bj n):=by
 obtain⟨b,hb⟩:∃b:ag,d / 4%(n:af)=(b:af):=⟨(d / 4%(n:af)).toNat,by rw[SW (qX _ (by omega))]⟩;have rotp:∀o:ab ag,o.Perm (bj n)->(o.drop b++o.take b).Perm (bj n):=fun o p=>(S5.trans (by rw[FJ])).trans p;have ll:∀{o:ab ag},o.Perm (bj n)->o.length<=500:=fun p=>by rw[p.length_eq,qU];omega
 obtain⟨o,w5,w6,ho,hp⟩:∃o w5 w6,(∀E:FS,ax (sIf (toB (b2 eqD (vSh 2) (vC (.int 1)))) (aH 4 (b1 i6 (vSh 4))) aU) (ax (sIf (toB (b2 gtD (vSh 2) (vC (.int 1)))) (ax (aH 5 (b2 ixD (aD (szF (ae (vC (.int 3)) (ae (vC (.int 7)) ak)))) (b2 kZ (vSh 2) (vC (.int 2))))) (ax (aH 4 (aD (szF ak))) (ck (itR ff (ae (vSh 5) ak)) (ay 6) o2))) aU) E) [oS (.int (n:af)),oS (.int d),oS (.int (d%4)),oS (.int (b:af)),oS (IL (bj n)),ac,ac]=E [oS (.int (n:af)),oS (.int d),oS (.int (d%4)),oS (.int (b:af)),oS (IL o),w5,w6])/\o.Perm (bj n):=by
  have hw:d%4=0\/d%4=1\/d%4=2\/d%4=3:=by omega
  have big:∀{k:ag} {w:af},(k=3\/k=7)->d%4=w->1<w->ixD (.lst [.int 3,.int 7]) (.int (w-2))=aa (.int (k:af))->∃o w5 w6,(∀E:FS,ax (sIf (toB (b2 eqD (vSh 2) (vC (.int 1)))) (aH 4 (b1 i6 (vSh 4))) aU) (ax (sIf (toB (b2 gtD (vSh 2) (vC (.int 1)))) (ax (aH 5 (b2 ixD (aD (szF (ae (vC (.int 3)) (ae (vC (.int 7)) ak)))) (b2 kZ (vSh 2) (vC (.int 2))))) (ax (aH 4 (aD (szF ak))) (ck (itR ff (ae (vSh 5) ak)) (ay 6) o2))) aU) E) [oS (.int (n:af)),oS (.int d),oS (.int (d%4)),oS (.int (b:af)),oS (IL (bj n)),ac,ac]=E [oS (.int (n:af)),oS (.int d),oS (.int (d%4)),oS (.int (b:af)),oS (IL o),w5,w6])/\o.Perm (bj n):=fun {k w} hk hw h1 hix=>by
   obtain⟨z,hz⟩:=N3 (n:=n) (k:=k) (x:=oS (.int d)) (y:=oS (.int w)) (z:=oS (.int (b:af))) hn hk;refine⟨gG n k k,oS (.int (k:af)),z,fun E=>?_,vD hk n⟩;rw[hw];refine(cb (bx (aC (x:=.int w) (y:=.int 1) rfl rfl (show aa (D.bl (decide (w=1)))=aa (.bl aq) by rw[qN (by omega)])))).trans ?_;have e:ax (aH 5 (b2 ixD (aD (szF (ae (vC (.int 3)) (ae (vC (.int 7)) ak)))) (b2 kZ (vSh 2) (vC (.int 2))))) (ax (aH 4 (aD (szF ak))) (ck (itR ff (ae (vSh 5) ak)) (ay 6) o2)) [oS (.int (n:af)),oS (.int d),oS (.int w),oS (.int (b:af)),oS (IL (bj n)),ac,ac]=aa (.nx,[oS (.int (n:af)),oS (.int d),oS (.int w),oS (.int (b:af)),oS (IL (gG n k k)),oS (.int (k:af)),z]):=
    (bz (d:=.int (k:af)) (aC (x:=.lst [.int 3,.int 7]) (y:=.int (w-2)) rfl rfl hix)).trans ((bz (d:=IL []) rfl).trans ((fy (xs:=(bj k).map fun i:ag=>D.int (0+i)) (jQ (aB rfl aL) ((ku (by rcases hk with rfl|rfl<;>decide)).trans (by rw[l0])))).trans hz))
   refine cZ ?_;unfold sIf;rw[bx (aC (x:=.int w) (y:=.int 1) rfl rfl (show aa (D.bl (decide (1<w)))=aa (.bl al) by rw[qS h1])),qa,qY rfl];exact e
  rcases hw with hw|hw|hw|hw
  .refine⟨bj n,ac,ac,fun E=>?_,.refl _⟩;rw[hw];exact(cb (bx (b:=aq) rfl)).trans (cb (bx (b:=aq) rfl))
  .refine⟨(bj n).reverse,ac,ac,fun E=>?_,F9 _⟩;rw[hw];refine(cZ (ρ1:=[oS (.int (n:af)),oS (.int d),oS (.int 1),oS (.int (b:af)),oS (IL (bj n).reverse),ac,ac]) ?_).trans (cb (bx (b:=aq) rfl));unfold sIf;rw[bx (b:=al) (aC (x:=.int 1) (y:=.int 1) rfl rfl rfl),qa,qY rfl];exact vy (d:=IL (bj n).reverse) (px rfl (Gj _))
  .exact big (k:=3) (.inl rfl) hw (by decide) rfl
  .exact big (k:=7) (.inr rfl) hw (by decide) rfl
 refine⟨o.drop b++o.take b,?_,rotp o hp⟩;exact bH [oS (.int (n:af)),oS (.int d),ac,ac,ac,ac,ac] rfl ((bz (d:=.int (d%4)) (aC rfl rfl (db (by decide)))).trans ((bz (d:=.int (b:af)) (aC (x:=.int (d / 4)) (y:=.int (n:af)) (aC rfl rfl (nM (by decide))) rfl ((db (by omega)).trans (by rw[hb])))).trans ((bz (d:=IL (bj n)) (px rfl (Ck hn))).trans ((ho _).trans (bR (rot rfl rfl (ll hp)))))))
noncomputable def tD (h:af) (t:Th):D:=match t with
 |.ho=>.non
 |t=>.tup [.int ((kx t-1:ag):af),dTh h t]
noncomputable def pre (ll:ab (ab D)) (i:ag):ab D:=.non::((ll.take i).mapIdx fun k xs=>xs.map fun x=>D.tup [.int (k:ag),x]).flatten
noncomputable def duG:FG:=cD 2 (aN (ay 4) (aN (ay 5) cr))
noncomputable def CL:FS:=aH 3 (b2 aF (vSh 3) (aD (bc (itF (vSh 5)) (ay 0) tT (bK (szF (ae (vSh 1) (ae (vSh 0) ak)))) [ac,aa 4])))
theorem du1 {ll:ab (ab D)} {P l2:ao Slot} (hs:∀i,(pre ll i).length<=500) (hx:∀xs∈ll,xs.length<=400):∃a b,dD duG CL ((ll.map D.lst).mapIdx fun i d=>D.tup [.int i,d]) [P,O,l2,oS (.lst [.non]),ac,ac,ac]=aa (.nx,[P,O,l2,oS (.lst (pre ll ll.length)),a,b,ac]):=by
 have:=fg (gg:=duG) (body:=CL) (xs:=(ll.map D.lst).mapIdx fun i d=>D.tup [.int i,d]) (ρ:=[P,O,l2,oS (.lst [.non]),ac,ac,ac]) (fun i ρ=>∃a b,ρ=[P,O,l2,oS (.lst (pre ll i)),a,b,ac]) ⟨ac,ac,rfl⟩ (fun i x ρ hxi hI=>by
  obtain⟨a,b,rfl⟩:=hI;rw[zn] at hxi;obtain⟨y,hy,rfl⟩:=oMd hxi;rw[qj] at hy;obtain⟨xs,hxs,rfl⟩:=oMd hy;have hl:=hx xs (qP hxs);have e:pre ll (i+1)=pre ll i++xs.map fun x=>D.tup [.int (i:ag),x]:=by unfold pre;have hi:=(cR.mp hxs).1;rw[lj,hxs,S6,List.mapIdx_append,SL,qE,ko (by omega)];simp
  refine⟨_,_,rfl,vy (d:=.lst (pre ll (i+1))) (aC rfl (lH (r:=[oS (.int (i:ag))]) (a:=ac) (xs:=xs) (dx:=id) (g:=fun x=>D.tup [.int (i:ag),x]) ((mP (l:=xs) rfl).trans (by rw[Gg])) (by omega) rfl fun x _=>gW rfl rfl) ((mj (by have:=hs i;rw[qe];omega)).trans (by rw[e]))),_,_,rfl⟩)
 obtain⟨ρ',e1,a,b,rfl⟩:=this;rw[oz,qe] at e1;exact⟨a,b,e1⟩
section
variable {bs:ab BenchT}
noncomputable def ll6 (bs:ab BenchT) (ss:ab StepT) (js:ab JobT) (us:ab SetT) (ls:ab LinkT) (ks:ab StockT):ab (ab D):=[bs.map bU,ss.map bf,js.map bo,us.map cc,ls.map cu,ks.map cC]
theorem Ij:pre (ll6 bs ss js us ls ks) 6=(cA bs ss js us ls ks).map (tD h):=by unfold pre ll6 cA;simp only[rV,S7,List.mapIdx_nil,l7,List.flatten_nil,dZ,qo,qm,qO,oJ,iR,qw,qp,qR];rfl
noncomputable def dj (h:af) (L:ab Th):ab (ab D):=(bj 6).map fun i=>cls h (i+1) L
theorem wX (L:ab Th) (hi:i<6):(dj h L)[i]?=aa (cls h (i+1) L):=by unfold dj;rw[qj,kq hi];rfl
theorem oU (L:ab Th):(dj h L).length=6:=by simp[dj]
theorem Hm (L:ab Th) (t:Th) (h0:kx t≠0):(dj h L).set (kx t-1) (cls h (kx t) L++[dTh h t])=dj h (L++[t]):=by
 apply Fs;intro i;have:=kx7 t;by_cases hi:i<6
 .rw[wX _ hi,wu];by_cases hk:kx t=i+1
  .rw[qY hk,hk,show i+1-1=i by omega,mX (by rw[oU];exact hi)]
  .rw[qZ hk,qy (by omega),wX _ hi]
 .rw[lh (by rw[vj,oU];omega),lh (by rw[oU];omega)]
theorem MI (L:ab Th) {t:Th} (h0:kx t=0):dj h (L++[t])=dj h L:=by unfold dj;refine oH fun i _=>?_;rw[wu,qZ (by omega)]
noncomputable def tw:FS:=sIf (toB (b2 nD (b2 ixD (vSh 3) (vSh 6)) (vC .non))) (gC 2 (b2 ixD (b2 ixD (vSh 3) (vSh 6)) (vC (.int 0))) (b2 ixD (b2 ixD (vSh 3) (vSh 6)) (vC (.int 1)))) aU
theorem ixo (hj:j<6):∃z,pR 6 (.int (j:af))=aa (j,z):=by
 have:j=0\/j=1\/j=2\/j=3\/j=4\/j=5:=by omega
 rcases this with rfl|rfl|rfl|rfl|rfl|rfl<;>exact⟨_,rfl⟩
theorem GN {t:Th} (h0:kx t≠0):tD h t=.tup [.int ((kx t-1:ag):af),dTh h t]:=by cases t<;>first|exact bN rfl h0|rfl
theorem Qv {P a b:ao Slot} {T:ab Th} {t:Th} {p:ag} (hp:T[p]?=aa t) (hl:L.length<=200):tw [P,O,aa (.oll (dj h L)),oS (.lst (T.map (tD h))),a,b,oS (.int (p:af))]=aa (.nx,[P,O,aa (.oll (dj h (L++[t]))),oS (.lst (T.map (tD h))),a,b,oS (.int (p:af))]):=by
 have ex:b2 ixD (vSh 3) (vSh 6) [P,O,aa (.oll (dj h L)),oS (.lst (T.map (tD h))),a,b,oS (.int (p:af))]=aa (tD h t):=aC rfl rfl ((ixL _ p).trans (by rw[qj,hp];rfl));have et:toB (b2 nD (b2 ixD (vSh 3) (vSh 6)) (vC .non)) [P,O,aa (.oll (dj h L)),oS (.lst (T.map (tD h))),a,b,oS (.int (p:af))]=aa (!my (tD h t)):=bx (aC ex rfl rfl);unfold tw sIf;rw[et,qa];by_cases h0:kx t=0
 .have:tD h t=.non:=by cases t<;>first|rfl|(simp[kx] at h0)
  rw[this,MI L h0];rfl
 .have e:=GN (h:=h) h0;have k7:=kx7 t;rw[show(!my (tD h t))=al by rw[e];rfl,qY rfl];obtain⟨z,hz⟩:=ixo (j:=kx t-1) (by omega);have e0:b2 ixD (b2 ixD (vSh 3) (vSh 6)) (vC (.int 0)) [P,O,aa (.oll (dj h L)),oS (.lst (T.map (tD h))),a,b,oS (.int (p:af))]=aa (.int ((kx t-1:ag):af)):=aC ex rfl (by rw[e];exact il);have e1:b2 ixD (b2 ixD (vSh 3) (vSh 6)) (vC (.int 1)) [P,O,aa (.oll (dj h L)),oS (.lst (T.map (tD h))),a,b,oS (.int (p:af))]=aa (dTh h t):=aC ex rfl (by rw[e];exact i7);unfold gC;show((b2 ixD (b2 ixD (vSh 3) (vSh 6)) (vC (.int 0)) _).bind fun k=>_)=_;rw[e0,qa,e1,qa,oU,hz,qa];have hc:(cls h (kx t) L).length<aM:=by
   have:(cls h (kx t) L).length<=L.length:=by unfold cls;rw[qe];exact SZ _ _
   have:=fE;omega
  have ea:(dj h L)[kx t-1]?=aa (cls h (kx t) L):=by rw[wX L (by omega),show kx t-1+1=kx t by omega]
  simp only[ea,qY hc,Hm L t h0];rfl
noncomputable def pm (T:ab Th) (o:ab ag):ab Th:=o.filterMap (T[·]?)
theorem Ez:∀T:ab Th,(bj T.length).filterMap (T[·]?)=T
 |[]=>rfl
 |t::T=>by rw[qh,List.range_succ_eq_map,nt (f:=fun i=>(t::T)[i]?) (a:=0) (b:=t) rfl,E7];exact df (t::·) (Ez T)
theorem IH {T:ab Th} {o:ab ag} (hp:o.Perm (bj T.length)):(pm T o).Perm T:=by have:=hp.filterMap (T[·]?);rw[Ez] at this;exact this
theorem du2 {P a b:ao Slot} {T:ab Th} {o:ab ag} (hb:∀p∈o,p<T.length) (hl:o.length<=200):∃c,dD (ay 6) tw (o.map fun i=>D.int ((i:ag):af)) [P,O,aa (.oll (dj h [])),oS (.lst (T.map (tD h))),a,b,ac]=aa (.nx,[P,O,aa (.oll (dj h (pm T o))),oS (.lst (T.map (tD h))),a,b,c]):=by
 have:=fg (gg:=ay 6) (body:=tw) (xs:=o.map fun i=>D.int ((i:ag):af)) (ρ:=[P,O,aa (.oll (dj h [])),oS (.lst (T.map (tD h))),a,b,ac]) (fun i ρ=>∃c,ρ=[P,O,aa (.oll (dj h (pm T (o.take i)))),oS (.lst (T.map (tD h))),a,b,c]) ⟨ac,rfl⟩ (fun i x ρ hx hI=>by
  obtain⟨c,rfl⟩:=hI;rw[qj] at hx;obtain⟨p,hp,rfl⟩:=oMd hx;have hpl:=hb p (qP hp);have ht:=qD hpl;have e:pm T (o.take (i+1))=pm T (o.take i)++[T[p]]:=by unfold pm;rw[lj,hp,S6,S0,nt ht];rfl
  refine⟨_,_,rfl,Qv ht ?_,_,by rw[e]⟩;have:(pm T (o.take i)).length<=(o.take i).length:=Sl _ _;rw[qE] at this;omega)
 obtain⟨ρ',e1,c,rfl⟩:=this;rw[qe,km (qv _)] at e1;exact⟨c,e1⟩
theorem Dl (g:Good bs ss js us ls ks h) (hj:js.length<=9) (hu:us.length<=20) (hl:ls.length<=20):1<=(cA bs ss js us ls ks).length/\(cA bs ss js us ls ks).length<=110:=by have:=g.bl;have:=g.sl;have:=g.kl;unfold cA;simp only[qi,qe,qW];omega
theorem Oe (ll:ab (ab D)) (i:ag):(pre ll i).length<=1+(ll.map fF).sum:=by
 unfold pre;rw[qh,List.length_flatten];have:∀(l:ab (ab D)) (n i:ag) (f:ag->ab D->ab D),(∀k xs,(f k xs).length=xs.length)->(((l.take i).mapIdx fun k xs=>f (k+n) xs).map fF).sum<=(l.map fF).sum:=fun l=>by
  induction l with
  |nil=>intro n i f _;simp
  |cons x l ih=>
   intro n i f hf;cases i with
   |zero=>simp
   |succ i=>
    rw[Sj,S7,qm,S8,qm,S8,hf];have:=ih (n+1) i f hf;have e:(fun k xs=>f (k+1+n) xs)=fun k xs=>f (k+(n+1)) xs:=by funext k xs;rw[show k+1+n=k+(n+1) by omega]
    rw[e];omega
 have h2:=this ll 0 i (fun k xs=>xs.map fun x=>D.tup [.int (k:ag),x]) (fun k xs=>by simp);have e0:(fun(k:ag) (xs:ab D)=>xs.map fun x=>D.tup [.int ((k+0:ag):af),x])=fun k xs=>xs.map fun x=>D.tup [.int (k:ag),x]:=rfl;rw[e0] at h2;omega
theorem JD (g:Good bs ss js us ls ks h) (hj:js.length<=9) (hu:us.length<=20) (hl:ls.length<=20) {o:ab ag} (hp:o.Perm (bj (cA bs ss js us ls ks).length)) :
  yx [.lst (cw bs ss js us ls ks h),IL o]=aa (.lst (cw (im (pm (cA bs ss js us ls ks) o)) (ip (pm (cA bs ss js us ls ks) o)) (gv (pm (cA bs ss js us ls ks) o)) (gZ (pm (cA bs ss js us ls ks) o)) (ic (pm (cA bs ss js us ls ks) o)) (gY (pm (cA bs ss js us ls ks) o)) h)):=by
 have tl:=Dl g hj hu hl;have:=g.bl;have:=g.sl;have:=g.kl;obtain⟨a,b,e1⟩:=du1 (ll:=ll6 bs ss js us ls ks) (P:=oS (.lst (cw bs ss js us ls ks h))) (O:=oS (IL o)) (l2:=aa (.oll (dj h []))) (fun i=>by
  have h2:=Oe (ll6 bs ss js us ls ks) i;have h3:((ll6 bs ss js us ls ks).map fF).sum=bs.length+(ss.length+(js.length+(us.length+(ls.length+(ks.length+0))))):=by simp[ll6]
  omega) (fun xs hx=>by
  simp only[ll6,qL,qJ,or_false] at hx;rcases hx with rfl|rfl|rfl|rfl|rfl|rfl<;>rw[qe]<;>omega)
 obtain⟨c,e2⟩:=du2 (h:=h) (P:=oS (.lst (cw bs ss js us ls ks h))) (O:=oS (IL o)) (a:=a) (b:=b) (T:=cA bs ss js us ls ks) (o:=o) (fun p hpo=>dU.mp (hp.mem_iff.mp hpo)) (by rw[hp.length_eq,qU];omega);generalize pm (cA bs ss js us ls ks) o=L at e2 ⊢;have ep:pre (ll6 bs ss js us ls ks) (ll6 bs ss js us ls ks).length=(cA bs ss js us ls ks).map (tD h):=Ij;rw[ep] at e1;refine bH (ρ':=[oS (.lst (cw bs ss js us ls ks h)),oS (IL o),oS (.lst ((dj h L).map D.lst)),oS (.lst ((cA bs ss js us ls ks).map (tD h))),a,b,c]) [oS (.lst (cw bs ss js us ls ks h)),oS (IL o),ac,ac,ac,ac,ac] rfl ((cZ (ρ1:=[oS (.lst (cw bs ss js us ls ks h)),oS (IL o),aa (.oll (dj h [])),ac,ac,ac,ac]) rfl).trans ((bz (d:=.lst [.non]) rfl).trans ((cZ ((fy (xs:=((ll6 bs ss js us ls ks).map D.lst).mapIdx fun i d=>D.tup [.int i,d]) ?_).trans e1)).trans ((cZ ((fy (xs:=o.map fun i=>D.int ((i:ag):af)) rfl).trans e2)).trans ?_))))
 .unfold itE;rw[mM (l:=cw bs ss js us ls ks h) (lo:=ac) (hi:=aa ((6:ag):af)) rfl rfl rfl,Ce];rfl
 .show aK _ [oS (.lst (cw bs ss js us ls ks h)),oS (IL o),oS (.lst ((dj h L).map D.lst)),oS (.lst ((cA bs ss js us ls ks).map (tD h))),a,b,c]=_;refine bR (aC (x:=.lst ((dj h L).map D.lst)) (y:=.lst [.int h]) rfl rfl ((mj (by rw[qe,oU];simp)).trans ?_));show aa (D.lst ((dj h L).map D.lst++[.int h]))=aa (D.lst (cw (im L) (ip L) (gv L) (gZ L) (ic L) (gY L) h));unfold cw;rw[←Ae (h:=h),←wf (h:=h),←BK (h:=h),←Cs (h:=h),←AD (h:=h),←BV (h:=h)];rfl
end
noncomputable def SmN:ag->D->Prop
 |0,_=>False
 |n+1,.lst l=>l.length<=500/\∀x∈l,SmN n x
 |n+1,.tup l=>l.length<=500/\∀x∈l,SmN n x
 |_+1,.bl _=>True
 |_+1,.int _=>True
 |_+1,.str _=>True
 |_+1,_=>False
noncomputable def kD:ag->D->D
 |0,_=>.non
 |n+1,.lst l=>.lst (.bl al::l.map (kD n))
 |n+1,.tup l=>.lst (.bl aq::l.map (kD n))
 |_+1,.str _=>.lst [.bl al,.bl aq,.bl aq]
 |_+1,.bl _=>.lst [.bl aq,.bl al,.bl al]
 |_+1,_=>.lst [.bl aq,.bl aq,.bl al]
theorem xJ:∀(n:ag) (d:D),SmN n d->kY n [d]=aa (kD n d)
 |0,_,h=>h.elim
 |n+1,.lst l,h=>by
  show iK (kY n) [.lst l]=_;unfold iK;refine bH [oS (.lst l)] rfl (rj (bx (b:=al) rfl) (bR (aC (x:=.lst [.bl al]) rfl (lH (r:=[]) (a:=ac) (xs:=l) (dx:=id) (g:=kD n) ((mP (l:=l) rfl).trans (by rw[Gg])) (by have:=h.1;omega) rfl fun x hx=>aT (aB rfl aL) (xJ n x (h.2 x hx))) ((mj ?_).trans rfl))));rw[qe];have:=h.1;simp;omega
 |n+1,.tup l,h=>by
  show iK (kY n) [.tup l]=_;unfold iK;refine bH [oS (.tup l)] rfl (rj (bx (b:=al) rfl) (bR (aC (x:=.lst [.bl aq]) rfl (lH (r:=[]) (a:=ac) (xs:=l) (dx:=id) (g:=kD n) ((show itF (vSh 0) [oS (.tup l)]=aa l from rfl).trans (by rw[Gg])) (by have:=h.1;omega) rfl fun x hx=>aT (aB rfl aL) (xJ n x (h.2 x hx))) ((mj ?_).trans rfl))));rw[qe];have:=h.1;simp;omega
 |n+1,.str x,_=>by
  show iK (kY n) [.str x]=_;unfold iK;exact bH [oS (.str x)] rfl ((cb (bx (b:=aq) rfl)).trans (bR rfl))
 |n+1,.bl x,_=>by
  show iK (kY n) [.bl x]=_;unfold iK;exact bH [oS (.bl x)] rfl ((cb (bx (b:=aq) rfl)).trans (bR rfl))
 |n+1,.int x,_=>by show iK (kY n) [.int x]=_;unfold iK;exact bH [oS (.int x)] rfl ((cb (bx (b:=aq) rfl)).trans (bR rfl))
theorem ww:∀(n:ag) (d:D),SmN n d->Sm (n+1) (kD n d)
 |0,_,h=>h.elim
 |n+1,.lst l,h=>fun x hx=>by
  rcases cG.mp hx with rfl|hx
  .trivial
  .obtain⟨y,hy,rfl⟩:=bP.mp hx;exact ww n y (h.2 y hy)
 |n+1,.tup l,h=>fun x hx=>by
  rcases cG.mp hx with rfl|hx
  .trivial
  .obtain⟨y,hy,rfl⟩:=bP.mp hx;exact ww n y (h.2 y hy)
 |n+1,.str x,_=>fun y hy=>by
  have:y=.bl al\/y=.bl aq:=by simpa using hy
  rcases this with rfl|rfl<;>trivial
 |n+1,.bl x,_=>fun y hy=>by
  have:y=.bl aq\/y=.bl al:=by simpa using hy
  rcases this with rfl|rfl<;>trivial
 |n+1,.int x,_=>fun y hy=>by
  have:y=.bl aq\/y=.bl al:=by simpa using hy
  rcases this with rfl|rfl<;>trivial
theorem ik (ρ:aX) (e:ds.map (fun d=>aa (Slot.sh d))++bQ n ac=ρ) (h:g ρ=aa (.nw d,ρ')):L2.runN n g ds=aa d:=by unfold L2.runN;rw[e,h];rfl
theorem DL {A E:FS} (h:ft ρ=aa al) (h2:A ρ=aa (.nw d,ρ')):ax (sIf ft A B) E ρ=aa (.nw d,ρ'):=by simp only[ax,sIf,h,qa,cy,h2]
theorem g9 (h:f ρ=aa d):fX f ρ=aa (.nw d,ρ):=by unfold fX;rw[h];rfl
theorem K6 (h:f ρ=aa (.lst l)):pZ f ρ=aa (.tup l):=by unfold pZ;rw[h];rfl
theorem rl (h:f ρ=aa d) (h2:xO d=al):flF f ρ=aa d:=by unfold flF;rw[h,qa,qY h2]
theorem lN:∀(n:ag) (d:D),Pl n d->jY n [d]=aa d
 |0,_,h=>h.elim
 |n+1,.lst l,h=>by
  refine ik [oS (.lst l)] rfl (DL (bx (b:=al) rfl) (g9 ?_));have:=jH (fi:=itF (vSh 0)) (fe:=cF (jY n) (ae (vSh 0) ak)) (fv:=[ac]) (ρ:=[oS (.lst l)]) (r:=[]) (a:=ac) (xs:=l) (f:=fun x=>x) rfl h.1 rfl (fun x hx=>aT (aB rfl aL) (lN n x (h.2 x hx)));rw[zI] at this;exact this
 |n+1,.tup l,h=>by
  refine ik [oS (.tup l)] rfl ((cb (bx (b:=aq) rfl)).trans (DL (bx (b:=al) rfl) (g9 (K6 ?_))));have:=jH (fi:=itF (vSh 0)) (fe:=cF (jY n) (ae (vSh 0) ak)) (fv:=[ac]) (ρ:=[oS (.tup l)]) (r:=[]) (a:=ac) (xs:=l) (f:=fun x=>x) rfl h.1 rfl (fun x hx=>aT (aB rfl aL) (lN n x (h.2 x hx)));rw[zI] at this;exact this
 |n+1,.non,h=>by
  show jS (jY n) [.non]=_;unfold jS;exact ik [oS .non] rfl ((cb (bx (b:=aq) rfl)).trans ((cb (bx (b:=aq) rfl)).trans (g9 (rl (f:=vSh 0) rfl rfl))))
 |n+1,.bl b,h=>by
  show jS (jY n) [.bl b]=_;unfold jS;exact ik [oS (.bl b)] rfl ((cb (bx (b:=aq) rfl)).trans ((cb (bx (b:=aq) rfl)).trans (g9 (rl (f:=vSh 0) rfl rfl))))
 |n+1,.int b,h=>by
  show jS (jY n) [.int b]=_;unfold jS;exact ik [oS (.int b)] rfl ((cb (bx (b:=aq) rfl)).trans ((cb (bx (b:=aq) rfl)).trans (g9 (rl (f:=vSh 0) rfl rfl))))
 |n+1,.str b,h=>by show jS (jY n) [.str b]=_;unfold jS;exact ik [oS (.str b)] rfl ((cb (bx (b:=aq) rfl)).trans ((cb (bx (b:=aq) rfl)).trans (g9 (rl (f:=vSh 0) rfl rfl))))
section
variable {bs:ab BenchT}
theorem Ho (g:Good bs ss js us ls ks h):vN [cg bs ss js us ls ks h]=aa (.lst (bs.map bU)):=
 ik [oS (cg bs ss js us ls ks h)] rfl (g9 (aT (aB (hZ 0 rfl rfl) aL) (lN 8 _ (eA (by have:=g.bl.2;omega) fun x hx=>xi (g.b x hx)))))
theorem Jd (g:Good bs ss js us ls ks h):xx [cg bs ss js us ls ks h]=aa (.lst (ss.map bf)):=
 ik [oS (cg bs ss js us ls ks h)] rfl (g9 (aT (aB (hZ 1 rfl rfl) aL) (lN 8 _ (eA (by have:=g.sl.2;omega) fun x hx=>xf (g.s x hx)))))
theorem PV (g:Good bs ss js us ls ks h):v5 [cg bs ss js us ls ks h]=aa (.lst (js.map bo)):=
 ik [oS (cg bs ss js us ls ks h)] rfl (g9 (aT (aB (hZ 2 rfl rfl) aL) (lN 8 _ (eA (by have:=g.jl;omega) fun x hx=>wW (by rw[qe];exact g.sl.2) (g.j x hx)))))
theorem Go (g:Good bs ss js us ls ks h):vH [cg bs ss js us ls ks h]=aa (.lst (us.map cc)):=
 ik [oS (cg bs ss js us ls ks h)] rfl (g9 (aT (aB (hZ 3 rfl rfl) aL) (lN 8 _ (eA (by have:=g.ul;omega) fun x hx=>wv))))
theorem Pe (g:Good bs ss js us ls ks h):xW [cg bs ss js us ls ks h]=aa (.lst (ls.map cu)):=
 ik [oS (cg bs ss js us ls ks h)] rfl (g9 (aT (aB (hZ 4 rfl rfl) aL) (lN 8 _ (eA (by have:=g.ll;omega) fun x hx=>xX))))
theorem GU (g:Good bs ss js us ls ks h):tL [cg bs ss js us ls ks h]=aa (.lst (ks.map cC)):=
 ik [oS (cg bs ss js us ls ks h)] rfl (g9 (aT (aB (hZ 5 rfl rfl) aL) (lN 8 _ (eA (by have:=g.kl;omega) fun x hx=>x8 (by rw[qe];exact g.sl.2) (g.k x hx)))))
theorem B8 {x y:ab D} (h1:fa ρ=aa (.lst x)) (h2:fb ρ=aa (.lst y)) (hl:x.length+y.length<=1000):n8 fa fb ρ=aa (.lst (x++y)):=by unfold n8 aD wy;rw[h1,qa,h2,qa];show zj D.lst (if x.length+y.length<=aM then aa (x++y) else ac)=_;rw[qY (szN hl (by decide))];rfl
theorem B3 (h:f ρ=aa d):ax (oe i f) g ρ=g (ρ.set i (aa (.nsh d))):=by unfold ax oe;rw[h];rfl
theorem OX (g:Good bs ss js us ls ks h):uc [cg bs ss js us ls ks h]=aa (.lst (cw bs ss js us ls ks h)):=by unfold uc;refine ik (ρ':=[oS (cg bs ss js us ls ks h),aa (.nsh (.lst [.lst (bs.map bU),.lst (ss.map bf),.lst (js.map bo),.lst (us.map cc),.lst (ls.map cu)]))]) [oS (cg bs ss js us ls ks h),ac] rfl ?_;refine(B3 (CH (gK (by decide +kernel) rfl aL (Ho g)) (gK (by decide +kernel) rfl aL (Jd g)) (gK (by decide +kernel) rfl aL (PV g)))).trans ?_;refine(B3 (B8 rfl (tS (gK (by decide +kernel) rfl aL (Go g)) (gK (by decide +kernel) rfl aL (Pe g))) (by simp))).trans ?_;have em:∀z:ao Slot,flF (dE "Shop" "last_moment" nZ (vSh 0) ak) [oS (cg bs ss js us ls ks h),z]=aa (.int h):=fun z=>rl (gK (bs:=bs) (ss:=ss) (js:=js) (us:=us) (ls:=ls) (ks:=ks) (h:=h) (fo:=vSh 0) (ρ:=[oS (cg bs ss js us ls ks h),z]) (by decide +kernel) rfl aL AR) rfl;have ek:∀z:ao Slot,dE "Shop" "stock_rows" tL (vSh 0) ak [oS (cg bs ss js us ls ks h),z]=aa (.lst (ks.map cC)):=fun z=>gK (by decide +kernel) rfl aL (GU g);exact g9 (d:=.lst ([.lst (bs.map bU),.lst (ss.map bf),.lst (js.map bo),.lst (us.map cc),.lst (ls.map cu)]++[.lst (ks.map cC),.int h])) (B8 (fa:=pw 1) (ρ:=[oS (cg bs ss js us ls ks h),aa (.nsh (.lst [.lst (bs.map bU),.lst (ss.map bf),.lst (js.map bo),.lst (us.map cc),.lst (ls.map cu)]))]) (x:=[.lst (bs.map bU),.lst (ss.map bf),.lst (js.map bo),.lst (us.map cc),.lst (ls.map cu)]) rfl (tS (ek _) (em _)) (by simp))
theorem kz {f:α->D} {xs:ab α} (hl:xs.length<=500) (h:∀x∈xs,SmN n (f x)):SmN (n+1) (.lst (xs.map f)):=⟨by rw[qe];exact hl,fun x hx=>by obtain⟨y,hy,rfl⟩:=bP.mp hx;exact h y hy⟩
theorem vI {xs:ab (ai×af)} (hl:xs.length<=500):SmN (n+3) (.lst (xs.map dW)):=kz hl fun x _=>⟨by simp,fun y hy=>by
 have:y=.str x.1\/y=.int x.2:=by simpa[dW] using hy
 rcases this with rfl|rfl<;>trivial⟩
theorem O6 {xs:ab (af×af)} (hl:xs.length<=500):SmN (n+3) (.lst (xs.map dIv)):=kz hl fun x _=>⟨by simp,fun y hy=>by
 have:y=.int x.1\/y=.int x.2:=by simpa[dIv] using hy
 rcases this with rfl|rfl<;>trivial⟩
theorem EC (g:Good bs ss js us ls ks h):SmN 8 (.lst (cw bs ss js us ls ks h)):=by
 have b1:=g.bl;have s1:=g.sl;have j1:=g.jl;have u1:=g.ul;have l1:=g.ll;have k1:=g.kl;refine⟨by simp[cw],fun y hy=>?_⟩;simp only[cw,qL,qJ,or_false] at hy;rcases hy with rfl|rfl|rfl|rfl|rfl|rfl|rfl
 .refine kz (by omega) fun x hx=>⟨by simp,fun y hy=>?_⟩;have:y=.str x.nm\/y=.lst (x.br.map dIv):=by simpa[bU] using hy
  rcases this with rfl|rfl
  .trivial
  .exact O6 (by have:=(g.b x hx).len;omega)
 .refine kz (by omega) fun x hx=>⟨by simp,fun y hy=>?_⟩;have:y=.str x.nm\/y=.str x.kd\/y=.lst (x.ws.map dW):=by simpa[bf] using hy
  rcases this with rfl|rfl|rfl
  .trivial
  .trivial
  .exact vI (by have:=(g.s x hx).l4;omega)
 .refine kz (by omega) fun x hx=>⟨by simp,fun y hy=>?_⟩;have:y=.str x.nm\/y=.int x.ea\/y=.int x.du\/y=.bl x.od\/y=.lst (x.ms.map D.str):=by simpa[bo] using hy
  rcases this with rfl|rfl|rfl|rfl|rfl
  .trivial
  .trivial
  .trivial
  .trivial
  .refine kz ?_ fun _ _=>trivial;have:=(g.j x hx).ln;rw[qe] at this;omega
 .refine kz (by omega) fun x hx=>⟨by simp,fun y hy=>?_⟩;have:y=.str x.b\/y=.str x.p\/y=.str x.q\/y=.int x.n:=by simpa[cc] using hy
  rcases this with rfl|rfl|rfl|rfl<;>trivial
 .refine kz (by omega) fun x hx=>⟨by simp,fun y hy=>?_⟩;have:y=.str x.a\/y=.str x.b\/y=.int x.g:=by simpa[cu] using hy
  rcases this with rfl|rfl|rfl<;>trivial
 .refine kz (by omega) fun x hx=>⟨by simp,fun y hy=>?_⟩;have:y=.str x.nm\/y=.int x.lo\/y=.int x.hi\/y=.lst (x.tk.map dW)\/y=.lst (x.pt.map dW):=by simpa[cC] using hy
  have t1:=(g.k x hx).tk.ln;have t2:=(g.k x hx).pt.ln;rw[qe] at t1 t2;rcases this with rfl|rfl|rfl|rfl|rfl
  .trivial
  .trivial
  .trivial
  .exact vI (by omega)
  .exact vI (by omega)
 .trivial
theorem vR:∀{n m:ag} {d:D},n<=m->Sm n d->Sm m d
 |0,_,_,_,h=>h.elim
 |n+1,0,_,hm,_=>by omega
 |n+1,m+1,.lst l,hm,h=>fun x hx=>vR (S9 hm) (h x hx)
 |n+1,m+1,.tup l,hm,h=>fun x hx=>vR (S9 hm) (h x hx)
 |n+1,m+1,.bl _,_,_=>trivial
 |n+1,m+1,.int _,_,_=>trivial
 |n+1,m+1,.str _,_,h=>h
end
theorem Ch (h:Sm 64 (.lst l)):eqA (.lst l) (.lst l)=aa (.bl al):=by
 obtain⟨p,a1,a2,a3,a4⟩:=pO 64 _ h;have hs:dH p=al:=by unfold dH;rw[a2,qS a3];rfl
 have e0:eqA (.lst l) (.lst l)=rn (.lst l) (.lst l):=rfl;rw[e0];unfold rn eqX;rw[a1,qa,qa,qY ⟨hs,hs⟩,a4];rfl
theorem QR {E:FS} (h:f ρ=aa (.lst l)) (h1:(l.take n).all o7=al) (h2:i < ρ.length):ax (o8 i n f) E ρ=E (ρ.set i ac):=by refine cZ ?_;unfold o8;rw[h,qa];show(if (l.take n).all o7=al/\i < ρ.length then _ else _)=_;rw[qY ⟨h1,h2⟩]
theorem HI (ns:ab af) (hlen:ns.length<=63):AI [.scr ns]=aa (.bl al):=by
 obtain⟨bs,ss,js,us,ls,ks,h,e1,g,ml,hj,hu,hl⟩:=Nw ns;have tl:=Dl g hj hu hl;generalize hT:cA bs ss js us ls ks=T at tl;have er:pK bs ss js us ls ks h=T.map (row h):=by rw[Qg,hT]
 have e2:=Kt g;rw[er] at e2;obtain⟨ds,e3,dl,hd⟩:=iE ns 62 (by decide) [1000000] (by decide) (by decide);obtain⟨d,hd0,d0,d1⟩:=hd 0 1000000 rfl;obtain⟨o,e4,hp⟩:=OF (n:=T.length) (d:=d) tl.1 tl.2 d0;have hp':o.Perm (bj (cA bs ss js us ls ks).length):=by rw[hT];exact hp
 have e5:=JD g hj hu hl hp';have pp:(pm T o).Perm (cA bs ss js us ls ks):=by rw[hT];exact IH hp
 have g':=g.of pp;have e6:=Hd g ml hj hu hl pp;rw[hT] at e5;generalize hL:pm T o=L at e5 e6 g' pp;have tok:∀t∈T,TOk h t:=fun t ht=>vM g t (by rw[hT];exact ht);have tokL:∀t∈L,TOk h t:=fun t ht=>vM g t (pp.mem_iff.mp ht);have ll:L.length<=110:=by rw[pp.length_eq,hT];exact tl.2
 have ol:o.length<=110:=by rw[hp.length_eq,qU];exact tl.2
 have e7:=PK g';have e8:=OX g';have sp:=PD g';have k1:=xJ 8 _ (EC g');have k2:Sm 64 (kD 8 (.lst (cw (im L) (ip L) (gv L) (gZ L) (ic L) (gY L) h))):=vR (by decide) (ww 8 _ (EC g'));have eP:((cw (im L) (ip L) (gv L) (gZ L) (ic L) (gY L) h).take 6).all o7=al:=rfl;have eS:t9 "Shop" (cg (im L) (ip L) (gv L) (gZ L) (ic L) (gY L) h)=aa (.bl al):=rfl;generalize hP:cw (im L) (ip L) (gv L) (gZ L) (ic L) (gY L) h=P at e5 e7 e8 sp k1 k2 eP;generalize hS:cg (im L) (ip L) (gv L) (gZ L) (ic L) (gY L) h=S at e6 e7 e8 eS;have oT:∀p∈o,p<T.length:=fun p hpo=>dU.mp (hp.mem_iff.mp hpo);have cm:∀{a b c d e:ao Slot},aD (bc (itF (vSh 3)) (ay 0) tT (b2 ixD (vSh 1) (vSh 0)) [ac,aa 2]) [oS (.scr ns),a,oS (.lst ((T.map (row h)).map D.str)),oS (IL o),b,c,d,e]=aa (.lst ((L.map (row h)).map D.str)):=fun {a b c d e}=>by
  rw[lH (r:=[oS (.lst ((T.map (row h)).map D.str))]) (a:=ac) (xs:=o) (dx:=fun i=>D.int ((i:ag):af)) (g:=fun p=>D.str (row h (T.getD p .ho))) rfl (by omega) rfl (fun p hpo=>aC (x:=.lst ((T.map (row h)).map D.str)) (y:=.int (p:af)) rfl rfl ((ixL _ p).trans (by have:=oT p hpo;rw[qj,qj,qD this,F2,qD this];rfl)))]
  congr 2
  rw[←hL];unfold pm;clear e4 hp hp' e5 hL ol
  induction o with
  |nil=>rfl
  |cons p o ih=>
   have:=oT p qf;rw[qm,ih fun q hq=>oT q (qg _ hq),nt (f:=fun i=>T[i]?) (qD this),qm,qm,F2,qD this];rfl
 generalize hB:cw bs ss js us ls ks h=B at e1 e2 e5;have ln:bT [.lst ((T.map (row h)).map D.str)]=aa (.int (T.length:af)):=(nA _).trans (by rw[qe,qe]);have kd:kD 8 (.lst P)=.lst (.bl al::P.map (kD 7)):=rfl;have nk:neA (kD 8 (.lst P)) (kD 8 (.lst P))=aa (.bl aq):=by rw[kd] at k2 ⊢;exact z6 k2
 have tB:∀y∈L.map (row h),y.length<=6100:=fun y hy=>by obtain⟨t,ht,rfl⟩:=bP.mp hy;exact(tokL t ht).len
 have six:∀ρ:aX,aD (szF (ae (b2 ce (vC (.int 10)) (vC (.int 6))) ak)) ρ=aa (.lst (([1000000]:ab af).map D.int)):=fun ρ=>by kernel_rfl
 generalize hX:dY "\n" (L.map (row h))=X at e6;have ji:∀{a b c d e:ao Slot},mF fK (vC (.str "\n")) (ae (aD (bc (itF (vSh 3)) (ay 0) tT (b2 ixD (vSh 1) (vSh 0)) [ac,aa 2])) ak) [oS (.scr ns),a,oS (.lst ((T.map (row h)).map D.str)),oS (IL o),b,c,d,e]=aa (.str X):=fun {a b c d e}=>(D7 cm tB (by decide) (by decide +kernel) (by rw[qe];omega)).trans (by rw[hX]);have ls':∀{ρ:aX} {f:FE},f ρ=aa S->cF lQ (ae f ak) ρ=aa (.lst P):=fun hf=>aT (aB hf aL) e7;refine bH (ρ':=[oS (.scr ns),oS (.lst B),oS (.lst ((T.map (row h)).map D.str)),oS (IL o),oS (.str X),oS (.lst P),oS S,ac]) [oS (.scr ns),ac,ac,ac,ac,ac,ac,ac] rfl ?_;refine(bz (d:=.lst B) (aT (aB rfl aL) e1)).trans ?_;refine(bz (d:=.lst ((T.map (row h)).map D.str)) (aT (aB rfl aL) e2)).trans ?_;refine(bz (d:=IL o) (aT (aB (aT (aB rfl aL) ln) (aB (aC (aT (aB rfl (aB rfl (aB (six _) aL))) e3) rfl ((ixL _ 0).trans (by rw[qj,hd0];rfl))) aL)) e4)).trans ?_;refine(bz (d:=.str X) ji).trans ?_;refine(bz (d:=.lst P) (aT (aB rfl (aB rfl aL)) e5)).trans ?_;refine(bz (d:=S) (aT (aB rfl aL) e6)).trans ?_;refine(cb (dO (fH (px rfl eS)) (dO (bx (aC (ls' rfl) rfl (z6 sp))) (bx (aC (aT (aB (ls' rfl) aL) k1) (aT (aB rfl aL) k1) nk))))).trans ?_;refine(QR (aT (aB rfl aL) e8) eP (by simp)).trans ?_;exact bR (ud (aC (ls' rfl) rfl (Ch sp)) (aC (ls' (aT (aB rfl aL) e6)) rfl (Ch sp)))
noncomputable def vU (K:aV):Sp:=fun vs H Q _=>∃(a:aw) (ns:ab af),vs=[.ref a]/\SqL K H a (ns.map V.int)/\ns.length<=63/\∀H',Q (.bl al) H'
theorem all_mk {l:Fj} {h:Heap} {fa:aw} (X:K.In h) (G:h.Ns fD mg) (hfa:mg "law"=aa (.ref fa))
  (aC_Shop:uZ K fD "Shop"=aa (aa (.ref C_Shop)))
  (pg_Shop:uK K C_Shop yL=al) (hd_Shop:yJ K C_Shop=al) (po_Shop:ET K C_Shop=al) (sa_Shop:dv K (.ref C_Shop) "__setattr__"=aa (aa (.builtin "object.__setattr__"))) (mk_Shop:yK K C_Shop=al) (kc_Shop:iN K (.ref C_Shop)=al)
  (ia_Shop:dv K (.ref C_Shop) "__class__"=aa (aa (.builtin "object.__class__"))) (in_Shop:EW K (.builtin "object.__class__") "__get__"=aa (aa (.builtin "getset_descriptor.__get__"))) (it_Shop:EX K (.builtin "object.__class__")=aa al) (im_Shop:EY K C_Shop (.type "object")=aa al)
  (n0_Shop:dv K (.ref C_Shop) "benches"=aa ac)
  (n1_Shop:dv K (.ref C_Shop) "steps"=aa ac)
  (n2_Shop:dv K (.ref C_Shop) "jobs"=aa ac)
  (n3_Shop:dv K (.ref C_Shop) "setups"=aa ac)
  (n4_Shop:dv K (.ref C_Shop) "links"=aa ac)
  (n5_Shop:dv K (.ref C_Shop) "stocks"=aa ac)
  (n6_Shop:dv K (.ref C_Shop) "horizon"=aa ac)
  (n7_Shop:dv K (.ref C_Shop) "bench_by_name"=aa ac)
  (n8_Shop:dv K (.ref C_Shop) "step_by_name"=aa ac)
  (n9_Shop:dv K (.ref C_Shop) "setup_by_names"=aa ac)
  (n10_Shop:dv K (.ref C_Shop) "job_by_step"=aa ac)
  (a72:uZ K fD "law"=aa (aa (.ref f72))) (l72:K.lookup f72=aa ⟨oc72,od72,.func (ge "law" "law" (gx (top 81)) (dq (top 81)) (aO (top 81)) .none kV72 dc72 pm72 an72 cd72 ct72),sl72⟩) (c72:rN K cd72 "law"=al) (k72:iN K (.ref f72)=al)
  (V:Vd K mg C_Shop)
 : ∃fd:m5,(∀(s:aI) (v:av),rH s fd ⟨[v],[]⟩ [("_law_script",v)])/\∀base:Heap,K.In base->base.Ns fD mg->FnOk l.prog w K mg base CX0 12 fa fd ["_law_script"] (vU K):=by
 have e:=hfa.symm.trans (u0 X G a72);have e2:=Value.ref.inj (qH e);subst e2;have O_Shop:ClsOk (Gam C_Shop) K mg "Shop" C_Shop:=⟨by unfold Gam;rfl,⟨pg_Shop,hd_Shop,po_Shop,sa_Shop⟩,u0 X G aC_Shop,mk_Shop,kc_Shop⟩;have cf_Shop:CF (Gam C_Shop) K "Shop" Dm:=O_Shop.cf (kr.mpr ⟨n0_Shop,(kr.mpr ⟨n1_Shop,(kr.mpr ⟨n2_Shop,(kr.mpr ⟨n3_Shop,(kr.mpr ⟨n4_Shop,(kr.mpr ⟨n5_Shop,(kr.mpr ⟨n6_Shop,(kr.mpr ⟨n7_Shop,(kr.mpr ⟨n8_Shop,(kr.mpr ⟨n9_Shop,(kr.mpr ⟨n10_Shop,(List.forall_mem_nil _)⟩)⟩)⟩)⟩)⟩)⟩)⟩)⟩)⟩)⟩)⟩);have V:Vw K mg C_Shop:={V with O_Shop,cf_Shop,I_Shop:=⟨ia_Shop,in_Shop,it_Shop,im_Shop⟩};refine⟨ge "law" "law" (gx (top 81)) (dq (top 81)) (aO (top 81)) .none kV72 dc72 pm72 an72 cd72 ct72,fun s v=>.of_eq rfl,fun base _ _=>?_⟩;have FL:=vF (st:=top 81) l72 c72 k72;have ok:FnOk l.prog w K mg base CX0 12 fa _ ["_law_script"] (spF (Gam C_Shop) K 1 AI):=FL.okD (k:=11) lC (Mg V fa);refine ok.imp fun vs H Q E hq=>?_;obtain⟨a,ns,rfl,hS,hlen,k⟩:=hq;exact⟨H,[.scr ns],.bl al,bp.refl H,.cons (.scr hS) .nil,rfl,HI ns hlen,fun v G' H' _ r=>by rw[r.bl_inv];exact k H'⟩
theorem walk {l:Fj} {d:ze} {K:zd->aV} (hn:l.most=aa 63) (hdf:d.params.defaults=[])
  (hY:∀(w:cQ) (h:Heap),YP w h->(K w.params).In h)
  (F:∀(w:cQ) (mg:ai->ao av) (fa:aw) (h:Heap),(K w.params).In h->h.Ns fD mg->mg d.name=aa (.ref fa)->
   ∃fd:m5,(∀(s:aI) (u:av),rH s fd ⟨[u],[]⟩ [("_law_script",u)])/\∀base:Heap,(K w.params).In base->base.Ns fD mg->FnOk l.prog w (K w.params) mg base CX0 12 fa fd ["_law_script"] (vU (K w.params))) :
  RH q loose XP YP l.row.toRowW d [] (fun f vs=>zf f vs):=
 L2.walk_of (n:=63) (k:=12) (x:="_law_script") (CX:=fun _=>CX0) (sp:=fun w=>vU (K w.params)) hn (by decide) hdf ⟨rfl,by decide,by decide⟩ hY F (fun _ _ a ns hl _ hS=>⟨a,ns,rfl,hS,hl,fun _=>rfl⟩) fun _ _ _ _ _ z=>z
end Law
end L2
def PySem.W.Fast.tw666406789474453777:Unit:=()
def PySem.W.Fast.tw4142806715375903555:Unit:=()
def PySem.W.Fast.tw4420358227705643785:Unit:=()
def PySem.W.Fast.tw7760212910822351550:Unit:=()
def PySem.W.Fast.tw2838033009986391429:Unit:=()
def PySem.W.Fast.tw2078004815616546191:Unit:=()
def PySem.W.Fast.tw16998581510384856152:Unit:=()
def PySem.W.Fast.tw12614722340735920447:Unit:=()
def PySem.W.Fast.tw333851435666764643:Unit:=()
def PySem.W.Fast.tw14028234731920693666:Unit:=()
def PySem.W.Fast.tw18304335529880690002:Unit:=()
def PySem.W.Fast.tw18312239740507981492:Unit:=()
def PySem.W.Fast.tw6098651297420994793:Unit:=()
def PySem.W.Fast.tw1579792854770604518:Unit:=()
def PySem.W.Fast.tw5382347399539219744:Unit:=()
def PySem.W.Fast.tw10332144595458968833:Unit:=()
def PySem.W.Fast.tw6980740757761813606:Unit:=()
def PySem.W.Fast.tw17571998209778197932:Unit:=()
def PySem.W.Fast.tw8440544073692407473:Unit:=()
def PySem.W.Fast.tw17287727470188205010:Unit:=()
def PySem.W.Fast.tw7373702694626792448:Unit:=()
def PySem.W.Fast.tw11571509189864129181:Unit:=()
def PySem.W.Fast.tw14144455595154535002:Unit:=()
def PySem.W.Fast.tw14906954129294604005:Unit:=()
def PySem.W.Fast.tw6217396588316773781:Unit:=()
def PySem.W.Fast.tw1488913274048734047:Unit:=()
def PySem.W.Fast.tw2548104173543174703:Unit:=()
def PySem.W.Fast.tw6569403718331745505:Unit:=()
def PySem.W.Fast.tw6066072786729807759:Unit:=()
def PySem.W.Fast.tw13533599424720617937:Unit:=()
def PySem.W.Fast.tw17210514197628184681:Unit:=()
def PySem.W.Fast.tw5104493915848937990:Unit:=()
def PySem.W.Fast.tw9182062739969233717:Unit:=()
def PySem.W.Fast.tw10220371746782252618:Unit:=()
def PySem.W.Fast.tw8627685937937033364:Unit:=()
def PySem.W.Fast.tw8094795795054628057:Unit:=()
def PySem.W.Fast.tw7832364850290299501:Unit:=()
def PySem.W.Fast.tw14510240468835373255:Unit:=()
def PySem.W.Fast.tw10082795562780783356:Unit:=()
def PySem.W.Fast.tw8953757084523512028:Unit:=()
def PySem.W.Fast.tw3457633533227850702:Unit:=()
def PySem.W.Fast.tw11428857573268395948:Unit:=()
def PySem.W.Fast.tw13979317128563629068:Unit:=()
def PySem.W.Fast.tw6176949055877613683:Unit:=()
def PySem.W.Fast.tw17782927337044786034:Unit:=()
def PySem.W.Fast.tw10647334507648125952:Unit:=()
def PySem.W.Fast.tw7433041300440199357:Unit:=()
def PySem.W.Fast.tw3356811961805862427:Unit:=()
def PySem.W.Fast.tw2085087842231387754:Unit:=()
def PySem.W.Fast.tw8713324613379703881:Unit:=()
def PySem.W.Fast.tw3165303335750699484:Unit:=()
def PySem.W.Fast.tw11041050799672519278:Unit:=()
def PySem.W.Fast.tw15771927964498278439:Unit:=()
def PySem.W.Fast.tw6026256098665200844:Unit:=()
def PySem.W.Fast.tw1416734944290648265:Unit:=()
def PySem.W.Fast.tw17325865321265867992:Unit:=()
def PySem.W.Fast.tw7446116497710130089:Unit:=()
def PySem.W.Fast.tw15347411474777310108:Unit:=()
def PySem.W.Fast.tw11741091249129026946:Unit:=()
def PySem.W.Fast.tw10346448307763009277:Unit:=()
def PySem.W.Fast.tw13416378143191436769:Unit:=()
def PySem.W.Fast.tw13823299218410883582:Unit:=()
def PySem.W.Fast.tw328342540779866906:Unit:=()
def PySem.W.Fast.tw34960802071147545:Unit:=()
def PySem.W.Fast.tw6153012649519597776:Unit:=()
def PySem.W.Fast.tw3234403307122121292:Unit:=()
def PySem.W.Fast.tw17506546864099338881:Unit:=()
def PySem.W.Fast.tw17847948293010208785:Unit:=()
def PySem.W.Fast.tw5488096799738461601:Unit:=()
def PySem.W.Fast.tw16666352927172539361:Unit:=()
def PySem.W.Fast.tw17931053471912394746:Unit:=()
def PySem.W.Fast.tw2714078866227068264:Unit:=()
def PySem.W.Fast.tw14904416023661437711:Unit:=()
def PySem.W.Fast.tw4713359556915844829:Unit:=()
def PySem.W.Fast.tw7848255494059849144:Unit:=()
def PySem.W.Fast.tw5911547874986225056:Unit:=()
def PySem.W.Fast.tw8900833109800719645:Unit:=()
def PySem.W.Fast.tw11086518178566967557:Unit:=()
def PySem.W.Fast.tw4722233502593773554:Unit:=()
def PySem.W.Fast.tw15581231557038625745:Unit:=()
def PySem.W.Fast.tw15279940294352677676:Unit:=()
def PySem.W.Fast.tw9933875137349140615:Unit:=()
def PySem.W.Fast.tw14635724923168234877:Unit:=()
def PySem.W.Fast.tw4910592487083979325:Unit:=()
def PySem.W.Fast.tw14754124279243640878:Unit:=()
def PySem.W.Fast.tw290574002751309657:Unit:=()
def PySem.W.Fast.tw283477553348388461:Unit:=()
def PySem.W.Fast.tw11327606149006007704:Unit:=()
def PySem.W.Fast.tw4087263907594361737:Unit:=()
def PySem.W.Fast.tw6046430237373971206:Unit:=()
def PySem.W.Fast.tw1623285320049101852:Unit:=()
def PySem.W.Fast.tw13349018934677347972:Unit:=()
def PySem.W.Fast.tw2765201049717266105:Unit:=()
def PySem.W.Fast.tw7193703225221556780:Unit:=()
def PySem.W.Fast.tw3255236646403774982:Unit:=()
def PySem.W.Fast.tw10820171395692233404:Unit:=()
def PySem.W.Fast.tw17762531917175071055:Unit:=()
def PySem.W.Fast.tw1215203361357143327:Unit:=()
def PySem.W.Fast.tw15464702042939451251:Unit:=()
def PySem.W.Fast.tw9445231887840551379:Unit:=()
def PySem.W.Fast.tw5179254823809860387:Unit:=()
def PySem.W.Fast.tw16726876938849852622:Unit:=()
def PySem.W.Fast.tw12977499238131686139:Unit:=()
def PySem.W.Fast.tw4855469444023401977:Unit:=()
def PySem.W.Fast.tw756381338192507164:Unit:=()
def PySem.W.Fast.tw12250286357174345940:Unit:=()
def PySem.W.Fast.tw1285919211750004063:Unit:=()
def PySem.W.Fast.tw12684477757190280268:Unit:=()
def PySem.W.Fast.tw5068487070594765296:Unit:=()
def PySem.W.Fast.tw2617761078288726426:Unit:=()
def PySem.W.Fast.tw13701598588415697558:Unit:=()
def PySem.W.Fast.tw16028222090674320651:Unit:=()
def PySem.W.Fast.tw5748555086186180250:Unit:=()
def PySem.W.Fast.tw3944299370091005395:Unit:=()
def PySem.W.Fast.tw10567289081682065582:Unit:=()
def PySem.W.Fast.tw5516741875104313097:Unit:=()
def PySem.W.Fast.tw14960973656270555508:Unit:=()
def PySem.W.Fast.tw831064404750380928:Unit:=()
def PySem.W.Fast.tw13929934209697959441:Unit:=()
def PySem.W.Fast.tw4102903583730412940:Unit:=()
def PySem.W.Fast.tw9179963881491535845:Unit:=()
def PySem.W.Fast.tw1947406515776677637:Unit:=()
def PySem.W.Fast.tw1053037188320092110:Unit:=()
def PySem.W.Fast.tw13462118593794708561:Unit:=()
def PySem.W.Fast.tw8072260820624106503:Unit:=()
def PySem.W.Fast.tw12623717044742718915:Unit:=()
def PySem.W.Fast.tw3352429575424545915:Unit:=()
def PySem.W.Fast.tw6396902456217050721:Unit:=()
def PySem.W.Fast.tw16276439154978837959:Unit:=()
def PySem.W.Fast.tw3537600568317811841:Unit:=()
def PySem.W.Fast.tw2475306427261842595:Unit:=()
def PySem.W.Fast.tw13223605189352731066:Unit:=()
def PySem.W.Fast.tw16729475410423622114:Unit:=()
def PySem.W.Fast.tw6484776343137677597:Unit:=()
def PySem.W.Fast.tw17226313730429667829:Unit:=()
def PySem.W.Fast.tw13102390118460457919:Unit:=()
def PySem.W.Fast.tw6885193088324321603:Unit:=()
def PySem.W.Fast.tw11462633554188880921:Unit:=()
def PySem.W.Fast.tw647787052167896091:Unit:=()
def PySem.W.Fast.tw2637895234709825951:Unit:=()
def PySem.W.Fast.tw80024158811887386:Unit:=()
def PySem.W.Fast.tw8729872214487080612:Unit:=()
def PySem.W.Fast.tw9006966738239480448:Unit:=()
def PySem.W.Fast.tw2213078175442770855:Unit:=()
def PySem.W.Fast.tw12483559661281882002:Unit:=()
def PySem.W.Fast.tw3102751852833654450:Unit:=()
def PySem.W.Fast.tw12480021900559699676:Unit:=()
def PySem.W.Fast.tw16575852269580300175:Unit:=()
def PySem.W.Fast.tw678545535526736079:Unit:=()
def PySem.W.Fast.tw9127927140039157981:Unit:=()
def PySem.W.Fast.tw9557828618467511782:Unit:=()
def PySem.W.Fast.tw1577512280065625639:Unit:=()
def PySem.W.Fast.tw13721216164174418139:Unit:=()
def PySem.W.Fast.tw3106267918698653027:Unit:=()
def PySem.W.Fast.tw5774492153800077192:Unit:=()
def PySem.W.Fast.tw15919272110129494572:Unit:=()
def PySem.W.Fast.tw5136838854047006829:Unit:=()
def PySem.W.Fast.tw5359198405307328465:Unit:=()
def PySem.W.Fast.tw6996396674702204174:Unit:=()
def PySem.W.Fast.tw5424842771494108749:Unit:=()
def PySem.W.Fast.tw7213080915426926290:Unit:=()
def PySem.W.Fast.tw16461313458571730666:Unit:=()
def PySem.W.Fast.tw12108499257040655057:Unit:=()
def PySem.W.Fast.tw7075983315525962762:Unit:=()
def PySem.W.Fast.tw4923381263762195019:Unit:=()
def PySem.W.Fast.tw921299343578929846:Unit:=()
def PySem.W.Fast.tw17845476379097830611:Unit:=()
def PySem.W.Fast.tw17607299496028514831:Unit:=()
def PySem.W.Fast.tw1484313337732627150:Unit:=()
def PySem.W.Fast.tw14913801172547066592:Unit:=()
def PySem.W.Fast.tw12635619659753510439:Unit:=()
def PySem.W.Fast.tw11767418307973256566:Unit:=()
def PySem.W.Fast.tw14928429939748901554:Unit:=()
def PySem.W.Fast.tw9492045209274134629:Unit:=()
def PySem.W.Fast.tw5635155844292345981:Unit:=()
def PySem.W.Fast.tw12773222007459908476:Unit:=()
def PySem.W.Fast.tw3185501222046010110:Unit:=()
def PySem.W.Fast.tw8022231320339068375:Unit:=()
def PySem.W.Fast.tw6230877780782027878:Unit:=()
def PySem.W.Fast.tw10778507842937645338:Unit:=()
open PySem PySem.W PyProof.Rows L2
set_option maxRecDepth 100000 in
set_option maxHeartbeats 0 in
theorem PySem.Challenge.cw_shopbound_k12_shops_read_holds : PySem.Challenge.rw_shopbound_k12_shops_read.Holds := by
 w_on;o_law;k_head;(case hw=>w_witness2)
 k_fill
 refine Law.walk (l:=Uc) rfl rfl (fun w h Y=>PySem.W.kIn_of Y) ?F
 case F=>
  intro w mg fa h KX G hmg
  refine' Law.all_mk KX G hmg ?aC_Shop ?pg_Shop ?hd_Shop ?po_Shop ?sa_Shop ?mk_Shop ?kc_Shop ?ia_Shop ?in_Shop ?it_Shop ?im_Shop ?n0_Shop ?n1_Shop ?n2_Shop ?n3_Shop ?n4_Shop ?n5_Shop ?n6_Shop ?n7_Shop ?n8_Shop ?n9_Shop ?n10_Shop ?a72 ?l72 ?c72 ?k72 ?V
  (case aC_Shop=>k_is)
  (case pg_Shop=>k_is)
  (case hd_Shop=>k_is)
  (case po_Shop=>k_is)
  (case sa_Shop=>k_is)
  (case mk_Shop=>k_is)
  (case kc_Shop=>k_is)
  (case ia_Shop=>k_is)
  (case in_Shop=>k_is)
  (case it_Shop=>k_is)
  (case im_Shop=>k_is)
  (case n0_Shop=>k_is)
  (case n1_Shop=>k_is)
  (case n2_Shop=>k_is)
  (case n3_Shop=>k_is)
  (case n4_Shop=>k_is)
  (case n5_Shop=>k_is)
  (case n6_Shop=>k_is)
  (case n7_Shop=>k_is)
  (case n8_Shop=>k_is)
  (case n9_Shop=>k_is)
  (case n10_Shop=>k_is)
  (case a72=>k_is)
  (case l72=>k_is)
  (case c72=>k_is)
  (case k72=>k_is)
  (case V=>constructor;all_goals first|(refine' Dfn.mk' KX G ?a ?l ?c ?k;(case a=>k_is);(case l=>k_is);(case c=>k_is);(case k=>k_is))|(refine' DfnM.mk' ?a ?i ?l ?c ?k;(case a=>k_is);(case i=>k_is);(case l=>k_is);(case c=>k_is);(case k=>k_is))|(refine' PySem.W.mg_none_of KX G ?a;(case a=>k_is))|(refine' Law.tkI_of KX G ?a;(case a=>k_is))|(refine' Law.tkS_of KX G ?a;(case a=>k_is)))
end
end
