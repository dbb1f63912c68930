import PyProof.Rows.All
import Wide.All
import OpenK.AllK
import Wide.FinOn
import Lean
import PyProof.EqAt
import PyProof.EqKinds
import PyProof.TupleCall
import PySem.SetOps
import KE.KDictOf
import PyProof.AttrMiss
import PyProof.IsiH_list
import PyProof.WalkInts
import KE.KMinBuiltin
import PyProof.Rows.CallKwBuiltin
import KE.KEqDict
import KE.KItemsList
import KE.KDictSum
import KE.KRevSl
import PyProof.Rows.SortStr
import PyProof.Rows.SortWalk
import PyProof.DictWalks
import KE.KTryMore
import PyProof.NsDelKeeps
import PyProof.ExcAttrAll.ValueError
import PyProof.StrReplace2
import PyProof.ReprStr
import PyProof.Rows.RuleU_int
import PyProof.InstStoreFacts
import PyProof.ExcInit
import PyProof.MinMaxWalk
import PyProof.StrCalls
import PyProof.ZipIter
import PyProof.Draws
import KE.KIntText
import PyProof.ListRange
import PyProof.Rows.SumAny
import PyProof.StrLawsTight
import PySem.Challenge.RW_shopbound_k56_texts_of_no_tree
set_option Elab.async false
set_option linter.all false
set_option maxRecDepth 100000
local macro_rules|`(universe zz)=>do
 let mut r:=#[]
 let mut l:Array Lean.Name:=#[`PySem.Challenge.pw_shopbound_k56_texts_of_no_tree,`PySem.Challenge.rw_shopbound_k56_texts_of_no_tree]
 for (k,v) in [("heap",#[921,39,46]),("tree",#[920,911,828,660,745,545,516,432,367,281,227,181,166,144,129,114,92,70,47]),("view",#[39]),("sts",#[829,749,368,433,546,517,228,282,182,912,71,145,93,49,115,167,130]),("env",#[41])] do for i in v do l:=l.push (.str `PySem.Challenge.cw_shopbound_k56_texts_of_no_tree_holds s!"{k}_{i}")
 for i in [:921] do if Nat.testBit 0x1d1e9d3a73a73a739d3a74e3d39d3a739d3a74e9d3a234e9ce74e9d3a74e9d39907fa74e9d3a739d3a74e9d3a74e6679ce74e3d39d39d39ce74e74e74e3d3a74e9d3a74e9d13fd3a74e9d3a74e9d3a667a73a73a74e9d1e9d39ce86c94d9a9fa66a6cd4d929fa66a7e99a9d93a2600000000000 i then l:=l.push (.str `PySem.Challenge.cw_shopbound_k56_texts_of_no_tree_holds s!"o_{i}")
 for x in l do r:=r.push (← `(noncomputable def $(Lean.mkIdent (.str `PySem.W.Fast s!"tw{x.hash}")) :=Unit.unit))
 return Lean.mkNullNode r
universe zz
open Option renaming some->U,none->B,map->fY,isSome_iff_exists->C0,bind->NE,map_map->NH,getD_none->YI,isSome_map->YO,join_some->Ze,getD_some->Zg
open _root_ renaming List->Z,Nat->J,Int->aj,Option->ak,Bool->aR,absurd->ba,Array->cg,congrArg->cQ,if_true->dc,if_false->dE,DecidableEq->eS,eq_true->iE,beq_iff_eq->i6,of_decide_eq_true->km,Unit->li,not_or->oF,beq_eq_false_iff_ne->q0,decide_eq_true_eq->rR,decide_eq_decide->uR,ne_of_beq_false->yb,and_self->ye,ne_true_of_eq_false->Nc,Decidable->NC,instBEqOfDecidableEq->Zs,decide_eq_false_iff_not->ZO
open PySem renaming Str->af,Addr->ar,Value->au,Shared->aF,sizeLine->aH,starEach->aK,model->aL,wpAny->aM,Obj->bo,tupleKeyHash->bA,World->bU,Pos->bV,backTo->bX,Program->b7,Env->cD,cLine->c5,Around->dh,mainGlobals->dD,compareOp->dP,swapsWith->eD,wpAny_mono->fj,binaryOp->gK,sizeLine_eq->gL,bindArgs->gM,codeAny->hU,NameKind->hV,holding->i4,attributeBase->i8,Keyword->i9,IsPair->jB,behindInMarks->jZ,assignEach->ka,backToKw->kf,keywordEach->kh,wpAny_field->ki,bootBuiltins->lc,foldedSetIterable->lj,sysModules->mB,standAt->mC,wpAny_truthy_bool->mD,atKey->mL,SetTable->mQ,wpAny_seqItems->mU,IsZip->mW,FuncData->oh,bindL->oi,bindC->oj,mem_of_lookup->oo,IsPart->oq,getItem->ou,typeIs_str->ox,tupleKind->rh,Model->rj,assign->rl,wpAny_passesOwn->rm,rawInt->rA,getMethod->rC,wpAny_call->rD,codeAny_mono->rE,wpAny_newObj_type->rG,sliceBounds->rH,call_meets->rK,valueAt->rN,callerA->rO,GenState->uj,wpAny_execs_nil->uk,PassesOwn->um,BindsTo->uu,PyData->uF,codeAny_builtin->uK,letOwnedTupleGo->xG,pyIter->xH,wpAny_Call_Name_kw->xL,callWith->xM,wpAny_typeOf->xN,typeOf->xP,wpAny_pyIter_list->xS,wpAny_setState_of->xX,wpAny_attempt->x6,spliced->CI,pyNext->CJ,lastMarks->CL,pick_run->C4,wpAny_callSpecial?_slot->C5,wpAny_call_entry->C6,typeLookup->C8,subscripted->Da,Params->Dd,relabel->Df,codeAny_call_builtin->Ds,wpAny_of_eq->Dw,wpAny_setField_rec->Dz,intText?->DD,Within->L7,builtinsNs->L8,wpAny_Name->Ma,wpAny_execs_cons->Me,wpAny_standAt->Mf,swapsWithSole->Mg,swappedStores->Mh,Operator->Mi,IntMulOk->Mj,cellsFrom->Mq,seqIndex_of->Mx,slot_list_getitem->My,typeIs_int->MA,tupleKind_room_in1->MG,call->MH,compEnvC->MJ,plainId_quiet->M3,wpAny_forIn_list->M5,ofAClassStatement->M6,setSearchFrom->M7,scanBound->M9,wpAny_isInstance->M',wpAny_rule->Na,ExcBaseFacts->Nh,ZipApart->No,wpAny_Compare1->Yn,wpAny_assign_Name->Yo,wpAny_Assign_Name->Yp,wpAny_loadPart->Ys,sliceRange_one->YJ,wpAny_getItem_list_slice->YK,wpAny_specialOf->YQ,wpAny_comprehension_free->YW,wpAny_pyIter_ascii->YY,Slot->Y0,carriedByValue->Zo,wpAny_eqIsQuiet_tuple->Zp,wpAny_storeSet_of->Zr,typeLookup_type->Zt,builtinLookup_eq_fast->Zu,wpAny_Raise_call_subT->Zw,checkBuiltinCall->Zy,boundAndCalled->ZA,slot_listiter_next->ZG,wpAny_setField->ZI,wpAny_updateSeq_pair->ZL,wpAny_pyIter_zip->ZN
open Bool renaming true->ah,false->ao,and_eq_true->eM,not_true->iC,and_true->mV,and_eq_true_iff->oH,not_false->rW,eq_iff_iff->uq,true_and->xY,or_eq_true->Dh,eq_false_iff->Do,not_eq_true'->Nk,and_false->YL
open PySem.W renaming Frag->aJ,findIn->di,fnOf->eT,keepIn->fM,mg_of->gN,nsIn->ii,kia_one->kc,emptyDict->mJ,instObj->n8,kitOne->oa,plainGet->ur,codeIn->uz,hideAll_get->xD,hasDictIn->xI,isFn->xJ,makesIn->xK,lookIn->CN,plainOver->CO,callWith_K->CV,plainGet_of->Mm,takerIn->Mn,OpenLaw->MI,kitAny->Ni,excIn->Nj,exmOne->Nm,of_hideAll->Yj,handedIn->Yr,specialIn->Yt,takesIn->Yu,mroIn->Yv,kitx_none->Yw,kitx_list->Yx,kitx_dict->Yy,methodCall_KW->YA,cellsFrom_some->YB,WalkO->YU
open List renaming replicate->bB,mem_singleton->cm,range->db,mem_map->dH,lookup->dY,append_nil->dZ,length_drop->ee,mem_cons->eC,mem_range->fg,mem_append->fW,length->fX,getElem?_eq_some_iff->gv,map_append->gA,drop_zero->h9,all_eq_true->ie,forall_mem_cons->ik,getElem?_set_self->iZ,map_map->jC,foldl_cons->kj,set_cons_zero->ko,find?_cons->lr,lookup_cons->lu,mem_filterMap->mE,replicate_succ->mK,drop_eq_getElem_cons->mO,nodup_cons->om,take_of_length_le->oz,mem_of_mem_drop->oB,take_length->oG,take_sublist->rF,flatten_cons->rJ,any_cons->rL,drop_length->rQ,pairwise_map->rS,take_add_one->se,drop_eq_nil_of_le->sj,getElem?_replicate->ux,getElem?_take_of_lt->uy,getElem?_drop->uH,mem_of_mem_take->uI,getElem?_eq_getElem->uL,mem_map_of_mem->uO,map_drop->uP,mem_append_left->xE,mem_iff_getElem?->xT,foldl_append->xW,drop_drop->yd,countP_append->yg,mem_filter->CD,of_mem_zip->CZ,reverse_cons->Db,getElem?_eq_none->Dg,take->Dn,take_succ->Du,set_cons_succ->DF,drop_of_length_le->DH,map_take->DJ,all_cons->DM,filterMap_cons->L9,foldl->MC,mem_iff_getElem->MM,getD->MN,map->MP,nodup_range->MW,take_append_drop->MZ,drop_sublist->M0,find?_eq_none->M1,nodup_nil->Nb,set_set->Nl,length_zip->Np,nodup_append->Nu,map_congr_left->Nv,getElem?_inj->Nx,take_left->Nz,drop_left->NA,takeWhile_append_of_pos->NF,takeWhile_cons->NG,countP_singleton->NJ,any_eq_false->Yq,forIn_cons->YV,length_eq_zero_iff->YZ,getElem_mem->Y1,getElem?_zip_eq_some->Y3,pairwise_iff_getElem->Y6,mem_of_find?_eq_some->Y',find?_some->Za,nodup_iff_pairwise_ne->Zc,filterMap_cons_some->Zi,length_tail->ZC,getElem?_toArray->ZK,map_inj_right->ZQ,map_id'->ZS,getElem_range->ZT,sublist_append_left->ZV,isEmpty_iff->ZY,all_map->ZZ,filter_cons_of_pos->Z1,filter_cons_of_neg->Z2,dropWhile_cons->Z3,takeWhile_append_dropWhile->Z4,all_takeWhile->Z5,drop_sublist_drop_left->Z7,extract->Z9,head?_cons->xaa,take_nil->xab,countP_le_length->xaf,forall_mem_nil->xag
open PyProof.Rows renaming envOfC->bR,AllBare->lh,IntsAre->xR,OwnCls->ya,callWith_type1->CK,Subscript_->C9,UnaryOp_->Mb,slot_tuple_getitem->Mt,subscriptTail->Mv,tail_any->Mw,slicePart_none->YC,subscriptTail_builtinR->YG,callWith_builtin1->xaH,neg_int->xaU,boot_zip->xaX,digit_range->xbd
open Sum renaming inr->cC,inl->n6
open PySem.Value renaming ref->cJ,bool->mz,type->rf,int->xA,str->xB,none->xC,isInt->Yh,isStrOf->Yi
open PySem.SetTable renaming below->cO,runEnd->dF,insertAt->dG,bits->fN,leap->jA,turns->oC,sizeAbove->rV,tooFull->xZ,fresh->x5,Probe->Dm,grown->Dp,has->MU,fits->MV,slot->Y8,fill->Y9,layClean->Zh
open Exists renaming imp->dI
open Ne renaming symm->dU
open Nat renaming zero_le->eA,lt_or_ge->gy,le_add_right->iB,not_le->lC,lt_irrefl->n9,add_assoc->oA,le_of_lt->ui,lt_succ_self->ut,le_succ->uv,lt_trans->uB,not_lt->uD,min_eq_left->uG,zero_add->uN,toDigits->uQ,ne_of_gt->xF,add_comm->xQ,le_of_eq->CU,min_le_right->C2,pow_le_pow_right->Di,succ_pos->Dj,min_eq_right->DC,succ_mul->ME,mul_comm->MF,lt_succ_iff->MR,mod_lt->MS,not_lt_zero->MT,lt_succ_of_lt->M4,le_total->Nq,add_le_add->NI,lt_of_le_of_lt->NL,pow_succ->Y5,lt_trichotomy->Y7,min_def->ZU,add_sub_cancel'->ZX,eq_zero_or_pos->xad
open PySem.SeqAt renaming shaped->eE
open PySem.PyData renaming eqv->eU,canLay0->fu,strOk->f8,canLayAll0->gz,depth->iD,str->kq,depthAll->lv,eqvAll->si,bool->ND,int->Y4
open PySem.Txt renaming split->fZ,startswith->ly,join->uE,slice->ML
open False renaming elim->gw
open Array renaming length_toList->hG,getElem?_eq_some_iff->ig,getD_eq_getD_getElem?->Dl,toList_inj->DL,append_assoc->L',toList->Mc,mem_toList_iff->Ml,toList_extract->MY,all_eq_true'->Nt,replicate->Zb,filterMap->Zj,forIn_toList->Zn
open List.cons renaming inj->ij
open True renaming intro->iz
open PySem.Str renaming length->iA,join->mZ,ofString->uA,empty->CQ,length_append->ZW,ofString_eq_toList->xac
open PySem.Heap renaming SameBut->iY,size_push->i7,dictOf_iff->Dx,get?_update_self->Mz,FlyingW->Ng,get?_update_other->YH
open PySem.Builtin.Str renaming occurrences->lq,strKind->x9,strSub->DK,strSliceIndices->MK,tooLong->xaN,partsBetween->xaQ,glued->xbb
open PySem.F renaming plainAttrs_str->lx,excBase_ValueError->lA,called_set->oE,slot_str_join->rZ,type_str_join->sd,slot_str_split->uM,slot_list_getattribute->Dv,slot_list_append->MD,plainAttrs_list->MQ,entry_str_split->Nd,args_str_split_2->Nf,type_str_split->Nr,slot_list_extend->YM,slot_int_rmul->YN,type_list_append->Y2,slot_str_index->Zv,attr_ValueError->Zz,slot_str_startswith->ZF,slot_tuple_iterator_next->ZH,slot_zip_next->ZM
open Sum.inr renaming inj->my
open ToString renaming toString->mI
open PySem.PassesOwn renaming never->mX,leaving->yc
open PySem.NameKind renaming free->oy,cell->De
open List.Pairwise renaming map->rY,imp_of_mem->Zd,nil->xaM,filterMap->xaO
open ForInStep renaming yield->uC
open PySem.SetTable.layClean renaming free->uJ
open PySem.Obj renaming mapSeq->xO,putSet->M8,data_mapFields->ZJ
open Int renaming emod_nonneg->xU,emod_lt_of_pos->xV,toNat_natCast->Mr,le_refl->Ny,toNat_of_nonneg->NK,ofNat_inj->Z8,natAbs_natCast->xae
open PySem.StrLaws renaming At->yf,found_one->Z0
open PySem.Builtin.Slice renaming slicePlaces->C3,sliceAdjust->Ms,sliceApplied->YD,slicePartIndex->xaI,sliceFields->xaJ
open PySem.Builtin.Tuple renaming tupleExact->C7,tupleItemsOf->xaK
open PySem.Builtin.List renaming listTooLong->Dc,listFitsIndex->xaL
open PySem.SetTable.below renaming go->Dk
open PySem.Around renaming under_plainId->Dq,under->Mo
open PySem.Shared renaming TypeIs->Dr
open PySem.Heap.SameBut renaming update->Dt,refl->YX
open PySem.Builtin.Int renaming intBits->Dy,intTooBig->xaV
open PySem.Code renaming isFrame->Mp,frames->Yz,quiet_builtin->Zm
open LawfulBEq renaming eq_of_beq->Mu
open PySem.Calls renaming evalArgs_plain->MB,Name_function_global->Yk
open PySem.Walks renaming list->MO
open PySem.SetTable.probe renaming go->MX
open PyProof.Rows.F renaming plain_set_update_loop->M2,entry_set_update_loop->Zk
open PySem.Builtin.SmallTypes renaming nextOf->Nn
open Option.some renaming injEq->Nw,inj->xah
open Char renaming toNat->NB
open PySem.CmpOp renaming In->Yl,NotIn->Ym
open PySem.Heap.IsSliceOf renaming new->YE
open PyProof.Rows.IsTup renaming new->YF
open PySem.Heap.DictOf renaming new->YR
open PySem.W.WData renaming int->YS
open PySem.W.WShape renaming has->YT
open PySem.Moved renaming trans->Zl
open Prod.mk renaming inj->Zq
open PySem.W.Looks renaming ld->Zx,here->xaF
open PySem.Value.ref renaming inj->ZB
open Classical renaming choose_spec->ZD,choose->ZE
open List.Lex renaming rel->ZP
open Function renaming comp_def->ZR
open List.Sublist renaming countP_le->Z6,nodup->xba,append_left->xbg
open PySem.Builtin.Range renaming rangeSize->xai
open PySem.EqNone renaming eq_none_none->xaj,eq_none_bool->xak,eq_none_int->xal,eq_none_str->xam,eq_bool_none->xan,eq_int_none->xap,eq_str_none->xar,ne_none_none->xau,ne_none_bool->xav,ne_none_int->xaw,ne_none_str->xax,ne_bool_none->xay,ne_int_none->xaA,ne_str_none->xaC
open PySem.EqMixed renaming eq_bool_str->xao,eq_int_str->xaq,eq_str_bool->xas,eq_str_int->xat,ne_bool_str->xaz,ne_int_str->xaB,ne_str_bool->xaD,ne_str_int->xaE
open PySem.Within renaming cons->xaG
open PySem.Builtin.Frozenset renaming updateFrom->xaP
open PySem.Builtin.ObjectAttr renaming find->xaR,getOf->xaS,dataDescriptor?->xaT
open PySem.Heap.IsList renaming push->xaW
open PySem.W.KIN renaming call_text->xaY,signs_num->xbc,val_back->xbe,num_reads->xbf
open PySem.Challenge renaming pw_shopbound_k56_texts_of_no_tree->xaZ,rw_shopbound_k56_texts_of_no_tree->xbh
set_option hygiene false
set_option compiler.extract_closed false
local macro_rules
|`(.(a))=>`(by decide)
|`(.(b))=>`(by lia)
|`(.(c))=>`(fun _=>rfl)
|`(.(d))=>`(bn fun _ _ _ _ _ _ _=>rfl)
|`(.(f))=>`(aY (bG V) aO hr .(a) rfl (aA (ax aw) (aE aq)) lr1)
|`(.(h))=>`(Gam C_Shop C_TreeWords)
local macro_rules|`(tactic|nofun)=>`(tactic|decide +kernel)
local macro_rules|`(tactic|ac_nf)=>`(tactic|first|exact Or.inl rfl|exact Or.inr rfl|exact Or.inr (Or.inl rfl)|exact Or.inr (Or.inr rfl)|assumption)
set_option bootstrap.genMatcherCode false
set_option genSizeOf false
set_option genSizeOfSpec false
noncomputable section
theorem oBd {α:Type u} {β:Type v} {o:ak α} {f:α->ak β} {b:β} (h:o.bind f=U b):∃a,o=U a/\f a=U b:=Option.bind_eq_some_iff.mp h
theorem oMd {α:Type u} {β:Type v} {o:ak α} {f:α->β} {b:β} (h:o.map f=U b):∃a,o=U a/\f a=b:=Option.map_eq_some_iff.mp h
noncomputable section
local macro_rules|`(#[$x,$y])=>`(⟨$x,$y⟩)|`(#[$x,$y,$z,*])=>`(⟨$x,$y,$z,*⟩)
local macro_rules|`(())=>`(rfl)
section
open PySem PySem.Spec PyProof.Rows
def qa:=@Option.bind_some
def qb:=@List.getElem?_cons_zero
def qc:=@List.getElem?_cons_succ
def qd:=@Option.map_some
def qe:=@List.length_map
def qf:=@List.mem_cons_self
def qg:=@List.mem_cons_of_mem
def qh:=@List.length_cons
def qk:=@List.length_append
def ql:=@List.getElem?_map
def qm:=@List.length_nil
def qp:=@List.map_cons
def qq:=@List.cons_append
def qr:=@Bool.false_eq_true
def qu:=@Bool.false_ne_true
def qv:=@Heap.get?_push_of_some
def qw:=@Heap.lt_size
def qx:=@Nat.le_refl
def qy:=@List.append_assoc
def qA:=@wpAny_bind
def qC:=@List.getElem?_set_ne
def qD:=@List.getElem?_append_left
def qE:=@wpAny_pure
def qF:=@List.size_toArray
def qG:=@Nat.ne_of_lt
def qH:=@List.length_take
def qI:=@Nat.lt_of_lt_of_le
def qJ:=@Heap.get?_push_size
def qK:=@xah
def qL:=@Array.getElem?_toList
def qM:=@List.not_mem_nil
def qN:=@List.getElem?_append_right
def qO:=@eC
def qP:=@Nat.le_trans
def qQ:=@decide_eq_false
def qR:=@List.map_nil
def qS:=@List.mem_of_getElem?
def qT:=@List.mem_append_right
def qU:=@List.nil_append
def qV:=@decide_eq_true
def qW:=@wpAny_holding
def qX:=@List.length_range
def qY:=@List.length_singleton
def qZ:=@if_pos
def xa:=@if_neg
end
section
namespace L2
open PySem PySem.Spec PyProof.Rows
abbrev Key:=Sum aj af
def pB:Key->au->aR
 |.inl k,v=>Yh k v
 |.inr x,v=>Yi x v
def Vz (w:bU):Key->aj
 |.inl k=>hashInt k
 |.inr x=>hashStr w x
def jN:∀{k:Key} {v:au},pB k v=ah->(∃i t,k=n6 i/\v=xA i t)\/(∃x t,k=cC x/\v=xB x t)
 |.inl i,v,h=>by
  obtain⟨t,e⟩:=Value.isInt_shape (k:=i) (v:=v) h;exact .inl #[i,t,(),e]
 |.inr x,v,h=>by obtain⟨t,e⟩:=Value.isStrOf_shape (x:=x) (v:=v) h;exact .inr #[x,t,(),e]
def Vs (i:aj) (t:Tok):pB (.inl i) (.int i t)=ah:=by simp[pB,Yh]
def Om (x:af) (t:Tok):pB (.inr x) (.str x t)=ah:=by simp[pB,Yi]
def VU (a b:aj):decide ((n6 a:Key)=n6 b)=(a==b):=by
 by_cases e:a=b
 .subst e;simp
 .have h:¬(n6 a:Key)=n6 b:=λq=>e (Sum.inl.inj q);rw[qQ h];exact(q0.mpr e).symm
def Oa (a b:af):decide ((cC a:Key)=cC b)=decide (a=b):=by
 by_cases e:a=b
 .subst e;simp
 .have h:¬(cC a:Key)=cC b:=λq=>e (my q);rw[qQ h,qQ e]
def O1 (a:aj) (b:af):decide ((n6 a:Key)=cC b)=ao:=qQ (λq=>nomatch q)
def W' (a:af) (b:aj):decide ((cC a:Key)=n6 b)=ao:=qQ (λq=>nomatch q)
def dJ (prog:b7) (w:bU):PySem.KeyKind prog w Key where
 is:=pB
 hash:=Vz w
 inj:=λv a b ha hb=>by
  rcases jN ha with⟨i,t,rfl,rfl⟩|⟨x,t,rfl,rfl⟩
  .rcases jN hb with⟨j,u,rfl,e⟩|⟨y,u,rfl,e⟩
   .injection e with e1 _;rw[e1]
   .exact nomatch e
  .rcases jN hb with⟨j,u,rfl,e⟩|⟨y,u,rfl,e⟩
   .exact nomatch e
   .injection e with e1 _;rw[e1]
 byValue:=λk v h=>by rcases jN h with⟨i,t,rfl,rfl⟩|⟨x,t,rfl,rfl⟩<;>rfl
 pyHash:=λhv h=>by
  rcases jN hv with⟨i,t,rfl,rfl⟩|⟨x,t,rfl,rfl⟩
  .exact wpAny_pyHash_int h
  .exact wpAny_pyHash_str h
 eqBool:=λhu hv h=>by
  rcases jN hu with⟨i,t,rfl,rfl⟩|⟨x,t,rfl,rfl⟩
  .rcases jN hv with⟨j,u,rfl,rfl⟩|⟨y,u,rfl,rfl⟩
   .rw[VU] at h;exact wpAny_eqBool_int h
   .rw[O1] at h;exact SeqAt.EqAt.int_str i t y u _ _ _ _ h
  .rcases jN hv with⟨j,u,rfl,rfl⟩|⟨y,u,rfl,rfl⟩
   .rw[W'] at h;exact SeqAt.EqAt.str_int x t j u _ _ _ _ h
   .rw[Oa] at h;exact wpAny_eqBool_str h
 «strs»:=λk x t v h=>by
  rcases jN h with⟨i,u,rfl,e⟩|⟨y,u,rfl,e⟩
  .exact nomatch e
  .injection e with e1 _;subst e1;cases v<;>rfl
def Uy (prog:b7) (w:bU) (i:aj) (t:Tok):(dJ prog w).is (.inl i) (.int i t)=ah:=Vs i t
def Wg (prog:b7) (w:bU) (x:af) (t:Tok):(dJ prog w).is (.inr x) (.str x t)=ah:=Om x t
inductive V where
 |non|bl (b:aR)|int (i:aj)|str (x:af)|ref (a:ar)|ty (n:String)
 deriving eS
noncomputable def bz:V->au->Prop
 |.non,u=>u=xC
 |.bl b,u=>u=mz b
 |.int i,u=>∃t,u=xA i t
 |.str x,u=>∃t,u=xB x t
 |.ref a,u=>u=cJ a
 |.ty n,u=>u=rf n
abbrev bq:Z V->Z au->Prop:=Paired bz
def bq.length {xs:Z V} {us:Z au} (r:bq xs us):xs.length=us.length:=Paired.length r
theorem bq.get:∀{xs:Z V} {us:Z au} {i:J} {x:V},bq xs us->xs[i]?=U x->∃u,us[i]?=U u/\bz x u
 |_,_,_,_,.nil,e=>by simp at e
 |_,_,0,_,.cons r _,e=>by simp at e;subst e;exact#[_,(),r]
 |_,_,i+1,x,.cons _ t,e=>by obtain⟨u,h1,h2⟩:=bq.get (i:=i) (x:=x) t (by simpa using e);exact#[u,by simpa using h1,h2]
theorem bq.set {x:V} {u:au} (r:bz x u):∀{xs:Z V} {us:Z au} (i:J),bq xs us->bq (xs.set i x) (us.set i u)
 |_,_,_,.nil=>.nil
 |_,_,0,.cons _ t=>.cons r t
 |_,_,i+1,.cons q t=>.cons q (bq.set r i t)
theorem bq.append {ys:Z V} {us ws:Z au}:∀{xs:Z V},bq xs us->bq ys ws->bq (xs++ys) (us++ws):=by
 induction us with
 |nil=>intro _ r s;cases r;exact s
 |cons u us i=>intro _ r s;cases r with|cons r t=>exact .cons r (i t s)
theorem bq.take:∀{xs:Z V} {us:Z au} (n:J),bq xs us->bq (xs.take n) (us.take n)
 |_,_,0,_=>.nil
 |_,_,_+1,.nil=>.nil
 |_,_,n+1,.cons r t=>.cons r (bq.take n t)
theorem bq.drop:∀{xs:Z V} {us:Z au} (n:J),bq xs us->bq (xs.drop n) (us.drop n)
 |_,_,0,r=>r
 |_,_,_+1,.nil=>.nil
 |_,_,n+1,.cons _ t=>bq.drop n t
def gb:ak V->ak au->Prop
 |some v,U u=>bz v u
 |none,B=>True
 |_,_=>False
variable {κ:Type}
def KV :Z (κ×V)->Z (κ×au)->Prop:=Paired λ(p:κ×V) (q:κ×au)=>p.1=q.1/\bz p.2 q.2
def kV:Key->V
 |.inl i=>.int i
 |.inr x=>.str x
inductive HO where
 |lst (xs:Z V)
 |tup (xs:Z V)
 |dK (kvs:Z (Key×V))|dT (kvs:Z (Z Key×V))
 |set (S:aj->aR) (n:J)
 |ins (C dx:ar) (fs:Z (af×V))
 |own (x:ar)
 |frz (o:bo) (u:HO)
 |tbl (ps:cg au)
 |ext (φ:Heap->Prop)
abbrev Hp:=ar->ak HO
noncomputable def upd (H:Hp) (a:ar) (o:HO):Hp:=λb=>if b=a then U o else H b
variable {H:Hp} {a:ar}
def bK {o:HO} :upd H a o a=U o:=by unfold upd;rw[qZ ()]
def aW {b:ar} {o:HO} (h:b≠a):upd H a o b=H b:=by unfold upd;rw[xa h]
def zz {b:ar} {o u:HO} (h:H a=U o) (h':H b=U u) (d:o≠u):a≠b:=by intro e;subst e;rw[h] at h';exact d (qK h')
def ce {b:ar} {o:HO} (h:H a=U o) (h':H b=B):a≠b:=by intro e;subst e;rw[h] at h';cases h'
section
variable (P:b7) (w:bU)
def dA (H:Hp) (h:Heap) (a:ar):HO->Prop
 |.lst xs=>xs.length<=aH/\∃(its:Z au) (n:J),bq xs its/\h.get? a=U {cls:=.type "list",data:=.seq its.toArray n}
 |.tup xs=>xs.length<=aH/\∃its:Z au,bq xs its/\IsTup h a its.toArray
 |.dK kvs=>kvs.length<=aH/\(a==mB)=ao/\∃vs,KV kvs vs/\h.DictOf (dJ P w) a vs
 |.dT kvs=>kvs.length<=aH/\(a==mB)=ao/\∃xs:Z (Z Key×ar×au),
   Paired (λ(p:Z Key×V) (q:Z Key×ar×au)=>p.1=q.1/\H q.2.1=U (.tup (p.1.map kV))/\bz p.2 q.2.2) kvs xs /\
   ∃o es ep,h.get? a=U o/\o.ExactDict/\o.data=.dict es ep/\es.toList=xs.map (entryOfKey (rh (dJ P w)))/\(xs.map (·.1)).Nodup
 |.set S n=>h.SetOf (intKind P w) a S n
 |.ins C dx fs=>H dx=U (.own a)/\fs.length<=1000/\dx≠a/\h.get? a=U (n8 C dx) /\
   ∃mA,h.Ns1 dx mA/\(∀f,gb (fs.lookup f) (mA f))/\L7 mA (fs.map (·.1))
 |.own _=>∃o,h.get? a=U o
 |.frz o u=>h.get? a=U o/\dA H h a u
 |.tbl ps=>h.get? a=U {cls:=.none,data:=.fields ps}
 |.ext φ=>φ h/\(∃o,h.get? a=U o)/\∀h1 h2:Heap,φ h1->(∀o,h1.get? a=U o->h2.get? a=U o)->φ h2
def HOk (H:Hp) (h:Heap):Prop:=∀a o,H a=U o->dA P w H h a o
end
variable {P:b7} {w:bU} {H':Hp} {h h':Heap}
section
variable {o:HO}
def dA.lt (x:dA P w H h a o):a<h.objs.size:=by
 cases o with
 |lst xs=>obtain⟨_,_,_,_,e⟩:=x;exact qw e
 |tup xs=>obtain⟨_,_,_,p⟩:=x;exact p.lt
 |dK kvs=>obtain⟨_,_,_,_,o,_,_,e,_⟩:=x;exact qw e
 |dT kvs=>obtain⟨_,_,_,_,o,_,_,e,_⟩:=x;exact qw e
 |set S n=>obtain⟨o,_,_,_,e,_⟩:=x;exact qw e
 |ins C dx fs=>obtain⟨_,_,_,e,_⟩:=x;exact qw e
 |own y=>obtain⟨_,e⟩:=x;exact qw e
 |frz ob u=>obtain⟨e,_⟩:=x;exact qw e
 |tbl ps=>exact qw (show h.get? a=U _ from x)
 |ext φ=>obtain⟨_,⟨_,e⟩,_⟩:=x;exact qw e
theorem Paired.mapP {α β:Type} {F G:α->β->Prop} {l₂:Z β}:∀{l₁:Z α},Paired F l₁ l₂->(∀a b,F a b->G a b)->Paired G l₁ l₂:=by
 induction l₂ with
 |nil=>intro _ r _;cases r;exact .nil
 |cons b l i=>intro _ r f;cases r with|cons r t=>exact .cons (f _ _ r) (i t f)
def dA.stay (x:dA P w H h a o) (k:∀b u,(b=a\/H b=U (.own a))->h.get? b=U u->h'.get? b=U u)
  (ho:∀b,H b=U (.own a)->H' b=U (.own a)) (ht:∀b xs,H b=U (.tup xs)->H' b=U (.tup xs)):dA P w H' h' a o:=by
 induction o with
 |lst xs=>obtain⟨z,its,n,r,e⟩:=x;exact#[z,its,n,r,k _ _ (.inl ()) e]
 |tup xs=>obtain⟨z,its,r,ob,e,c⟩:=x;exact#[z,its,r,ob,k _ _ (.inl ()) e,c]
 |dK kvs=>obtain⟨z,y,vs,r,ob,es,ep,e,c⟩:=x;exact#[z,y,vs,r,ob,es,ep,k _ _ (.inl ()) e,c]
 |dT kvs=>
  obtain⟨z,y,xs,r,ob,es,ep,e,c⟩:=x;exact#[z,y,xs,Paired.mapP r λp q z=>#[z.1,ht _ _ z.2.1,z.2.2],ob,es,ep,k _ _ (.inl ()) e,c]
 |set S n=>obtain⟨ob,es,ep,t,e,c⟩:=x;exact#[ob,es,ep,t,k _ _ (.inl ()) e,c]
 |ins C dx fs=>
  obtain⟨d,z,ne,e,mA,⟨od,es,ep,e2,c⟩,r⟩:=x;exact#[ho _ d,z,ne,k _ _ (.inl ()) e,mA,#[od,es,ep,k _ _ (.inr d) e2,c],r]
 |own y=>obtain⟨ob,e⟩:=x;exact#[ob,k _ _ (.inl ()) e]
 |frz ob u ih=>obtain⟨e,q⟩:=x;exact#[k _ _ (.inl ()) e,ih q]
 |tbl ps=>
  have e:h.get? a=U {cls:=.none,data:=.fields ps}:=x;show h'.get? a=U {cls:=.none,data:=.fields ps};exact k a _ (.inl ()) e
 |ext φ=>obtain⟨p,⟨o,e⟩,st⟩:=x;exact#[st _ _ p λo q=>k _ _ (.inl ()) q,#[o,k _ _ (.inl ()) e],st]
def HOk.lt (x:HOk P w H h) (e:H a=U o):a<h.objs.size:=(x a o e).lt
def HOk.fresh (x:HOk P w H h) (e:h.objs.size<=a):H a=B:=by
 cases q:H a with
 |none=>rfl
 |some u=>exact ba (qI (x.lt q) e) (n9 _)
def HOk.kept (x:HOk P w H h) (k:∀b u,h.get? b=U u->h'.get? b=U u):HOk P w H h':=λa o e=>
 (x a o e).stay (λb u _ q=>k b u q) (λ_ q=>q) λ_ _ q=>q
def HOk.laid (x:HOk P w H h) (k:∀b u,h.get? b=U u->h'.get? b=U u) (hp:h.objs.size<=a) (new:dA P w (upd H a o) h' a o):HOk P w (upd H a o) h':=λb u e=>by
 have hn:=x.fresh hp;by_cases hb:b=a
 .subst hb;rw[bK] at e;cases e;exact new
 .rw[aW hb] at e;exact(x b u e).stay (λc v _ q=>k c v q) (λc q=>by rw[aW (ce q hn)];exact q) λc xs q=>by rw[aW (ce q hn)];exact q
end
def Rd (H:Hp) (a:ar) (u:HO):Prop:=H a=U u\/∃o,H a=U (.frz o u)
def Rd.ok {u:HO} (r:Rd H a u) (x:HOk P w H h):dA P w H h a u:=by
 rcases r with r|⟨o,r⟩
 .exact x a u r
 .obtain⟨_,q⟩:=x a _ r;exact q
noncomputable def Mut:ak HO->Prop
 |some (.lst _)=>True
 |some (.dK _)=>True
 |some (.dT _)=>True
 |some (.set _ _)=>True
 |some (.ins _ _ _)=>True
 |some (.ext _)=>True
 |_=>False
section
variable {x e:ar} {o':HO}
def HOk.write (ok:HOk P w H h) (mu:Mut (H x)) (he:e=x\/H e=U (.own x)) (k:∀b u,b≠e->h.get? b=U u->h'.get? b=U u) (heo:∃u,h'.get? e=U u)
  (new:dA P w (upd H x o') h' x o'):HOk P w (upd H x o') h':=λb u q=>by
 have nown:∀c y,H c=U (.own y)->c≠x:=λc y r z=>by subst z;rw[r] at mu;exact mu
 have ntup:∀c xs,H c=U (.tup xs)->c≠x:=λc xs r z=>by subst z;rw[r] at mu;exact mu
 by_cases hb:b=x
 .subst hb;rw[bK] at q;cases q;exact new
 .rw[aW hb] at q;by_cases hbe:b=e
  .have q':H b=U (.own x):=by
    rcases he with z|z
    .exact ba (hbe.trans z) hb
    .rw[hbe];exact z
   rw[q] at q';cases q';obtain⟨v,hv⟩:=heo;exact#[v,by rw[hbe];exact hv]
  .refine(ok b u q).stay (λc v hc r=>k c v ?_ r) (λc r=>by rw[aW (nown c b r)];exact r) λc xs r=>by rw[aW (ntup c xs r)];exact r
   rcases hc with rfl|hc
   .exact hbe
   .rintro rfl;rcases he with z|z
    .exact nown c b hc z
    .rw[hc] at z;cases z;exact hb ()
end
structure Un (fs ex:Z ar) (H H':Hp) (h h':Heap):Prop where
 keep:∀b o,h.get? b=U o->H b=B->b∉fs->b∉ex->h'.get? b=U o
 slot:∀b o,h.get? b=U o->H b=B->b∈fs->b∉ex->∃sl,h'.get? b=U {o with slots:=sl}
 free:∀b o,h.get? b=U o->H b=B->b∉ex->H' b=B
 there:∀b o,h.get? b=U o->b∉ex->∃o',h'.get? b=U o'
 tups:∀b xs,H b=U (.tup xs)->H' b=U (.tup xs)
 frzs:∀b o u,H b=U (.frz o u)->H' b=U (.frz o u)
 tbls:∀b ps,H b=U (.tbl ps)->∃more,H' b=U (.tbl (ps++more))
variable {H1 H2:Hp} {h1 h2:Heap}
section
variable {fs fs' ex ex':Z ar} {x e:ar} {o:HO}
def Un.any (u:Un fs ex H H1 h h1) {b:ar} {ob:bo} (q:h.get? b=U ob) (n:H b=B) (hx:b∉ex):∃sl,h1.get? b=U {ob with slots:=sl}:=by
 by_cases hb:b∈fs
 .exact u.slot b ob q n hb hx
 .exact#[ob.slots,u.keep b ob q n hb hx]
def Un.kept (k:∀b u,h.get? b=U u->h'.get? b=U u):Un fs ex H H h h':=
 #[λb ob q _ _ _=>k b ob q,λb ob q _ _ _=>#[ob.slots,k b ob q],λ_ _ _ n _=>n,λb ob q _=>#[ob,k b ob q],λ_ _ q=>q,λ_ _ _ q=>q,λ_ ps q=>#[#[],by rw[q];simp]]
def Un.refl:Un fs ex H H h h:=Un.kept λ_ _ q=>q
def Un.laid (k:∀b u,h.get? b=U u->h'.get? b=U u) (hp:h.objs.size<=a) (hn:H a=B):Un fs ex H (upd H a o) h h' where
 keep:=λb u q _ _ _=>k b u q
 slot:=λb u q _ _ _=>#[u.slots,k b u q]
 free:=λb u q n _=>by rw[aW (qG (qI (qw q) hp))];exact n
 there:=λb u q _=>#[u,k b u q]
 tups:=λb xs q=>by rw[aW (ce q hn)];exact q
 frzs:=λb u xs q=>by rw[aW (ce q hn)];exact q
 tbls:=λb ps q=>#[#[],by rw[aW (ce q hn),q];simp]
def Un.write (mu:Mut (H x)) (he:e=x\/H e=U (.own x)) (k:∀b u,b≠e->h.get? b=U u->h'.get? b=U u) (heo:∃u,h'.get? e=U u):Un fs ex H (upd H x o) h h':=by
 have hx:∀b,H b=B->b≠x:=λb n z=>by subst z;rw[n] at mu;exact mu
 have hb:∀b,H b=B->b≠e:=λb n z=>by
  subst z;rcases he with r|r
  .exact hx b n r
  .rw[n] at r;cases r
 have hm:∀b u,H b=U u->¬Mut (U u)->b≠x:=λb u q nm z=>by subst z;rw[q] at mu;exact nm mu
 refine#[λb u q n _ _=>k b u (hb b n) q,λb u q n _ _=>#[u.slots,k b u (hb b n) q],λb u q n _=>by rw[aW (hx b n)];exact n,λb u q _=>?_,
  λb xs q=>by rw[aW (hm b _ q λz=>z)];exact q,λb u xs q=>by rw[aW (hm b _ q λz=>z)];exact q,λb ps q=>#[#[],by rw[aW (hm b _ q λz=>z),q];simp]]
 by_cases hbe:b=e
 .subst hbe;exact heo
 .exact#[u,k b u hbe q]
end
noncomputable def trk (h:Heap) (H:Hp):Z ar:=(db h.objs.size).filter λa=>(H a).isSome
def kA (h:Heap) (H:Hp):Heap:=PySem.W.hideAll h (trk h H)
def SM (h:Heap) (H:Hp):(kA h H).objs.size=h.objs.size:=PySem.W.hideAll_size _ _
def Xn {b:ar} {o:bo} (e:h.get? b=U o) (n:H b=B):(kA h H).get? b=U o:=
 xD _ e λhm=>by have q:(H b).isSome=ah:=(CD.mp hm).2;rw[n] at q;simp at q
def R9 {b:ar} {o:bo} (e:(kA h H).get? b=U o):h.get? b=U o/\H b=B:=by
 have e':h.get? b=U o:=Yj (trk h H) e;refine#[e',?_];cases q:H b with
 |none=>rfl
 |some x=>
  have hm:b∈trk h H:=CD.mpr #[fg.mpr (qw e'),by simp[q]];have z:(kA h H).get? b=B:=PySem.W.hideAll_none (trk h H) hm;rw[z] at e;cases e
noncomputable def UF (g h:Heap) (σ:ar):Z (ar×bo):=(db h.objs.size).filterMap λa=>if a=σ\/(g.get? a).isSome=ah then B else (h.get? a).map λo=>(a,o)
def aZ (g h:Heap) (σ d:ar):Z (ar×bo):=(UF g h σ).filter λp=>decide (p.1≠d)
structure Mod (K:aJ) (mg:af->ak au) (base:Heap):Prop where
 kin:K.In base
 glob:base.Ns dD mg
 blt:∃mb,base.Ns L8 mb/\∀x:af,x≠"__name__"->mb x=lc x
 nolimit:base.NoLimit
structure Cx where
 prog:b7
 w:bU
 K:aJ
 mg:af->ak au
 base:Heap
 A:dh
 N:Z af
 mt:aF
 Ty:Hp
 env:cD
 outer:Z cD
 stack:Z cD
 ex:Z ar
 fn:af->aR
 calm:aR
 pn:Z (ar×bo)
 xe:au->aF->Prop
noncomputable def frs (l:Z cD):Z ar:=l.filterMap (·.frame)
abbrev Cx.fs (X:Cx):Z ar:=frs X.outer
def Vis (sc:Scope) (x:af):Prop:=sc.names.lookup x=U .local\/sc.names.lookup x=U .cell\/sc.names.lookup x=U .free
def Loc (sc:Scope) (x:af):Prop:=sc.names.lookup x=U .local\/sc.names.lookup x=U .cell
def NX (env:cD) (h:Heap) (m:af->ak au) (x:af) (u:au):Prop:=
 (env.kindOf x=U .local/\m x=U u)\/((env.kindOf x=U .cell\/env.kindOf x=U .free)/\∃c,env.cells.lookup x=U c/\h.IsCell c (U u))
structure Cx.Ok (X:Cx):Prop where
 mod:Mod X.K X.mg X.base
 kind:X.env.scope.kind=.function
 glob:X.env.globals=dD
 blt:X.env.builtins=L8
 above:X.mt.heap.objs.size<=X.env.locals
 inj:∀x y c,X.env.cells.lookup x=U c->X.env.cells.lookup y=U c->x=y
 has:∀x,(X.env.kindOf x=U .cell\/X.env.kindOf x=U .free)->∃c,X.env.cells.lookup x=U c
 cab:∀x c,X.fn x=ah->X.env.cells.lookup x=U c->X.mt.heap.objs.size<=c
 hd:X.calm=ah->X.A.handled=B
 frames:X.A.frames=U X.stack
 stk:X.stack=X.outer\/(X.stack=X.env::X.outer/\X.env.frame=U X.env.locals)
 exf:∀b∈X.ex,b≠X.env.locals/\∀x c,X.env.cells.lookup x=U c->c≠b
 bs:∀b o,X.base.get? b=U o->X.mt.heap.get? b=U o/\X.Ty b=B
 bsz:X.base.objs.size<=X.mt.heap.objs.size
 noex:∀b o,X.base.get? b=U o->b∉X.ex
 exfs:∀b∈X.ex,b∉X.fs
 funs:X.mt.heap.FunFrames X.base X.outer
 frf:∀b∈X.fs,X.Ty b=B
structure Inv (X:Cx) (XL:Z (ar×bo)) (L:Z (ak V)) (H:Hp) (s:aF):Prop where
 ok:X.Ok
 os:s.os=X.mt.os
 bare:lh s.gens
 base:Un X.fs X.ex X.Ty H X.mt.heap s.heap
 loc:∃m,s.heap.Ns X.env.locals m/\∀(i:J) (x:af) (v:V),X.N[i]?=U x->L[i]?=U (U v)->Vis X.env.scope x->∃u,bz v u/\NX X.env s.heap m x u
 cell:∀x c,X.env.cells.lookup x=U c->∃v,s.heap.IsCell c v
 free:H X.env.locals=B
 freeC:∀x c,X.env.cells.lookup x=U c->H c=B
 pin:∀p∈X.pn++XL,s.heap.get? p.1=U p.2/\H p.1=B/\p.1≠X.env.locals/\p.1∉X.fs/\∀v,p.2.data≠.cell v
 hok:HOk X.prog X.w H s.heap
 len:L.length=X.N.length
variable {X:Cx} {XL:Z (ar×bo)} {s s':aF} {t' i j:J} {d':Drawn} {N:Z af} {x:af} {A:dh} {E:au->aF->Prop} {v:V} {u:au}
section
variable {L:Z (ak V)}
def Cx.Ok.nofr (ok:X.Ok) {b:ar} {o:bo} (e:X.base.get? b=U o):b∉X.fs:=λhb=>by have:=(ok.funs.mem hb).1;rw[e] at this;cases this
def Inv.bs (I:Inv X XL L H s):∀b o,X.base.get? b=U o->s.heap.get? b=U o/\H b=B:=λb o e=>
 #[I.base.keep b o (I.ok.bs b o e).1 (I.ok.bs b o e).2 (I.ok.nofr e) (I.ok.noex b o e),I.base.free b o (I.ok.bs b o e).1 (I.ok.bs b o e).2 (I.ok.noex b o e)]
def Inv.bk (I:Inv X XL L H s):∀b o,X.base.get? b=U o->s.heap.get? b=U o:=λb o e=>(I.bs b o e).1
def Inv.mod (I:Inv X XL L H s):Mod X.K X.mg X.base:=I.ok.mod
def Inv.kIn (I:Inv X XL L H s):X.K.In s.heap:=I.ok.mod.kin.keeps I.bk
def Inv.lt (I:Inv X XL L H s):X.env.locals<s.heap.objs.size:=by obtain⟨_,hn,_⟩:=I.loc;exact hn.lt
def Inv.sz (I:Inv X XL L H s):X.mt.heap.objs.size<=s.heap.objs.size:=qP I.ok.above (ui I.lt)
def Inv.nofs (I:Inv X XL L H s) (h:s.heap.objs.size<=a):a∉X.fs:=λhb=>by obtain⟨_,o,ho,_⟩:=I.ok.funs.mem hb;exact ba (qI (qw ho) (qP I.sz h)) (n9 _)
def Inv.cne (I:Inv X XL L H s):∀x c,X.env.cells.lookup x=U c->c≠X.env.locals:=λx c e z=>by obtain⟨v,o,ho,hd⟩:=I.cell x c e;obtain⟨m,⟨o',es,ep,ho',hd',_⟩,_⟩:=I.loc;rw[z,ho'] at ho;cases ho;rw[hd'] at hd;cases hd
def Inv.funs (I:Inv X XL L H s):s.heap.FunFrames X.base X.outer:=by
 have all:∀(l:Z cD),(∀b∈frs l,b∈X.fs)->X.mt.heap.FunFrames X.base l->s.heap.FunFrames X.base l:=by
  intro l
  induction l with
  |nil=>intro _ _;trivial
  |cons env r ih=>
   intro hs hl;obtain⟨hk,⟨σ,o,hf,hn,ho,hd⟩,hr⟩:=hl;have hL:σ∈X.fs:=hs σ (by unfold frs;rw[L9,hf];exact qf);obtain⟨sl,e⟩:=I.base.slot σ o ho (I.ok.frf σ hL) hL λz=>I.ok.exfs σ z hL;exact#[hk,#[σ,_,hf,hn,e,hd],ih (λb hb=>hs b (by unfold frs;rw[L9,hf];exact qg _ hb)) hr]
 exact all X.outer (λ_ hb=>hb) I.ok.funs
def Inv.stack (I:Inv X XL L H s):s.heap.FunFrames X.base X.stack:=by
 rcases I.ok.stk with e|⟨e,hf⟩
 .rw[e];exact I.funs
 .rw[e];obtain⟨m,hn,_⟩:=I.loc;refine .cons (by rw[I.ok.kind];decide) hf hn ?_ I.funs;exact Heap.get?_none_of_le (qP I.ok.bsz I.ok.above)
def Inv.stkSub (I:Inv X XL L H s):∀b∈frs X.stack,b∈X.env.locals::X.fs:=λb hb=>by
 rcases I.ok.stk with e|⟨e,hf⟩
 .rw[e] at hb;exact qg _ hb
 .rw[e] at hb;unfold frs at hb;rw[L9,hf] at hb;exact hb
def Inv.stkFree (I:Inv X XL L H s):∀b∈frs X.stack,H b=B:=λb hb=>by
 rcases eC.mp (I.stkSub b hb) with e|hb
 .rw[e];exact I.free
 .obtain⟨_,o,ho,_⟩:=I.ok.funs.mem hb;exact I.base.free b o ho (I.ok.frf b hb) λz=>I.ok.exfs b z hb
def Inv.step {g':cg uj} {ch:Z ar} (I:Inv X XL L H s)
  (hch:∀b∈ch,(b∈X.ex\/X.mt.heap.objs.size<=b)/\b≠X.env.locals/\(∀x c,X.env.cells.lookup x=U c->c≠b)/\∀p∈X.pn++XL,p.1≠b)
  (keep:∀b o,b≠X.env.locals->b∉X.fs->b∉ch->s.heap.get? b=U o->H b=B->h'.get? b=U o)
  (slot:∀b o,b≠X.env.locals->b∈X.fs->b∉ch->s.heap.get? b=U o->H b=B->∃sl,h'.get? b=U {o with slots:=sl}) (free:∀b o,b∉ch->s.heap.get? b=U o->H b=B->H' b=B)
  (there:∀b o,b∉ch->s.heap.get? b=U o->∃o',h'.get? b=U o')
  (tups:∀b xs,H b=U (.tup xs)->H' b=U (.tup xs)) (frzs:∀b o u,H b=U (.frz o u)->H' b=U (.frz o u)) (tbls:∀b ps,H b=U (.tbl ps)->∃more,H' b=U (.tbl (ps++more)))
  (ns:∀m,s.heap.Ns X.env.locals m->h'.Ns X.env.locals m) (hok:HOk X.prog X.w H' h') (hg:lh g') :
  Inv X XL L H' {s with heap:=h',gens:=g',drawn:=d',toks:=t'}:=by
 have neL:∀b o,X.mt.heap.get? b=U o->b≠X.env.locals:=λb o e=>qG (qI (qw e) I.ok.above);have neC:∀b o,X.mt.heap.get? b=U o->b∉X.ex->b∉ch:=λb o e hx hb=>by
  rcases(hch b hb).1 with z|z
  .exact hx z
  .exact ba (qI (qw e) z) (n9 _)
 have cellK:∀x c,X.env.cells.lookup x=U c->∀v,s.heap.IsCell c v->h'.IsCell c v:=λx c e v #[o,ho,hd]=>by
  have nch:c∉ch:=λz=>(hch c z).2.2.1 x c e ();by_cases hc:c∈X.fs
  .obtain⟨sl,q⟩:=slot c o (I.cne x c e) hc nch ho (I.freeC x c e);exact#[_,q,hd]
  .exact#[o,keep c o (I.cne x c e) hc nch ho (I.freeC x c e),hd]
 refine#[I.ok,I.os,hg,#[λb o e n hb hx=>?_,λb o e n hb hx=>?_,λb o e n hx=>?_,λb o e hx=>?_,λb xs e=>tups b xs (I.base.tups b xs e),λb o xs e=>frzs b o xs (I.base.frzs b o xs e),λb ps e=>?_],?_,λx c e=>?_,?_,λx c e=>?_,λp hp=>?_,hok,I.len]
 .exact keep b o (neL b o e) hb (neC b o e hx) (I.base.keep b o e n hb hx) (I.base.free b o e n hx)
 .obtain⟨sl,e1⟩:=I.base.slot b o e n hb hx;obtain⟨sl',e2⟩:=slot b _ (neL b o e) hb (neC b o e hx) e1 (I.base.free b o e n hx);exact#[sl',e2]
 .obtain⟨o',e1⟩:=I.base.there b o e hx;exact free b o' (neC b o e hx) e1 (I.base.free b o e n hx)
 .obtain⟨o',e1⟩:=I.base.there b o e hx;exact there b o' (neC b o e hx) e1
 .obtain⟨m1,e1⟩:=I.base.tbls b ps e;obtain⟨m2,e2⟩:=tbls b _ e1;exact#[m1++m2,by rw[e2,L']]
 .obtain⟨m,hn,hl⟩:=I.loc;refine#[m,ns m hn,λi x v e1 e2 e3=>?_];obtain⟨u,r,l⟩:=hl i x v e1 e2 e3;refine#[u,r,?_];rcases l with l|⟨k,c,e,z⟩
  .exact .inl l
  .exact .inr #[k,c,e,cellK x c e _ z]
 .obtain⟨v,z⟩:=I.cell x c e;exact#[v,cellK x c e v z]
 .obtain⟨m,⟨o,_,_,ho,_⟩,_⟩:=I.loc;exact free _ o (λz=>(hch _ z).2.1 ()) ho I.free
 .obtain⟨v,o,ho,hd⟩:=I.cell x c e;exact free c o (λz=>(hch c z).2.2.1 x c e ()) ho (I.freeC x c e)
 .obtain⟨e,n,ne,nf,d⟩:=I.pin p hp;have nch:p.1∉ch:=λz=>(hch p.1 z).2.2.2 p hp ();exact#[keep p.1 p.2 ne nf nch e n,free p.1 p.2 nch e n,ne,nf,d]
def Inv.un (I:Inv X XL L H s) (u:Un X.fs [] H H' s.heap h') (hok:HOk X.prog X.w H' h'):Inv X XL L H' {s with heap:=h',toks:=t'}:=by
 obtain⟨m,⟨o,es,ep,ho,r⟩,_⟩:=id I.loc;obtain⟨sl,hL⟩:=u.any ho I.free (by simp);exact I.step (g':=s.gens) (d':=s.drawn) (ch:=[]) (λ_ z=>nomatch z) (λb o _ hb _ e n=>u.keep b o e n hb (by simp)) (λb o _ hb _ e n=>u.slot b o e n hb (by simp)) (λb o _ e n=>u.free b o e n (by simp)) (λb o _ e=>u.there b o e (by simp)) u.tups u.frzs u.tbls (λm' hm=>by obtain⟨o',es',ep',ho',r'⟩:=hm;rw[ho] at ho';cases ho';exact#[_,es',ep',hL,r']) hok I.bare
def Inv.call {g':cg uj} {ch:Z ar} (I:Inv X XL L H s) (u:Un (frs X.stack) ch H H' s.heap h') (hok:HOk X.prog X.w H' h') (hg:lh g')
  (hch:∀b∈ch,(b∈X.ex\/X.mt.heap.objs.size<=b)/\b≠X.env.locals/\(∀x c,X.env.cells.lookup x=U c->c≠b)/\∀p∈X.pn++XL,p.1≠b) :
  Inv X XL L H' {s with heap:=h',gens:=g',drawn:=d',toks:=t'}:=by
 obtain⟨m,⟨o,es,ep,ho,r⟩,_⟩:=id I.loc;obtain⟨sl,hL⟩:=u.any ho I.free λz=>(hch _ z).2.1 ();exact I.step (ch:=ch) hch (λb o hL hb hc e n=>u.keep b o e n (λz=>(eC.mp (I.stkSub b z)).elim hL hb) hc) (λb o _ _ hc e n=>u.any e n hc) (λb o hc e n=>u.free b o e n hc) (λb o hc e=>u.there b o e hc) u.tups u.frzs u.tbls (λm' hm=>by obtain⟨o',es',ep',ho',r'⟩:=hm;rw[ho] at ho';cases ho';exact#[_,es',ep',hL,r']) hok hg
def Inv.turned {it:ar} (I:Inv X XL L H s) (k:∀b o,b≠it->s.heap.get? b=U o->h'.get? b=U o) (hn:H it=B) (hL:it≠X.env.locals)
  (h1:it∈X.ex\/X.mt.heap.objs.size<=it) (h2:∀x c,X.env.cells.lookup x=U c->c≠it) (h3:∀p∈X.pn++XL,p.1≠it):Inv X XL L H {s with heap:=h',toks:=t'}:=by
 have nit:∀b u,H b=U u->b≠it:=λb u e z=>by rw[z,hn] at e;cases e
 refine I.step (g':=s.gens) (d':=s.drawn) (ch:=[it]) (λb hb=>?_) (λb o _ _ hc e _=>k b o (λz=>hc (by simp[z])) e) (λb o _ _ hc e _=>#[o.slots,k b o (λz=>hc (by simp[z])) e]) (λ_ _ _ _ n=>n)
  (λb o hc e=>#[o,k b o (λz=>hc (by simp[z])) e]) (λ_ _ e=>e) (λ_ _ _ e=>e) (λb ps e=>#[#[],by rw[e];simp]) (λm hm=>?_) (λb u e=>?_) I.bare
 .have e:b=it:=by simpa using hb
  subst e;exact#[h1,hL,h2,h3]
 .obtain⟨o,es,ep,ho,r⟩:=hm;exact#[o,es,ep,k _ o (dU hL) ho,r]
 .refine(I.hok b u e).stay (λc v hc q=>k c v ?_ q) (λ_ q=>q) λ_ _ q=>q;rcases hc with z|z
  .rw[z];exact nit b u e
  .exact nit c _ z
def Inv.tok (I:Inv X XL L H s) (t:J):Inv X XL L H {s with toks:=t}:=I.un (h':=s.heap) (t':=t) Un.refl I.hok
def Inv.kept {t':J} (I:Inv X XL L H s) (k:∀b u,s.heap.get? b=U u->h'.get? b=U u):Inv X XL L H {s with heap:=h',toks:=t'}:=I.un (Un.kept k) (I.hok.kept k)
def Inv.laid {a:ar} {o:HO} {t':J} (I:Inv X XL L H s) (k:∀b u,s.heap.get? b=U u->h'.get? b=U u) (hp:s.heap.objs.size<=a) (new:dA X.prog X.w (upd H a o) h' a o) :
  Inv X XL L (upd H a o) {s with heap:=h',toks:=t'}:=I.un (Un.laid k hp (I.hok.fresh hp)) (I.hok.laid k hp new)
def Inv.write {x e:ar} {o:HO} {t':J} (I:Inv X XL L H s) (mu:Mut (H x)) (he:e=x\/H e=U (.own x)) (k:∀b u,b≠e->s.heap.get? b=U u->h'.get? b=U u) (heo:∃u,h'.get? e=U u)
  (new:dA X.prog X.w (upd H x o) h' x o):Inv X XL L (upd H x o) {s with heap:=h',toks:=t'}:=I.un (Un.write mu he k heo) (I.hok.write mu he k heo new)
def Inv.pins_of {pins':Z (ar×bo)} (I:Inv X XL L H s) (h:∀p∈pins',s.heap.get? p.1=U p.2/\H p.1=B/\p.1≠X.env.locals/\p.1∉X.fs/\∀v,p.2.data≠.cell v):Inv X pins' L H s:=
 #[I.ok,I.os,I.bare,I.base,I.loc,I.cell,I.free,I.freeC,λp hp=>(fW.mp hp).elim (λz=>I.pin p (xE _ z)) (h p),I.hok,I.len]
def Am (hN:N.Nodup) (a:N[i]?=U x) (b:N[j]?=U x):i=j:=by obtain⟨h1,e1⟩:=gv.mp a;obtain⟨h2,e2⟩:=gv.mp b;exact(List.getElem_inj hN).mp (e1.trans e2.symm)
def LZ {M:rj} {Q:li->aF->Prop} (I:Inv X XL L H s) (hN:X.N.Nodup) (hi:X.N[i]?=U x) (hx:Loc X.env.scope x) (r:bz v u)
  (h:∀s',Inv X XL (L.set i (U v)) H s'->(∃a,iY a s.heap s'.heap/\(a=X.env.locals\/X.env.cells.lookup x=U a))->Q .unit s') (hf:X.fn x=ah\/X.env.scope.names.lookup x=U .local:=by ac_nf):aM M A (storeName X.env x u) Q E s:=by
 obtain⟨m,hn,hl⟩:=id I.loc;have hcls:(X.env.scope.kind==.class || (X.env.scope.kind==.module && X.env.locals != X.env.globals))=ao:=by rw[I.ok.kind];rfl
 have hiσ:i < L.length:=by rw[I.len];exact(gv.mp hi).1
 have cne:=I.cne;have tracked:∀{a:ar} {h':Heap},(∃o,s.heap.get? a=U o/\H a=B)->iY a s.heap h'->HOk X.prog X.w H h':=λ{a h'} ha hs b ob e=>by
  obtain⟨_,_,hfree⟩:=ha;refine(I.hok b ob e).stay (λc w' hc q=>(hs.2 c ?_).trans q) (λ_ q=>q) λ_ _ q=>q;rintro rfl;rcases hc with rfl|hc
  .rw[hfree] at e;cases e
  .rw[hfree] at hc;cases hc
 rcases hx with hk|hk
 .refine wpAny_storeName_local hk hn (λh' hn' hs=>?_) hcls;obtain⟨oL,_,_,hoL,_⟩:=id hn;refine h _ #[I.ok,I.os,I.bare,#[λb o e n hb hx=>?_,λb o e n hb hx=>?_,I.base.free,λb o e hx=>?_,I.base.tups,I.base.frzs,I.base.tbls],#[_,hn',λj y v' e1 e2 e3=>?_],λy c e=>?_,I.free,I.freeC,λp hp=>?_,tracked #[oL,hoL,I.free] hs,by simpa using I.len] #[_,hs,.inl ()]
  .exact (hs.2 b (qG (qI (qw e) I.ok.above))).trans (I.base.keep b o e n hb hx)
  .obtain⟨sl,e1⟩:=I.base.slot b o e n hb hx;exact#[sl,(hs.2 b (qG (qI (qw e) I.ok.above))).trans e1]
  .obtain⟨o',e1⟩:=I.base.there b o e hx;exact#[o',(hs.2 b (qG (qI (qw e) I.ok.above))).trans e1]
  .by_cases hj:j=i
   .subst hj;rw[hi] at e1;cases e1;rw[iZ hiσ] at e2;cases e2;exact#[u,r,.inl #[hk,by simp]]
   .rw[qC (dU hj)] at e2;obtain⟨u',r',q⟩:=hl j y v' e1 e2 e3;refine#[u',r',?_];rcases q with⟨k,e⟩|⟨k,c,e,z⟩
    .refine .inl #[k,?_];have:y≠x:=λe=>hj (Am hN e1 (e▸hi));simp[this,e]
    .exact .inr #[k,c,e,z.sameBut hs (cne y c e)]
  .obtain⟨w',z⟩:=I.cell y c e;exact#[w',z.sameBut hs (cne y c e)]
  .obtain⟨e,n,ne,nf,d⟩:=I.pin p hp;exact#[(hs.2 p.1 ne).trans e,n,ne,nf,d]
 .have hfn:X.fn x=ah:=by
   rcases hf with z|z
   .exact z
   .rw[z] at hk;cases hk
  obtain⟨c,hc⟩:=I.ok.has x (.inl hk);obtain⟨w',z⟩:=I.cell x c hc;refine wpAny_storeName_cell I.ok.kind hk hc z (λh' hc' hs=>?_);obtain⟨oc,hoc,hocd⟩:=id z;refine h {s with heap:=h'} #[I.ok,I.os,I.bare,#[λb o e n hb hx=>?_,λb o e n hb hx=>?_,I.base.free,λb o e hx=>?_,I.base.tups,I.base.frzs,I.base.tbls],#[m,hn.sameBut hs (dU (cne x c hc)),λj y v' e1 e2 e3=>?_],λy c' e=>?_,I.free,I.freeC,λp hp=>?_,tracked #[oc,hoc,I.freeC x c hc] hs,by simpa using I.len] #[c,hs,.inr hc]
  .exact(hs.2 b (qG (qI (qw e) (I.ok.cab x c hfn hc)))).trans (I.base.keep b o e n hb hx)
  .obtain⟨sl,e1⟩:=I.base.slot b o e n hb hx;exact#[sl,(hs.2 b (qG (qI (qw e) (I.ok.cab x c hfn hc)))).trans e1]
  .obtain⟨o',e1⟩:=I.base.there b o e hx;exact#[o',(hs.2 b (qG (qI (qw e) (I.ok.cab x c hfn hc)))).trans e1]
  .by_cases hj:j=i
   .subst hj;rw[hi] at e1;cases e1;rw[iZ hiσ] at e2;cases e2;exact#[u,r,.inr #[.inl hk,c,hc,hc']]
   .rw[qC (dU hj)] at e2;obtain⟨u',r',q⟩:=hl j y v' e1 e2 e3;refine#[u',r',?_];rcases q with q|⟨k,c',e,z'⟩
    .exact .inl q
    .refine .inr #[k,c',e,z'.sameBut hs ?_];rintro rfl;exact hj (Am hN e1 (I.ok.inj _ _ _ e hc▸hi))
  .by_cases hcc:c'=c
   .subst hcc;exact#[_,hc']
   .obtain⟨w2,z2⟩:=I.cell y c' e;exact#[w2,z2.sameBut hs hcc]
  .obtain⟨e,n,ne,nf,d⟩:=I.pin p hp;refine#[(hs.2 p.1 ?_).trans e,n,ne,nf,d];intro q;rw[q,hoc] at e;have q':oc=p.2:=qK e;exact d w' (by rw[<-q'];exact hocd)
def w9 {M:rj} {Q:li->aF->Prop} (I:Inv X XL L H s) (hN:X.N.Nodup) (hi:X.N[i]?=U x) (hx:Loc X.env.scope x) (r:bz v u)
  (h:∀s',Inv X XL (L.set i (U v)) H s'->Q .unit s') (hf:X.fn x=ah\/X.env.scope.names.lookup x=U .local:=by ac_nf):aM M A (storeName X.env x u) Q E s:=
 LZ I hN hi hx r (λs' I' _=>h s' I') hf
def Inv.call' {ch:Z ar} (I:Inv X XL L H s) (ho:s'.os=s.os) (u:Un (frs X.stack) ch H H' s.heap s'.heap) (hok:HOk X.prog X.w H' s'.heap) (hg:lh s'.gens)
  (hch:∀b∈ch,(b∈X.ex\/X.mt.heap.objs.size<=b)/\b≠X.env.locals/\(∀x c,X.env.cells.lookup x=U c->c≠b)/\∀p∈X.pn++XL,p.1≠b):Inv X XL L H' s':=by
 obtain⟨h',g',d',t',o'⟩:=s';have e:o'=s.os:=ho;subst e;exact I.call (g':=g') (t':=t') (d':=d') u hok hg hch
end
abbrev XK:=au->ak ar->Hp->Prop
abbrev St:=Z (ak V)
abbrev VK:=V->Hp->Prop
abbrev TE:=St->Hp->VK->Prop
abbrev TT:=St->Hp->(aR->Hp->Prop)->Prop
abbrev TA:=St->Hp->(Z V->Hp->Prop)->Prop
structure Ends where
 nx:St->Hp->Prop
 rt:VK
 bk:St->Hp->Prop:=λ_ _=>False
 ct:St->Hp->Prop:=λ_ _=>False
abbrev TS:=Ends->St->Hp->Prop
def EP (X:Cx) (XL:Z (ar×bo)) (L:St) (Q:VK) (u:au) (s':aF):Prop:=∃v H',Inv X XL L H' s'/\bz v u/\Q v H'
def TP (X:Cx) (XL:Z (ar×bo)) (L:St) (Q:aR->Hp->Prop) (b:aR) (s':aF):Prop:=∃H',Inv X XL L H' s'/\Q b H'
def AP (X:Cx) (XL:Z (ar×bo)) (L:St) (Q:Z V->Hp->Prop) (us:Z au) (s':aF):Prop:=∃vs H',Inv X XL L H' s'/\bq vs us/\Q vs H'
def SP (X:Cx) (XL:Z (ar×bo)) (D:Ends) (f:Flow) (s':aF):Prop:=
 match f with
 |.next=>∃BT H',Inv X XL BT H' s'/\D.nx BT H'
 |.brk=>∃BT H',Inv X XL BT H' s'/\D.bk BT H'
 |.cont=>∃BT H',Inv X XL BT H' s'/\D.ct BT H'
 |.ret u=>∃v BT H',Inv X XL BT H' s'/\bz v u/\D.rt v H'
def PE (X:Cx) (e:Expr) (t:TE):Prop:=
 ∀(XL:Z (ar×bo)) (s:aF) (L:St) (H:Hp) (Q:VK),Inv X XL L H s->t L H Q->aM (aL X.prog X.w) X.A (eval e X.env) (EP X XL L Q) X.xe s
def PT (X:Cx) (e:Expr) (t:TT):Prop:=
 ∀(XL:Z (ar×bo)) (s:aF) (L:St) (H:Hp) (Q:aR->Hp->Prop),Inv X XL L H s->t L H Q->aM (aL X.prog X.w) X.A (isTrue e X.env (eval e X.env)) (TP X XL L Q) X.xe s
def PW (X:Cx) (e:Expr) (t:TT):Prop:=
 ∀(whole:Sem au) (XL:Z (ar×bo)) (s:aF) (L:St) (H:Hp) (Q:aR->Hp->Prop),Inv X XL L H s->t L H Q->aM (aL X.prog X.w) X.A (isTrue e X.env whole) (TP X XL L Q) X.xe s
variable {e:Expr}
def PW.pt {t:TT} (h:PW X e t):PT X e t:=h _
def PA (X:Cx) (es:Z Expr) (t:TA):Prop:=
 ∀(pos:bV) (XL:Z (ar×bo)) (s:aF) (L:St) (H:Hp) (Q:Z V->Hp->Prop),Inv X XL L H s->t L H Q->aM (aL X.prog X.w) X.A (CI (bX pos (aK es X.env))) (AP X XL L Q) X.xe s
def PS (X:Cx) (st:Stmt) (t:TS):Prop:=
 ∀(XL:Z (ar×bo)) (s:aF) (L:St) (H:Hp) (D:Ends),Inv X XL L H s->t D L H->aM (aL X.prog X.w) X.A (exec st X.env) (SP X XL D) X.xe s
def PSs (X:Cx) (st:Z Stmt) (t:TS):Prop:=
 ∀(XL:Z (ar×bo)) (s:aF) (L:St) (H:Hp) (D:Ends),Inv X XL L H s->t D L H->aM (aL X.prog X.w) X.A (execs st X.env) (SP X XL D) X.xe s
variable {α:Type}
def thn {t:Sem α} {Q Q':α->aF->Prop} {M:rj} (h:aM M A t Q E s) (hQ:∀a s,Q a s->Q' a s):aM M A t Q' E s:=fj h hQ λ_ _ x=>x
def thE {t:Sem au} {Q:VK} {R:au->aF->Prop} {M:rj} (h:aM M A t (EP X XL L Q) E s) (k:∀u s x H,Inv X XL L H s->bz x u->Q x H->R u s):aM M A t R E s:=thn h λu s ζ=>by obtain⟨x,H,I,r,q⟩:=ζ;exact k u s x H I r q
def thA {t:Sem (Z au)} {Q:Z V->Hp->Prop} {R:Z au->aF->Prop} {M:rj} (h:aM M A t (AP X XL L Q) E s) (k:∀u s x H,Inv X XL L H s->bq x u->Q x H->R u s):aM M A t R E s:=thn h λu s ζ=>by obtain⟨x,H,I,r,q⟩:=ζ;exact k u s x H I r q
variable {pos:bV} {L:St} {Q:au->aF->Prop} {b:Expr} {ta tb:TE} {op:CmpOp}
section
noncomputable def Ag (i:J):TE:=λL H Q=>∃v,L[i]?=U (U v)/\Q v H
noncomputable def tC (v:V):TE:=λ_ H Q=>Q v H
def dM (hN:X.N[i]?=U x) (hv:Vis X.env.scope x) (hd:(x==("__debug__":af))=ao:=by decide) (hcd:(x==("__classdict__":af))=ao:=by decide):PE X (.Name x pos) (Ag i):=by
 intro XL s L H Q I h;obtain⟨v,e,h⟩:=h;obtain⟨m,hn,hl⟩:=I.loc;obtain⟨u,r,l⟩:=hl i x v hN e hv;have fin:EP X XL L Q u s:=#[v,H,I,r,h];rcases l with⟨hk,hm⟩|⟨hk,c,hc,hcell⟩
 .exact Ma (wpAny_loadName_local I.ok.kind hk hn hm fin) hd
 .rcases hk with hk|hk
  .exact Ma (wpAny_loadName_cell I.ok.kind hk hc hcell fin) hd
  .exact Ma (wpAny_loadName_free I.ok.kind hk hc hcell fin hcd) hd
def vB {i j pos}:PE X (.Constant (.int i) j pos) (tC (.int i)):=λ_ _ _ H _ I h=>wpAny_Constant_int #[.int i,H,I.tok _,#[_,()],h]
def GV {b j pos}:PE X (.Constant (.bool b) j pos) (tC (.bl b)):=λ_ _ _ H _ I h=>Constant_bool #[.bl b,H,I,(),h]
def zW {j pos}:PE X (.Constant .none j pos) (tC .non):=λ_ _ _ H _ I h=>Constant_none #[.non,H,I,(),h]
def J5 {x j pos}:PE X (.Constant (.str x) j pos) (tC (.str x)):=λ_ _ _ H _ I h=>Calls.Constant_str #[.str x,H,I.tok _,#[_,()],h]
def Gl (X:Cx) (x:af):Prop:=X.env.kindOf x=U .globalImplicit
def nZ (I:Inv X XL L H s) (hg:Gl X x) (hm:X.mg x=U u) (h:Q u s)
  (hd:(x==("__debug__":af))=ao:=by decide):aM (aL X.prog X.w) X.A (eval (.Name x pos) X.env) Q E s:=
 Yk I.ok.kind hg (Calls.loadGlobal_global (by rw[I.ok.glob];exact I.mod.glob.keeps I.bk) hm h) hd
def pX (I:Inv X XL L H s) (hg:Gl X x) (hm:X.mg x=B) (hv:lc x=U u) (h:Q u s)
  (hn:x≠"__name__":=by decide) (hd:(x==("__debug__":af))=ao:=by decide):aM (aL X.prog X.w) X.A (eval (.Name x pos) X.env) Q E s:=by
 obtain⟨mb,h1,h2⟩:=I.mod.blt;exact Yk I.ok.kind hg (Calls.loadGlobal_builtin (by rw[I.ok.glob];exact I.mod.glob.keeps I.bk) hm (by rw[I.ok.blt];exact h1.keeps I.bk) ((h2 x hn).trans hv) h) hd
def kN (hg:Gl X x) (hm:X.mg x=U u) (r:bz v u) (hd:(x==("__debug__":af))=ao:=by decide):PE X (.Name x pos) (tC v):=
 λ_ _ _ H _ I h=>nZ I hg hm #[v,H,I,r,h] hd
def E8 (hg:Gl X x) (hm:X.mg x=B) (hv:lc x=U u) (r:bz v u) (hn:x≠"__name__":=by decide) (hd:(x==("__debug__":af))=ao:=by decide):PE X (.Name x pos) (tC v):=
 λ_ _ _ H _ I h=>pX I hg hm hv #[v,H,I,r,h] hn hd
variable {a:Expr}
def PC (X:Cx) (op:CmpOp) (a b:Expr) (t:TE):Prop:=
 ∀(XL:Z (ar×bo)) (s:aF) (L:St) (H:Hp) (Q:VK),Inv X XL L H s->t L H Q->
  aM (aL X.prog X.w) X.A (eval a X.env) (λv dl=>aM (aL X.prog X.w) X.A (eval b X.env) (λu s₂=>aM (aL X.prog X.w) X.A (dP op v u) (EP X XL L Q) X.xe s₂) X.xe dl) X.xe s
def S5 (b:Expr) (h:op≠.In) (h2:op≠.NotIn):jZ op b=ao:=by
 have e1:(op==Yl)=ao:=by cases op<;>first|rfl|exact ba rfl h
 have e2:(op==Ym)=ao:=by cases op<;>first|rfl|exact ba rfl h2
 cases b<;>simp[jZ,e1,e2]
noncomputable def Yg (ta:TE):TE:=λL H Q=>ta L H λx H1=>Q (.bl (decide (x=.non))) H1
def bz.none_iff {x:V} {v:au} (r:bz x v):(v==xC)=decide (x=.non):=by
 cases x with
 |non=>cases r;rfl
 |bl _=>cases r;rfl
 |int _=>obtain⟨t,rfl⟩:=r;rfl
 |str _=>obtain⟨t,rfl⟩:=r;rfl
 |ref _=>cases r;rfl
 |ty _=>cases r;rfl
def Ru {j pos'} (ha:PE X a ta):PC X .Is a (.Constant .none j pos') (Yg ta):=by intro XL s L H Q I h;refine thE (ha XL s L H _ I h) λv s1 x H1 I1 r1 q1=>?_;exact Constant_none (is_none_gen #[.bl _,H1,I1,by rw[r1.none_iff];rfl,q1])
noncomputable def tB (t:TE):TT:=λL H Q=>t L H λx H1=>∃c,x=.bl c/\Q c H1
def S' {t:TE} (h:PC X op a b t) (h1:jZ op b=ao:=by first|exact S5 _ .(a) .(a)|rfl):PE X (.Compare a [op] [b] pos) t:=λXL s L H Q I hw=>Yn (h XL s L H Q I hw) h1
def sT {t:TE} (h:PE X e t) (he:∀whole,isTrue e X.env whole=(do let v ←whole;mC e.pos;i4 [v] (truthy v)):=by intro _;rfl):PT X e (tB t):=by intro XL s L H Q I hw;refine isTrue_plain (thE (h XL s L H _ I hw) λv s1 x H1 I1 r1 q1=>?_) (he _);obtain⟨d,rfl,q⟩:=q1;cases r1;exact mD #[H1,I1,q]
variable {tA tB':TT} {aZ:Z Expr}
noncomputable def V2 (t u:TT):TT:=λL H Q=>t L H λc H1=>if c=ah then u L H1 Q else Q ao H1
noncomputable def tOr (t u:TT):TT:=λL H Q=>t L H λc H1=>if c=ah then Q ah H1 else u L H1 Q
noncomputable def Tj (t:TT):TT:=λL H Q=>t L H λc H1=>Q (!c) H1
def GD (ha:PT X a tA):PW X (.BoolOp .And [a] pos) tA:=by
 intro wh XL s L H Q I h;refine isTrue_and (thn (ha XL s L H Q I h) λc s1 e=>?_);cases c with
 |true=>exact isTrue_and_nil e
 |false=>exact e
def yv (ha:PT X a tA):PW X (.BoolOp .Or [a] pos) tA:=by
 intro wh XL s L H Q I h;refine isTrue_or (thn (ha XL s L H Q I h) λc s1 e=>?_);cases c with
 |false=>exact isTrue_or_nil e
 |true=>exact e
def Ko (ha:PT X a tA) (hb:PW X (.BoolOp .And (b::aZ) pos) tB'):PW X (.BoolOp .And (a::b::aZ) pos) (V2 tA tB'):=by
 intro wh XL s L H Q I h;refine isTrue_and (thn (ha XL s L H _ I h) λc s1 ζ=>?_);obtain⟨H1,I1,q1⟩:=ζ;cases c with
 |true=>exact hb wh XL s1 L H1 Q I1 q1
 |false=>exact#[H1,I1,q1]
def yw (ha:PT X a tA) (hb:PW X (.BoolOp .Or (b::aZ) pos) tB'):PW X (.BoolOp .Or (a::b::aZ) pos) (tOr tA tB'):=by
 intro wh XL s L H Q I h;refine isTrue_or (thn (ha XL s L H _ I h) λc s1 ζ=>?_);obtain⟨H1,I1,q1⟩:=ζ;cases c with
 |true=>exact#[H1,I1,q1]
 |false=>exact hb wh XL s1 L H1 Q I1 q1
def xh (ha:PT X a tA):PT X (.UnaryOp .Not a pos) (Tj tA):=by intro XL s L H Q I h;exact isTrue_not (ha XL s L H (λc H1=>Q (!c) H1) I h)
noncomputable def V5 (ta tb:TE):TE:=λL H Q=>ta L H λx H1=>∃c,x=.bl c/\if c=ah then tb L H1 Q else Q (.bl ao) H1
noncomputable def Ri (ta tb:TE):TE:=λL H Q=>ta L H λx H1=>∃c,x=.bl c/\if c=ah then Q (.bl ah) H1 else tb L H1 Q
noncomputable def Si (ta:TE):TE:=λL H Q=>ta L H λx H1=>∃c,x=.bl c/\Q (.bl (!c)) H1
def D' {op} {t:TE} (h:PE X a t):PE X (.BoolOp op [a] pos) t:=λXL s L H Q I hw=>BoolOp_one (h XL s L H Q I hw)
def F0 (ha:PE X a ta) (hb:PE X (.BoolOp .And (b::aZ) pos) tb):PE X (.BoolOp .And (a::b::aZ) pos) (V5 ta tb):=by
 intro XL s L H Q I h;refine BoolOp_and (thE (ha XL s L H _ I h) λv s1 x H1 I1 r1 q1=>?_);obtain⟨c,rfl,q1⟩:=q1;cases r1;refine mD ?_;cases c with
 |true=>exact hb XL s1 L H1 Q I1 q1
 |false=>exact#[.bl ao,H1,I1,(),q1]
def UG (ha:PE X a ta) (hb:PE X (.BoolOp .Or (b::aZ) pos) tb):PE X (.BoolOp .Or (a::b::aZ) pos) (Ri ta tb):=by
 intro XL s L H Q I h;refine BoolOp_or (thE (ha XL s L H _ I h) λv s1 x H1 I1 r1 q1=>?_);obtain⟨c,rfl,q1⟩:=q1;cases r1;refine mD ?_;cases c with
 |false=>exact hb XL s1 L H1 Q I1 q1
 |true=>exact#[.bl ah,H1,I1,(),q1]
def Ia (ha:PE X a ta):PE X (.UnaryOp .Not a pos) (Si ta):=by intro XL s L H Q I h;refine Mb (thE (ha XL s L H _ I h) λv s1 x H1 I1 r1 q1=>?_);obtain⟨c,rfl,q1⟩:=q1;cases r1;exact not_of (mD #[.bl (!c),H1,I1,(),q1])
noncomputable def tIf (t:TT) (ta tb:TE):TE:=λL H Q=>t L H λc H1=>if c=ah then ta L H1 Q else tb L H1 Q
def TR {c:Expr} (hc:PT X c tA) (ha:PE X a ta) (hb:PE X b tb):PE X (.IfExp c a b pos) (tIf tA ta tb):=by
 intro XL s L H Q I h;refine wpAny_IfExp (thn (hc XL s L H _ I h) λd s1 ζ=>?_);obtain⟨H1,I1,q1⟩:=ζ;cases d with
 |true=>exact ha XL s1 L H1 Q I1 q1
 |false=>exact hb XL s1 L H1 Q I1 q1
end
def SqL (K:aJ) (H:Hp) (a:ar) (xs:Z V):Prop:=
 Rd H a (.lst xs) \/
  ∃(o:bo) (its:cg au) (n:J),K.lookup a=U o/\o.cls=.type "list"/\o.dict=B/\o.data=.seq its n/\its.size<=aH/\bq xs its.toList
def SqT (K:aJ) (H:Hp) (a:ar) (xs:Z V):Prop:=
 Rd H a (.tup xs) \/
  ∃(o:bo) (its:cg au) (n:J),K.lookup a=U o/\o.cls=.type "tuple"/\o.data=.seq its n/\its.size<=aH/\bq xs its.toList
noncomputable def PF:au->ak V
 |.none=>U .non
 |.bool b=>U (.bl b)
 |.int i _=>U (.int i)
 |.str x _=>U (.str x)
 |.ref a=>U (.ref a)
 |.type n=>U (.ty n)
 |_=>B
def bz.abs {x:V} (r:bz x u):PF u=U x:=by
 cases x with
 |non=>cases r;rfl
 |bl _=>cases r;rfl
 |int _=>obtain⟨t,rfl⟩:=r;rfl
 |str _=>obtain⟨t,rfl⟩:=r;rfl
 |ref _=>cases r;rfl
 |ty _=>cases r;rfl
def bz.inj {x y:V} (r:bz x u) (q:bz y u):x=y:=qK (r.abs.symm.trans q.abs)
theorem bq.inj {us:Z au}:∀{xs ys:Z V},bq xs us->bq ys us->xs=ys:=by
 induction us with
 |nil=>intro _ _ r s;cases r;cases s;rfl
 |cons u us i=>intro _ _ r s;cases r with|cons r t=>cases s with|cons r' t'=>rw[r.inj r',i t t']
section
variable {xs ys:Z V}
def Inv.list (I:Inv X XL L H s) (h:SqL X.K H a xs):∃its:Z au,bq xs its/\PlainL s.heap a its.toArray/\xs.length<=aH:=by
 rcases h with h|⟨o,its,n,hk,hc,hd,hs,hz,r⟩
 .obtain⟨z,its,n,r,e⟩:=h.ok I.hok;exact#[its,r,#[_,n,e,(),(),()],z]
 .refine#[its.toList,r,#[o,n,I.kIn a o hk,hc,hd,by simpa using hs],?_];have e:=r.length;simp only[hG] at e;lia
def Inv.tuple (I:Inv X XL L H s) (h:SqT X.K H a xs):∃its:Z au,bq xs its/\IsTup s.heap a its.toArray/\xs.length<=aH:=by
 rcases h with h|⟨o,its,n,hk,hc,hs,hz,r⟩
 .obtain⟨z,its,r,p⟩:=h.ok I.hok;exact#[its,r,p,z]
 .refine#[its.toList,r,#[o,I.kIn a o hk,hc,n,by simpa using hs],?_];have e:=r.length;simp only[hG] at e;lia
def Inv.list_inj (I:Inv X XL L H s) (h:SqL X.K H a xs) (h':SqL X.K H a ys):xs=ys:=by
 obtain⟨its,r,⟨o,n,e,_,_,d⟩,_⟩:=I.list h;obtain⟨its',r',⟨o',n',e',_,_,d'⟩,_⟩:=I.list h';rw[e] at e';cases e';rw[d] at d';injection d' with d1 _;have:its=its':=by simpa using cQ Mc d1
 subst this;exact r.inj r'
def Inv.tuple_inj (I:Inv X XL L H s) (h:SqT X.K H a xs) (h':SqT X.K H a ys):xs=ys:=by
 obtain⟨its,r,⟨o,e,_,n,d⟩,_⟩:=I.tuple h;obtain⟨its',r',⟨o',e',_,n',d'⟩,_⟩:=I.tuple h';rw[e] at e';cases e';rw[d] at d';injection d' with d1 _;have:its=its':=by simpa using cQ Mc d1
 subst this;exact r.inj r'
end
noncomputable abbrev Cx.wish (X:Cx) (E:au->aF->Prop):Cx:={X with xe:=E}
noncomputable abbrev Cx.nox (X:Cx):Cx:=X.wish λ_ _=>False
def Cx.Ok.wish (ok:X.Ok) (E:au->aF->Prop):(X.wish E).Ok:=
 #[ok.mod,ok.kind,ok.glob,ok.blt,ok.above,ok.inj,ok.has,ok.cab,ok.hd,ok.frames,ok.stk,ok.exf,ok.bs,ok.bsz,ok.noex,ok.exfs,ok.funs,ok.frf]
def Cx.Ok.unwish (ok:(X.wish E).Ok):X.Ok:=
 #[ok.mod,ok.kind,ok.glob,ok.blt,ok.above,ok.inj,ok.has,ok.cab,ok.hd,ok.frames,ok.stk,ok.exf,ok.bs,ok.bsz,ok.noex,ok.exfs,ok.funs,ok.frf]
def Inv.wish (I:Inv X XL L H s) (E:au->aF->Prop):Inv (X.wish E) XL L H s:=#[I.ok.wish E,I.os,I.bare,I.base,I.loc,I.cell,I.free,I.freeC,I.pin,I.hok,I.len]
def Inv.unwish (I:Inv (X.wish E) XL L H s):Inv X XL L H s:=#[I.ok.unwish,I.os,I.bare,I.base,I.loc,I.cell,I.free,I.freeC,I.pin,I.hok,I.len]
def SP.unwish {D:Ends} {f:Flow} {s':aF} (h:SP (X.wish E) XL D f s'):SP X XL D f s':=by
 cases f with
 |next=>obtain⟨BT,H',I,q⟩:=h;exact#[BT,H',I.unwish,q]
 |brk=>obtain⟨BT,H',I,q⟩:=h;exact#[BT,H',I.unwish,q]
 |cont=>obtain⟨BT,H',I,q⟩:=h;exact#[BT,H',I.unwish,q]
 |ret u=>obtain⟨v,BT,H',I,r,q⟩:=h;exact#[v,BT,H',I.unwish,r,q]
def PSs.nox {st:Z Stmt} {t:TS} (h:PSs X.nox st t):PSs X st t:=λXL s L H D I hw=>
 fj (h XL s L H D (I.wish _) hw) (λ_ _ q=>q.unwish) λ_ _ z=>gw z
variable {te:TE} {tc:TT}
section
variable {st:Stmt} {aZ:Z Stmt} {t u:TS}
noncomputable def T6:TS:=λD L H=>D.nx L H
noncomputable def Rq (t u:TS):TS:=λD L H=>t {D with nx:=u D} L H
def ub:PSs X [] T6:=λ_ _ L H _ I h=>uk #[L,H,I,h]
def kG (h1:PS X st t) (h2:PSs X aZ u):PSs X (st::aZ) (Rq t u):=by
 intro XL s L H D I h;refine Me (thn (h1 XL s L H {D with nx:=u D} I h) λf s1 q=>?_);cases f with
 |next=>
  obtain⟨BT,H',I',q⟩:=q;exact h2 XL s1 BT H' D I' q
 |ret v=>exact q
 |brk=>exact q
 |cont=>exact q
def lF (h1:PS X st t):PSs X [st] t:=by
 intro XL s L H D I h;refine Me (thn (h1 XL s L H D I h) λf s1 q=>?_);cases f with
 |next=>exact uk q
 |ret v=>exact q
 |brk=>exact q
 |cont=>exact q
def Inv.quiet (I:Inv X XL L H s):interactive X.env=ao:=by simp[interactive,I.ok.kind]
noncomputable def XY (te:TE):TS:=λD L H=>te L H λ_ H1=>D.nx L H1
def wd (he:PE X e te) (hs:eD e B pos.line X.env=pure ao:=by rfl):PS X (.Expr e pos) (XY te):=by intro XL s L H D I h;exact wpAny_Expr_any (thE (he XL s L H _ I h) λv s1 x H1 I1 r1 q1=>#[L,H1,I1,q1]) I.quiet hs
noncomputable def U2 (te:TE):TS:=λD L H=>te L H D.rt
def nM (he:PE X e te):PS X (.Return (U e) pos) (U2 te):=by intro XL s L H D I h;exact wpAny_Return_some (thE (he XL s L H _ I h) λv s1 x H1 I1 r1 q1=>#[x,L,H1,I1,r1,q1])
noncomputable def PM (c:TT) (t u:TS):TS:=λD L H=>c L H λb H1=>if b=ah then t D L H1 else u D L H1
def sR {c:Expr} {a b:Z Stmt} (hc:PT X c tc) (ha:PSs X a t) (hb:PSs X b u):PS X (.If c a b pos) (PM tc t u):=by
 intro XL s L H D I h;refine wpAny_If (thn (hc XL s L H _ I h) λd s1 ζ=>?_);obtain⟨H1,I1,q1⟩:=ζ;cases d with
 |true=>exact ha XL s1 L H1 D I1 q1
 |false=>exact hb XL s1 L H1 D I1 q1
end
abbrev TG:=V->St->Hp->(St->Hp->Prop)->Prop
abbrev TGs:=Z V->St->Hp->(St->Hp->Prop)->Prop
def PG (X:Cx) (target:Expr) (t:TG):Prop:=
 ∀(XL:Z (ar×bo)) (s:aF) (L:St) (H:Hp) (v:V) (u:au) (Q:St->Hp->Prop),Inv X XL L H s->bz v u->t v L H Q->
  aM (aL X.prog X.w) X.A (rl target X.env u) (λ_ s'=>∃BT H',Inv X XL BT H' s'/\Q BT H') X.xe s
def PGs (X:Cx) (ts:Z Expr) (t:TGs):Prop:=
 ∀(XL:Z (ar×bo)) (s:aF) (L:St) (H:Hp) (vs:Z V) (us:Z au) (Q:St->Hp->Prop),Inv X XL L H s->bq vs us->t vs L H Q->
  aM (aL X.prog X.w) X.A (assignInOrder ((ka ts X.env).map (·.2)) us) (λ_ s'=>∃BT H',Inv X XL BT H' s'/\Q BT H') X.xe s
abbrev B0:=V->V->V->Hp->(Hp->Prop)->Prop
def Gz (X:Cx) (t:B0):Prop:=
 ∀(XL:Z (ar×bo)) (s:aF) (L:St) (H:Hp) (o i v:V) (ov iv u:au) (Q:Hp->Prop),Inv X XL L H s->bz o ov->bz i iv->bz v u->t o i v H Q->
  aM (aL X.prog X.w) X.A (setItem ov iv u) (λ_ s'=>∃H',Inv X XL L H' s'/\Q H') X.xe s
variable {es:Z Expr} {n:J} {o tg:Expr} {pos':bV}
noncomputable def pG (i:J):TG:=λv L H Q=>Q (L.set i (U v)) H
def Ta (hN:X.N.Nodup) (hi:X.N[i]?=U x) (hx:Loc X.env.scope x) (hf:X.fn x=ah\/X.env.scope.names.lookup x=U .local:=by ac_nf):PG X (.Name x pos) (pG i):=by intro XL s L H v u Q I r h;exact Yo (w9 I hN hi hx r (λs' I'=>#[_,H,I',h]) hf)
noncomputable def So:TGs:=λvs L H Q=>vs=[]/\Q L H
noncomputable def Rv (t:TG) (u:TGs):TGs:=λvs L H Q=>∃v r,vs=v::r/\t v L H λBT H'=>u r BT H' Q
def Xt:PGs X [] So:=by intro XL s L H vs us Q I r h;obtain⟨e,h⟩:=h;subst e;cases r;exact assignInOrder_nil #[L,H,I,h]
def Pt {t:TG} {u:TGs} (h1:PG X e t) (h2:PGs X es u)
  (hs:(ka (e::es) X.env).map (·.2)=rl e X.env::(ka es X.env).map (·.2):=by rfl):PGs X (e::es) (Rv t u):=by
 intro XL s L H vs us Q I r h;obtain⟨v,vr,e1,h⟩:=h;subst e1;cases r with
 |cons r rr=>
  rw[hs];refine assignInOrder_cons (thn (h1 XL s L H _ _ _ I r h) λ_ s1 ζ=>?_);obtain⟨σ1,H1,I1,q1⟩:=ζ;exact h2 XL s1 σ1 H1 _ _ Q I1 rr q1
def XN (K:aJ) (n:J) (t:TGs):TG:=λv L H Q=>∃a xs,v=.ref a/\SqT K H a xs/\xs.length=n/\t xs L H Q
def Td {k:J} {t:TGs} (hc:X.calm=ah) (h:PGs X es t)
  (hn:(ka es X.env).length=n:=by rfl) (hst:(ka es X.env).findIdx? (·.1)=B:=by rfl):PG X (.Tuple es k pos) (XN X.K n t):=by
 intro XL s L H v u Q I r hw;obtain⟨a,xs,e1,hq,hl,hw⟩:=hw;subst e1;cases r;obtain⟨its,rv,ht,hz⟩:=I.tuple hq;refine assign_Tuple_tuple (I.ok.hd hc) ht (by simp[hn,<-hl,rv.length]) hst λh' hx=>?_;have I1:Inv X XL L H {s with heap:=h'}:=I.kept (t':=s.toks) λb o e=>hx b o (qG (qw e)) e;exact h XL _ L H xs _ Q I1 (by simpa using rv) hw
noncomputable def WQ (to ti:TE) (t:B0):TG:=λv L H Q=>to L H λo H1=>ti L H1 λi H2=>t o i v H2 λH3=>Q L H3
def X8 {i:Expr} {to ti:TE} {t:B0} (ho:PE X o to) (hi:PE X i ti) (hs:Gz X t)
  (ha:∀v,rl (.Subscript o i pos) X.env v=(do
   let ov ←i4 [v] (eval o X.env)
   let iv ←i4 [v,ov] (eval i X.env)
   mC pos
   i4 [v,ov,iv] (setItem ov iv v)
   release [v,ov,iv] []):=by intro _;rfl):PG X (.Subscript o i pos) (WQ to ti t):=by
 intro XL s L H v u Q I r h;rw[ha];refine qA (qW (thE (ho XL s L H _ I h) λov s1 x H1 I1 r1 q1=>?_));refine qA (qW (thE (hi XL s1 L H1 _ I1 q1) λiv s2 y H2 I2 r2 q2=>?_));refine qA (Mf (qA (qW (thn (hs XL s2 L H2 x y v ov iv u _ I2 r1 r2 r q2) λ_ s3 ζ=>?_))));obtain⟨H3,I3,q3⟩:=ζ;exact wpAny_release #[L,H3,I3,q3]
noncomputable def ph (te:TE) (g:TG):TS:=λD L H=>te L H λx H1=>g x L H1 D.nx
def Jn {g:TG} (he:PE X e te) (hg:PG X tg g) (hs:Mg [tg] e pos.line X.env=pure ao:=by rfl) (hw:Mh [tg] e X.env=pure B:=by rfl)
  (h1:(ka [tg] X.env).map (·.2)=[rl tg X.env]:=by rfl):PS X (.Assign [tg] e pos) (ph te g):=by
 intro XL s L H D I h;refine wpAny_Assign_stores (thE (he XL s L H _ I h) λv s1 x H1 I1 r1 q1=>?_) hs hw;rw[h1];exact thn (hg XL s1 L H1 x v _ I1 r1 q1) λ_ s2 q=>q
def l6 (hN:X.N.Nodup) (hi:X.N[i]?=U x) (hx:Loc X.env.scope x) (he:PE X e te) (hs:eD e (U (.Name x pos')) pos.line X.env=pure ao:=by rfl) (hf:X.fn x=ah\/X.env.scope.names.lookup x=U .local:=by ac_nf) :
  PS X (.Assign [.Name x pos'] e pos) (ph te (pG i)):=by
 intro XL s L H D I h;refine Yp (thE (he XL s L H _ I h) λv s1 y H1 I1 r1 q1=>?_) hs;exact w9 I1 hN hi hx r1 (λs2 I2=>#[_,H1,I2,q1]) hf
variable {body:Z Stmt}
def Q0 (c:TT) (tb:TS):TS:=λD L H=>∃W:J->St->Hp->Prop,(∃m,W m L H)/\∀m L H,W m L H->
 c L H λb H1=>if b=ah then ∃N:St->Hp->Prop,(∀BT H',N BT H'->∃m',m'<m/\W m' BT H')/\tb {D with nx:=N,ct:=N,bk:=D.nx} L H1 else D.nx L H1
def Ge {c:Expr} {tb:TS} (hp:um (aL X.prog X.w) X.A X.env X.xe) (hc:PT X c tc) (hb:PSs X body tb):PS X (.While c body [] pos) (Q0 tc tb):=by
 intro XL s L H D I h;obtain⟨W,⟨m0,w0⟩,turn⟩:=h;refine wpAny_While (codeAny_whileLoop (λn s'=>∃BT H',Inv X XL BT H' s'/\W n BT H') ?_ m0 #[L,H,I,w0]);rintro n s1 ⟨σ1,H1,I1,w1⟩;refine rm hp (thn (hc XL s1 σ1 H1 _ I1 (turn n σ1 H1 w1)) λb s2 ζ=>?_);obtain⟨H2,I2,q2⟩:=ζ;cases b with
 |true=>
  obtain⟨N,hN,q2⟩:=q2;rw[qZ ()];refine rm hp (thn (hb XL s2 σ1 H2 _ I2 q2) λf s3 q3=>?_);cases f with
  |next=>
   obtain⟨σ3,H3,I3,n3⟩:=q3;obtain⟨m',hm,w3⟩:=hN σ3 H3 n3;exact#[m',hm,σ3,H3,I3,w3]
  |cont=>
   obtain⟨σ3,H3,I3,n3⟩:=q3;obtain⟨m',hm,w3⟩:=hN σ3 H3 n3;exact#[m',hm,σ3,H3,I3,w3]
  |brk=>exact q3
  |ret v=>exact q3
 |false=>
  rw[xa qu];exact uk #[σ1,H2,I2,q2]
structure It where
 go:J->Hp->Prop
 yld:J->Hp->V->Hp->Prop
 stop:J->Hp->Prop
def gT (X:Cx) (XL:Z (ar×bo)) (H:Hp) (b:ar):Prop:=
 H b=B/\b≠X.env.locals/\b∉X.fs/\(b∈X.ex\/X.mt.heap.objs.size<=b)/\(∀x c,X.env.cells.lookup x=U c->c≠b)/\∀p∈X.pn++XL,p.1≠b
def Inv.fpOk {b:ar} (I:Inv X XL L H s) (hb:s.heap.objs.size<=b) (hn:H' b=B):gT X XL H' b:=by
 refine#[hn,xF (qI I.lt hb),I.nofs hb,.inr (qP I.sz hb),λx c e z=>?_,λp hp z=>?_]
 .obtain⟨v,q⟩:=I.cell x c e;exact ba (qI q.lt (by rw[z];exact hb)) (n9 _)
 .exact ba (qI (qw (I.pin p hp).1) (by rw[z];exact hb)) (n9 _)
structure Turn (P:b7) (w:bU) (K:aJ) (tg:Expr) (ag:It) (fp:Z ar) (it:ar) (tn:J->Heap->Prop):Prop where
 mem:it∈fp
 obj:∀i h,tn i h->∀b∈fp,∃o,h.get? b=U o/\∀v,o.data≠.cell v
 keep:∀i h h',tn i h->(∀b∈fp,∀o,h.get? b=U o->h'.get? b=U o)->tn i h'
 item:∀(X:Cx),X.prog=P->X.w=w->X.K=K->X.calm=ah->∀(i:J) (XL:Z (ar×bo)) (s:aF) (L:St) (H:Hp) (E:au->aF->Prop),Inv X XL L H s->(∀b∈fp,gT X XL H b)->tn i s.heap->ag.go i H->
  aM (aL P w) X.A (CJ (.ref it)) (λr s1=>∃u,r=U u /\
   aM (aL P w) X.A (xG tg (.ref it) u) (λ_ s2=>∃x H',Inv X XL L H' s2/\bz x u/\ag.yld i H x H'/\tn (i+1) s2.heap/\∀b∈fp,H' b=B) E s1) E s
 done:∀(X:Cx),X.prog=P->X.w=w->X.K=K->X.calm=ah->∀(i:J) (XL:Z (ar×bo)) (s:aF) (L:St) (H:Hp) (E:au->aF->Prop),Inv X XL L H s->(∀b∈fp,gT X XL H b)->tn i s.heap->ag.stop i H->
  aM (aL P w) X.A (CJ (.ref it)) (λr s1=>r=B/\Inv X XL L H s1) E s
 self:∀(A:dh) (i:J) (s:aF) (Q:au->aF->Prop) (E:au->aF->Prop),tn i s.heap->Q (.ref it) s->aM (aL P w) A (xH (.ref it)) Q E s
abbrev TI:=St->Hp->(It->Hp->Prop)->Prop
def PIE (X:Cx) (XL:Z (ar×bo)) (L:St) (tg:Expr) (R:It->Hp->Prop) (itv:au) (s2:aF):Prop:=
 ∃(it:ar) (fp:Z ar) (tn:J->Heap->Prop) (ag:It) (H':Hp),itv=.ref it/\Inv X XL L H' s2/\Turn X.prog X.w X.K tg ag fp it tn/\tn 0 s2.heap/\(∀b∈fp,gT X XL H' b)/\R ag H'
def PI (X:Cx) (tg iter:Expr) (wi:TI):Prop:=
 ∀(XL:Z (ar×bo)) (s:aF) (L:St) (H:Hp) (R:It->Hp->Prop),Inv X XL L H s->wi L H R->
  aM (aL X.prog X.w) X.A (eval iter X.env) (λv s1=>aM (aL X.prog X.w) X.A (xH v) (PIE X XL L tg R) X.xe s1) X.xe s
def y0 {M:rj} {it:ar} {o:bo} {n:String} {vs:cg au} {Q:li->aF->Prop} (ho:s.heap.get? it=U o) (hc:o.cls=.type n) (hd:o.data=.fields vs)
  (hn:["enumerate","zip","dict_itemiterator","dict_reverseitemiterator","odict_iterator","itertools.zip_longest","itertools.pairwise"].contains n=ao) (hQ:Q .unit s):aM M A (xG tg (.ref it) u) Q E s:=by
 unfold xG;cases tg<;>first
  |exact qE hQ
  |(cases u<;>first
    |exact qE hQ
    |(refine qA (wpAny_load ho ?_);rw[hc,hd];show aM M A (if (["enumerate","zip","dict_itemiterator","dict_reverseitemiterator","odict_iterator","itertools.zip_longest","itertools.pairwise"].contains n && vs[0]?==U (rA _))=ah then _ else _) Q E s;rw[xa (by intro h;rw[hn,Bool.false_and] at h;cases h)];exact qE hQ))
def Itl (K:aJ) (a:ar):It:=
 #[λi H=>∃xs x,SqL K H a xs/\xs[i]?=U x,λi H x H'=>H'=H/\∀xs,SqL K H a xs->xs[i]?=U x,λi H=>∃xs,SqL K H a xs/\xs.length<=i]
def Itt (K:aJ) (a:ar):It:=
 #[λi H=>∃xs x,SqT K H a xs/\xs[i]?=U x,λi H x H'=>H'=H/\∀xs,SqT K H a xs->xs[i]?=U x,λi H=>∃xs,SqT K H a xs/\xs.length<=i]
noncomputable def Itr (lo:aj) (n:J):It:=#[λi _=>i<n,λi H x H'=>H'=H/\x=.int (lo+i),λi _=>n<=i]
variable {K:aJ}
def Oh (a it:ar):Turn P w K tg (Itl K a) [it] it (λi h=>h.IsListIter it a i) where
 mem:=by simp
 obj:=λi h st b hb=>by
  have e:b=it:=by simpa using hb
  subst e;obtain⟨o,e,c,d⟩:=st;exact#[o,e,λv z=>by rw[d] at z;cases z]
 keep:=λi h h' st k=>st.at λo e=>k it (by simp) o e
 item:=by intro X hP hw hK hc i XL s L H E I hf st hg;subst hP hw hK;obtain⟨xs,x,hq,hx⟩:=hg;obtain⟨its,rv,p,hz⟩:=I.list hq;obtain⟨u,hu,ru⟩:=rv.get hx;obtain⟨f0,f1,f2,f3,f4,f5⟩:=hf it (by simp);refine wpAny_pyNext_list_item st p.isList (x:=u) (by simpa using hu) λh' st' sb=>?_;have I1:Inv X XL L H {s with heap:=h'}:=I.turned (t':=s.toks) (λb o hb e=>(sb.2 b hb).trans e) f0 f1 f3 f4 f5;obtain⟨o,e,c,d⟩:=id st';exact#[u,(),y0 (s:={s with heap:=h'}) e c d .(a) #[x,H,I1,ru,#[rfl,λys hy=>by rw[I.list_inj hy hq];exact hx],st',λb hb=>(hf b hb).1]]
 done:=by intro X hP hw hK hc i XL s L H E I hf st hg;subst hP hw hK;obtain⟨xs,hq,hx⟩:=hg;obtain⟨its,rv,p,hz⟩:=I.list hq;obtain⟨f0,f1,f2,f3,f4,f5⟩:=hf it (by simp);have hl:=rv.length;exact wpAny_pyNext_list_end (I.ok.hd hc) st p.isList (by simp;lia) λh' eb=>#[(),I.turned (t':=s.toks) (λb o hb e=>eb b o hb e) f0 f1 f3 f4 f5]
 self:=λ_ _ _ _ _ st h=>wpAny_pyIter_listiter st h
def Xj (a it:ar):Turn P w K tg (Itt K a) [it] it (λi h=>h.IsTupleIter it a i) where
 mem:=by simp
 obj:=λi h st b hb=>by
  have e:b=it:=by simpa using hb
  subst e;obtain⟨o,e,c,d⟩:=st;exact#[o,e,λv z=>by rw[d] at z;cases z]
 keep:=λi h h' st k=>st.at λo e=>k it (by simp) o e
 item:=by intro X hP hw hK hc i XL s L H E I hf st hg;subst hP hw hK;obtain⟨xs,x,hq,hx⟩:=hg;obtain⟨its,rv,p,hz⟩:=I.tuple hq;obtain⟨u,hu,ru⟩:=rv.get hx;obtain⟨f0,f1,f2,f3,f4,f5⟩:=hf it (by simp);refine wpAny_pyNext_tuple_item st (show s.heap.IsTuple a its.toArray from p) (x:=u) (by simpa using hu) λh' st' sb=>?_;have I1:Inv X XL L H {s with heap:=h'}:=I.turned (t':=s.toks) (λb o hb e=>(sb.2 b hb).trans e) f0 f1 f3 f4 f5;obtain⟨o,e,c,d⟩:=id st';exact#[u,(),y0 (s:={s with heap:=h'}) e c d .(a) #[x,H,I1,ru,#[rfl,λys hy=>by rw[I.tuple_inj hy hq];exact hx],st',λb hb=>(hf b hb).1]]
 done:=by intro X hP hw hK hc i XL s L H E I hf st hg;subst hP hw hK;obtain⟨xs,hq,hx⟩:=hg;obtain⟨its,rv,p,hz⟩:=I.tuple hq;obtain⟨f0,f1,f2,f3,f4,f5⟩:=hf it (by simp);have hl:=rv.length;exact wpAny_pyNext_tuple_end (I.ok.hd hc) st (show s.heap.IsTuple a its.toArray from p) (by simp;lia) λh' eb=>#[(),I.turned (t':=s.toks) (λb o hb e=>eb b o hb e) f0 f1 f3 f4 f5]
 self:=λ_ _ _ _ _ st h=>wpAny_pyIter_tupleiter st h
def Su (it:ar) (lo:aj) (n:J):Turn P w K tg (Itr lo n) [it] it (λi h=>IsRangeIter h it (lo+(i:J)*1) ((n:aj)-(i:J)) 1) where
 mem:=by simp
 obj:=λi h st b hb=>by
  have e:b=it:=by simpa using hb
  subst e;exact#[_,st,λv z=>by have z':Data.fields _=Data.cell v:=z;cases z']
 keep:=λi h h' st k=>k it (by simp) _ st
 item:=by intro X hP hw hK hc i XL s L H E I hf st hg;subst hP hw hK;obtain⟨f0,f1,f2,f3,f4,f5⟩:=hf it (by simp);have W:=Walks.range (prog:=X.prog) (w:=X.w) (I.ok.hd hc) it lo 1 n;refine W.item i s _ _ hg st λv h' tk hv st' kk=>?_;obtain⟨t,rfl⟩:=hv;have I1:Inv X XL L H {s with heap:=h',toks:=tk}:=I.turned (λb o hb e=>kk b o (by simpa using hb) e) f0 f1 f3 f4 f5;refine#[_,(),y0 (s:={s with heap:=h',toks:=tk}) (n:="range_iterator") st' rfl rfl .(a) #[.int (lo+i),H,I1,#[t,?_],#[rfl,rfl],st',λb hb=>(hf b hb).1]];rw[Int.mul_one]
 done:=by intro X hP hw hK hc i XL s L H E I hf st hg;subst hP hw hK;obtain⟨f0,f1,f2,f3,f4,f5⟩:=hf it (by simp);exact wpAny_pyNext_range_end (I.ok.hd hc) st (by have:n<=i:=hg;lia) λh' eb=>#[(),I.turned (t':=s.toks) (λb o hb e=>eb b o hb e) f0 f1 f3 f4 f5]
 self:=λ_ _ _ _ _ st h=>wpAny_pyIter_rangeiter st h
variable {lo:aj} {fp:Z ar} {iter:Expr} {wi:TI}
def JX {R:It->Hp->Prop} {hi:aj} {t u v:Tok} {tk:J} (I:Inv X XL L H s) (h1 : -(2 ^ 62)<=lo) (h2:lo<2 ^ 62) (h3 : -(2 ^ 62)<=hi) (h4:hi<2 ^ 62)
  (q:R (Itr lo (hi-lo).toNat) H):aM (aL X.prog X.w) X.A (xH (.ref s.heap.objs.size)) (PIE X XL L tg R) E {s with heap:=s.heap.push {cls:=.type "range",data:=.fields [.int lo t,.int hi u,.int 1 v].toArray},toks:=tk}:=by
 refine wpAny_pyIter_range (IsRange.new ..) (small_one h1 h2 h3 h4) ?_;have I1:Inv X XL L H {s with heap:=s.heap.push {cls:=.type "range",data:=.fields [.int lo t,.int hi u,.int 1 v].toArray},toks:=tk}:=I.kept λb o e=>qv _ e;refine#[(s.heap.push {cls:=.type "range",data:=.fields [.int lo t,.int hi u,.int 1 v].toArray}).objs.size,[(s.heap.push {cls:=.type "range",data:=.fields [.int lo t,.int hi u,.int 1 v].toArray}).objs.size],_,_,H,(),
  I1.kept (t':=tk) λb o e=>qv _ e,Su _ lo (hi-lo).toNat,?_,λb hb=>?_,q]
 .have e1:lo+((0:J):aj)*1=lo:=by simp
  have e2:(((hi-lo).toNat:J):aj)-((0:J):aj)=xai lo hi 1:=by rw[rangeSize_one];split<;>lia
  show IsRangeIter _ _ (lo+((0:J):aj)*1) ((((hi-lo).toNat:J):aj)-((0:J):aj)) 1;rw[e1,e2];exact qJ _ ()
 .have e:b=(s.heap.push {cls:=.type "range",data:=.fields [.int lo t,.int hi u,.int 1 v].toArray}).objs.size:=by simpa using hb
  subst e;exact I1.fpOk (qx _) (I1.hok.fresh (qx _))
def S9 (ta:TA):TI:=λL H R=>ta L H λvs H1=>∃j:aj,vs=[.int j] /\ -(2 ^ 62)<=j/\j<2 ^ 62/\R (Itr 0 j.toNat) H1
def Sy (ta:TA):TI:=λL H R=>ta L H λvs H1=>∃i j:aj,vs=[.int i,.int j]/\(-(2 ^ 62)<=i/\i<2 ^ 62 /\ -(2 ^ 62)<=j/\j<2 ^ 62)/\R (Itr i (j-i).toNat) H1
def Gh {a:Expr} {ta:TA} {p:bV} (hg:Gl X "range") (hm:X.mg "range"=B) (ha:PA X [a] ta) (hs:aK [a] X.env=[(ao,eval a X.env)]:=by rfl):PI X tg (.Call (.Name "range" p) [a] [] pos) (S9 ta):=by
 intro XL s L H R I h;refine Call_ (pX I hg hm boot_range (CK (thA (ha pos XL s L H _ I h) λus s1 vs H1 I1 r1 q1=>?_) hs ()));obtain⟨j,e,q1,q2,q⟩:=q1;subst e;cases r1 with
 |cons r rr=>
  cases rr;obtain⟨t,rfl⟩:=r;exact call_range_1 (JX I1 .(b) .(b) q1 q2 (by simpa using q))
def NT {a:Expr} {ta:TA} {p:bV} (hg:Gl X "range") (hm:X.mg "range"=B) (ha:PA X [a,b] ta) (hs:aK [a,b] X.env=[(ao,eval a X.env),(ao,eval b X.env)]:=by rfl) (hs2:aK [b] X.env=[(ao,eval b X.env)]:=by rfl) :
  PI X tg (.Call (.Name "range" p) [a,b] [] pos) (Sy ta):=by
 intro XL s L H R I h;refine Call_ (pX I hg hm boot_range (CK (thA (ha pos XL s L H _ I h) λus s1 vs H1 I1 r1 q1=>?_) (by rw[hs,hs2]) (by rw[hs2];rfl)));obtain⟨i,j,e,⟨q1,q2,q3,q4⟩,q⟩:=q1;subst e;cases r1 with
 |cons r rr=>
  cases rr with
  |cons r' rr=>
   cases rr;obtain⟨t,rfl⟩:=r;obtain⟨t',rfl⟩:=r';exact call_range_2 (JX I1 q1 q2 q3 q4 q)
def Se (wi:TI) (g:TG) (tb:TS):TS:=λD L H=>wi L H λag H1=>∃W:J->J->St->Hp->Prop,(∃m,W 0 m L H1)/\∀i m L H,W i m L H->
 (ag.stop i H/\D.nx L H)\/(ag.go i H/\∃N:St->Hp->Prop,(∀BT H',N BT H'->∃m',m'<m/\W (i+1) m' BT H')/\∀x H',ag.yld i H x H'->g x L H' λσ2 H2=>tb {D with nx:=N,ct:=N,bk:=D.nx} σ2 H2)
noncomputable def ud (fp:Z ar) (h:Heap):Z (ar×bo):=fp.filterMap λb=>(h.get? b).map λo=>(b,o)
def wl {b:ar} {o:bo} (hb:b∈fp) (e:h.get? b=U o):(b,o)∈ud fp h:=mE.mpr #[b,hb,by rw[e];rfl]
def VY {p:ar×bo} (hp:p∈ud fp h):p.1∈fp/\h.get? p.1=U p.2:=by
 obtain⟨b,hb,e⟩:=mE.mp hp;cases q:h.get? b with
 |none=>rw[q] at e;cases e
 |some o=>
  rw[q] at e;have e':(b,o)=p:=qK e;subst e';exact#[hb,q]
def Inv.pinned (I:Inv X XL L H s) (hf:∀b∈fp,gT X XL H b) (ho:∀b∈fp,∃o,s.heap.get? b=U o/\∀v,o.data≠.cell v):Inv X (XL++ud fp s.heap) L H s:=
 I.pins_of λp hp=>(fW.mp hp).elim (λz=>I.pin p (qT _ z)) λz=>by obtain⟨hb,e⟩:=VY z;obtain⟨f0,f1,f2,_⟩:=hf p.1 hb;obtain⟨o,e',d⟩:=ho p.1 hb;rw[e] at e';cases e';exact#[e,f0,f1,f2,d]
def Inv.unpinned {pl:Z (ar×bo)} (I:Inv X (XL++pl) L H s):Inv X XL L H s:=I.pins_of λp hp=>I.pin p (qT _ (xE _ hp))
def El {g:TG} {tb:TS} (hp:um (aL X.prog X.w) X.A X.env X.xe) (hc:X.calm=ah) (hi:PI X tg iter wi) (hg:PG X tg g) (hb:PSs X body tb)
  (hs:∀x,lj iter X.env x=pure x:=by intro _;rfl):PS X (.For tg iter body [] pos) (Se wi g tb):=by
 intro XL s L H D I h;refine wpAny_For (thn (hi XL s L H _ I h) λv s1 h1=>thn h1 λitv s2 h2=>?_) hs;obtain⟨it,fp,tn,ag,H2,e,I2,T,st2,f2,W,⟨m0,w0⟩,turn⟩:=h2;subst e;have stat:∀{H':Hp},(∀b∈fp,H' b=B)->∀b∈fp,gT X XL H' b:=λhn b hb=>#[hn b hb,(f2 b hb).2];refine codeAny_forLoop_any (λn s'=>∃i BT H',Inv X XL BT H' s'/\tn i s'.heap/\(∀b∈fp,H' b=B)/\W i n BT H') ?_ m0 #[0,L,H2,I2,st2,λb hb=>(f2 b hb).1,w0];rintro n s3 ⟨i,σ3,H3,I3,st3,fr3,w3⟩;rcases turn i n σ3 H3 w3 with⟨stop,qn⟩|⟨go,N,hN,step⟩
 .refine rm hp (thn (T.done X () () () hc i XL s3 σ3 H3 X.xe I3 (stat fr3) st3 stop) λr s4 #[hr,I4]=>?_);subst hr;exact uk #[σ3,H3,I4,qn]
 .refine rm hp (thn (T.item X () () () hc i XL s3 σ3 H3 X.xe I3 (stat fr3) st3 go) λr s4 ζ=>?_);obtain⟨u,hr,h4⟩:=ζ;subst hr;refine rm hp (thn h4 λ_ s5 ζ=>?_);obtain⟨x,H5,I5,r5,y5,st5,fr5⟩:=ζ;have I5':=I5.pinned (stat fr5) (T.obj _ _ st5);refine rm hp (thn (hg _ s5 σ3 H5 x u _ I5' r5 (step x H5 y5)) λ_ s6 #[σ6,H6,I6,q6]=>?_);refine rm hp (thn (hb _ s6 σ6 H6 _ I6 q6) λf s7 q7=>?_);have again:∀{σ7:St} {H7:Hp},Inv X (XL++ud fp s5.heap) σ7 H7 s7->N σ7 H7->∃m,m<n/\∃i BT H',Inv X XL BT H' s7/\tn i s7.heap/\(∀b∈fp,H' b=B)/\W i m BT H':=λ{σ7 H7} I7 n7=>by obtain⟨m',hm,w7⟩:=hN σ7 H7 n7;refine#[m',hm,i+1,σ7,H7,I7.unpinned,T.keep _ _ _ st5 λb hb o e=>(I7.pin (b,o) (qT _ (qT _ (wl hb e)))).1,λb hb=>?_,w7];obtain⟨o,e,d⟩:=T.obj _ _ st5 b hb;exact(I7.pin (b,o) (qT _ (qT _ (wl hb e)))).2.1
  cases f with
  |next=>obtain⟨σ7,H7,I7,n7⟩:=q7;exact again I7 n7
  |cont=>obtain⟨σ7,H7,I7,n7⟩:=q7;exact again I7 n7
  |brk=>obtain⟨σ7,H7,I7,q7⟩:=q7;exact#[σ7,H7,I7.unpinned,q7]
  |ret v=>obtain⟨x7,σ7,H7,I7,r7,q7⟩:=q7;exact#[x7,σ7,H7,I7.unpinned,r7,q7]
abbrev R2:=V->V->Hp->VK->Prop
def OpR (X:Cx) (f:au->au->Sem au) (r:R2):Prop:=
 ∀(XL:Z (ar×bo)) (s:aF) (L:St) (H:Hp) (x y:V) (v u:au) (Q:VK),Inv X XL L H s->bz x v->bz y u->r x y H Q->
  aM (aL X.prog X.w) X.A (f v u) (EP X XL L Q) X.xe s
def UnR (X:Cx) (f:au->Sem au) (r:V->Hp->VK->Prop):Prop:=
 ∀(XL:Z (ar×bo)) (s:aF) (L:St) (H:Hp) (x:V) (v:au) (Q:VK),Inv X XL L H s->bz x v->r x H Q->
  aM (aL X.prog X.w) X.A (f v) (EP X XL L Q) X.xe s
def fO (X:Cx) (f:au) (r:Z V->Hp->VK->Prop):Prop:=
 ∀(XL:Z (ar×bo)) (s:aF) (L:St) (H:Hp) (xs:Z V) (us:Z au) (Q:VK),Inv X XL L H s->bq xs us->r xs H Q->
  aM (aL X.prog X.w) X.A (call f us) (EP X XL L Q) X.xe s
noncomputable def tOp (r:R2) (ta tb:TE):TE:=λL H Q=>ta L H λx H1=>tb L H1 λy H2=>r x y H2 Q
noncomputable def tUn (r:V->Hp->VK->Prop) (ta:TE):TE:=λL H Q=>ta L H λx H1=>r x H1 Q
noncomputable def rI (C:aj->aj->Prop) (g:aj->aj->V):R2:=λx y H Q=>∃i j,x=.int i/\y=.int j/\C i j/\Q (g i j) H
noncomputable def rI0 (g:aj->aj->V):R2:=λx y H Q=>∃i j,x=.int i/\y=.int j/\Q (g i j) H
def rU (g:aj->V):V->Hp->VK->Prop:=λx H Q=>∃i,x=.int i/\Q (g i) H
section
variable {a c:Expr} {tc:TE}
def Cy (ha:PE X a ta) (hb:PE X b tb) {R:V->V->Hp->Prop} (I:Inv X XL L H s)
  (h:ta L H λx H1=>tb L H1 λy H2=>R x y H2) {f:au->au->Sem au} 
  (hf:∀v u s2 x y H2,Inv X XL L H2 s2->bz x v->bz y u->R x y H2->aM (aL X.prog X.w) X.A (f v u) Q X.xe s2) :
  aM (aL X.prog X.w) X.A (eval a X.env) (λv dl=>aM (aL X.prog X.w) X.A (eval b X.env) (λu s₂=>aM (aL X.prog X.w) X.A (f v u) Q X.xe s₂) X.xe dl) X.xe s:=by
 refine thE (ha XL s L H _ I h) λv s1 x H1 I1 r1 q1=>?_;refine thE (hb XL s1 L H1 _ I1 q1) λu s2 y H2 I2 r2 q2=>?_;exact hf v u s2 x y H2 I2 r1 r2 q2
def FX {op:Mi} {r:R2} (ho:OpR X (gK op) r) (ha:PE X a ta) (hb:PE X b tb):PE X (.BinOp a op b pos) (tOp r ta tb):=by intro XL s L H Q I h;exact wpAny_BinOp (Cy ha hb I h λv u s2 x y H2 I2 rx ry q=>ho XL s2 L H2 x y v u Q I2 rx ry q)
def R' {op:UnaryOp} {r:V->Hp->VK->Prop} (ho:UnR X (unaryOp op) r) (ha:PE X a ta):PE X (.UnaryOp op a pos) (tUn r ta):=by intro XL s L H Q I h;exact Mb (thE (ha XL s L H _ I h) λv s1 x H1 I1 r1 q1=>ho XL s1 L H1 x v Q I1 r1 q1)
def opI {f:au->au->Sem au} {C:aj->aj->Prop} {g:aj->aj->aj} 
  (rule:∀(i j:aj) (t u:Tok) (s:aF) (Q:au->aF->Prop) (E:au->aF->Prop),C i j->Q (.int (g i j) s.toks) {s with toks:=s.toks+1}->aM (aL X.prog X.w) X.A (f (.int i t) (.int j u)) Q E s) :
  OpR X f (rI C λi j=>.int (g i j)):=by
 intro XL s L H x y v u Q I rx ry h;obtain⟨i,j,rfl,rfl,hc,q⟩:=h;obtain⟨t,rfl⟩:=rx;obtain⟨t',rfl⟩:=ry;exact rule i j t t' s _ _ hc #[.int (g i j),H,I.tok _,#[_,()],q]
def HF {f:au->au->Sem au} {g:aj->aj->aj} 
  (rule:∀(i j:aj) (t u:Tok) (s:aF) (Q:au->aF->Prop) (E:au->aF->Prop),Q (.int (g i j) s.toks) {s with toks:=s.toks+1}->aM (aL X.prog X.w) X.A (f (.int i t) (.int j u)) Q E s) :
  OpR X f (rI0 λi j=>.int (g i j)):=by
 intro XL s L H x y v u Q I rx ry h;obtain⟨i,j,rfl,rfl,q⟩:=h;obtain⟨t,rfl⟩:=rx;obtain⟨t',rfl⟩:=ry;exact rule i j t t' s _ _ #[.int (g i j),H,I.tok _,#[_,()],q]
def vG {f:au->au->Sem au} {g:aj->aj->aR} 
  (rule:∀(i j:aj) (t u:Tok) (s:aF) (Q:au->aF->Prop) (E:au->aF->Prop),Q (.bool (g i j)) s->aM (aL X.prog X.w) X.A (f (.int i t) (.int j u)) Q E s) :
  OpR X f (rI0 λi j=>.bl (g i j)):=by
 intro XL s L H x y v u Q I rx ry h;obtain⟨i,j,rfl,rfl,q⟩:=h;obtain⟨t,rfl⟩:=rx;obtain⟨t',rfl⟩:=ry;exact rule i j t t' s _ _ #[.bl (g i j),H,I,(),q]
def XA (i j:aj):Prop:=0<j/\j<1073741824
def Q4 (i j:aj):Prop:=0<=j/\j<=1000000/\i.natAbs<2 ^ 64
def xm (i j:aj):Prop:=(-(2 ^ 64)<i/\i<2 ^ 64)\/(-(2 ^ 64)<j/\j<2 ^ 64)
def xm.ok {i j:aj} (h:xm i j):Mj i j:=by
 rcases h with⟨h1,h2⟩|⟨h1,h2⟩
 .exact .of_left (intBits_le_64 h1 h2)
 .exact .of_right (intBits_le_64 h1 h2)
def Pf:OpR X (gK .Add) (rI0 λi j=>.int (i+j)):=HF λ_ _ _ _ _ _ _ q=>add_int q
def Hc:OpR X (gK .Sub) (rI0 λi j=>.int (i-j)):=HF λ_ _ _ _ _ _ _ q=>sub_int q
def O6:OpR X (gK .Mult) (rI xm λi j=>.int (i*j)):=opI λ_ _ _ _ _ _ _ hc q=>mul_int q hc.ok
def Ir:OpR X (gK .FloorDiv) (rI XA λi j=>.int (i / j)):=opI λi j _ _ _ _ _ hc q=>by have h1:(0:aj)<j:=hc.1;have h2:j<1073741824:=hc.2;exact floordiv_int .(b) (by rw[Int.fdiv_eq_ediv_of_nonneg i .(b)];exact q) (.inl (PyProof.noPylong_small .(b)))
def F4:OpR X (gK .Mod) (rI (λ_ j=>0<j) λi j=>.int (i%j)):=opI λi j _ _ _ _ _ hc q=>by have h1:(0:aj)<j:=hc;exact mod_int' .(b) (by rw[Int.fmod_eq_emod_of_nonneg i .(b)];exact q)
def Vc:OpR X (gK .Pow) (rI Q4 λi j=>.int (i ^ j.toNat)):=opI λ_ _ _ _ _ _ _ hc q=>pow_int_small hc.1 hc.2.1 hc.2.2 q
def unI {f:au->Sem au} {g:aj->aj} 
  (rule:∀(i:aj) (t:Tok) (s:aF) (Q:au->aF->Prop) (E:au->aF->Prop),Q (.int (g i) s.toks) {s with toks:=s.toks+1}->aM (aL X.prog X.w) X.A (f (.int i t)) Q E s) :
  UnR X f (rU λi=>.int (g i)):=by
 intro XL s L H x v Q I rx h;obtain⟨i,rfl,q⟩:=h;obtain⟨t,rfl⟩:=rx;exact rule i t s _ _ #[.int (g i),H,I.tok _,#[_,()],q]
def VE:UnR X (unaryOp .USub) (rU λi=>.int (-i)):=unI λ_ _ _ _ _ q=>neg_int q
end
noncomputable def B9:V->V->aR
 |.non,.non=>ah|.non,.int _=>ah|.int _,.non=>ah|.non,.bl _=>ah|.bl _,.non=>ah|.non,.str _=>ah|.str _,.non=>ah
 |.int _,.int _=>ah|.bl _,.bl _=>ah|.str _,.str _=>ah
 |.int _,.str _=>ah|.str _,.int _=>ah|.bl _,.str _=>ah|.str _,.bl _=>ah
 |_,_=>ao
def rEq:R2:=λx y H Q=>B9 x y=ah/\Q (.bl (decide (x=y))) H
def rNe:R2:=λx y H Q=>B9 x y=ah/\Q (.bl (!decide (x=y))) H
def K4 {i j:aj} :decide (V.int i=V.int j)=(i==j):=by rw[uq];simp
def JB {i j:aR} :decide (V.bl i=V.bl j)=(i==j):=by rw[uq];simp
def Je {i j:af} :decide (V.str i=V.str j)=(i==j):=by rw[uq];simp
variable {r':R2} {op':CmpOp} {us:Z au}
section
variable {a c:Expr} {tc:TE}
def cT {Q:VK} {k k':aR} (I:Inv X XL L H s) (q:Q (.bl k) H) (e:k=k'):EP X XL L Q (.bool k') s:=by subst e;exact#[.bl k,H,I,(),q]
def Kx:OpR X (dP .Eq) rEq:=by
 intro XL s L H x y v u Q I rx ry h;obtain⟨hs,q⟩:=h;cases x with
 |non=>
  cases rx;cases y with
  |non=>cases ry;exact xaj (cT I q (by simp))
  |bl j=>cases ry;exact xak (cT I q (by simp))
  |int j=>obtain⟨t',rfl⟩:=ry;exact xal (cT I q (by simp))
  |str j=>obtain⟨t',rfl⟩:=ry;exact xam (cT I q (by simp))
  |_=>exact ba (show ao=ah from hs) qu
 |bl i=>
  cases rx;cases y with
  |non=>cases ry;exact xan (cT I q (by simp))
  |bl j=>cases ry;exact eq_bool (cT I q JB)
  |str j=>obtain⟨t',rfl⟩:=ry;exact xao (cT I q (by simp))
  |_=>exact ba (show ao=ah from hs) qu
 |int i=>
  obtain⟨t,rfl⟩:=rx;cases y with
  |non=>cases ry;exact xap (cT I q (by simp))
  |int j=>obtain⟨t',rfl⟩:=ry;exact eq_int (cT I q K4)
  |str j=>obtain⟨t',rfl⟩:=ry;exact xaq (cT I q (by simp))
  |_=>exact ba (show ao=ah from hs) qu
 |str i=>
  obtain⟨t,rfl⟩:=rx;cases y with
  |non=>cases ry;exact xar (cT I q (by simp))
  |bl j=>cases ry;exact xas (cT I q (by simp))
  |int j=>obtain⟨t',rfl⟩:=ry;exact xat (cT I q (by simp))
  |str j=>obtain⟨t',rfl⟩:=ry;exact eq_str (cT I q Je)
  |_=>exact ba (show ao=ah from hs) qu
 |_=>cases y<;>exact ba (show ao=ah from hs) qu
def NV:OpR X (dP .NotEq) rNe:=by
 intro XL s L H x y v u Q I rx ry h;obtain⟨hs,q⟩:=h;cases x with
 |non=>
  cases rx;cases y with
  |non=>cases ry;exact xau (cT I q (by simp))
  |bl j=>cases ry;exact xav (cT I q (by simp))
  |int j=>obtain⟨t',rfl⟩:=ry;exact xaw (cT I q (by simp))
  |str j=>obtain⟨t',rfl⟩:=ry;exact xax (cT I q (by simp))
  |_=>exact ba (show ao=ah from hs) qu
 |bl i=>
  cases rx;cases y with
  |non=>cases ry;exact xay (cT I q (by simp))
  |bl j=>cases ry;exact ne_bool (cT I q (cQ not JB))
  |str j=>obtain⟨t',rfl⟩:=ry;exact xaz (cT I q (by simp))
  |_=>exact ba (show ao=ah from hs) qu
 |int i=>
  obtain⟨t,rfl⟩:=rx;cases y with
  |non=>cases ry;exact xaA (cT I q (by simp))
  |int j=>obtain⟨t',rfl⟩:=ry;exact ne_int (cT I q (cQ not K4))
  |str j=>obtain⟨t',rfl⟩:=ry;exact xaB (cT I q (by simp))
  |_=>exact ba (show ao=ah from hs) qu
 |str i=>
  obtain⟨t,rfl⟩:=rx;cases y with
  |non=>cases ry;exact xaC (cT I q (by simp))
  |bl j=>cases ry;exact xaD (cT I q (by simp))
  |int j=>obtain⟨t',rfl⟩:=ry;exact xaE (cT I q (by simp))
  |str j=>obtain⟨t',rfl⟩:=ry;exact ne_str (cT I q (cQ not Je))
  |_=>exact ba (show ao=ah from hs) qu
 |_=>cases y<;>exact ba (show ao=ah from hs) qu
def Ps:OpR X (dP .Lt) (rI0 λi j=>.bl (decide (i<j))):=vG λ_ _ _ _ _ _ _ q=>lt_int q
def NU:OpR X (dP .LtE) (rI0 λi j=>.bl (decide (i<=j))):=vG λ_ _ _ _ _ _ _ q=>le_int q
def UL:OpR X (dP .Gt) (rI0 λi j=>.bl (decide (j<i))):=vG λ_ _ _ _ _ _ _ q=>gt_int q
def QQ:OpR X (dP .GtE) (rI0 λi j=>.bl (decide (j<=i))):=vG λ_ _ _ _ _ _ _ q=>ge_int q
def UU:OpR X (dP .Lt) (λx y H Q=>∃i j,x=.str i/\y=.str j/\Q (.bl (decide (i.cps.toList<j.cps.toList))) H):=by intro XL s L H x y v u Q I rx ry h;obtain⟨i,j,rfl,rfl,q⟩:=h;obtain⟨t,rfl⟩:=rx;obtain⟨t',rfl⟩:=ry;exact lt_str (cT I q ())
def Ot:OpR X (dP .In) (λx y H Q=>∃i j,x=.str i/\y=.str j/\Q (.bl (!(lq j i 0 j.length 1).isEmpty)) H):=by intro XL s L H x y v u Q I rx ry h;obtain⟨i,j,rfl,rfl,q⟩:=h;obtain⟨t,rfl⟩:=rx;obtain⟨t',rfl⟩:=ry;exact in_str (cT I q ())
def WR:OpR X (dP .Is) (λx y H Q=>y=.non/\Q (.bl (decide (x=.non))) H):=by
 intro XL s L H x y v u Q I rx ry h;obtain⟨rfl,q⟩:=h;cases ry;refine is_none_gen (cT I q ?_);cases x<;>first
  |(cases rx;rfl)
  |(obtain⟨t,rfl⟩:=rx;rfl)
def VB:OpR X (dP .IsNot) (λx y H Q=>y=.non/\Q (.bl (!decide (x=.non))) H):=by
 intro XL s L H x y v u Q I rx ry h;obtain⟨rfl,q⟩:=h;cases ry;refine isnot_none_gen (cT I q ?_);cases x<;>first
  |(cases rx;rfl)
  |(obtain⟨t,rfl⟩:=rx;rfl)
def OpR.or {f:au->au->Sem au} {r:R2} (h:OpR X f r) (h':OpR X f r'):OpR X f (λx y H Q=>r x y H Q\/r' x y H Q):=by
 intro XL s L H x y v u Q I rx ry q;rcases q with q|q
 .exact h XL s L H x y v u Q I rx ry q
 .exact h' XL s L H x y v u Q I rx ry q
def aS (b:Expr) (h:op≠.In:=by decide) (h2:op≠.NotIn:=by decide):jZ op b=ao:=by
 have e1:(op==Yl)=ao:=by cases op<;>first|rfl|exact ba rfl h
 have e2:(op==Ym)=ao:=by cases op<;>first|rfl|exact ba rfl h2
 cases b<;>simp[jZ,e1,e2]
def Ab {r:R2} (ho:OpR X (dP op) r) (ha:PE X a ta) (hb:PE X b tb) (hm:jZ op b=ao):PE X (.Compare a [op] [b] pos) (tOp r ta tb):=by intro XL s L H Q I h;exact Yn (Cy ha hb I h λv u s2 x y H2 I2 rx ry q=>ho XL s2 L H2 x y v u Q I2 rx ry q) hm
noncomputable def JC (t:TE):TT:=λL H Q=>t L H λx H'=>∃k,x=.bl k/\Q k H'
def Hm {r:R2} (ho:OpR X (dP op) r) (ha:PE X a ta) (hb:PE X b tb) (hm:jZ op b=ao):PT X (.Compare a [op] [b] pos) (JC (tOp r ta tb)):=by
 intro XL s L H Q I h;refine wpAny_isTrue_Compare1 (thE (ha XL s L H _ I h) λv s1 x H1 I1 r1 q1=>thE (hb XL s1 L H1 _ I1 q1) λu s2 y H2 I2 r2 q2=>
  thn (ho XL s2 L H2 x y v u _ I2 r1 r2 q2) λc s3 #[z,H3,I3,r3,k,e,q3]=>?_) hm
 subst e;cases r3;exact mD #[H3,I3,q3]
noncomputable def yX (r r':R2) (ta tb tc:TE):TE:=λL H Q=>ta L H λx H1=>tb L H1 λy H2=>r x y H2 λz H3=>∃k,z=.bl k /\
 (if k=ah then tc L H3 λw' H4=>r' y w' H4 Q else Q (.bl ao) H3)
def OF {r:R2} (ho:OpR X (dP op) r) (ho':OpR X (dP op') r') (ha:PE X a ta) (hb:PE X b tb) (hc:PE X c tc)
  (hm:CL [op,op'] [b,c]=ao:=by with_unfolding_all rfl):PE X (.Compare a [op,op'] [b,c] pos) (yX r r' ta tb tc):=by
 intro XL s L H Q I h;refine Compare_chain (thE (ha XL s L H _ I h) λv s1 x H1 I1 r1 q1=>chain_link (thE (hb XL s1 L H1 _ I1 q1) λu s2 y H2 I2 r2 q2=>
  thn (ho XL s2 L H2 x y v u _ I2 r1 r2 q2) λd s3 #[z,H3,I3,r3,k,e,q3]=>?_)) hm
 subst e;cases r3;refine mD ?_;cases k with
 |false=>exact ite_ff #[.bl ao,H3,I3,(),q3]
 |true=>exact ite_tt (chain_last (thE (hc XL s3 L H3 _ I3 q3) λw' s4 z' H4 I4 r4 q4=>ho' XL s4 L H4 y z' u w' Q I4 r2 r4 q4))
def Ow {r:R2} (ho:OpR X (dP op) r) (ho':OpR X (dP op') r') (ha:PE X a ta) (hb:PE X b tb) (hc:PE X c tc)
  (hm:CL [op,op'] [b,c]=ao:=by with_unfolding_all rfl):PT X (.Compare a [op,op'] [b,c] pos) (JC (yX r r' ta tb tc)):=by
 intro XL s L H Q I h;refine isTrue_chain (thE (ha XL s L H _ I h) λv s1 x H1 I1 r1 q1=>test_link (thE (hb XL s1 L H1 _ I1 q1) λu s2 y H2 I2 r2 q2=>
  thn (ho XL s2 L H2 x y v u _ I2 r1 r2 q2) λd s3 #[z,H3,I3,r3,k,e,q3]=>?_)) hm
 subst e;cases r3;refine mD ?_;cases k with
 |false=>
  obtain⟨k',e',q'⟩:=q3;cases e';exact ite_ff #[H3,I3,q']
 |true=>
  refine ite_tt (test_last (thE (hc XL s3 L H3 _ I3 q3) λw' s4 z' H4 I4 r4 q4=>thE (ho' XL s4 L H4 y z' u w' _ I4 r2 r4 q4) λd' s5 z2 H5 I5 r5 ζ=>?_));obtain⟨k2,e2,q5⟩:=ζ;subst e2;cases r5;exact mD #[H5,I5,q5]
def sA:(aH:J)<2 ^ 63:=by rw[gL];decide
def Pw:OpR X (gK .Add) (λx y H Q=>∃i j,x=.str i/\y=.str j/\i.length+j.length<=aH/\Q (.str (i++j)) H):=by intro XL s L H x y v u Q I rx ry h;obtain⟨i,j,rfl,rfl,hz,q⟩:=h;obtain⟨t,rfl⟩:=rx;obtain⟨t',rfl⟩:=ry;exact add_str (λt' tk=>#[.str (i++j),H,I.tok _,#[_,()],q]) hz
def fR {x:V} (r:bq [x] us):∃u,us=[u]/\bz x u:=by
 cases r with
 |cons r1 r2=>cases r2;exact#[_,(),r1]
def z9 {x y:V} (r:bq [x,y] us):∃u w',us=[u,w']/\bz x u/\bz y w':=by
 cases r with
 |cons r1 r2=>
  cases r2 with
  |cons r3 r4=>cases r4;exact#[_,_,(),r1,r3]
def V4 (hc:X.calm=ah):fO X (.builtin "min") (λxs H Q=>∃i j,xs=[.int i,.int j]/\Q (.int (if j<i then j else i)) H):=by
 intro XL s L H xs us Q I r h;obtain⟨i,j,rfl,q⟩:=h;obtain⟨u,w',rfl,⟨t,rfl⟩,⟨t',rfl⟩⟩:=z9 r;refine min_two_ints (I.ok.hd hc) λh' tk k=>#[_,H,I.kept k,?_,q];by_cases hj:j<i
 .rw[qZ hj,qZ hj];exact#[_,()]
 .rw[xa hj,xa hj];exact#[_,()]
def Ug:fO X (.type "str") (λxs H Q=>∃i,xs=[.int i]/\i.natAbs.log2<1920/\Q (.str (mI i)) H):=by intro XL s L H xs us Q I r h;obtain⟨i,rfl,hz,q⟩:=h;obtain⟨u,rfl,t,rfl⟩:=fR r;exact PySem.P.str_of_int hz #[.str _,H,I.tok _,#[_,()],q]
def OI (K:aJ) (x:V) (H:Hp) (n:J):Prop:=
 match x with
 |.str y=>y.length<=aH/\n=y.length
 |.ref p=>(∃xs,SqL K H p xs/\n=xs.length)\/∃xs,SqT K H p xs/\n=xs.length
 |_=>False
def QV:fO X (.builtin "len") (λxs H Q=>∃x n,xs=[x]/\OI X.K x H n/\Q (.int n) H):=by
 intro XL s L H xs us Q I r h;obtain⟨x,n,rfl,e,q⟩:=h;obtain⟨u,rfl,rx⟩:=fR r;have hl:=sA;have hs:aH=16777216:=gL;cases x with
 |str y=>
  obtain⟨t,rfl⟩:=rx;obtain⟨hy,e'⟩:y.length<=aH/\n=y.length:=e;subst e';exact len_str .(b) #[.int _,H,I.tok _,#[_,()],q]
 |ref p=>
  cases rx;have e':(∃xs,SqL X.K H p xs/\n=xs.length)\/∃xs,SqT X.K H p xs/\n=xs.length:=e;rcases e' with⟨xs,hx,e'⟩|⟨xs,hx,e'⟩
  .subst e';obtain⟨its,r',pl,hz⟩:=I.list hx;have hlen:=r'.length;exact Calls.call_len_list pl.isList (by simp only[qF];lia) #[.int xs.length,H,I.tok _,#[_,by simp only[qF];rw[hlen]],q]
  .subst e';obtain⟨its,r',pl,hz⟩:=I.tuple hx;have hlen:=r'.length;exact len_tuple pl (by simp only[qF];lia) #[.int xs.length,H,I.tok _,#[_,by simp only[qF];rw[hlen]],q]
 |_=>exact(show False from e).elim
end
structure ObjM (h:Heap) (x dx C:ar) (mA:af->ak au):Prop where
 obj:h.get? x=U (n8 C dx)
 ns:h.Ns1 dx mA
 ne:dx≠x
variable {dx:ar} {mA:af->ak au}
def U4 (n:h.Ns1 dx mA):∃od,h.get? dx=U od/\∀name,CN name od=U (mA name):=by
 obtain⟨o,es,ep,ho,hd,hk,_,hm⟩:=n;refine#[o,ho,λname=>?_];have e:=hm name;unfold nsFind findBy at e;rw[<-Array.find?_toList] at e;unfold CN;rw[hd];dsimp only;split
 .rename_i y q;rw[q] at e;exact cQ U e
 .rename_i q;rw[q] at e;have a:es.toList.any (·.refKey)=ao:=by rw[Yq];intro y hy;obtain⟨z,t,hkey⟩:=hk y (Ml.mp hy);simp[DictEntry.refKey,hkey]
  have a':¬es.toList.any (·.refKey)=ah:=by rw[a];exact qu
  rw[xa a'];exact cQ U e
variable {C:ar}
def ObjM.look {x:ar} (I:ObjM h x dx C mA):∃od,PySem.W.InstAt h x (n8 C dx) C (U od)/\∀name,CN name od=U (mA name):=
 let #[od,ho,hl]:=U4 I.ns
 #[od,#[I.obj,(),(),ho],hl]
variable {prog:b7} {name:af} {pl:Sem aR} {ns:Z af} {R:Result->aF->Prop} {kw:Z (af×au)}
section
variable {x f:ar} {v:au}
def Vn {expr:aR} (X:K.In s.heap) (I:ObjM s.heap x dx C mA) (hg:ur K C name=ah) (hh:xI K C=ah)
  (ha:di K (.ref C) name=U B) (hv:mA name=U v) (hv':Yr v=ah) (h:Q v {s with toks:=s.toks+1}) :
  aM (aL prog w) A (getAttr (.ref x) name expr) Q E s:=by
 obtain⟨od,ag,hl⟩:=I.look;exact PySem.W.get_value X ag (Mm hg).1 (PySem.W.findObj_own hh ha () (by rw[hl,hv])) hv' h
def Ut {Q:au×Z au->aF->Prop} (X:K.In s.heap) (I:ObjM s.heap x dx C mA) (hg:ur K C name=ah)
  (hf:di K (.ref C) name=U (U (.ref f))) (ht:xJ K (.ref f)=ah) (hv:mA name=B) (h:Q (.ref f,[.ref x]) s) :
  aM (aL prog w) A (rC (.ref x) name pl) Q E s:=by
 obtain⟨od,ag,hl⟩:=I.look;exact PySem.W.method_fn X ag (Mm hg).1 (Mm hg).2 hf (i6.mp ht) (by show(CN name od).map (·.isSome)=U ao;rw[hl,hv];rfl) h
def UP {Q:li->aF->Prop} (X:K.In s.heap) (I:ObjM s.heap x dx C mA)
  (hs:di K (.ref C) "__setattr__"=U (U (.builtin "object.__setattr__"))) (hp:CO K C=ah) (ht:Mn K C name=U B) (hh:xI K C=ah)
  (hw:L7 mA ns) (hsz:ns.length<=aH)
  (h:∀h',ObjM h' x dx C (λy=>if y=name then U v else mA y)->iY dx s.heap h'->Q .unit {s with heap:=h',toks:=s.toks+2}) :
  aM (aL prog w) A (setAttr (.ref x) name v) Q E s:=by
 obtain⟨od,ag,hl⟩:=I.look;refine PySem.W.set_plain X ag hs (PySem.W.osa_open (s:={s with toks:=s.toks+1}) (r:=B) X ag hp ht λb=>?_);obtain⟨cd,hc,hd'⟩:=PySem.W.any_some hh;have hx:s.heap.get? x=U #[.ref C,U dx,.plain,#[]]:=I.obj;refine qA (qE (qA (qA (Ys hx (qA (xaF (s:={s with toks:=s.toks+1}) (PySem.W.looks_clsIn X hc) ?_))))));rw[hd'];refine qE (a:=U dx) (qA (qE (qA ?_)));refine wpAny_nsSet1 (s:={s with toks:=s.toks+1}) I.ns λh' hn2 hs2=>?_;obtain⟨oD,esD,epD,hoD,hdD,hcD⟩:=hn2.count (xaG name v hw);refine qA (wpAny_lookBehind hoD (by rw[hdD];exact pastItsLine_dict (qP hcD (by rw[qh];lia))) ?_);exact qE (h _ #[(hs2.2 _ (dU I.ne)).trans I.obj,hn2,I.ne] hs2)
def Rj {vs:Z au} (X:K.In s.heap) (hm:xK K C=ah)
  (hi:di K (.ref C) "__init__"=U (U (.ref f))) (hf:PySem.W.typeIn K (.ref f)=U (.type "function"))
  (h:hU (aL prog w) (A.under (.builtin "type.__call__" #[.ref C::vs,kw])) (.call (.ref f) #[.ref (s.heap.objs.size+1)::vs,kw]) (PySem.W.InitBack (s.heap.objs.size+1) R)
   {s with heap:=(s.heap.push mJ).push (n8 C s.heap.objs.size)}) :
  hU (aL prog w) A (.call (.ref C) #[vs,kw]) R s:=by
 obtain⟨hh,g,d,t,os⟩:=s;exact PySem.W.make_core (PySem.W.makes_of X hm) (PySem.W.looks_findIn X hi) (λself=>PySem.W.bind_fn X self hf) (.inl ()) h
end
noncomputable def eF (f:af) (v:V):Z (af×V)->Z (af×V)
 |[]=>[(f,v)]
 |(g,x)::r=>if g=f then (g,v)::r else (g,x)::eF f v r
theorem KO (f g:af) (v:V):∀fs:Z (af×V),(eF f v fs).lookup g=if g=f then U v else fs.lookup g
 |[]=>by
  show dY g [(f,v)]=_;by_cases h:g=f
  .have hb:(g==f)=ah:=i6.mpr h;simp only[dY,hb,qZ h]
  .have hb:(g==f)=ao:=q0.mpr h;simp only[dY,hb,xa h]
 |(k,x)::r=>by
  have ih:=KO f g v r;rw[show eF f v ((k,x)::r)=(if k=f then (k,v)::r else (k,x)::eF f v r) from ()];by_cases hk:k=f
  .rw[qZ hk];by_cases h:g=k
   .have hb:(g==k)=ah:=i6.mpr h;simp only[dY,hb,qZ (h.trans hk)]
   .have hb:(g==k)=ao:=q0.mpr h;simp only[dY,hb,xa (λe:g=f=>h (e.trans hk.symm))]
  .rw[xa hk];by_cases h:g=k
   .have hb:(g==k)=ah:=i6.mpr h;simp only[dY,hb,xa (λe:g=f=>hk (h.symm.trans e))]
   .have hb:(g==k)=ao:=q0.mpr h;simp only[dY,hb];exact ih
theorem AM (f:af) (v:V):∀fs:Z (af×V),f∈(eF f v fs).map (·.1)/\∀g,g∈fs.map (·.1)->g∈(eF f v fs).map (·.1)
 |[]=>#[by simp[eF],λg h=>by simp at h]
 |(k,x)::r=>by
  obtain⟨i1,i2⟩:=AM f v r;rw[show eF f v ((k,x)::r)=(if k=f then (k,v)::r else (k,x)::eF f v r) from ()];by_cases hk:k=f
  .rw[qZ hk];subst hk;exact#[by simp,λg h=>by simpa using h]
  .rw[xa hk];refine#[?_,λg h=>?_]
   .rw[qp];exact qg _ i1
   .rw[qp] at h ⊢;rcases eC.mp h with e|e
    .exact eC.mpr (.inl e)
    .exact qg _ (i2 g e)
theorem H0 (f:af) (v:V):∀fs:Z (af×V),(eF f v fs).length<=fs.length+1
 |[]=>by simp[eF]
 |(k,x)::r=>by
  have ih:=H0 f v r;rw[show eF f v ((k,x)::r)=(if k=f then (k,v)::r else (k,x)::eF f v r) from ()];by_cases hk:k=f
  .rw[qZ hk,qh,qh];lia
  .rw[xa hk,qh,qh];lia
def gb.some_of {o:ak au} (r:gb (U v) o):∃u,o=U u/\bz v u:=by
 cases o with
 |none=>exact(show False from r).elim
 |some u=>exact#[u,(),r]
def gb.none_of {o:ak au} (r:gb B o):o=B:=by
 cases o with
 |none=>rfl
 |some u=>exact(show False from r).elim
def Ws (r:bz v u):Yr u=ah:=by
 cases v with
 |non=>cases(show u=xC from r);rfl
 |bl b=>cases(show u=mz b from r);rfl
 |int i=>obtain⟨t,e⟩:=(show ∃t,u=xA i t from r);cases e;rfl
 |str x=>obtain⟨t,e⟩:=(show ∃t,u=xB x t from r);cases e;rfl
 |ref a=>cases(show u=cJ a from r);rfl
 |ty n=>cases(show u=rf n from r);rfl
section
variable {fs fs':Z (af×V)}
def wO (hok:HOk P w H h) (e:H a=U (.ins C dx fs)):∃mA,ObjM h a dx C mA/\(∀f,gb (fs.lookup f) (mA f))/\L7 mA (fs.map (·.1))/\fs.length<=1000/\H dx=U (.own a):=by obtain⟨d,z,ne,ob,mA,n,r,q⟩:=(show dA P w H h a (.ins C dx fs) from hok a _ e);exact#[mA,#[ob,n,ne],r,q,z,d]
end
structure Cls (K:aJ) (C:ar):Prop where
 pg:ur K C CQ=ah
 hd:xI K C=ah
 po:CO K C=ah
 sa:di K (.ref C) "__setattr__"=U (U (.builtin "object.__setattr__"))
def Cls.get (c:Cls K C) (f:af):ur K C f=ah:=c.pg
def ma (K:aJ) (C:ar) (f:af):Prop:=di K (.ref C) f=U B
def ma.taker {K:aJ} {C:ar} {f:af} (n:ma K C f):Mn K C f=U B:=by unfold Mn;rw[show di K (.ref C) f=U B from n];rfl
structure Meth (K:aJ) (C:ar) (m:af) (f:ar):Prop where
 at_:di K (.ref C) m=U (U (.ref f))
 fn:xJ K (.ref f)=ah
 kp:fM K (.ref f)=ah
variable {env:cD}
section
variable {fs:Z (af×V)} {f:af}
def WV {b:aR} (I:Inv X XL L H s) (e:H a=U (.ins C dx fs)) (c:Cls X.K C) (n:ma X.K C f) (l:fs.lookup f=U v)
  (h:∀u s',Inv X XL L H s'->bz v u->Q u s'):aM (aL X.prog X.w) A (getAttr (.ref a) f b) Q E s:=by
 obtain⟨mA,Γ,r,_,_,_⟩:=wO I.hok e;obtain⟨u,hu,ru⟩:=gb.some_of (v:=v) (o:=mA f) (by rw[<-l];exact r f);exact Vn I.kIn Γ (c.get f) c.hd n hu (Ws ru) (h u _ (I.tok _) ru)
def JL {m:af} {g:ar} {Q:au×Z au->aF->Prop} (I:Inv X XL L H s) (e:H a=U (.ins C dx fs)) (c:Cls X.K C) (k:Meth X.K C m g) (l:fs.lookup m=B)
  (h:Q (.ref g,[.ref a]) s):aM (aL X.prog X.w) A (rC (.ref a) m pl) Q E s:=by
 obtain⟨mA,Γ,r,_,_,_⟩:=wO I.hok e;have hn:mA m=B:=gb.none_of (by rw[<-l];exact r m);exact Ut I.kIn Γ (c.get m) k.at_ k.fn hn h
def TL {y:V} {Q:li->aF->Prop} (I:Inv X XL L H s) (e:H a=U (.ins C dx fs)) (c:Cls X.K C) (n:ma X.K C f) (hl:fs.length<1000) (ry:bz y u)
  (h:∀s',Inv X XL L (upd H a (.ins C dx (eF f y fs))) s'->Q .unit s'):aM (aL X.prog X.w) A (setAttr (.ref a) f u) Q E s:=by
 obtain⟨mA,Γ,r,wi,_,ho⟩:=wO I.hok e;have hz:(fs.map (·.1)).length<=aH:=by rw[qe,gL];lia
 refine UP I.kIn Γ c.sa c.po n.taker c.hd wi hz λh' O' sb=>h _ ?_;have hd:∃o,h'.get? dx=U o:=by obtain⟨o,_,_,e',_⟩:=O'.ns;exact#[o,e']
 refine I.write (x:=a) (e:=dx) (by rw[e];exact iz) (.inr ho) (λb q hb z=>(sb.2 b hb).trans z) hd ?_;refine#[by rw[aW Γ.ne];exact ho,?_,Γ.ne,O'.obj,_,O'.ns,λg=>?_,λg hg=>?_]
 .have:=H0 f y fs;lia
 .show gb ((eF f y fs).lookup g) (if g=f then U u else mA g);rw[KO];by_cases q:g=f
  .rw[qZ q,qZ q];exact ry
  .rw[xa q,xa q];exact r g
 .by_cases q:g=f
  .rw[q];exact(AM f y fs).1
  .refine(AM f y fs).2 g (wi g λz=>hg ?_);show(if g=f then U u else mA g)=B;rw[xa q];exact z
def Inv.made (I:Inv X XL L H s):Inv X XL L (upd (upd H s.heap.objs.size (.own (s.heap.objs.size+1))) (s.heap.objs.size+1) (.ins C s.heap.objs.size []))
  {s with heap:=(s.heap.push mJ).push (n8 C s.heap.objs.size)}:=by
 have e1:(s.heap.push mJ).get? s.heap.objs.size=U mJ:=qJ s.heap ();have e2:((s.heap.push mJ).push (n8 C s.heap.objs.size)).get? (s.heap.objs.size+1)=U (n8 C s.heap.objs.size):=by
  have:=qJ (s.heap.push mJ) (o:=n8 C s.heap.objs.size) ()
  rwa [i7] at this
 have e3:(s.heap.push mJ).Ns s.heap.objs.size (λ_=>B):=#[mJ,#[],_,e1,(),(λe he=>ba he (by simp)),λ_=>rfl];have I1:=I.laid (a:=s.heap.objs.size) (o:=.own (s.heap.objs.size+1)) (h':=s.heap.push mJ) (t':=s.toks) (λb u q=>qv _ q) (qx _) #[_,e1];refine I1.laid (a:=s.heap.objs.size+1) (o:=.ins C s.heap.objs.size []) (t':=s.toks) (λb u q=>qv _ q) (CU (i7 _ _)) ?_;have ne:s.heap.objs.size≠s.heap.objs.size+1:=qG (ut _);refine#[by rw[aW ne,bK],eA _,ne,e2,λ_=>B,(Heap.Ns1.of_empty e3).at λo q=>qv _ q,λ_=>iz,λy hy=>ba () hy]
def RK (hb:i8 e f env (eval e env)=eval e env)
  (h:aM (aL prog w) A (eval e env) (λo dl=>aM (aL prog w) A (getAttr o f ah) Q E dl) E s):aM (aL prog w) A (eval (.Attribute e f pos) env) Q E s:=
 Attribute_any_ h (by rw[arm_eval_Attribute,hb])
end
def O0 (K:aJ) (ta:TE) (f:af):TE:=λL H Q=>ta L H λx H1=>∃a C dx fs v,x=.ref a/\H1 a=U (.ins C dx fs)/\Cls K C/\ma K C f/\fs.lookup f=U v/\Q v H1
def PR (K:aJ) (ta tv:TE) (f:af):TS:=λD L H=>tv L H λy H1=>ta L H1 λx H2=>∃a C dx fs,x=.ref a/\H2 a=U (.ins C dx fs)/\Cls K C/\ma K C f/\fs.length<1000 /\
 D.nx L (upd H2 a (.ins C dx (eF f y fs)))
variable {value:Expr} {tpos:bV} {tv:TE}
section
variable {f:af}
def wn (he:PE X e ta) (hb:i8 e f X.env (eval e X.env)=eval e X.env):PE X (.Attribute e f pos) (O0 X.K ta f):=by intro XL s L H Q I h;refine RK hb (thE (he XL s L H _ I h) λu s1 x H1 I1 rx ζ=>?_);obtain⟨a,C,dx,fs,v,ex,ea,c,n,l,q⟩:=ζ;subst ex;obtain rfl:u=cJ a:=rx;exact WV I1 ea c n l λu' s2 I2 ru=>#[v,H1,I2,ru,q]
def BS (ha:PE X o ta) (hv:PE X value tv) (hs:eD value (U (.Attribute o f pos')) pos.line X.env=pure ao):PS X (.Assign [.Attribute o f pos'] value pos) (PR X.K ta tv f):=by intro XL s L H D I h;refine plainObj_wpAny_Assign_Attribute (thE (hv XL s L H _ I h) λu s1 y H1 I1 ry q=>thE (ha XL s1 L H1 _ I1 q) λov s2 x H2 I2 rx ζ=>?_) hs;obtain⟨a,C,dx,fs,ex,ea,c,n,l,q2⟩:=ζ;subst ex;obtain rfl:ov=cJ a:=rx;exact TL I2 ea c n l ry λs3 I3=>#[L,_,I3,q2]
end
section
variable {c:au} {b:aR}
inductive TyOf (K:aJ) (H:Hp):V->au->Prop where
 |non:TyOf K H .non (.type "NoneType")
 |bl (x:aR):TyOf K H (.bl x) (.type "bool")
 |int (i:aj):TyOf K H (.int i) (.type "int")
 |str (x:af):TyOf K H (.str x) (.type "str")
 |lst {a:ar} {xs:Z V} (e:H a=U (.lst xs)):TyOf K H (.ref a) (.type "list")
 |frz {a:ar} {o:bo} {xs:Z V} (e:H a=U (.frz o (.lst xs))):TyOf K H (.ref a) (.type "list")
 |tup {a:ar} {xs:Z V} (e:H a=U (.tup xs)):TyOf K H (.ref a) (.type "tuple")
 |dK {a:ar} {kvs:Z (Key×V)} (e:H a=U (.dK kvs)):TyOf K H (.ref a) (.type "dict")
 |dT {a:ar} {kvs:Z (Z Key×V)} (e:H a=U (.dT kvs)):TyOf K H (.ref a) (.type "dict")
 |ins {a C dx:ar} {fs:Z (af×V)} (e:H a=U (.ins C dx fs)) (cl:Cls K C) (ha:di K (.ref C) "__class__"=U (U (.builtin "object.__class__")))
   (hn:Yt K (.builtin "object.__class__") "__get__"=U (U (.builtin "getset_descriptor.__get__"))) (htk:Yu K (.builtin "object.__class__")=U ah)
   (hm:Yv K C (.type "object")=U ah):TyOf K H (.ref a) (.ref C)
def Pa {x:V} {t:au} (I:Inv X XL L H s) (rx:bz x u) (ty:TyOf X.K H x t) (e:oa X.K t c=U b) (h:∀tk,Q (.bool b) {s with toks:=tk}) :
  aM (aL X.prog X.w) A (call (.builtin "isinstance") [u,c]) Q E s:=by
 cases ty with
 |non=>cases(show u=xC from rx);exact kc Yw I.kIn iz e (fun z=>nomatch z) h
 |bl y=>cases(show u=mz y from rx);exact kc PySem.W.kitx_bool I.kIn iz e (fun z=>nomatch z) h
 |int i=>obtain⟨t,q⟩:=(show ∃t,u=xA i t from rx);cases q;exact kc PySem.W.kitx_int I.kIn iz e (fun z=>nomatch z) h
 |str y=>obtain⟨t,q⟩:=(show ∃t,u=xB y t from rx);cases q;exact kc PySem.W.kitx_str I.kIn iz e (fun z=>nomatch z) h
 | @lst a xs ea=>
  cases(show u=cJ a from rx);obtain⟨_,_,n,_,h1⟩:=(show dA X.prog X.w H s.heap a (.lst xs) from I.hok a _ ea);exact kc Yx I.kIn #[_,h1,()] e (fun z=>nomatch z) h
 | @frz a ob xs ea=>
  cases(show u=cJ a from rx);obtain⟨_,_,_,n,_,h1⟩:=(show dA X.prog X.w H s.heap a (.frz ob (.lst xs)) from I.hok a _ ea);exact kc Yx I.kIn #[_,h1,()] e (fun z=>nomatch z) h
 | @tup a xs ea=>
  cases(show u=cJ a from rx);obtain⟨_,_,_,p⟩:=(show dA X.prog X.w H s.heap a (.tup xs) from I.hok a _ ea);obtain⟨o,h1,h2,_⟩:=p;exact kc PySem.W.kitx_tuple I.kIn #[o,h1,h2] e (fun z=>nomatch z) h
 | @dK a kvs ea=>
  cases(show u=cJ a from rx);obtain⟨_,_,vs,_,p⟩:=(show dA X.prog X.w H s.heap a (.dK kvs) from I.hok a _ ea);obtain⟨o,es,ep,h1,h2,_⟩:=p;exact kc Yy I.kIn #[o,h1,h2.1] e (fun z=>nomatch z) h
 | @dT a kvs ea=>
  cases(show u=cJ a from rx);obtain⟨_,_,xs,_,o,es,ep,h1,h2,_⟩:=(show dA X.prog X.w H s.heap a (.dT kvs) from I.hok a _ ea);exact kc Yy I.kIn #[o,h1,h2.1] e (fun z=>nomatch z) h
 | @ins a C dx fs ea cl ha hn htk hm=>
  cases(show u=cJ a from rx);obtain⟨mA,Γ,_⟩:=wO I.hok ea;obtain⟨od,ag,_⟩:=Γ.look;exact kc (PySem.W.kitx_own (cl.get _) cl.hd ha hn htk hm) I.kIn ag e (fun z=>nomatch z) h
end
structure Room (k:J) (A:dh):Prop where
 hd:A.handled=B
 dp:A.depth+3*k+5<recursionLimit
 un:A.units+16*k+200<c5
def Room.mono {k:J} (r:Room k A) (h:j<=k):Room j A:=#[r.hd,by have:=r.dp;lia,by have:=r.un;lia]
def Room.deeper {k:J} (r:Room (k+1) A) (env:cD):Room k (A.deeper env):=
 #[r.hd,by have:=r.dp;show A.depth+1+3*k+5 < _;lia,by have:=r.un;show A.units+3+16*k+200 < _;lia]
def Vu :(A.under (.builtin "type.__call__" ⟨.ref C::us,kw⟩)).depth=A.depth+1:=by
 first|rfl|simp[Mo,Code.weight,Code.isCreation,Code.isGuard,Code.isCaller,Yz,Mp,guardIds]
def PV :(A.under (.builtin "type.__call__" ⟨.ref C::us,kw⟩)).units=A.units+1:=by
 first|rfl|simp[Mo,Code.cUnits,Yz,Mp]
def Room.make {k:J} (r:Room (k+1) A) (C:ar) (us:Z au) (kw:Z (af×au)):Room k (A.under (.builtin "type.__call__" ⟨.ref C::us,kw⟩)):=
 #[r.hd,by have:=r.dp;rw[Vu];lia,by have:=r.un;rw[PV];lia]
def Room.depth {k:J} (r:Room k A):A.depth<recursionLimit:=by have:=r.dp;lia
noncomputable def Cg:TA:=λ_ H Q=>Q [] H
noncomputable def FJ (ta:TE) (tr:TA):TA:=λL H Q=>ta L H λx H1=>tr L H1 λxs H2=>Q (x::xs) H2
section
variable {t:TA}
def gc:PA X [] Cg:=λ_ _ _ _ H Q I h=>Calls.spliced_nil #[[],H,I,.nil,h]
def dB (ha:PE X e te) (hr:PA X es t) (hs:aK (e::es) X.env=(ao,eval e X.env)::aK es X.env:=by rfl):PA X (e::es) (FJ te t):=by intro pos XL s L H Q I h;rw[hs];show aM _ _ (CI ((ao,eval e X.env)::bX pos (aK es X.env))) _ _ s;refine Calls.spliced_cons (thE (ha XL s L H _ I h) λu s1 x H1 I1 r1 q1=>?_);exact thA (hr pos XL s1 L H1 _ I1 q1) λus s2 xs H2 I2 r2 q2=>#[x::xs,H2,I2,.cons r1 r2,q2]
def Pj (t:TA):TE:=λL H Q=>t L H λxs H1=>xs.length<=aH/\∀p,H1 p=B->Q (.ref p) (upd H1 p (.tup xs))
def Qn (t:TA):TE:=λL H Q=>t L H λxs H1=>xs.length<=aH/\∀p,H1 p=B->Q (.ref p) (upd H1 p (.lst xs))
def zB {x1} (h:PA X es t):PE X (.Tuple es x1 pos) (Pj t):=by intro XL s L H Q I hq;refine wpAny_Tuple_spliced (thA (h pos XL s L H _ I hq) λus s1 xs H1 I1 r ζ=>?_);obtain⟨z,q⟩:=ζ;refine#[by rw[<-r.length];exact z,?_];have hf:H1 s1.heap.objs.size=B:=I1.hok.fresh (qx _);refine#[.ref s1.heap.objs.size,upd H1 s1.heap.objs.size (.tup xs),I1.laid (t':=s1.toks) (λb u e=>qv _ e) (qx _) ?_,(),q _ hf];exact#[z,us,r,#[_,qJ _ (),(),_,()]]
def Jp (h:PA X es t):PE X (.List es pos) (Qn t):=by intro XL s L H Q I hq;refine wpAny_List_spliced (thA (h pos XL s L H _ I hq) λus s1 xs H1 I1 r ζ=>?_);obtain⟨z,q⟩:=ζ;refine#[by rw[<-r.length];exact z,?_];have hf:H1 s1.heap.objs.size=B:=I1.hok.fresh (qx _);refine#[.ref s1.heap.objs.size,upd H1 s1.heap.objs.size (.lst xs),I1.laid (t':=s1.toks) (λb u e=>qv _ e) (qx _) ?_,(),q _ hf];exact#[z,us,0,r,qJ _ ()]
end
abbrev Sp:=Z V->Hp->VK->XK->Prop
abbrev CXT:=Z cD->Hp->aF->XK->au->aF->Prop
structure Env0 (P:b7) (w:bU) (K:aJ) (mg:af->ak au) (base:Heap) (A:dh) (outer:Z cD) (s:aF) (H:Hp):Prop where
 frames:A.frames=U outer
 mod:Mod K mg base
 bs:∀b o,base.get? b=U o->s.heap.get? b=U o/\H b=B
 bsz:base.objs.size<=s.heap.objs.size
 funs:s.heap.FunFrames base outer
 frf:∀b∈frs outer,H b=B
 hok:HOk P w H s.heap
 bare:lh s.gens
def CE (outer:Z cD) (P:b7) (w:bU) (H:Hp) (s:aF) (Q:VK) (u:au) (s':aF):Prop:=
 ∃v H',s'.os=s.os/\lh s'.gens/\Un (frs outer) [] H H' s.heap s'.heap/\HOk P w H' s'.heap/\bz v u/\Q v H'
def CR (CX:CXT) (outer:Z cD) (P:b7) (w:bU) (H:Hp) (s:aF) (Q:VK) (E:XK) (r:Result) (s':aF):Prop:=
 match r with
 |.ok (.ret u)=>CE outer P w H s Q u s'
 |.ok _=>False
 |.error e=>CX outer H s E e s'
structure FnOk (P:b7) (w:bU) (K:aJ) (mg:af->ak au) (base:Heap) (CX:CXT) (k:J) (f:ar) (fd:oh) (ps:Z af) (sp:Sp):Prop where
 len:∀vs H Q E,sp vs H Q E->vs.length=ps.length
 run:∀(A:dh) (outer:Z cD) (s:aF) (H:Hp) (args:Args) (us:Z au) (vs:Z V) (Q:VK) (E:XK),Room k A->Env0 P w K mg base A outer s H->uu s fd args (ps.zip us)->bq vs us->sp vs H Q E->
  hU (aL P w) A (.call (.ref f) args) (CR CX outer P w H s Q E) s
variable {mg:af->ak au} {base:Heap} {CX:CXT} {fd:oh} {ps:Z af} {sp:Sp}
def FnOk.imp {k:J} {f:ar} {sp':Sp} (F:FnOk P w K mg base CX k f fd ps sp)
  (h:∀vs H Q E,sp' vs H Q E->sp vs H Q E):FnOk P w K mg base CX k f fd ps sp':=
 #[λvs H Q E q=>F.len vs H Q E (h _ _ _ _ q),λA outer s H args us vs Q E hr he hb hv hs=>F.run A outer s H args us vs Q E hr he hb hv (h _ _ _ _ hs)]
variable {outer:Z cD}
def Env0.make (e:Env0 P w K mg base A outer s H) (C:ar) (us:Z au) (kw:Z (af×au)) :
  Env0 P w K mg base (A.under (.builtin "type.__call__" ⟨.ref C::us,kw⟩)) outer s H:=#[by first|exact e.frames|(simpa[Mo,Code.envs,Mp,pushEnvs] using e.frames),e.mod,e.bs,e.bsz,e.funs,e.frf,e.hok,e.bare]
def Inv.env0 (I:Inv X XL L H s):Env0 X.prog X.w X.K X.mg X.base X.A X.stack s H:=
 #[I.ok.frames,I.ok.mod,I.bs,qP I.ok.bsz I.sz,I.stack,I.stkFree,I.hok,I.bare]
def Inv.after {Q:VK} (I:Inv X XL L H s) (h:CE X.stack X.prog X.w H s Q u s'):EP X XL L Q u s':=by obtain⟨v,H',os,bare,un,hok,r,q⟩:=h;obtain⟨hh,g,d,t,os'⟩:=s';obtain rfl:os'=s.os:=os;exact#[v,H',I.call (h':=hh) (g':=g) (d':=d) (t':=t) (ch:=[]) un hok bare (λb z=>ba z (by simp)),r,q]
noncomputable def Wv (sp:Sp) (dvs:Z V) (E:XK) (t:TA):TE:=λL H Q=>t L H λvs H1=>sp (vs++dvs) H1 Q E
noncomputable def Fm (C:ar) (m:af) (sp:Sp) (dvs:Z V) (E:XK) (ta:TE) (t:TA):TE:=λL H Q=>ta L H λx H1=>∃a dx fs,x=.ref a/\H1 a=U (.ins C dx fs)/\fs.lookup m=B /\
 t L H1 λvs H2=>sp (x::(vs++dvs)) H2 Q E
def VP (C:ar) (sp:Sp) (dvs:Z V) (E:XK) (t:TA):TE:=λL H Q=>t L H λvs H1=>∀x dx,H1 x=B->H1 dx=B->dx≠x->
 sp (.ref x::(vs++dvs)) (upd (upd H1 dx (.own x)) x (.ins C dx [])) (λv H2=>v=.non/\Q (.ref x) H2) E
def eP (K:aJ) (fd:oh) (ps:Z af) (ds:Z au):Prop:=
 ∀(s:aF) (us:Z au),K.In s.heap->(us++ds).length=ps.length->uu s fd #[us,[]] (ps.zip (us++ds))
def eP.all (h:∀us:Z au,us.length=ps.length->gM fd #[us,[]]=pure (ps.zip us)):eP K fd ps []:=λs us _ hl=>by rw[dZ] at hl ⊢;exact .of_eq (h us hl)
def gX (CX:CXT) (X:Cx) (E:XK):Prop:=∀(XL:Z (ar×bo)) (L:St) (H:Hp) (s:aF) (e:au) (s':aF),Inv X XL L H s->CX X.stack H s E e s'->X.xe e s'
variable {apos:bV} {vs:Z V}
section
variable {k:J} {f:ar} {dvs:Z V} {ds:Z au} {E:XK} {m:af} {p:bV} {t:TA}
def Aq {Q:VK} (F:FnOk X.prog X.w X.K X.mg X.base CX k f fd ps sp) (hr:Room k X.A) (hb:eP X.K fd ps ds) (hd:bq dvs ds) (hx:gX CX X E)
  (I:Inv X XL L H s) (r:bq vs us) (h:sp (vs++dvs) H Q E):aM (aL X.prog X.w) X.A (call (.ref f) us) (EP X XL L Q) X.xe s:=by
 have r2:bq (vs++dvs) (us++ds):=r.append hd;have hl:(us++ds).length=ps.length:=by rw[<-r2.length];exact F.len _ _ _ _ h
 refine rD (rE (F.run X.A X.stack s H #[us,[]] (us++ds) (vs++dvs) Q E hr I.env0 (hb s us I.kIn hl) r2 h) λr s' hq=>?_);cases r with
 |error e=>exact hx XL L H s e s' I hq
 |ok fl=>
  cases fl with
  |ret u=>exact I.after hq
  |next=>exact gw hq
  |brk=>exact gw hq
  |cont=>exact gw hq
def nq (F:FnOk X.prog X.w X.K X.mg X.base CX k f fd ps sp) (hr:Room k X.A) (hg:Gl X x) (hm:X.mg x=U (.ref f)) (hk:fM X.K (.ref f)=ah) (hb:eP X.K fd ps ds) (hd:bq dvs ds) (hx:gX CX X E)
  (ha:PA X (e::es) t) (hdb:(x==("__debug__":af))=ao:=by decide) (he:aK (e::es) X.env=(ao,eval e X.env)::aK es X.env:=by rfl) (hpl:(bX pos (aK es X.env)).any (·.1)=ao:=by rfl) :
  PE X (.Call (.Name x p) (e::es) [] pos) (Wv sp dvs E t):=by
 intro XL s L H Q I h;refine xL (nZ I hg hm ?_ hdb);refine CV (h₀:=X.base) I.ok.mod.kin hk (thA (ha pos XL s L H _ I h) λus s1 vs H1 I1 r q=>#[I1.kIn,?_]) he hpl;exact Aq F hr hb hd hx I1 r q
def VL (he:PE X o ta) (c:Cls X.K C) (hm:Meth X.K C m f) (F:FnOk X.prog X.w X.K X.mg X.base CX k f fd ps sp) (hr:Room k X.A) (hb:eP X.K fd ps ds) (hd:bq dvs ds) (hx:gX CX X E) (ha:PA X (e::es) t)
  (hst:aK (e::es) X.env=(ao,eval e X.env)::aK es X.env:=by rfl) (hpl:(bX pos (aK es X.env)).any (·.1)=ao:=by rfl)
  (ht:eval (.Call (.Attribute o m apos) (e::es) [] pos) X.env=(do
   let ov ←eval o X.env
   mC apos.atName
   let (f,first) ←i4 [ov] (rC ov m pl)
   xM pos f first (bX pos (aK (e::es) X.env)) (kf pos (kh [] X.env))):=by rfl) :
  PE X (.Call (.Attribute o m apos) (e::es) [] pos) (Fm C m sp dvs E ta t):=by
 intro XL s L H Q I h;refine YA (pl:=pl) (thE (he XL s L H _ I h) λu s1 x H1 I1 rx ζ=>?_) ht;obtain⟨a,dx,fs,ex,ea,l,q⟩:=ζ;subst ex;obtain rfl:u=cJ a:=rx;refine JL I1 ea c hm l ?_;refine CV (first:=[.ref a]) (h₀:=X.base) I.ok.mod.kin hm.kp (thA (ha pos XL s1 L H1 _ I1 q) λus s2 vs H2 I2 r q2=>#[I2.kIn,?_]) hst hpl;exact Aq (us:=.ref a::us) (vs:=.ref a::vs) F hr hb hd hx I2 (.cons () r) q2
def EU (he:PE X o ta) (c:Cls X.K C) (hm:Meth X.K C m f) (F:FnOk X.prog X.w X.K X.mg X.base CX k f fd ps sp) (hr:Room k X.A) (hb:eP X.K fd ps ds) (hd:bq dvs ds) (hx:gX CX X E)
  (ht:eval (.Call (.Attribute o m apos) [] [] pos) X.env=(do
   let ov ←eval o X.env
   mC apos.atName
   let (f,first) ←i4 [ov] (rC ov m pl)
   xM pos f first (bX pos (aK [] X.env)) (kf pos (kh [] X.env))):=by rfl) :
  PE X (.Call (.Attribute o m apos) [] [] pos) (Fm C m sp dvs E ta Cg):=by
 intro XL s L H Q I h;refine YA (pl:=pl) (thE (he XL s L H _ I h) λu s1 x H1 I1 rx ζ=>?_) ht;obtain⟨a,dx,fs,ex,ea,l,q⟩:=ζ;subst ex;obtain rfl:u=cJ a:=rx;refine JL I1 ea c hm l ?_;exact PySem.W.callWith_K0 (first:=[.ref a]) I1.kIn hm.kp (Aq (us:=[.ref a]) (vs:=[.ref a]) F hr hb hd hx I1 (.cons () .nil) q)
structure Mk (K:aJ) (C f:ar):Prop where
 makes:xK K C=ah
 init:di K (.ref C) "__init__"=U (U (.ref f))
 fn:xJ K (.ref f)=ah
 kp:fM K (.ref C)=ah
def US {Q:VK} (M:Mk X.K C f) (F:FnOk X.prog X.w X.K X.mg X.base CX k f fd ps sp) (hr:Room (k+1) X.A) (hb:eP X.K fd ps ds) (hd:bq dvs ds)
  (hx:gX CX X E) (I:Inv X XL L H s) (r:bq vs us)
  (h:∀x dx,H x=B->H dx=B->dx≠x->sp (.ref x::(vs++dvs)) (upd (upd H dx (.own x)) x (.ins C dx [])) (λv H2=>v=.non/\Q (.ref x) H2) E) :
  aM (aL X.prog X.w) X.A (call (.ref C) us) (EP X XL L Q) X.xe s:=by
 have hq:=h (s.heap.objs.size+1) s.heap.objs.size (I.hok.fresh (uv _)) (I.hok.fresh (qx _)) (qG (ut _));have I2:=Inv.made (C:=C) I;have r2:bq (V.ref (s.heap.objs.size+1)::(vs++dvs)) (cJ (s.heap.objs.size+1)::(us++ds)):=.cons () (r.append hd);have hl:(cJ (s.heap.objs.size+1)::us++ds).length=ps.length:=by have e:=r2.length;rw[F.len _ _ _ _ hq] at e;exact e.symm
 refine rD (Rj (f:=f) I.kIn M.makes M.init (i6.mp M.fn) (rE (F.run _ X.stack _ _ #[cJ (s.heap.objs.size+1)::us,[]] (cJ (s.heap.objs.size+1)::(us++ds)) _ _ E (hr.make C us [])
  (I2.env0.make C us []) (hb _ (cJ (s.heap.objs.size+1)::us) I2.kIn hl) r2 hq) λr s' hq'=>?_))
 cases r with
 |error e=>exact hx XL L _ _ e s' I2 hq'
 |ok fl=>
  cases fl with
  |ret u=>
   obtain⟨v,H',I3,rv,ev,q3⟩:=I2.after hq';subst ev;exact#[rv,#[V.ref (s.heap.objs.size+1),H',I3,(),q3]]
  |next=>exact gw hq'
  |brk=>exact gw hq'
  |cont=>exact gw hq'
def Lp (M:Mk X.K C f) (F:FnOk X.prog X.w X.K X.mg X.base CX k f fd ps sp) (hr:Room (k+1) X.A) (hg:Gl X x) (hm:X.mg x=U (.ref C)) (hb:eP X.K fd ps ds) (hd:bq dvs ds) (hx:gX CX X E)
  (ha:PA X (e::es) t) (hdb:(x==("__debug__":af))=ao:=by decide) (he:aK (e::es) X.env=(ao,eval e X.env)::aK es X.env:=by rfl) (hpl:(bX pos (aK es X.env)).any (·.1)=ao:=by rfl) :
  PE X (.Call (.Name x p) (e::es) [] pos) (VP C sp dvs E t):=by
 intro XL s L H Q I h;refine xL (nZ I hg hm ?_ hdb);refine CV (h₀:=X.base) I.ok.mod.kin M.kp (thA (ha pos XL s L H _ I h) λus s1 vs H1 I1 r q=>?_) he hpl;refine#[I1.kIn,?_];exact US M F hr hb hd hx I1 r q
end
structure FnScope (N P:Z af) (sc:Scope):Prop where
 kind:sc.kind=.function
 co:sc.isCoroutine=ao
 gen:sc.isGenerator=ao
 nd:N.Nodup
 pre:N.take P.length=P
 par:∀x∈P,sc.names.lookup x=U .local\/sc.names.lookup x=U .cell
 nofree:∀y∈sc.names,y.2≠.free
theorem L4 {kindOf:af->ak hV} {x:af}:∀{binds:Z (af×au)} {m:af->ak au},(∀v,(x,v)∉binds)->oi kindOf binds m x=m x
 |[],_,_=>rfl
 |(n,v)::r,m,h=>by
  unfold oi;rw[L4 λw hw=>h w (qg _ hw)];split
  .have:x≠n:=by rintro rfl;exact h v qf
   simp[this]
  .rfl
theorem Hx {kindOf:af->ak hV} {x:af}:∀{binds:Z (af×au)} {m:af->ak au},(∀v,(x,v)∉binds)->oj kindOf binds m x=m x
 |[],_,_=>rfl
 |(n,v)::r,m,h=>by
  unfold oj;rw[Hx λw hw=>h w (qg _ hw)];split
  .rfl
  .have:x≠n:=by rintro rfl;exact h v qf
   simp[this]
theorem EJ {kindOf:af->ak hV} {x:af} {v:au}:∀{P:Z af} {vs:Z au} {i:J} {m:af->ak au},P.Nodup->P[i]?=U x->vs[i]?=U v->kindOf x=U .local->
  oi kindOf (P.zip vs) m x=U v
 |[],_,_,_,_,h,_,_=>by simp at h
 |_::_,[],_,_,_,_,h,_=>by simp at h
 |p::P,w::vs,0,m,nd,h1,h2,hk=>by
  simp at h1 h2;subst h1;subst h2;show oi kindOf ((p,w)::P.zip vs) m p=_;unfold oi;rw[L4 λv hv=>(om.mp nd).1 (CZ hv).1,qZ hk];simp
 |p::P,w::vs,i+1,m,nd,h1,h2,hk=>by show oi kindOf ((p,w)::P.zip vs) m x=_;unfold oi;exact EJ (i:=i) (om.mp nd).2 (by simpa using h1) (by simpa using h2) hk
theorem Fh {kindOf:af->ak hV} {x:af} {v:au}:∀{P:Z af} {vs:Z au} {i:J} {m:af->ak au},P.Nodup->P[i]?=U x->vs[i]?=U v->kindOf x≠U .local->
  oj kindOf (P.zip vs) m x=U v
 |[],_,_,_,_,h,_,_=>by simp at h
 |_::_,[],_,_,_,_,h,_=>by simp at h
 |p::P,w::vs,0,m,nd,h1,h2,hk=>by
  simp at h1 h2;subst h1;subst h2;show oj kindOf ((p,w)::P.zip vs) m p=_;unfold oj;rw[Hx λv hv=>(om.mp nd).1 (CZ hv).1,xa hk];simp
 |p::P,w::vs,i+1,m,nd,h1,h2,hk=>by show oj kindOf ((p,w)::P.zip vs) m x=_;unfold oj;exact Fh (i:=i) (om.mp nd).2 (by simpa using h1) (by simpa using h2) hk
noncomputable def eJ (N:Z af) (vs:Z V):St:=vs.map U++bB (N.length-vs.length) B
noncomputable def cB (CX:CXT) (P:b7) (w:bU) (K:aJ) (mg:af->ak au) (base:Heap) (N:Z af) (qual:af) (scope:Scope) (f:ar) (cd:au) (A:dh) (outer:Z cD) (s:aF) (H:Hp) (E:XK):Cx where
 prog:=P
 w:=w
 K:=K
 mg:=mg
 base:=base
 A:=A.deeper (bR qual scope s.heap.objs.size f cd)
 N:=N
 mt:=s
 Ty:=H
 env:=bR qual scope s.heap.objs.size f cd
 outer:=outer
 stack:=bR qual scope s.heap.objs.size f cd::outer
 ex:=[]
 calm:=ah
 fn:=λ_=>ah
 pn:=[]
 xe:=λe s'=>aM (aL P w) (A.deeper (bR qual scope s.heap.objs.size f cd)) (leaving (bR qual scope s.heap.objs.size f cd) e) (λ_ s''=>CX outer H s E e s'') (λe' s''=>CX outer H s E e' s'') s'
variable {sc:Scope}
def IW (h:sc.names.lookup x=U .cell):∃c,(Mq n sc.names []).lookup x=U c:=by have q:=YB sc.names n [] (.inl h);exact C0.mp q
variable {qual:af} {scope:Scope} {cd:au}
def Vl {f:ar} {s1:aF} {E:XK} 
  (S:FnScope N ps scope) (hd:A.handled=B) (e0:Env0 P w K mg base A outer s H) (hl:vs.length=ps.length) (r:bq vs us)
  (x:InCallC s s.heap.objs.size (oi (bR qual scope s.heap.objs.size f cd).kindOf (ps.zip us) λ_=>B) (Mq (s.heap.objs.size+1) scope.names []) (oj (bR qual scope s.heap.objs.size f cd).kindOf (ps.zip us) λ_=>B) s1) :
  Inv (cB CX P w K mg base N qual scope f cd A outer s H E) [] (eJ N vs) H s1:=by
 have hpl:ps.length<=N.length:=by have:=cQ fX S.pre;rw[qH] at this;lia
 obtain⟨h1,tk,rfl,hk⟩:=x.done;have noA:∀b:ar,b∉(cB CX P w K mg base N qual scope f cd A outer s H E).ex:=λb z=>ba (show b∈([]:Z ar) from z) (by simp);refine#[#[e0.mod,S.kind,(),(),qx _,λy z c h1 h2=>?_,λy hy=>?_,λy c _ h=>?_,λ_=>hd,Around.frames_deeper e0.frames,.inr #[(),()],λb z=>ba z (noA b),e0.bs,e0.bsz,λb _ _=>noA b,λb z=>ba z (noA b),e0.funs,e0.frf],
  rfl,e0.bare,Un.kept hk,#[_,x.toInCall.ns,λi y v h1 h2 h3=>?_],λy c h=>#[_,x.cell y c h],e0.hok.fresh (qx _),λy c h=>?_,λp hp=>ba (show p∈([]:Z (ar×bo)) from hp) (by simp),e0.hok.kept hk,?_]
 .exact name_of_addr x.apart (oo h1) (oo h2)
 .have hy:scope.names.lookup y=U .cell\/scope.names.lookup y=U .free:=hy;rcases hy with hy|hy
  .exact IW hy
  .exact ba () (S.nofree _ (oo hy))
 .exact ui (x.above y c (oo h))
 .have hi:i<vs.length:=by
   unfold eJ at h2;by_cases hi:i<vs.length
   .exact hi
   .rw[qN (by simpa using hi)] at h2;rw[ux] at h2;split at h2<;>cases h2
  have ha:vs[i]?=U v:=by
   unfold eJ at h2;rw[qD (by simpa using hi),ql] at h2;cases e:vs[i]? with
   |none=>rw[e] at h2;cases h2
   |some a=>rw[e] at h2;cases h2;rfl
  obtain⟨u,hu,rv⟩:=r.get ha;have hp:ps[i]?=U y:=by rw[<-S.pre,uy .(b)];exact h1
  have ndP:ps.Nodup:=by rw[<-S.pre];exact S.nd.sublist (rF _ _)
  refine#[u,rv,?_];rcases S.par y (qS hp) with k|k
  .exact .inl #[k,EJ ndP hp hu k]
  .obtain⟨c,e⟩:=IW (n:=s.heap.objs.size+1) k;refine .inr #[.inl k,c,e,?_];have q:=x.cell y c e;rw[Fh ndP hp hu (by show scope.names.lookup y≠_;rw[k];decide)] at q;exact q
 .exact e0.hok.fresh (ui (x.above y c (oo h)))
 .unfold eJ;show _=N.length;rw[qk,qe,List.length_replicate];lia
variable {doc pm cdv ct oc:au} {an od:ak ar} {osl:cg (ak au)}
def wa {k:J} {f:ar} {params:Arguments} {dV kV:au} 
  (lk:K.lookup f=U #[oc,od,.func (eT name qual params body scope dV kV doc pm an cdv ct),osl]) (hcd:uz K cdv qual=ah) (S:FnScope N ps scope)
  (len:∀vs H Q E,sp vs H Q E->vs.length=ps.length)
  (hbody:∀(A:dh) (outer:Z cD) (s:aF) (H:Hp) (vs:Z V) (Q:VK) (E:XK),Room k (A.deeper (bR qual scope s.heap.objs.size f cdv))->sp vs H Q E->
   ∃t,PSs (cB CX P w K mg base N qual scope f cdv A outer s H E) body t/\t {nx:=λ_ H'=>Q .non H',rt:=Q} (eJ N vs) H) :
  FnOk P w K mg base CX (k+1) f (eT name qual params body scope dV kV doc pm an cdv ct) ps sp:=by
 refine#[len,λA outer s H args us vs Q E hr e0 hb r hsp=>?_];have hl:=len _ _ _ _ hsp;have KX:K.In s.heap:=e0.mod.kin.keeps λb o e=>(e0.bs b o e).1;have lim:s.heap.NoLimit:=e0.mod.nolimit.keeps λb o e=>(e0.bs b o e).1;have hkind:∀y∈ps.zip us,scope.names.lookup y.1=U .local\/(scope.names.lookup y.1=U .cell/\((Mq (s.heap.objs.size+1) scope.names []).lookup y.1).isSome=ah):=λ#[n,v] hy=>by
  rcases S.par n (CZ hy).1 with q|q
  .exact .inl q
  .exact .inr #[q,YB _ _ _ (.inl q)]
 refine codeAny_call_function hr.depth (KX _ _ lk) () S.co S.gen () (PySem.W.codeRec_of KX hcd) (hb _ _ _ _ ?_);refine wpAny_newFunctionEnv_cells S.kind hkind λenv he s1 x=>?_;subst he;refine#[lim.keeps x.toInCall.keep,codeAny_func ?_];obtain⟨t,ht,hq⟩:=hbody A outer s H vs Q E (hr.deeper _) hsp;have I:Inv (cB CX P w K mg base N qual scope f cdv A outer s H E) [] (eJ N vs) H s1:=Vl S hr.hd e0 hl r x;refine fj (ht [] s1 (eJ N vs) H _ I hq) (λfl s' hs=>?_) λe s' hs=>hs;have fin:∀{BT:St} {H':Hp} {v:V} {u:au},Inv (cB CX P w K mg base N qual scope f cdv A outer s H E) [] BT H' s'->bz v u->Q v H'->CE outer P w H s Q u s':=
  λ{BT H' v u} ag rv q=>#[v,H',ag.os,ag.bare,ag.base,ag.hok,rv,q]
 cases fl with
 |ret u=>
  obtain⟨v,BT,H',ag,rv,q⟩:=hs;exact fin ag rv q
 |next=>
  obtain⟨BT,H',ag,q⟩:=hs;exact fin (v:=V.non) (u:=xC) ag () q
 |brk=>
  obtain⟨_,_,_,q⟩:=hs;exact gw q
 |cont=>
  obtain⟨_,_,_,q⟩:=hs;exact gw q
variable {T:String}
section
variable {p:bV} {t:TA} {id:String} {r:Z V->Hp->VK->Prop}
noncomputable def tCB (r:Z V->Hp->VK->Prop) (t:TA):TE:=λL H Q=>t L H λvs H1=>r vs H1 Q
def pL (hc:fO X (.builtin id) r) (hg:Gl X x) (hm:X.mg x=B) (hv:lc x=U (.builtin id)) (ha:PA X (e::es) t) (hn:x≠"__name__":=by decide) (hdb:(x==("__debug__":af))=ao:=by decide)
  (he:aK (e::es) X.env=(ao,eval e X.env)::aK es X.env:=by rfl) (hpl:(bX pos (aK es X.env)).any (·.1)=ao:=by rfl):PE X (.Call (.Name x p) (e::es) [] pos) (tCB r t):=by
 intro XL s L H Q I h;refine xL (pX I hg hm hv ?_ hn hdb);exact xaH (thA (ha pos XL s L H _ I h) λus s1 vs H1 I1 r1 q1=>hc XL s1 L H1 vs us Q I1 r1 q1) he hpl
def Fq (hc:fO X (.type T) r) (hg:Gl X x) (hm:X.mg x=B) (hv:lc x=U (.type T)) (ha:PA X (e::es) t) (hn:x≠"__name__":=by decide) (hdb:(x==("__debug__":af))=ao:=by decide)
  (he:aK (e::es) X.env=(ao,eval e X.env)::aK es X.env:=by rfl) (hpl:(bX pos (aK es X.env)).any (·.1)=ao:=by rfl):PE X (.Call (.Name x p) (e::es) [] pos) (tCB r t):=by
 intro XL s L H Q I h;refine xL (pX I hg hm hv ?_ hn hdb);exact CK (thA (ha pos XL s L H _ I h) λus s1 vs H1 I1 r1 q1=>hc XL s1 L H1 vs us Q I1 r1 q1) he hpl
end
variable {sl:ar} {vl vu:au} {hi:ak aj} {items:cg au}
namespace HT
noncomputable def sIx (n d:J):ak aj->J
 |none=>d
 |some v=>if v<0 then (v+(n:aj)).toNat else min v.toNat n
def sIx_none (n d:J):sIx n d B=d:=rfl
def sIx_nat (n d k:J):sIx n d (U (k:aj))=min k n:=by show(if (k:aj)<0 then ((k:aj)+(n:aj)).toNat else min (k:aj).toNat n)=min k n;rw[xa .(b),Mr]
def WM (n d:J) (hd:d<=n) (o:ak aj):sIx n d o<=n:=by
 cases o with
 |none=>exact hd
 |some v=>
  show(if v<0 then (v+(n:aj)).toNat else min v.toNat n)<=n;by_cases hv:v<0
  .rw[qZ hv];lia
  .rw[xa hv];exact C2 _ _
def GC (v:aj) (n d:J):(if v<0 then max (v+(n:aj)) 0 else min v (n:aj))=((sIx n d (U v):J):aj):=by
 show(if v<0 then max (v+(n:aj)) 0 else min v (n:aj))=(((if v<0 then (v+(n:aj)).toNat else min v.toNat n):J):aj);by_cases hv:v<0
 .simp only[qZ hv];lia
 .simp only[xa hv];lia
def Rc (lo hi:ak aj) (n:J):Ms lo hi 1 (n:aj)=(((sIx n 0 lo:J):aj),((sIx n n hi:J):aj)):=by
 have h1:¬((1:aj)<0):=by lia
 unfold Ms;simp only[h1,dE];refine Prod.ext ?_ ?_
 .cases lo with
  |none=>rfl
  |some v=>exact GC v n 0
 .cases hi with
  |none=>rfl
  |some v=>exact GC v n n
def RX (i j:J):C3 (i:aj) (j:aj) 1=j-i:=by
 unfold C3;have h1:(1:aj) > 0:=by lia
 simp only[h1,dc,Int.ediv_one];split<;>lia
def HZ {v:au} {o:ak aj} {Q:ak aj->aF->Prop} (p:oq v o) (h:Q o s):aM (aL prog w) A (xaI v) Q E s:=by
 cases p with
 |none=>exact YC h
 |int i t=>exact slicePart_int h
def Pq {lo:ak aj} {Q:aj×aj×J->aF->Prop} (hs:s.heap.IsSliceOf sl vl vu .none) (pl:oq vl lo) (pu:oq vu hi)
  (h:Q (((sIx n 0 lo:J):aj),1,sIx n n hi-sIx n 0 lo) s):aM (aL prog w) A (YD (.ref sl) (pure (n:aj))) Q E s:=by
 obtain⟨os,hos,hcs,hds⟩:=id hs;unfold YD xaJ;refine qA (qA (ki hos hds (x:=vl) () (qA (ki hos hds (x:=vu) () (qA (ki hos hds (x:=.none) () (qE ?_)))))));refine qA (YC ?_);show aM _ _ (if ((1:aj)==0)=ah then _ else _) _ _ s;rw[xa .(a)];refine qA (HZ pl (qA (HZ pu (qA (qE ?_)))));show aM _ _ (match Ms lo hi 1 (n:aj) with|(lo,hi)=>pure (lo,(1:aj),C3 lo hi 1)) _ _ s;rw[Rc lo hi n];show aM _ _ (pure (((sIx n 0 lo:J):aj),(1:aj),C3 ((sIx n 0 lo:J):aj) ((sIx n n hi:J):aj) 1)) _ _ s;rw[RX];exact qE h
def WE (xs:cg au) (i k:J):((db k).filterMap λ(m:J)=>xs[((i:aj)+(m:aj)*1).toNat]?).toArray=((xs.toList.drop i).take k).toArray:=by
 have e:(λ(m:J)=>xs[((i:aj)+(m:aj)*1).toNat]?)=λm=>xs[i+m]?:=by
  funext m
  have:((i:aj)+(m:aj)*1).toNat=i+m:=by lia
  rw[this]
 rw[e];have:=C4 xs i k;rw[List.filterMap_map] at this;have e2:((λx=>xs[x]?) ∘ λx=>i+x)=λm=>xs[i+m]?:=rfl;rw[e2] at this;rw[this]
def getItem_tuple_cut {t:ar} {lo:ak aj} (ht:IsTup s.heap t items) (hs:s.heap.IsSliceOf sl vl vu .none) (pl:oq vl lo) (pu:oq vu hi)
  (hw:¬(sIx items.size 0 lo=0/\sIx items.size items.size hi=items.size))
  (h:Q (.ref s.heap.objs.size) {s with heap:=s.heap.push {cls:=.type "tuple",data:=.seq ((items.toList.drop (sIx items.size 0 lo)).take (sIx items.size items.size hi-sIx items.size 0 lo)).toArray} })
  (hsz:items.size<=aH):aM (aL prog w) A (ou (.ref t) (.ref sl)) Q E s:=by
 have htake:sizeOk (.seq ((items.toList.drop (sIx items.size 0 lo)).take (sIx items.size items.size hi-sIx items.size 0 lo)).toArray):=by show ((items.toList.drop (sIx items.size 0 lo)).take (sIx items.size items.size hi-sIx items.size 0 lo)).toArray.size<=aH;rw[qF,qH,ee,hG];lia
 have hj:sIx items.size items.size hi<=items.size:=WM _ _ (qx _) hi;obtain⟨os,hos,hcs,hds⟩:=id hs;have hTs:s.TypeIs (.ref sl) "slice":=#[os,hos,hcs];unfold ou
 try with_reducible refine qW ?_
 first|refine qA (qE ?_)|skip
 refine qA (wpAny_sequenceKey ht.typeIs .(a) ?_);refine qA (C5 (name:=uA "__getitem__") ht.typeIs Mt
  (C6 Mt ht.typeIs entry_tuple_getitem ?_ (args_tuple_getitem _ _)))
 show aM _ _ (xaK (.ref t) >>= _) _ _ s;refine qA (tupleItemsOf_ ht ?_);refine qA (xN hTs ?_);rw[qZ .(a)];refine qA (Pq hs pl pu ?_);have hno:¬((((sIx items.size 0 lo:J):aj)==0 && (1:aj)==1 && (sIx items.size items.size hi-sIx items.size 0 lo)==items.size)=ah):=by intro q;rw[eM,eM] at q;have q1:((sIx items.size 0 lo:J):aj)=0:=Mu q.1.1;have q2:sIx items.size items.size hi-sIx items.size 0 lo=items.size:=Mu q.2;exact hw #[by lia,by lia]
 show aM _ _ (if (((sIx items.size 0 lo:J):aj)==0 && (1:aj)==1 && (sIx items.size items.size hi-sIx items.size 0 lo)==items.size)=ah then _ else _) _ _ s;rw[xa hno,WE]
 first
  |exact qA (m:=C7 _) (rG (qE #[_,rfl,qE h]) htake)
  |exact qA (m:=C7 _) (rG (qA (qE (qE #[_,rfl,qE h]))) htake)
  |exact qA (qA (m:=C7 _) (rG (qE (qE #[_,rfl,qE h])) htake))
  |exact qA (qA (m:=C7 _) (rG (qE #[_,rfl,qE h]) htake))
end HT
abbrev TO:=St->Hp->(ak aj->Hp->Prop)->Prop
def PO (X:Cx) (e:ak Expr) (t:TO):Prop:=
 ∀(XL:Z (ar×bo)) (s:aF) (L:St) (H:Hp) (Q:ak aj->Hp->Prop),Inv X XL L H s->t L H Q->
  aM (aL X.prog X.w) X.A (evalPart e X.env) (λu s'=>∃o H',Inv X XL L H' s'/\oq u o/\Q o H') X.xe s
noncomputable def Tc:TO:=λ_ H Q=>Q B H
noncomputable def Ql (t:TE):TO:=λL H Q=>t L H λx H1=>∃i,x=.int i/\Q (U i) H1
variable {p2:bV}
section
variable {lo hi:ak Expr} {tl th:TO}
def AD:PO X B Tc:=by intro XL s L H Q I h;rw[evalPart_none];exact qE #[B,H,I,.none,h]
def Bm (h:PE X e te):PO X (U e) (Ql te):=by intro XL s L H Q I hw;rw[evalPart_some];refine thE (h XL s L H _ I hw) λu s1 x H1 I1 r1 q1=>?_;obtain⟨i,rfl,q⟩:=q1;obtain⟨t,rfl⟩:=r1;exact#[U i,H1,I1,.int i t,q]
def SlR (X:Cx) (r:V->ak aj->ak aj->Hp->VK->Prop):Prop:=
 ∀(XL:Z (ar×bo)) (s:aF) (L:St) (H:Hp) (x:V) (v vl vu:au) (lo hi:ak aj) (sl:ar) (Q:VK),Inv X XL L H s->bz x v->s.heap.IsSliceOf sl vl vu .none->oq vl lo->oq vu hi->r x lo hi H Q->
  ∃T id,C8 (.type T) "__getitem__"=pure (U (.builtin id))/\s.TypeIs v T/\aM (aL X.prog X.w) X.A (ou v (.ref sl)) (EP X XL L Q) X.xe s
def SlR.or {r r':V->ak aj->ak aj->Hp->VK->Prop} (h:SlR X r) (h':SlR X r'):SlR X (λx lo hi H Q=>r x lo hi H Q\/r' x lo hi H Q):=by
 intro XL s L H x v vl vu lo hi sl Q I rx hs pl pu q;rcases q with q|q
 .exact h XL s L H x v vl vu lo hi sl Q I rx hs pl pu q
 .exact h' XL s L H x v vl vu lo hi sl Q I rx hs pl pu q
noncomputable def tSl (r:V->ak aj->ak aj->Hp->VK->Prop) (te:TE) (tl th:TO):TE:=λL H Q=>te L H λx H1=>tl L H1 λl H2=>th L H2 λu H3=>r x l u H3 Q
def yo {r:V->ak aj->ak aj->Hp->VK->Prop} (hr:SlR X r) (he:PE X e te) (hl:PO X lo tl) (hu:PO X hi th):PE X (.Subscript e (.Slice lo hi B p2) pos) (tSl r te tl th):=by intro XL s L H Q I h;refine C9 (thE (he XL s L H _ I h) λv s1 x H1 I1 r1 q1=>?_);refine wpAny_Slice (thn (hl XL s1 L H1 _ I1 q1) λvl s2 #[l,H2,I2,pl,q2]=>thn (hu XL s2 L H2 _ I2 q2) λvu s3 ζ=>?_);obtain⟨u,H3,I3,pu,q3⟩:=ζ;rw[evalPart_none];refine qE ?_;have I4:Inv X XL L H3 {s3 with heap:=s3.heap.push {cls:=.type "slice",data:=.fields [vl,vu,.none].toArray} }:=I3.kept (t':=s3.toks) λb ob q=>qv _ q;obtain⟨T,id,hT,ht,hg⟩:=hr XL {s3 with heap:=s3.heap.push {cls:=.type "slice",data:=.fields [vl,vu,.none].toArray} } L H3 x v vl vu l u s3.heap.objs.size Q I4 r1 (YE ..) pl pu q3;show aM (aL X.prog X.w) X.A (Mv e (.Slice lo hi B p2) v (.ref s3.heap.objs.size)) (EP X XL L Q) X.xe {s3 with heap:=s3.heap.push {cls:=.type "slice",data:=.fields [vl,vu,.none].toArray} };exact Mw (ops:=[.ref s3.heap.objs.size,v]) ht hT hg (by with_unfolding_all rfl)
def lV (xs:Z V) (lo hi:ak aj):Z V:=(xs.drop (HT.sIx xs.length 0 lo)).take (HT.sIx xs.length xs.length hi-HT.sIx xs.length 0 lo)
def Js (xs:Z V) (lo hi:ak aj):(lV xs lo hi).length<=xs.length:=by unfold lV;rw[qH,ee];lia
def Vk (K:aJ):V->ak aj->ak aj->Hp->VK->Prop:=λx lo hi H Q=>∃a xs,x=.ref a/\SqT K H a xs /\
 ¬(HT.sIx xs.length 0 lo=0/\HT.sIx xs.length xs.length hi=xs.length)/\∀p,H p=B->Q (.ref p) (upd H p (.tup (lV xs lo hi)))
def T8:SlR X (Vk X.K):=by
 intro XL s L H x v vl vu lo hi sl Q I rx hs pl pu h;obtain⟨a,xs,rfl,hx,hw,q⟩:=h;cases rx;obtain⟨its,r,ht,hz⟩:=I.tuple hx;have hlen:its.toArray.size=xs.length:=by rw[qF];exact r.length.symm
 refine#["tuple",_,Mt.lookup,ht.typeIs,?_];refine HT.getItem_tuple_cut ht hs pl pu (by rw[hlen];exact hw) ?_ (by rw[hlen];exact hz);rw[hlen];refine#[.ref s.heap.objs.size,_,I.laid (t':=s.toks) (o:=.tup (lV xs lo hi)) (λb ob q=>qv _ q) (qx _) ?_,(),q _ (I.hok.fresh (qx _))];exact#[qP (Js xs lo hi) hz,_,(r.drop (HT.sIx xs.length 0 lo)).take (HT.sIx xs.length xs.length hi-HT.sIx xs.length 0 lo),YF _ _]
end
noncomputable def ixN (n:J) (i:aj):ak J:=if 0<=i then (if i<n then U i.toNat else B) else if -(n:aj)<=i then U (i+n).toNat else B
def atI (xs:Z α) (i:aj):ak α:=(ixN xs.length i).bind λj=>xs[j]?
def Fi {i:aj} (h:ixN n i=U j):seqIndex? i n=U j/\j<n /\ -(n:aj)<=i/\i<n:=by
 unfold ixN at h;by_cases h0:0<=i
 .rw[qZ h0] at h;by_cases h1:i<n
  .rw[qZ h1] at h;have e:i.toNat=j:=qK h;exact#[by rw[Mx h0 h1,e],by lia,by lia,h1]
  .rw[xa h1] at h;cases h
 .rw[xa h0] at h;by_cases h1 : -(n:aj)<=i
  .rw[qZ h1] at h;have e:(i+n).toNat=j:=qK h;exact#[by rw[seqIndex_neg .(b) h1,e],by lia,h1,by lia]
  .rw[xa h1] at h;cases h
def BY {xs:Z α} {i:aj} {v:α} (h:atI xs i=U v):∃j,seqIndex? i xs.length=U j/\xs[j]?=U v/\j<xs.length /\ -(xs.length:aj)<=i/\i<xs.length:=by
 unfold atI at h;cases e:ixN xs.length i with
 |none=>rw[e] at h;cases h
 |some j=>
  rw[e] at h;obtain⟨h1,h2,h3,h4⟩:=Fi e;exact#[j,h1,h,h2,h3,h4]
def kD {xs:Z α} {v:α} (h:xs[j]?=U v):atI xs (j:aj)=U v:=by
 have hj:j<xs.length:=(gv.mp h).1;have e:ixN xs.length (j:aj)=U j:=by unfold ixN;rw[qZ .(b),qZ .(b)];simp
 unfold atI;rw[e];exact h
def uV (b:Expr):Prop:=∀o i,Da b ao o i=operate [o,i] (ou o i)
def IxR (X:Cx) (r:R2):Prop:=
 ∀(value slice:Expr) (XL:Z (ar×bo)) (s:aF) (L:St) (H:Hp) (x y:V) (v u:au) (Q:VK),Inv X XL L H s->bz x v->bz y u->r x y H Q->
  Da slice ao v u=operate [v,u] (ou v u)->aM (aL X.prog X.w) X.A (Mv value slice v u) (EP X XL L Q) X.xe s
def MtR (X:Cx) (id:String) (r:V->Z V->Hp->VK->Prop):Prop:=
 ∀(XL:Z (ar×bo)) (s:aF) (L:St) (H:Hp) (x:V) (xs:Z V) (v:au) (us:Z au) (Q:VK),Inv X XL L H s->bz x v->bq xs us->r x xs H Q->
  aM (aL X.prog X.w) X.A (call (.builtin id) (v::us)) (EP X XL L Q) X.xe s
variable {its its':Z au} {n':J} {cpos:bV}
section
variable {a:Expr}
def IxR.or {r:R2} (h:IxR X r) (h':IxR X r'):IxR X (λx y H Q=>r x y H Q\/r' x y H Q):=by
 intro value slice XL s L H x y v u Q I rx ry q hs;rcases q with q|q
 .exact h value slice XL s L H x y v u Q I rx ry q hs
 .exact h' value slice XL s L H x y v u Q I rx ry q hs
def BG {r:R2} (hr:IxR X r) (ha:PE X a ta) (hb:PE X b tb) (hs:uV b):PE X (.Subscript a b pos) (tOp r ta tb):=by intro XL s L H Q I h;exact C9 (Cy ha hb I h λv u s2 x y H2 I2 rx ry q=>hr a b XL s2 L H2 x y v u Q I2 rx ry q (hs _ _))
def J3 (K:aJ):R2:=λx y H Q=>∃p xs i v,x=.ref p/\y=.int i/\SqL K H p xs/\atI xs i=U v/\Q v H
def IA (K:aJ):R2:=λx y H Q=>∃p xs i v,x=.ref p/\y=.int i/\SqT K H p xs/\atI xs i=U v/\Q v H
def Ff:R2:=λx y H Q=>∃z i c,x=.str z/\y=.int i/\z.length<=aH/\atI z.cps.toList i=U c/\Q (.str ⟨#[c]⟩) H
def Vt:IxR X (J3 X.K):=by
 intro value slice XL s L H x y v u Q I rx ry h hs;obtain⟨p,xs,i,z,rfl,rfl,hq,he,q⟩:=h;cases rx;obtain⟨t,rfl⟩:=ry;obtain⟨its,r,pl,hz⟩:=I.list hq;obtain⟨j,h1,h2,h3,h4,h5⟩:=BY he;obtain⟨w,ew,rw'⟩:=r.get h2;have hl:=r.length;have hn:=sA;have fin:EP X XL L Q w s:=#[z,H,I,rw',q];by_cases h0:0<=i
 .have hj:i.toNat=j:=by rw[Mx h0 h5] at h1;exact qK h1
  exact item_listR pl.isList h0 .(b) (by rw[hj];simpa using ew) fin hs
 .have hj:(i+(its.toArray.size:aj)).toNat=j:=by rw[seqIndex_neg .(b) h4] at h1;rw[qF,<-hl];exact qK h1
  exact YG (x:=w) pl.isList.typeIs My.lookup
   (wpAny_getItem_list_neg (Q:=λr s'=>r=w/\EP X XL L Q r s') pl.isList .(b) (by rw[qF]<;>lia) .(b) (by rw[hj];simpa using ew) #[rfl,fin]) hs
def SU:IxR X (IA X.K):=by
 intro value slice XL s L H x y v u Q I rx ry h hs;obtain⟨p,xs,i,z,rfl,rfl,hq,he,q⟩:=h;cases rx;obtain⟨t,rfl⟩:=ry;obtain⟨its,r,pl,hz⟩:=I.tuple hq;obtain⟨j,h1,h2,h3,h4,h5⟩:=BY he;obtain⟨w,ew,rw'⟩:=r.get h2;have hl:=r.length;have hn:=sA;have fin:EP X XL L Q w s:=#[z,H,I,rw',q];exact YG (x:=w) pl.typeIs slot_tuple_getitem.lookup
  (getItem_tuple (j:=j) (Q:=λr s'=>r=w/\EP X XL L Q r s') pl .(b) .(b) (by rw[qF,<-hl];exact h1) (by simpa using ew) #[rfl,fin]) hs
def Xh:IxR X Ff:=by
 intro value slice XL s L H x y v u Q I rx ry h hs;obtain⟨z,i,c,rfl,rfl,hz,he,q⟩:=h;obtain⟨t,rfl⟩:=rx;obtain⟨t',rfl⟩:=ry;obtain⟨j,h1,h2,h3,h4,h5⟩:=BY he;have hl:z.cps.toList.length=z.length:=by simp[iA]
 rw[hl] at h1 h4 h5;have hn:=sA;exact Mw (ox s z t) slot_str_getitem.lookup (getItem_str (c:=c) (by have e1:decide (i < -(2 ^ 63:aj))=ao:=qQ .(b);have e2:decide (i ≥ 2 ^ 63)=ao:=qQ .(b);rw[e1,e2,Bool.or_false]) (by rw[h1];simpa using h2) #[.str ⟨#[c]⟩,H,I.tok _,#[_,rfl],q]) hs
def rIx (K:aJ):R2:=λx y H Q=>J3 K x y H Q\/IA K x y H Q\/Ff x y H Q
def AN:IxR X (rIx X.K):=Vt.or (SU.or Xh)
def Pk (its:Z au) (n j:J) (u:au):xO (·.setIfInBounds j u) {cls:=.type "list",data:=.seq its.toArray n}={cls:=.type "list",data:=.seq (its.set j u).toArray n}:=by simp[xO]
def Inv.lst {p:ar} {xs:Z V} (I:Inv X XL L H s) (h:H p=U (.lst xs)) :
  ∃(its:Z au) (n:J),bq xs its/\s.heap.get? p=U {cls:=.type "list",data:=.seq its.toArray n}/\xs.length<=aH:=by
 obtain⟨z,its,n,r,e⟩:=I.hok p _ h;exact#[its,n,r,e,z]
def Inv.lstUpd {p:ar} {xs ys:Z V} {f:bo->bo} (I:Inv X XL L H s) (h:H p=U (.lst xs))
  (ho:s.heap.get? p=U {cls:=.type "list",data:=.seq its.toArray n}) (hf:f {cls:=.type "list",data:=.seq its.toArray n}={cls:=.type "list",data:=.seq its'.toArray n'}) (r:bq ys its') (hz:ys.length<=aH) (t:J) :
  Inv X XL L (upd H p (.lst ys)) {s with heap:=s.heap.update p f,toks:=t}:=by
 have e:(s.heap.update p f).get? p=U {cls:=.type "list",data:=.seq its'.toArray n'}:=by rw[Mz f ho (by rw[hf]<;>rfl),hf]
 refine I.write (x:=p) (e:=p) (by rw[h];trivial) (.inl ()) (λb u hb q=>(YH _ _ (dU hb)).trans q) #[_,e] ?_;exact#[hz,its',n',r,e]
def Qc:V->V->V->Hp->(Hp->Prop)->Prop:=λo i v H Q=>∃p xs k j,o=.ref p/\i=.int k/\H p=U (.lst xs)/\ixN xs.length k=U j/\Q (upd H p (.lst (xs.set j v)))
def XJ:Gz X Qc:=by
 intro XL s L H o i v ov iv u Q I ro ri rv h;obtain⟨p,xs,k,j,rfl,rfl,hp,hj,q⟩:=h;cases ro;obtain⟨t,rfl⟩:=ri;obtain⟨its,n,r,ho,hz⟩:=I.lst hp;obtain⟨h1,h2,h3,h4⟩:=Fi hj;have hl:=r.length;have hn:=sA;have I':Inv X XL L (upd H p (.lst (xs.set j v))) {s with heap:=s.heap.update p (xO (·.setIfInBounds j u))} :=
  I.lstUpd hp ho (Pk its n j u) (r.set rv j) (by rw[List.length_set];exact hz) s.toks
 by_cases h0:0<=k
 .have hk:k.toNat=j:=by rw[Mx h0 h4] at h1;exact qK h1
  exact PySem.W.ki_setAt ho h0 .(b) (by rw[qF,<-hl];exact h4) (by rw[hk];exact#[_,I',q])
 .have hk:(k+(its.toArray.size:aj)).toNat=j:=by rw[seqIndex_neg .(b) h3] at h1;rw[qF,<-hl];exact qK h1
  exact PySem.W.ki_setBack ho .(b) (by rw[qF,<-hl];exact h3) .(b) (by rw[hk];exact#[_,I',q])
def TH (lo hi:ak aj) (n:J):(rH lo hi B n).1=((HT.sIx n 0 lo:J):aj)/\(rH lo hi B n).2.1=((HT.sIx n n hi:J):aj)/\(rH lo hi B n).2.2=1:=by
 refine#[?_,?_,()]
 .cases lo with
  |none=>simp[rH,HT.sIx]
  |some i=>
   simp only[rH,HT.sIx,YI,show(1:aj) > 0 by decide,dc];by_cases h:i<0
   .simp only[h,dc]<;>lia
   .simp only[h,dE]<;>lia
 .cases hi with
  |none=>simp[rH,HT.sIx]
  |some i=>
   simp only[rH,HT.sIx,YI,show(1:aj) > 0 by decide,dc];by_cases h:i<0
   .simp only[h,dc]<;>lia
   .simp only[h,dE]<;>lia
def Xe (its:Z au) (lo hi:ak aj):slicePick its.toArray lo hi B=((its.drop (HT.sIx its.length 0 lo)).take (HT.sIx its.length its.length hi-HT.sIx its.length 0 lo)).toArray:=by obtain⟨h1,h2,h3⟩:=TH lo hi its.toArray.size;unfold slicePick;rw[h1,h2,h3];simp only[YJ,C4,qF]<;>rfl
def NW (K:aJ):V->ak aj->ak aj->Hp->VK->Prop:=λx lo hi H Q=>∃a xs,x=.ref a/\SqL K H a xs/\∀p,H p=B->Q (.ref p) (upd H p (.lst (lV xs lo hi)))
def L5:SlR X (NW X.K):=by intro XL s L H x v vl vu lo hi sl Q I rx hs pl pu h;obtain⟨a,xs,rfl,hx,q⟩:=h;cases rx;obtain⟨its,r,ht,hz⟩:=I.list hx;have hlen:=r.length;refine#["list",_,My.lookup,ht.isList.typeIs,?_];refine YK ht.isList hs pl pu .none (by simp) ?_ (by rw[qF]<;>lia);rw[Xe,<-hlen];refine#[.ref s.heap.objs.size,_,I.laid (t':=s.toks) (o:=.lst (lV xs lo hi)) (λb ob q=>qv _ q) (qx _) ?_,(),q _ (I.hok.fresh (qx _))];exact#[qP (Js xs lo hi) hz,_,0,(r.drop (HT.sIx xs.length 0 lo)).take (HT.sIx xs.length xs.length hi-HT.sIx xs.length 0 lo),qJ _ ()]
def Xf:OpR X (dP .NotIn) (λx y H Q=>∃i j,x=.str i/\y=.str j/\Q (.bl (!(!(lq j i 0 j.length 1).isEmpty))) H):=by intro XL s L H x y v u Q I rx ry h;obtain⟨i,j,rfl,rfl,q⟩:=h;obtain⟨t,rfl⟩:=rx;obtain⟨t',rfl⟩:=ry;exact notIn_str #[.bl _,H,I,(),q]
def WB:fO X (.type "list") (λxs H Q=>∃p ys,xs=[.ref p]/\(SqL X.K H p ys\/SqT X.K H p ys)/\∀l,H l=B->Q (.ref l) (upd H l (.lst ys))):=by
 intro XL s L H xs us Q I r h;obtain⟨p,ys,rfl,hq,q⟩:=h;obtain⟨u,rfl,rx⟩:=fR r;cases rx;have fin:∀(its:Z au),bq ys its->ys.length<=aH->∀(h':Heap) (c':J),(∀b o',s.heap.get? b=U o'->h'.get? b=U o')->
   h'.get? s.heap.objs.size=U {cls:=.type "list",dict:=B,data:=.seq its.toArray c',slots:=#[]}->EP X XL L Q (.ref s.heap.objs.size) {s with heap:=h'}:=λits r' hz h' c' kp e=>
  #[.ref s.heap.objs.size,_,I.laid (t':=s.toks) kp (qx _) (show dA X.prog X.w _ h' _ (.lst ys) from#[hz,its,c',r',e]),(),q _ (I.hok.fresh (qx _))]
 rcases hq with hq|hq
 .obtain⟨its,r',pl,hz⟩:=I.list hq;have hlen:=r'.length;obtain⟨o,ho,hc,n,hd⟩:=pl.isList;exact call_list_seq p (.inl ()) ho hc hd (λh' c' kp e=>fin its r' hz h' c' kp e) (by simp only[qF]<;>lia)
 .obtain⟨its,r',pl,hz⟩:=I.tuple hq;have hlen:=r'.length;obtain⟨o,ho,hc,n,hd⟩:=pl;exact call_list_seq p (.inr ()) ho hc hd (λh' c' kp e=>fin its r' hz h' c' kp e) (by simp only[qF]<;>lia)
def OY:fO X (.type "tuple") (λxs H Q=>∃p ys,xs=[.ref p]/\((SqL X.K H p ys/\∀l,H l=B->Q (.ref l) (upd H l (.tup ys)))\/(SqT X.K H p ys/\Q (.ref p) H))):=by
 intro XL s L H xs us Q I r h;obtain⟨p,ys,rfl,h⟩:=h;obtain⟨u,rfl,rx⟩:=fR r;cases rx;rcases h with⟨hq,q⟩|⟨hq,q⟩
 .obtain⟨its,r',pl,hz⟩:=I.list hq;have hlen:=r'.length;refine call_tuple_list pl.isList (λh' kp=>?_) (by simp only[qF]<;>lia);have I1:Inv X XL L H {s with heap:=h'}:=I.kept (t':=s.toks) kp;have I2:Inv X XL L (upd H h'.objs.size (.tup ys)) {s with heap:=h'.push {cls:=.type "tuple",data:=.seq its.toArray} } :=
   I1.laid (t':=s.toks) (λb o e=>qv _ e) (qx _) (show dA X.prog X.w _ _ _ (.tup ys) from#[hz,its,r',YF _ _])
  exact#[.ref h'.objs.size,_,I2,(),q _ (I1.hok.fresh (qx _))]
 .obtain⟨its,r',pl,hz⟩:=I.tuple hq;exact call_tuple_same pl #[.ref p,H,I,(),q]
def tyV (K:aJ) (T:String) (x:V) (H:Hp):Prop:=match x with
 |.str _=>T="str"
 |.int _=>T="int"
 |.ref p=>(T="list"/\∃xs,SqL K H p xs)\/(T="tuple"/\∃o,K.lookup p=U o/\o.cls=.type "tuple"/\o.dict=B) \/
   (T="dict"/\((∃kvs,H p=U (.dK kvs))\/∃kvs,H p=U (.dT kvs)))\/(T="set"/\∃S n,H p=U (.set S n))
 |_=>False
def RF {x:V} {v:au} (I:Inv X XL L H s) (r:bz x v) (ty:tyV X.K T x H) :
  s.TypeIs v T/\∀a,v=.ref a->∃ob,s.heap.get? a=U ob/\ob.dict=B:=by
 cases x with
 |str z=>
  obtain⟨t,rfl⟩:=r;cases(show T="str" from ty);exact#[ox s z t,λ_ e=>nomatch e]
 |int i=>
  obtain⟨t,rfl⟩:=r;cases(show T="int" from ty);exact#[MA s i t,λ_ e=>nomatch e]
 |ref p=>
  cases r;rcases ty with⟨rfl,xs,hq⟩|⟨rfl,o,hk,hc,hd⟩|⟨rfl,hk⟩|⟨rfl,S,n,hk⟩
  .obtain⟨its,_,pl,_⟩:=I.list hq;refine#[pl.isList.typeIs,λa e=>?_];cases e;obtain⟨o,n,e,c,hd,_⟩:=pl;exact#[o,e,hd]
  .refine#[#[o,I.kIn p o hk,hc],λa e=>?_];cases e;exact#[o,I.kIn _ o hk,hd]
  .have z:∃o,s.heap.get? p=U o/\o.ExactDict:=by
    rcases hk with⟨kvs,hk⟩|⟨kvs,hk⟩
    .obtain⟨_,_,_,_,o,_,_,e,ex,_⟩:=I.hok p _ hk;exact#[o,e,ex]
    .obtain⟨_,_,_,_,o,_,_,e,ex,_⟩:=I.hok p _ hk;exact#[o,e,ex]
   obtain⟨o,e,ex⟩:=z;refine#[#[o,e,ex.1],λa e2=>?_];cases e2;exact#[o,e,ex.2.1]
  .obtain⟨o,_,_,_,e,ex,_⟩:=I.hok p _ hk;refine#[#[o,e,ex.1],λa e2=>?_];cases e2;exact#[o,e,ex.2.1]
 |_=>exact gw ty
def tBM (K:aJ) (T:String) (r:V->Z V->Hp->VK->Prop) (to:TE) (t:TA):TE:=λL H Q=>to L H λx H1=>tyV K T x H1/\t L H1 λxs H2=>r x xs H2 Q
variable {to:TE} {t:TA} {id:String} {r:V->Z V->Hp->VK->Prop}
def sW (pa:PlainAttrs T) (slot:Slot T name id) (hty:xP (.builtin id)=pure (.type "method_descriptor")) (hm:MtR X id r) (ho:PE X o to) (ha:PA X (e::es) t)
  (hbase:i8 o name X.env (eval o X.env)=eval o X.env:=by rfl)
  (hfew:((bX cpos (aK (e::es) X.env)).all (λx=>!x.1) && (kf cpos (kh [] X.env)).all (λx=>x.1.isSome)
   && decide ((e::es).length+([]:Z i9).length+(if ([]:Z i9).isEmpty then 0 else 1)<30))=ah:=by rfl)
  (hline:(apos.endLine==cpos.line)=ah:=by rfl) (hs:aK (e::es) X.env=(ao,eval e X.env)::aK es X.env:=by rfl) (hplain:(bX cpos (aK es X.env)).any (·.1)=ao:=by rfl) :
  PE X (.Call (.Attribute o name apos) (e::es) [] cpos) (tBM X.K T r to t):=by
 intro XL s L H Q I h;refine wpAny_Call_method_late hbase hfew hline () (thE (ho XL s L H _ I h) λv s1 x H1 I1 r1 ζ=>?_);obtain⟨ty,q1⟩:=ζ;obtain⟨h1,h2⟩:=RF I1 r1 ty;refine#[T,id,pa,slot,hty,h1,h2,?_];have hA:=ha cpos XL s1 L H1 _ I1 q1;rw[hs] at hA ⊢;refine Calls.callWith_builtin (by show(ao || (bX cpos (aK es X.env)).any (·.1))=ao;rw[hplain]<;>rfl) (MB ?_);exact thA hA λus s2 vs H2 I2 r2 q2=>hm XL s2 L H2 x vs v us Q I2 r1 r2 q2
end
def MtM (X:Cx) (id:String) (r:V->Z V->Hp->VK->Prop):Prop:=
 ∀(XL:Z (ar×bo)) (s:aF) (L:St) (H:Hp) (x:V) (xs:Z V) (v:au) (us:Z au) (Q:VK),Inv X XL L H s->bz x v->bq xs us->r x xs H Q->
  aM (aL X.prog X.w) X.A (call (.builtin id) (v::us)) (EP X XL L Q) X.xe s
def bq.one {x:V} {us:Z au} (r:bq [x] us):∃u,us=[u]/\bz x u:=by cases r with|cons r t=>cases t;exact#[_,(),r]
def bq.reverse {xs:Z V} {us:Z au} (h:bq xs us):bq xs.reverse us.reverse:=by
 induction h with
 |nil=>exact .nil
 |cons r t ih=>rw[Db,Db];exact bq.append ih (.cons r .nil)
theorem bq.rep {xs:Z V} {us:Z au} (h:bq xs us):∀k:J,bq (bB k xs).flatten (bB k us).flatten
 |0=>.nil
 |k+1=>by rw[mK,mK,rJ,rJ];exact bq.append h (bq.rep h k)
theorem Lk (its:Z au):∀(k:J) (acc:Z au),
  MC (λx1 x2=>x1++x2) acc.toArray (bB k its.toArray)=(acc++(bB k its).flatten).toArray
 |0,acc=>by simp
 |k+1,acc=>by
  have e:acc.toArray++its.toArray=(acc++its).toArray:=by simp
  have e2:(acc++its)++(bB k its).flatten=acc++(bB (k+1) its).flatten:=by rw[mK,rJ,qy]
  rw[<-e2,<-Lk its k (acc++its),<-e,mK,kj]
variable {l:ar}
section
variable {b:ar} {xs ys zs:Z V}
def Inv.lset {f:cg au->cg au} (I:Inv X XL L H s) (hH:H l=U (.lst xs))
  (e:s.heap.get? l=U {cls:=.type "list",data:=.seq its.toArray n}) (hf:f its.toArray=its'.toArray) (hv:bq ys its') (hz:ys.length<=aH) :
  Inv X XL L (upd H l (.lst ys)) {s with heap:=s.heap.update l (xO f),toks:=t'}:=by
 have q:=PySem.IsL.update e f;rw[hf] at q;refine I.write (x:=l) (e:=l) (by rw[hH];exact trivial) (.inl ()) (λb' u hb hu=>(YH s.heap (xO f) (dU hb)).trans hu) #[_,q] ?_;exact#[hz,its',_,hv,q]
def Inv.lnew (I:Inv X XL L H s) (hv:bq ys its) (hz:ys.length<=aH) :
  Inv X XL L (upd H s.heap.objs.size (.lst ys)) {s with heap:=s.heap.push {cls:=.type "list",data:=.seq its.toArray},toks:=t'} :=
 I.laid (λ_ _ q=>qv _ q) (qx _) #[hz,its,0,hv,qJ _ ()]
def Inv.fresh (I:Inv X XL L H s):H s.heap.objs.size=B:=I.hok.fresh (qx _)
def Inv.lstM (I:Inv X XL L H s) (hH:H l=U (.lst xs)):xs.length<=aH/\∃(its:Z au) (n:J),bq xs its/\xs.length=its.length/\s.heap.get? l=U {cls:=.type "list",data:=.seq its.toArray n}:=by obtain⟨z,its,n,r,e⟩:=I.hok l _ hH;exact#[z,its,n,r,r.length,e]
def EA (h:n<=aH):Dc n=ao:=by unfold Dc;exact qQ .(b)
end
def SB:V->Z V->Hp->VK->Prop:=λx vs H Q=>∃l xs y,x=.ref l/\vs=[y]/\H l=U (.lst xs)/\xs.length<aH/\Q .non (upd H l (.lst (xs++[y])))
def Bi:MtM X "list.append" SB:=by intro XL s L H x vs v us Q I rx rv h;obtain⟨l,xs,y,rfl,rfl,hH,hz,q⟩:=h;cases rx;obtain⟨u,rfl,ru⟩:=rv.one;obtain⟨z,its,n,r,hl,e⟩:=I.lstM hH;refine rK MD #[_,e,()] F.entry_list_append (F.args_list_append_2 _ _) (PySem.list_append l its.toArray n u (by rw[qF];lia)) #[e,?_];refine#[.non,_,I.lset (its':=its++[u]) hH e (by simp) (r.append (.cons ru .nil)) ?_,rfl,q];rw[qk,qY];lia
def V3:V->Z V->Hp->VK->Prop:=λx vs H Q=>∃l b xs zs,x=.ref l/\vs=[.ref b]/\H l=U (.lst xs)/\H b=U (.lst zs)/\xs.length+zs.length<=aH/\Q .non (upd H l (.lst (xs++zs)))
def P6:MtM X "list.extend" V3:=by
 intro XL s L H x vs v us Q I rx rv h;obtain⟨l,b,xs,zs,rfl,rfl,hH,hB,hz,q⟩:=h;cases rx;obtain⟨u,rfl,ru⟩:=rv.one;cases ru;obtain⟨z,its,n,r,hl,e⟩:=I.lstM hH;obtain⟨z2,its2,n2,r2,hl2,e2⟩:=I.lstM hB;have hsz:its.toArray.size+its2.toArray.size<=aH:=by rw[qF,qF];lia
 have hlong:¬(!its.toArray.isEmpty && Dc (its.toArray.size+its2.toArray.size))=ah:=by rw[EA hsz,YL];exact qu
 refine rK YM #[_,e,()] F.entry_list_extend (F.args_list_extend_2 _ _)
  (AutoSeq1.list_extend_list_list_0 l its.toArray n b its2.toArray n2 hlong (by rw[qF];lia) .(b)) #[e,e2,?_]
 refine#[.non,_,I.lset (its':=its++its2) hH e (by simp) (r.append r2) ?_,rfl,q];rw[qk];lia
def Cf:R2:=λx y H Q=>∃l b xs zs,x=.ref l/\y=.ref b/\H l=U (.lst xs)/\H b=U (.lst zs)/\xs.length+zs.length<=aH/\∀p,H p=B->Q (.ref p) (upd H p (.lst (xs++zs)))
def QM:OpR X (gK .Add) Cf:=by
 intro XL s L H x y v u Q I rx ry h;obtain⟨l,b,xs,zs,rfl,rfl,hH,hB,hz,q⟩:=h;cases rx;cases ry;obtain⟨z,its,n,r,hl,e⟩:=I.lstM hH;obtain⟨z2,its2,n2,r2,hl2,e2⟩:=I.lstM hB;refine PySem.P.add_list e e2 ?_ (by rw[qF,qF];lia);have ea:its.toArray++its2.toArray=(its++its2).toArray:=by simp
 rw[ea];exact#[.ref _,_,I.lnew (t':=s.toks) (r.append r2) (by rw[qk];lia),(),q _ I.fresh]
def Gf:R2:=λx y H Q=>∃l k xs,x=.ref l/\y=.int k/\H l=U (.lst xs) /\ -(2 ^ 63)<=k/\k<2 ^ 63/\xs.length*k.toNat<=aH /\
 ∀p,H p=B->Q (.ref p) (upd H p (.lst (bB k.toNat xs).flatten))
def FD (xs:Z α) (k:J):(bB k xs).flatten.length=k*xs.length:=by
 induction k with
 |zero=>simp
 |succ k ih=>rw[mK,rJ,qk,ih,ME,xQ]
def QI:OpR X (gK .Mult) Gf:=by
 intro XL s L H x y v u Q I rx ry h;obtain⟨l,k,xs,rfl,rfl,hH,h1,h2,hz,q⟩:=h;cases rx;obtain⟨t,rfl⟩:=ry;obtain⟨z,its,n,r,hl,e⟩:=I.lstM hH;have hlen:its.toArray.size*k.toNat<=aH:=by rw[qF,<-hl];exact hz
 have hcap:¬its.toArray.size*k.toNat > (2 ^ 63-1) / 8:=by
  have:(aH:J)<=(2 ^ 63-1) / 8:=by decide
  lia
 have hfit:¬(!xaL k)=ah:=by rw[fitsIndex_both h1 h2];exact qu
 have hlong:¬Dc (its.toArray.size*k.toNat)=ah:=by rw[EA hlen];exact qu
 have hnew:MC (λx1 x2=>x1++x2) #[] (bB (if its.toArray.isEmpty=ah then 0 else k.toNat) its.toArray)=(bB k.toNat its).flatten.toArray:=by
  have f0:∀m:J,MC (λx1 x2=>x1++x2) #[] (bB m its.toArray)=(bB m its).flatten.toArray:=λm=>by have:=Lk its m [];rw[qU] at this;exact this
  rw[f0];cases its with
  |nil=>simp
  |cons a r'=>rw[xa (by simp)]
 refine wpAny_binaryOp_repeat_ref (T:="list") (U:="int") .(a) #[_,e,()] (λs'=>MA s' k t) noFill_list_mul F.fills_int_mul YN repeat_list F.slot_int_index.lookup
  (rK YN (MA s k t) F.entry_int_rmul (F.args_int_rmul_2 _ _) (int___rmul___int_list k t l its.toArray n)
   #[e,(),#[_,e,()],rK F.slot_list_mul #[_,e,()] F.entry_list_mul (F.args_list_mul_2 _ _) (AutoListH.list___mul___list_int_3 l its.toArray n k t hfit hcap hlong) #[e,?_]])
 rw[hnew];exact#[.ref _,_,I.lnew (t':=s.toks) (r.rep k.toNat) (by rw[FD,MF];exact hz),(),q _ I.fresh]
section
variable [eS κ]
noncomputable def gI (kvs:Z (κ×V)) (k:κ):ak V:=(kvs.find? λkv=>decide (kv.1=k)).map (·.2)
noncomputable def dy (kvs:Z (κ×V)) (k:κ) (v:V):Z (κ×V):=
 if (kvs.any λkv=>decide (kv.1=k))=ah then kvs.map (λkv=>if kv.1=k then (kv.1,v) else kv) else kvs++[(k,v)]
def vX {p:κ×V} {r:Z (κ×V)} {k:κ} (e:p.1=k):gI (p::r) k=U p.2:=by simp[gI,lr,e]
def uT {p:κ×V} {r:Z (κ×V)} {k:κ} (e:¬p.1=k):gI (p::r) k=gI r k:=by simp[gI,lr,e]
theorem Iu (k:κ):∀kvs:Z (κ×V),(kvs.any λkv=>decide (kv.1=k))=(gI kvs k).isSome
 |[]=>rfl
 |p::r=>by
  rw[rL];by_cases e:p.1=k
  .simp only[vX e,qV e,Bool.true_or,Option.isSome_some]
  .rw[uT e,qQ e,Bool.false_or];exact Iu k r
def BM (kvs:Z (κ×V)) (k:κ) (v:V):(dy kvs k v).length<=kvs.length+1:=by
 unfold dy;split
 .rw[qe];lia
 .rw[qk,qh,qm];lia
def gb.isSome_eq {o:ak V} {u:ak au} (r:gb o u):o.isSome=u.isSome:=by
 cases o with
 |none=>cases u with
  |none=>rfl
  |some _=>exact(show False from r).elim
 |some _=>cases u with
  |none=>exact(show False from r).elim
  |some _=>rfl
def KV.val {kvs:Z (κ×V)} {vs:Z (κ×au)} (r:KV kvs vs) (k:κ):gb (gI kvs k) (rN vs k):=by
 unfold KV at r
 induction r with
 |nil=>exact iz
 | @cons p q ps qs h t ih=>
  obtain⟨h1,h2⟩:=h;by_cases e:p.1=k
  .have e':q.1=k:=h1.symm.trans e;have b:rN (q::qs) k=U q.2:=by simp[rN,lr,e']
   rw[vX e,b];exact h2
  .have e':¬q.1=k:=λz=>e (h1.trans z);have b:rN (q::qs) k=rN qs k:=by simp[rN,lr,e']
   rw[uT e,b];exact ih
def KV.any {kvs:Z (κ×V)} {vs:Z (κ×au)} (r:KV kvs vs) (k:κ):(kvs.any λkv=>decide (kv.1=k))=vs.any λkv=>decide (kv.1=k):=by
 unfold KV at r
 induction r with
 |nil=>rfl
 |cons h t ih=>rw[rL,rL,ih,h.1]
def KV.repl {kvs:Z (κ×V)} {vs:Z (κ×au)} (r:KV kvs vs) (k:κ) {y:V} (ry:bz y u) :
  KV (kvs.map λkv=>if kv.1=k then (kv.1,y) else kv) (vs.map λkv=>if kv.1=k then (kv.1,u) else kv):=by
 unfold KV at r ⊢
 induction r with
 |nil=>exact .nil
 | @cons p q ps qs h t ih=>
  rw[qp,qp];refine .cons ?_ ih;obtain⟨h1,h2⟩:=h;by_cases e:p.1=k
  .rw[qZ e,qZ (h1.symm.trans e)];exact#[h1,ry]
  .rw[xa e,xa (λz=>e (h1.trans z))];exact#[h1,h2]
def KV.put {kvs:Z (κ×V)} {vs:Z (κ×au)} (r:KV kvs vs) (k:κ) {y:V} (ry:bz y u):KV (dy kvs k y) (stored vs k u):=by
 unfold dy stored;rw[r.any k];by_cases e:(vs.any λkv=>decide (kv.1=k))=ah
 .rw[qZ e,qZ e];exact r.repl k ry
 .rw[xa e,xa e];exact Paired.snoc r #[(),ry]
def KV.length {kvs:Z (κ×V)} {vs:Z (κ×au)} (r:KV kvs vs):kvs.length=vs.length:=Paired.length r
end
def nr {k:Key} (r:bz (kV k) u):(dJ P w).is k u=ah:=by
 cases k with
 |inl i=>obtain⟨t,e⟩:=(show ∃t,u=xA i t from r);subst e;exact Uy P w i t
 |inr x=>obtain⟨t,e⟩:=(show ∃t,u=xB x t from r);subst e;exact Wg P w x t
theorem Ka {P:b7} {w:bU}:∀{ks:Z Key} {us:Z au},bq (ks.map kV) us->ItemsAre (dJ P w) ks us
 |[],_,r=>by rw[qR] at r;cases r;exact .nil
 |k::ks,_,r=>by
  rw[qp] at r;cases r with
  |cons h t=>exact .cons (nr h) (Ka t)
abbrev KT (H:Hp):Z (Z Key×V)->Z (Z Key×ar×au)->Prop:=Paired λp q=>p.1=q.1/\H q.2.1=U (.tup (p.1.map kV))/\bz p.2 q.2.2
variable {kvs:Z (Z Key×V)}
def KT.val {xs:Z (Z Key×ar×au)} (r:KT H kvs xs) (k:Z Key):gb (gI kvs k) ((mL xs k).map (·.2)):=by
 induction r with
 |nil=>exact iz
 | @cons p q ps qs h t ih=>
  obtain⟨h1,_,h2⟩:=h;by_cases e:p.1=k
  .have e':q.1=k:=h1.symm.trans e;have b:mL (q::qs) k=U q.2:=by simp[mL,lr,e']
   rw[vX e,b];exact h2
  .have e':¬q.1=k:=λz=>e (h1.trans z);have b:mL (q::qs) k=mL qs k:=by simp[mL,lr,e']
   rw[uT e,b];exact ih
def KT.repl {xs:Z (Z Key×ar×au)} (r:KT H kvs xs) (k:Z Key) {y:V} (ry:bz y u) :
  KT H (kvs.map λkv=>if kv.1=k then (kv.1,y) else kv) (xs.map (putAt k u)):=by
 induction r with
 |nil=>exact .nil
 | @cons p q ps qs h t ih=>
  rw[qp,qp];refine .cons ?_ ih;obtain⟨h1,h2,h3⟩:=h;unfold putAt;by_cases e:p.1=k
  .rw[qZ e,qZ (h1.symm.trans e)];exact#[h1,h2,ry]
  .rw[xa e,xa (λz=>e (h1.trans z))];exact#[h1,h2,h3]
def KT.put {xs:Z (Z Key×ar×au)} (r:KT H kvs xs) (k:Z Key) {b:ar} {y:V} (hb:H b=U (.tup (k.map kV))) (ry:bz y u) :
  KT H (dy kvs k y) (storedH xs k b u):=by
 have e:(kvs.any λkv=>decide (kv.1=k))=(mL xs k).isSome:=by rw[Iu,(r.val k).isSome_eq,YO]
 unfold dy storedH;rw[e];by_cases q:(mL xs k).isSome=ah
 .rw[qZ q,qZ q];exact r.repl k ry
 .rw[xa q,xa q];exact Paired.snoc r #[(),hb,ry]
def KT.keeps {xs:Z (Z Key×ar×au)} (r:KT H kvs xs) (ht:∀b ys,H b=U (.tup ys)->H' b=U (.tup ys)):KT H' kvs xs:=
 Paired.mapP r λ_ _ z=>#[z.1,ht _ _ z.2.1,z.2.2]
def Jz {u:HO} (ok:HOk P w H h) (e:Rd H a u):dA P w H h a u:=e.ok ok
def wB {kvs:Z (Key×V)} (ok:HOk P w H h) (e:Rd H a (.dK kvs)):kvs.length<=aH/\(a==mB)=ao/\∃vs,KV kvs vs/\h.DictOf (dJ P w) a vs:=
 show dA P w H h a (.dK kvs) from Jz ok e
def Hv {kvs:Z (Key×V)} (ok:HOk P w H h) (e:H a=U (.dK kvs)):kvs.length<=aH/\(a==mB)=ao/\∃vs,KV kvs vs/\h.DictOf (dJ P w) a vs:=wB ok (.inl e)
def oK {ks:Z Key} (ok:HOk P w H h) (e:H a=U (.tup (ks.map kV))):(rh (dJ P w)).is h ks a:=by obtain⟨_,its,r,o,h1,h2,n,h3⟩:=(show dA P w H h a (.tup (ks.map kV)) from ok a _ e);exact#[o,its.toArray,n,h1,h2,h3,by simpa using Ka r]
def wR (ok:HOk P w H h) (e:Rd H a (.dT kvs)):kvs.length<=aH/\(a==mB)=ao /\
  ∃xs,KT H kvs xs/\h.DictOfH (rh (dJ P w)) a xs:=by
 obtain⟨z,y,xs,r,o,es,ep,h1,h2,h3,h4,h5⟩:=(show dA P w H h a (.dT kvs) from Jz ok e);refine#[z,y,xs,r,o,es,ep,h1,h2,h3,h4,λx hx=>?_,h5];have all:∀{l:Z (Z Key×V)} {m:Z (Z Key×ar×au)},KT H l m->∀x∈m,(rh (dJ P w)).is h x.1 x.2.1:=by
  intro l m q
  induction q with
  |nil=>intro x hx;exact nomatch hx
  | @cons p q ps qs hq t ih=>
   intro x hx;rcases eC.mp hx with e|hx
   .subst e;exact oK ok (by rw[<-hq.1];exact hq.2.1)
   .exact ih x hx
 exact all r x hx
def W4 (ok:HOk P w H h) (e:H a=U (.dT kvs)):kvs.length<=aH/\(a==mB)=ao /\
  ∃xs,KT H kvs xs/\h.DictOfH (rh (dJ P w)) a xs:=wR ok (.inl e)
def iI (H:Hp) (a:ar) (y:V) (r:ak V):Prop:=
 (∃kvs k,Rd H a (.dK kvs)/\y=kV k/\r=gI kvs k)\/∃kvs k b,Rd H a (.dT kvs)/\y=.ref b/\H b=U (.tup (k.map kV))/\r=gI kvs k
def sX (H:Hp) (a:ar) (y v:V) (H':Hp):Prop:=
 (∃kvs k,H a=U (.dK kvs)/\y=kV k/\kvs.length<aH/\H'=upd H a (.dK (dy kvs k v))) \/
 ∃kvs k b,H a=U (.dT kvs)/\y=.ref b/\H b=U (.tup (k.map kV))/\kvs.length<aH/\H'=upd H a (.dT (dy kvs k v))
def iI.k {kvs:Z (Key×V)} {k:Key} (e:H a=U (.dK kvs)):iI H a (kV k) (gI kvs k):=.inl #[kvs,k,.inl e,(),()]
def iI.t {b:ar} {k:Z Key} (e:H a=U (.dT kvs)) (eb:H b=U (.tup (k.map kV))):iI H a (.ref b) (gI kvs k):=.inr #[kvs,k,b,.inl e,(),eb,()]
def sX.k {kvs:Z (Key×V)} {k:Key} (e:H a=U (.dK kvs)) (hl:kvs.length<aH):sX H a (kV k) v (upd H a (.dK (dy kvs k v))):=.inl #[kvs,k,e,(),hl,()]
section
variable {y:V} {r:au} {o:ak V}
def Inv.big (I:Inv X XL L H s):mB<s.heap.objs.size:=by have h:dD<s.heap.objs.size:=(I.mod.glob.keeps I.bk).lt;exact uB .(a) h
def Tg (hu:A.units+1<c5) (I:Inv X XL L H s) (g:iI H a y (U v)) (ry:bz y u) (h:∀w' s',Inv X XL L H s'->bz v w'->Q w' s') :
  aM (aL X.prog X.w) A (ou (.ref a) u) Q E s:=by
 rcases g with⟨kvs,k,e,ey,l⟩|⟨kvs,k,b,e,ey,eb,l⟩
 .subst ey;obtain⟨z,hd,vs,rel,dd⟩:=wB I.hok e;obtain⟨w',hw,rw'⟩:=gb.some_of (v:=v) (o:=rN vs k) (by rw[l];exact rel.val k);exact wpAny_getItem_of (nr ry) dd.mapOf hw (h w' _ (I.tok _) rw')
 .subst ey;cases(show u=cJ b from ry);obtain⟨z,hd,xs,rel,dd⟩:=wR I.hok e;obtain⟨w',hw,rw'⟩:=gb.some_of (v:=v) (o:=(mL xs k).map (·.2)) (by rw[l];exact rel.val k);obtain⟨p,hp,hp2⟩:=oMd hw;refine wpAny_getItem_heap (MG hu) (oK I.hok eb) dd hp ?_;rw[hp2];exact h w' _ (I.tok _) rw'
def UH (hu:A.units+1<c5) (I:Inv X XL L H s) (g:iI H a y o) (ry:bz y u) (h:∀s',Inv X XL L H s'->Q (.bool (!o.isSome)) s') :
  aM (aL X.prog X.w) A (dP .NotIn u (.ref a)) Q E s:=by
 rcases g with⟨kvs,k,e,ey,l⟩|⟨kvs,k,b,e,ey,eb,l⟩
 .subst ey;obtain⟨z,hd,vs,rel,dd⟩:=wB I.hok e;refine wpAny_notIn_of (nr ry) hd dd.mapOf ?_;rw[<-(rel.val k).isSome_eq,<-l];exact h _ (I.tok _)
 .subst ey;cases(show u=cJ b from ry);obtain⟨z,hd,xs,rel,dd⟩:=wR I.hok e;refine wpAny_notIn_heap (MG hu) (oK I.hok eb) hd dd ?_;have q:=(rel.val k).isSome_eq;rw[YO] at q;rw[<-q,<-l];exact h _ (I.tok _)
def zV {ob:HO} (I:Inv X XL L H s) (mu:Mut (H a)) (hs:iY a s.heap h') (he:∃q,h'.get? a=U q) (new:dA X.prog X.w (upd H a ob) h' a ob) :
  Inv X XL L (upd H a ob) {s with heap:=h',toks:=t'} :=
 I.write (x:=a) (e:=a) mu (.inl ()) (λb q hb z=>(hs.2 b hb).trans z) he new
def Lg {kvs:Z (Key×V)} {vs:Z (Key×au)} (z:kvs.length<=aH) (hd:(a==mB)=ao) (rel:KV kvs vs) (dd:h'.DictOf (dJ P w) a vs) :
  dA P w H' h' a (.dK kvs):=#[z,hd,vs,rel,dd]
def RC {Q:li->aF->Prop} (hu:A.units+1<c5) (I:Inv X XL L H s) (g:sX H a y v H') (ry:bz y u) (rv:bz v r) (h:∀s',Inv X XL L H' s'->Q .unit s') :
  aM (aL X.prog X.w) A (setItem (.ref a) u r) Q E s:=by
 rcases g with⟨kvs,k,e,ey,l,eH⟩|⟨kvs,k,b,e,ey,eb,l,eH⟩
 .subst ey eH;obtain⟨z,hd,vs,rel,dd⟩:=Hv I.hok e;have hz:vs.length<=aH:=by rw[<-rel.length];exact z
  have hl:(dy kvs k v).length<=aH:=by have:=BM kvs k v;lia
  refine wpAny_setItem_pairs (hsz:=hz) (nr ry) dd λh' dd' hs=>h _ ?_;have he:∃q,h'.get? a=U q:=by obtain⟨q,_,_,hq,_⟩:=dd';exact#[q,hq]
  exact zV I (by rw[e];exact iz) hs he (Lg hl hd (rel.put k rv) dd')
 .subst ey eH;cases(show u=cJ b from ry);obtain⟨z,hd,xs,rel,dd⟩:=W4 I.hok e;have hz:xs.length<=aH:=by rw[<-Paired.length rel];exact z
  have hl:(dy kvs k v).length<=aH:=by have:=BM kvs k v;lia
  refine wpAny_setItem_heap (hsz:=hz) (MG hu) (oK I.hok eb) dd λh' dd' hs=>h _ ?_;obtain⟨q,es,ep,hq,h2,h3,h4,_,h5⟩:=dd';refine zV I (by rw[e];exact iz) hs #[q,hq] #[hl,hd,_,(rel.put k eb rv).keeps λc ys ec=>?_,q,es,ep,hq,h2,h3,h4,h5];rw[aW (zz ec e (fun z=>nomatch z))];exact ec
end
def Ao (i:Expr):Prop:=∀ov iv,Da i ao ov iv=operate [ov,iv] (ou ov iv)
def P9 {slice:Expr} {id:String} 
  (hl:C8 (.type T) "__getitem__"=pure (U (.builtin id))) (hs:Ao slice)
  (h:aM (aL prog w) A (eval value env) (λo dl=>aM (aL prog w) A (eval slice env) (λi s₂=>s₂.TypeIs o T/\aM (aL prog w) A (ou o i) Q E s₂) E dl) E s) :
  aM (aL prog w) A (eval (.Subscript value slice pos) env) Q E s:=by
 refine C9 (fj h (λo dl h₁=>fj h₁ (λi s₂ h₂=>?_) λ_ _ x=>x) λ_ _ x=>x);obtain⟨hT,h₂⟩:=h₂;unfold Mv;refine qA ?_;rw[getitemInPython_of_ne hT.not_modules];refine qA (YQ hT hl ?_);have fin:aM (aL prog w) A (Da slice ao o i) (λr s₃=>aM (aL prog w) A (letTemporaryGo value o r >>= λ_=>pure r) Q E s₃) E s₂:=by rw[hs o i];exact wpAny_operating (fj h₂ (λr s₃ h₃=>qA (wpAny_letTemporaryGo (qE h₃))) λ_ _ x=>x)
 first
  |exact qE (qA fin)
  |exact qA (qE (qA fin))
  |exact qA fin
def SX {y:V} {o:ak V} (I:Inv X XL L H s) (g:iI H a y o):s.TypeIs (.ref a) "dict":=by
 rcases g with⟨kvs,k,e,_,_⟩|⟨kvs,k,b,e,_,_,_⟩
 .obtain⟨_,_,vs,_,dd⟩:=wB I.hok e;exact dd.typeIs
 .obtain⟨_,_,xs,_,dd⟩:=wR I.hok e;exact dd.typeIs
def T2 (td ty:TE):TE:=λL H Q=>td L H λx H1=>ty L H1 λy H2=>∃a v,x=.ref a/\iI H2 a y (U v)/\Q v H2
def Uq (td ty tv:TE):TS:=λD L H=>tv L H λv H1=>td L H1 λx H2=>ty L H2 λy H3=>∃a H4,x=.ref a/\sX H3 a y v H4/\D.nx L H4
section
variable {i:Expr} {td ty:TE}
def PH (hu:X.A.units+1<c5) (ho:PE X o td) (hi:PE X i ty) (hs:Ao i):PE X (.Subscript o i pos) (T2 td ty):=by intro XL s L H Q I h;refine P9 PySem.F.slot_dict_getitem.lookup hs (thE (ho XL s L H _ I h) λu s1 x H1 I1 rx q1=>thE (hi XL s1 L H1 _ I1 q1) λiv s2 y H2 I2 ry ζ=>?_);obtain⟨a,v,ex,g,q2⟩:=ζ;subst ex;obtain rfl:u=cJ a:=rx;exact#[SX I2 g,Tg hu I2 g ry λw' s3 I3 rw'=>#[v,H2,I3,rw',q2]]
def OE (hu:X.A.units+1<c5) (ho:PE X o td) (hi:PE X i ty) (hv:PE X value tv) (hs:eD value (U (.Subscript o i pos')) pos.line X.env=pure ao) :
  PS X (.Assign [.Subscript o i pos'] value pos) (Uq td ty tv):=by
 intro XL s L H D I h;refine wpAny_Assign_Subscript (thE (hv XL s L H _ I h) λr s1 v H1 I1 rv q1=>thE (ho XL s1 L H1 _ I1 q1) λu s2 x H2 I2 rx q2=>thE (hi XL s2 L H2 _ I2 q2) λiv s3 y H3 I3 ry ζ=>?_) hs;obtain⟨a,H4,ex,g,q3⟩:=ζ;subst ex;obtain rfl:u=cJ a:=rx;exact RC hu I3 g ry rv λs4 I4=>#[L,H4,I4,q3]
end
def JI (h:Heap) (hb:mB<h.objs.size):dA P w H (h.push {cls:=.type "dict",data:=.dict #[]}) h.objs.size (.dK []):=
 #[eA _,q0.mpr (dU (qG hb)),[],.nil,YR h]
def SY:TE:=λ_ H Q=>∀p,H p=B->Q (.ref p) (upd H p (.dK []))
def J8:PE X (.Dict [] [] pos) SY:=λXL s L H Q I h=>
 wpAny_Dict_empty #[.ref s.heap.objs.size,_,I.laid (a:=s.heap.objs.size) (o:=.dK []) (t':=s.toks) (λ_ _ q=>qv _ q) (qx _) (JI s.heap I.big),(),h _ (I.hok.fresh (qx _))]
def wG:Z (TE×TE)->St->Hp->(Z (V×V)->Hp->Prop)->Prop
 |[],_,H,Q=>Q [] H
 |(tk,tv)::r,L,H,Q=>tk L H λx H1=>tv L H1 λy H2=>wG r L H2 λps H3=>Q ((x,y)::ps) H3
abbrev VV:Z (V×V)->Z (au×au)->Prop:=Paired λp q=>bz p.1 q.1/\bz p.2 q.2
def PPs (X:Cx) (pos:bV) (keys:Z (ak Expr)) (values:Z Expr) (trs:Z (TE×TE)):Prop:=
 ∀(XL:Z (ar×bo)) (s:aF) (L:St) (H:Hp) (Q:Z (V×V)->Hp->Prop),Inv X XL L H s->wG trs L H Q->
  aM (aL X.prog X.w) X.A (evalPairs (pairTrees keys values X.env pos)) (λvs s'=>∃ps H',Inv X XL L H' s'/\VV ps vs/\Q ps H') X.xe s
def J9 :PPs X pos [] [] []:=λXL s L H Q I h=>pairTrees_nil_walk #[[],H,I,.nil,h]
variable {trs:Z (TE×TE)}
def GZ {k v:Expr} {ks:Z (ak Expr)} {vs:Z Expr} {tk:TE} (hk:PE X k tk) (hv:PE X v tv) (hr:PPs X pos ks vs trs) :
  PPs X pos (U k::ks) (v::vs) ((tk,tv)::trs):=λXL s L H Q I h=>
 pairTrees_cons_walk (thE (hk XL s L H _ I h) λu s1 x H1 I1 rx q1=>thE (hv XL s1 L H1 _ I1 q1) λw2 s2 y H2 I2 ry q2=>
  thn (hr XL s2 L H2 _ I2 q2) λws s3 #[ps,H3,I3,rel,q3]=>#[(x,y)::ps,H3,I3,.cons #[rx,ry] rel,q3])
def iL (kvs more:Z (Key×V)):Z (Key×V):=more.foldl (λacc kv=>dy acc kv.1 kv.2) kvs
def KV.merge:∀{more:Z (Key×V)} {rs:Z (Key×au)} {kvs:Z (Key×V)} {vs:Z (Key×au)},KV more rs->KV kvs vs->KV (iL kvs more) (merged vs rs):=by
 intro more rs kvs vs r;unfold KV at r
 induction r generalizing kvs vs with
 |nil=>intro q;exact q
 | @cons p q ps qs h t ih=>
  intro r0;have e:KV (dy kvs p.1 p.2) (stored vs q.1 q.2):=by have:=r0.put p.1 h.2;rw[<-h.1];exact this
  exact ih e
theorem Lo:∀(more kvs:Z (Key×V)),(iL kvs more).length<=kvs.length+more.length
 |[],kvs=>by show kvs.length<=kvs.length+0;lia
 |p::r,kvs=>by have h1:=Lo r (dy kvs p.1 p.2);have h2:=BM kvs p.1 p.2;show(iL (dy kvs p.1 p.2) r).length<=_;rw[qh];lia
theorem Kn {P:b7} {w:bU}:∀{kvs:Z (Key×V)} {ws:Z (au×au)},VV (kvs.map λkv=>(kV kv.1,kv.2)) ws->∃rs,Carries (dJ P w) ws rs/\KV kvs rs
 |[],_,r=>by rw[qR] at r;cases r;exact#[[],iz,.nil]
 |p::kvs,_,r=>by
  rw[qp] at r;cases r with
  | @cons a b as bs h t=>
   obtain⟨rs,c,q⟩:=Kn (P:=P) (w:=w) t;obtain⟨b1,b2⟩:=b;exact#[(p.1,b2)::rs,#[nr h.1,(),c],.cons #[(),h.2] q]
def U3 (trs:Z (TE×TE)):TE:=λL H Q=>∀p,H p=B->wG trs L (upd H p (.dK [])) λps H2=>H2 p=U (.dK [])/\∃kvs:Z (Key×V),ps=kvs.map (λkv=>(kV kv.1,kv.2))/\kvs.length<=15/\Q (.ref p) (upd H2 p (.dK (iL [] kvs)))
variable {keys:Z (ak Expr)} {values:Z Expr}
def HE (h:PPs X pos keys values trs) (hall:keys.all (·.isSome)=ah) (hl:keys.length=values.length) (h0:keys≠[])
  (h15:keys.length<=15):PE X (.Dict keys values pos) (U3 trs):=by
 intro XL s L H Q I q;have hn:=I.hok.fresh (qx s.heap.objs.size);have I1:=I.laid (a:=s.heap.objs.size) (o:=.dK []) (h':=s.heap.push {cls:=.type "dict",data:=.dict #[]}) (t':=s.toks) (λ_ _ q=>qv _ q) (qx _) (JI s.heap I.big);refine wpAny_Dict_walk (knd:=dJ X.prog X.w) hall hl h0 h15 (thn (h XL _ L _ _ I1 (q _ hn)) λws s2 ζ=>?_);obtain⟨ps,H2,I2,rel,e,kvs,ep,lk,q2⟩:=ζ;subst ep;obtain⟨rs,c,rk⟩:=Kn (P:=X.prog) (w:=X.w) rel;obtain⟨z,hd,vs0,r0,dd⟩:=Hv I2.hok e;cases r0;refine#[rs,c,dd,λh' dd' hs=>#[.ref s.heap.objs.size,_,?_,(),q2]];have hz:(iL [] kvs).length<=aH:=by have h1:=Lo kvs [];rw[qm] at h1;rw[gL];lia
 have he:∃q,h'.get? s.heap.objs.size=U q:=by obtain⟨q,_,_,hq,_⟩:=dd';exact#[q,hq]
 exact zV I2 (by rw[e];exact iz) hs he (Lg hz hd (rk.merge .nil) dd')
variable {loose:Z af} {XP:(af->ak au)->Heap->Prop} {YP:bU->Heap->Prop}
namespace Att
open PySem PySem.W PySem.Calls PyProof.Rows
def U6 {P:Dd} :∀(ns:Z aj) (vs:Z au),WellAll P h vs (ns.map YS)->xR vs ns:=by
 intro ns
 induction ns with
 |nil=>
  intro vs w;rw[qR] at w;cases w;exact .nil
 |cons n ns ih=>
  intro vs w;rw[qp] at w;cases w with
  |cons a b=>
   cases a;exact .cons _ _ (ih _ b)
def Wh {l:OpenLaw} (hn:l.most=U n) {P:Dd} {args:Z WData} {vals:Z au} 
  (hpre:l.row.toRowW.claim.pre args=ah) (hwl:WellAll P h vals args) :
  ∃a vs ns,vals=[cJ a]/\args=[WData.list (ns.map YS)]/\h.get? a=U {cls:=.type "list",data:=.seq vs.toArray}/\xR vs ns/\ns.length<=n:=by
 have hsh:WShape.hasAll [] args [.list .int]=ah:=(pre_splitW hpre).1;have hc:l.pre.holds [] {args:=args}=ah:=(pre_splitW hpre).2;obtain⟨d,r,rfl,h1,h2⟩:=hasAllW_cons hsh;obtain rfl:=hasAllW_nil h2;obtain⟨xs,rfl,h3⟩:=hasW_list h1;obtain⟨ns,rfl⟩:=items_int h3;have hlen:ns.length<=n:=by
  unfold OpenLaw.pre at hc;have h4:(WTm.not (.lt (.lit (.int (n:aj))) (.len (.arg 0)))).holds [] {args:=[.list (ns.map .int)]}=ah:=by have h4:=(holds_andW hc).1;rw[hn] at h4;exact h4
  have h5:=condW_of h4 (w_not (w_lt w_lit (w_len_list (w_arg ()))));rw[qe] at h5;refine Nat.le_of_not_lt λq=>?_;have q':(n:aj)<((ns.length:J):aj):=by lia
  first
   |(rw[qV q'] at h5;exact ba h5 .(a))
   |(simp at h5;lia)
 cases hwl with
 |cons w1 w2=>
  cases w2;cases w1 with
  |list ho hall=>exact#[_,_,ns,(),(),ho,U6 ns _ hall,hlen]
def Ud (l:OpenLaw) (args:Z WData):l.row.toRowW.claim.post args (.bool ah) args=ah:=
 postW_of (r:=l.row.toRowW) (X:=(ah==ah))
  (show YT [] (.bool ah) .bool=ah by first|rfl|decide|simp[YT,WShape.arms,WShape.armsAll])
  (show(WTm.eq .res (.lit (.bool ah))).value [] {args:=args,res:=U (.bool ah),after:=args}=U (.bool (ah==ah)) from w_eq_bool (w_res ()) w_lit) ()
def attach_call {l:OpenLaw} {q:b7} {d:DefRec} 
  (hn:l.most=U n) (hdf:d.params.defaults=[])
  (call:∀(w:bU) (mt dl:aF) (mg mb:af->ak au) (fa:ar) (o:bo) (pm cd doc:au) (a:ar) (vs:Z au) (ns:Z aj),
   Ground q loose [] XP w mt mg mb dl.heap->YP w dl.heap->
   dl.heap.get? fa=U o->o.data=.func (docDef d.name d.params d.body d.scope pm cd doc)->dl.heap.CodeRec cd d.name->mg d.name=U (.ref fa)->
   dl.heap.get? a=U {cls:=.type "list",data:=.seq vs.toArray}->xR vs ns->ns.length<=n->dl.gens=#[]->
   hU (aL l.prog w) rO (.call (.ref fa) #[[.ref a],[]]) (fun r s'=>r=.ok (.ret (.bool ah))/\OldK dl.heap s'.heap/\s'.os=dl.os/\lh s'.gens) dl) :
  WalkO q loose XP YP l.row.toRowW d [] (λf vs=>MH f vs):=by
 intro w mt dl mg mb G ρ fa o pm cd doc dV kV ho hd hcd hD hmg hg args vals as hpre hlay hrd hwl hlo;obtain rfl:dV=.none:=Dflts.none hD hdf;obtain rfl:kV=.none:=Dflts.noKw hD;obtain⟨a,vs,ns,rfl,rfl,hobj,hints,hlen⟩:=Wh hn hpre hwl;refine enter_call (rE (call w mt dl mg mb fa o pm cd doc a vs ns G ρ ho (fd_plain hd) hcd hmg hobj hints hlen hg) λr s' hq=>?_);obtain⟨rfl,h2,h3,h4⟩:=hq;exact#[.inl #[.bool ah,.bool ah,[],(),λ_=>rfl,.bool ah,Ud l _,λ_=>#[xaM,λ_ hm=>(nomatch hm)]],h2,h3,h4]
section
variable {K:aJ}
noncomputable def zC2 (h:Heap) (σ d:ar):Z (ar×bo):=(db h.objs.size).filterMap λa=>if a=σ\/a=d then B else (h.get? a).map λo=>(a,o)
end
end Att
theorem Jt:∀{vs:Z au} {ns:Z aj},xR vs ns->bq (ns.map V.int) vs
 |_,_,.nil=>.nil
 |_,_,.cons n t h=>.cons #[t,()] (Jt h)
def Aw (H:Hp):Prop:=∀b,H b=B\/∃o xs,H b=U (.frz o (.lst xs))
def VR {mb:af->ak au} {k:J} {fa:ar} {dl:aF} {vs:Z au} {ns:Z aj} 
  (KX:K.In dl.heap) (hns:dl.heap.Ns dD mg) (hb:dl.heap.Ns L8 mb) (hbb:∀x:af,x≠"__name__"->mb x=lc x) (hlim:dl.heap.NoLimit) (hg:dl.gens=#[])
  (ha:dl.heap.get? a=U {cls:=.type "list",data:=.seq vs.toArray}) (hi:xR vs ns) (hl:ns.length<=aH) (hr:Room k rO)
  (F:∀base:Heap,K.In base->base.Ns dD mg->FnOk P w K mg base CX k fa fd [x] sp) (hbind:∀(s:aF) (u:au),uu s fd #[[u],[]] [(x,u)])
  (hsp:∀H:Hp,Aw H->SqL K H a (ns.map V.int)->sp [.ref a] H (λv _=>v=.bl ah) λ_ _ _=>False)
  (hCX:∀H e s',CX [] H dl (λ_ _ _=>False) e s'->False) :
  hU (aL P w) rO (.call (.ref fa) #[[.ref a],[]]) (fun r s'=>r=.ok (.ret (.bool ah))/\OldK dl.heap s'.heap/\s'.os=dl.os/\lh s'.gens) dl:=by
 have rv:=Jt hi;have lenV:=hi.length;have core:∀H:Hp,Aw H->SqL K H a (ns.map V.int)->HOk P w H dl.heap->(∀b,H b≠B->b=a)->(H a≠B->K.lookup a=B)->
   hU (aL P w) rO (.call (.ref fa) #[[.ref a],[]]) (fun r s'=>r=.ok (.ret (.bool ah))/\OldK dl.heap s'.heap/\s'.os=dl.os/\lh s'.gens) dl:=by
  intro H hO hS hok hA hK;have base_of:∀{b:ar} {o:bo},dl.heap.get? b=U o->H b=B->(kA dl.heap H).get? b=U o:=λe n=>Xn e n;have noA:∀{b:ar} {o:bo} {es:cg DictEntry} {ep:J},dl.heap.get? b=U o->o.data=.dict es ep->H b=B:=λ{b o es ep} e d=>by
   cases q:H b with
   |none=>rfl
   |some u=>
    have e':b=a:=hA b (by rw[q];simp);subst e';rw[ha] at e;cases e;have d':Data.seq vs.toArray _=Data.dict es ep:=d;cases d'
  have nsK:∀{b:ar} {m:af->ak au},dl.heap.Ns b m->(kA dl.heap H).Ns b m:=λ{b m} #[o,es,ep,e,d,r]=>#[o,es,ep,base_of e (noA e d),d,r];have hKb:K.In (kA dl.heap H):=λb o e=>base_of (KX b o e) (by
   cases q:H b with
   |none=>rfl
   |some u=>
    have e':b=a:=hA b (by rw[q];simp);subst e';rw[hK (by rw[q];simp)] at e;cases e)
  have hM:Mod K mg (kA dl.heap H):=#[hKb,nsK hns,#[mb,nsK hb,hbb],let #[mc,h1,h2]:=hlim;#[mc,nsK h1,h2]];have e0:Env0 P w K mg (kA dl.heap H) rO [] dl H:=#[(),hM,λb o e=>R9 e,CU (SM _ _),trivial,λb hb=>ba (show b∈([]:Z ar) from hb) (by simp),hok,.of_eq hg];refine rE ((F _ hKb (nsK hns)).run rO [] dl H #[[.ref a],[]] [.ref a] [.ref a] _ _ hr e0 (hbind dl (.ref a)) (.cons () .nil) (hsp H hO hS)) λr s' h=>?_;cases r with
  |error e=>exact(hCX H e s' h).elim
  |ok fl=>
   cases fl with
   |next=>exact gw h
   |brk=>exact gw h
   |cont=>exact gw h
   |ret u=>
    obtain⟨v,H',os,bare,un,hok',r',q⟩:=h;have q':v=.bl ah:=q;subst q';obtain rfl:u=mz ah:=r';refine#[(),OldK.of_keep λb o e=>?_,os,bare];cases q:H b with
    |none=>exact un.keep b o e q (by intro z;exact ba (show b∈([]:Z ar) from z) (by simp)) (by simp)
    |some u=>
     rcases hO b with z|⟨ob,xs,z⟩
     .rw[q] at z;cases z
     .have z2:=un.frzs b ob _ z;obtain⟨e1,_⟩:=hok b _ z;obtain⟨e2,_⟩:=hok' b _ z2;rw[e] at e1;cases e1;exact e2
 cases hk:K.lookup a with
 |some o=>
  have e:=KX a o hk;rw[ha] at e;cases e;refine core (λ_=>B) (λ_=>.inl ()) (.inr #[_,vs.toArray,_,hk,(),(),(),by rw[qF,lenV];exact hl,by simpa using rv]) (λb u z=>by have z':(B:ak HO)=U u:=z;cases z') (λb z=>ba () z) λz=>ba () z
 |none=>
  refine core (λb=>if b=a then U (.frz {cls:=.type "list",data:=.seq vs.toArray} (.lst (ns.map V.int))) else B) (λb=>?_) (.inl (.inr #[{cls:=.type "list",data:=.seq vs.toArray},qZ ()])) (λb u z=>?_) (λb z=>?_) λ_=>hk
  .by_cases hb:b=a
   .exact .inr #[_,_,qZ hb]
   .exact .inl (xa hb)
  .by_cases hb:b=a
   .have z':=(qZ hb).symm.trans z;cases z';subst hb;exact#[ha,by rw[qe];exact hl,vs,_,rv,ha]
   .have z':=(xa hb).symm.trans z;cases z'
  .by_cases hb:b=a
   .exact hb
   .exact ba (xa hb) z
noncomputable abbrev KOf (_:K.In h):aJ:=K
def walk_of {l:MI} {k:J} {q:b7} {d:DefRec} {K:Dd->aJ} {CX:bU->CXT} {sp:bU->Sp} 
  (hn:l.most=U n) (hn2:n<=aH) (hdf:d.params.defaults=[]) (hr:Room k rO)
  (hY:∀(w:bU) (h:Heap),YP w h->(K w.params).In h)
  (F:∀(w:bU) (mg:af->ak au) (fa:ar) (h:Heap),(K w.params).In h->h.Ns dD mg->mg d.name=U (.ref fa)->
   ∃fd:oh,(∀(s:aF) (u:au),uu s fd #[[u],[]] [(x,u)]) /\
    ∀base:Heap,(K w.params).In base->base.Ns dD mg->FnOk l.prog w (K w.params) mg base (CX w) k fa fd [x] (sp w))
  (hsp:∀(w:bU) (H:Hp) (a:ar) (ns:Z aj),ns.length<=n->Aw H->SqL (K w.params) H a (ns.map V.int)->sp w [.ref a] H (λv _=>v=.bl ah) λ_ _ _=>False)
  (hCX:∀(w:bU) (H:Hp) (s:aF) (e:au) (s':aF),CX w [] H s (λ_ _ _=>False) e s'->False) :
  YU q loose XP YP l.row.toRowW d [] (λf vs=>MH f vs):=by
 refine Att.attach_call hn hdf λw mt dl mg mb fa o pm cd doc a vs ns G ρ ho hd hcd hmg hobj hints hlen hg=>?_;have KX:=hY w _ ρ;obtain⟨fd,hb,hF⟩:=F w mg fa _ KX G.T.g hmg;exact VR KX G.T.g G.T.b G.T.builtins G.T.nolimit hg hobj hints (qP hlen hn2) hr hF hb (λH hO hS=>hsp w H a ns hlen hO hS) λH e s'=>hCX w H dl e s'
noncomputable def cZ (s:Stmt) (j:J):Stmt:=match s with
 |.ClassDef _ _ _ body _ _ _ _ _ _ _=>body.getD j (.Pass #[0,0,0,0])
 |_=>.Pass #[0,0,0,0]
noncomputable def e9 (s:Stmt):Arguments:=match s with
 |.FunctionDef _ a _ _ _ _ _ _ _ _=>a
 |_=>{posonlyargs:=[],args:=[],vararg:=B,kwonlyargs:=[],kw_defaults:=[],kwarg:=B,defaults:=[]}
noncomputable def cI (s:Stmt):Z Stmt:=match s with
 |.FunctionDef _ _ b _ _ _ _ _ _ _=>b
 |_=>[]
noncomputable def aD (s:Stmt):Scope:=match s with
 |.FunctionDef _ _ _ _ _ _ sc _ _ _=>sc
 |_=>{kind:=.function,names:=[],isGenerator:=ao,isCoroutine:=ao}
noncomputable abbrev CX0:CXT:=λ_ _ _ _ _ _=>False
noncomputable abbrev E0:XK:=λ_ _ _=>False
def lD :gX CX0 X E0:=λ_ _ _ _ _ _ _ h=>h.elim
structure Fun (K:aJ) (x qual:af) (st:Stmt) (f:ar) (fd:oh):Prop where
 ex:∃(oc:au) (od:ak ar) (kV doc pm:au) (an:ak ar) (cdv ct:au) (osl:cg (ak au)),
  fd=eT x qual (e9 st) (cI st) (aD st) .none kV doc pm an cdv ct/\K.lookup f=U #[oc,od,.func fd,osl]/\uz K cdv qual=ah
 kp:fM K (.ref f)=ah
def Fun.ok {st:Stmt} {f:ar} {k:J} (F:Fun K x qual st f fd) (S:FnScope N ps (aD st)) (len:∀vs H Q E,sp vs H Q E->vs.length=ps.length)
  (hbody:∀(cdv:au) (A:dh) (outer:Z cD) (s:aF) (H:Hp) (vs:Z V) (Q:VK) (E:XK),Room k (A.deeper (bR qual (aD st) s.heap.objs.size f cdv))->sp vs H Q E->
   ∃t,PSs (cB CX0 P w K mg base N qual (aD st) f cdv A outer s H E).nox (cI st) t/\t {nx:=λ_ H'=>Q .non H',rt:=Q} (eJ N vs) H):FnOk P w K mg base CX0 (k+1) f fd ps sp:=by
 obtain⟨oc,od,kV,doc,pm,an,cdv,ct,osl,rfl,lk,hcd⟩:=F.ex;refine wa lk hcd S len λA outer s H vs Q E hr hsp=>?_;obtain⟨t,h,q⟩:=hbody cdv A outer s H vs Q E hr hsp;exact#[t,h.nox,q]
def Fun.binds {st:Stmt} {f:ar} (F:Fun K x qual st f fd)
  (h:∀(kV doc pm:au) (an:ak ar) (cdv ct:au) (us:Z au),us.length=ps.length->gM (eT x qual (e9 st) (cI st) (aD st) .none kV doc pm an cdv ct) #[us,[]]=pure (ps.zip us)):eP K fd ps []:=by
 obtain⟨oc,od,kV,doc,pm,an,cdv,ct,osl,rfl,lk,hcd⟩:=F.ex;exact .all (h kV doc pm an cdv ct)
def yn {st:Stmt} {f:ar} {kV:au} (l:K.lookup f=U #[oc,od,.func (eT x qual (e9 st) (cI st) (aD st) .none kV doc pm an cdv ct),osl])
  (c:uz K cdv qual=ah) (k:fM K (.ref f)=ah):Fun K x qual st f (eT x qual (e9 st) (cI st) (aD st) .none kV doc pm an cdv ct):=#[#[oc,od,kV,doc,pm,an,cdv,ct,osl,(),l,c],k]
def fy {A ae:Prop} (h:ae):if ao=ah then A else ae:=by rw[xa qu];exact h
def fz {A ae:Prop} (h:A):if ah=ah then A else ae:=by rw[qZ ()];exact h
def a9 (H H':Hp):Prop:=∀b o,H b=U o->H' b=U o
def a9.refl (H:Hp):a9 H H:=λ_ _ h=>h
def a9.trans (a:a9 H H1) (b:a9 H1 H2):a9 H H2:=λc o h=>b c o (a c o h)
def a9.free (e:a9 H H') (h:H' l=B):H l=B:=by
 cases q:H l with
 |none=>rfl
 |some o=>
  rw[e l o q] at h;cases h
def a9.seq {xs:Z V} (e:a9 H H') (h:SqL K H a xs):SqL K H' a xs:=by
 rcases h with(h|⟨o,h⟩)|h
 .exact .inl (.inl (e _ _ h))
 .exact .inl (.inr #[o,e _ _ h])
 .exact .inr h
variable {elt:Expr} {ifs:Z Expr}
def Pu {target:Expr} {it acc:au} (I:J->aF->Prop)
  (turn:∀n s,I n s->aM (aL prog w) A (CJ it) (λr dl=>match r with
   |none=>R (.ok .next) dl
   |some v=>aM (aL prog w) A (xG target it v) (λ_ s₁'=>aM (aL prog w) A (rl target env v) (λ_ s₂ =>
     aM (aL prog w) A (forIn ifs ah λc r=>if r=ah then do let ok ←isTrue c env (eval c env);pure (uC ok) else pure (uC r)) (λok s₃ =>
      if ok=ah then aM (aL prog w) A (eval elt env) (λx s₄ =>
       aM (aL prog w) A (call (.builtin "list.append") [acc,x]) (λ_ s₅=>∃m,m<n/\I m s₅) (λ_ _=>False) s₄) (λ_ _=>False) s₃
      else ∃m,m<n/\I m s₃) (λ_ _=>False) s₂) (λ_ _=>False) s₁') (λ_ _=>False) dl) (λ_ _=>False) s)
  (n:J) (h:I n s) :
  hU (aL prog w) A (.compLoop (.ListComp elt [#[target,iter,ifs,0]] scope pos) 0 it acc env) R s:=by
 refine codeAny_loop () I (λn s hI=>?_) n h;refine wpAny_noted ?_;rw[compTurn_list];refine qA (Mf (qA (fj (turn n s hI) (λr dl h₁=>?_) λ_ _ h'=>h'.elim)));cases r with
 |none=>exact qE h₁
 |some v=>
  refine qA (fj h₁ (λ_ s₁' h₁'=>?_) λ_ _ h'=>h'.elim);refine qA (fj h₁' (λ_ s₂ h₂=>qA (fj h₂ (λok s₃ h₃=>?_) λ_ _ h'=>h'.elim)) λ_ _ h'=>h'.elim);cases ok with
  |false=>exact qE #[(),h₃]
  |true=>
   exact qA (qA (fj h₃ (λx s₄ h₄=>qA (fj h₄ (λ_ s₅ h₅=>qE (qE #[(),h₅])) λ_ _ h'=>h'.elim)) λ_ _ h'=>h'.elim))
noncomputable def gG (X:Cx) (N':Z af) (scope:Scope) (cl:Z (af×ar)) (C:ar) (mt:aF) (Ty:Hp) (fp:Z ar):Cx:=
 {X with N:=N',mt:=mt,Ty:=Ty,env:=MJ scope cl C X.env,outer:=X.stack,stack:=X.stack,ex:=fp,fn:=λ_=>ao,pn:=[],xe:=λ_ _=>False}
noncomputable def gm (env:cD):Z (af×hV)->Z (af×ar)->Z (af×ar)
 |[],acc=>acc
 |(n,k)::r,acc=>gm env r (if k==.free then (match env.cells.lookup n with|some c=>(n,c)::acc|none=>acc) else acc)
def Qr (h:∀y∈scope.names,y.2=.free->∃c,env.cells.lookup y.1=U c):closureFor scope env=pure (gm env scope.names []):=by
 have all:∀(l:Z (af×hV)) (acc:Z (af×ar)),(∀y∈l,y.2=.free->∃c,env.cells.lookup y.1=U c)->
   (forIn l acc λx r=>match x with
    |(name,kind)=>if kind==.free then do let c ←cellOf env name;pure (uC ((name,c)::r)) else pure (uC r):Sem (Z (af×ar)))=pure (gm env l acc):=by
  intro l
  induction l with
  |nil=>intro acc _;rfl
  |cons y r ih=>
   intro acc hl;obtain⟨n,k⟩:=y;rw[YV];have hr:∀y∈r,y.2=.free->∃c,env.cells.lookup y.1=U c:=λy hy=>hl y (qg _ hy);unfold gm;cases hk:(k==oy) with
   |false=>
    simp only[hk,qr,dE,pure_bind];exact ih acc hr
   |true=>
    obtain⟨c,hc⟩:=hl (n,k) qf (by simpa using hk);have hc':env.cells.lookup n=U c:=hc;simp only[hk,dc,cellOf,hc',pure_bind];exact ih _ hr
 have e:=all scope.names [] h;exact Eq.trans (bind_pure _) e
theorem Ac {env:cD}:∀(l:Z (af×hV)) (acc:Z (af×ar)),(∀x c,acc.lookup x=U c->env.cells.lookup x=U c)->∀x c,(gm env l acc).lookup x=U c->env.cells.lookup x=U c
 |[],_,h=>h
 |(n,k)::r,acc,h=>by
  refine Ac r _ ?_;split
  .split
   .rename_i c hc;intro x d hx;rw[lu] at hx;cases e:x==n with
    |true=>
     rw[e] at hx;have e':x=n:=by simpa using e
     have e2:c=d:=qK hx;rw[e',<-e2];exact hc
    |false=>rw[e] at hx;exact h x d hx
   .exact h
  .exact h
theorem Jm {env:cD}:∀(l:Z (af×hV)) (acc:Z (af×ar)) (x:af),(acc.lookup x).isSome=ah->((gm env l acc).lookup x).isSome=ah
 |[],_,_,h=>h
 |(n,k)::r,acc,x,h=>by
  refine Jm r _ x ?_;split
  .split
   .rw[lu];split
    .rfl
    .exact h
   .exact h
  .exact h
theorem yY {env:cD}:∀(l:Z (af×hV)) (acc:Z (af×ar)) (x:af) (c:ar),(x,oy)∈l->env.cells.lookup x=U c->((gm env l acc).lookup x).isSome=ah
 |[],_,_,_,h,_=>nomatch h
 |(n,k)::r,acc,x,c,h,hc=>by
  rcases eC.mp h with e|h
  .injection e with e1 e2;subst e1;subst e2;refine Jm r _ _ ?_;rw[qZ (by rfl),hc];simp
  .exact yY r _ x c h hc
theorem u4 {env:cD}:∀(names:Z (af×hV)) (x:af) (k':hV),
  (names.map λ(n,k)=>if (k==oy && env.scope.kind==.function && env.kindOf n==U .cell) then (n,De) else (n,k)).lookup x=U k'->
  names.lookup x=U k'\/(k'=.cell/\names.lookup x=U .free)
 |[],_,_,h=>by simp at h
 |(n,k)::r,x,k',h=>by
  have ih:=@u4 env r x k';have h':dY x ((if (k==oy && env.scope.kind==.function && env.kindOf n==U .cell)=ah then (n,De) else (n,k))::(r.map λ(n,k)=>if (k==oy && env.scope.kind==.function && env.kindOf n==U .cell) then (n,De) else (n,k)))=U k':=h;cases hx:x==n with
  |true=>
   by_cases hc:(k==oy && env.scope.kind==.function && env.kindOf n==U .cell)=ah
   .rw[qZ hc] at h';simp only[lu,hx] at h' ⊢;have hk:k=.free:=by simp only[eM,i6] at hc;exact hc.1.1
    right
    exact#[(qK h').symm,by rw[hk]]
   .rw[xa hc] at h';simp only[lu,hx] at h' ⊢;exact .inl h'
  |false=>
   have h2:dY x (r.map λ(n,k)=>if (k==oy && env.scope.kind==.function && env.kindOf n==U .cell) then (n,De) else (n,k))=U k':=by
    by_cases hc:(k==oy && env.scope.kind==.function && env.kindOf n==U .cell)=ah
    .rw[qZ hc] at h';simpa only[lu,hx] using h'
    .rw[xa hc] at h';simpa only[lu,hx] using h'
   simp only[lu,hx];exact ih h2
structure CompScope (X:Cx) (scope:Scope):Prop where
 kind:scope.kind=.function
 nocell:∀y∈scope.names,y.2≠.cell
 names:∀y∈scope.names,y.2=.local->scope.names.lookup y.1=U .local
 free:∀y∈scope.names,y.2=.free->X.env.kindOf y.1=U .cell\/X.env.kindOf y.1=U .free
noncomputable def gF (fv:Z (ak J)) (L:St):St:=fv.map λo=>o.bind λj=>(L[j]?).join
variable {N':Z af} {fv:Z (ak J)} {BT:St}
def D9 (I:Inv X XL L H s) (S:CompScope X scope):closureFor scope X.env=pure (gm X.env scope.names []):=
 Qr λy hy hf=>I.ok.has y.1 (S.free y hy hf)
def Qk (I:Inv X XL L H s) (S:CompScope X scope) (hf:∀b∈fp,gT X XL H b) (hlt:∀b∈fp,b<s.heap.objs.size) (hC:s.heap.objs.size<=C) :
  (gG X N' scope (gm X.env scope.names []) C s H fp).Ok:=by
 have sub:=Ac (env:=X.env) scope.names [] (λx c h=>by simp at h);refine#[I.ok.mod,S.kind,I.ok.glob,I.ok.blt,hC,λx y c h1 h2=>I.ok.inj x y c (sub x c h1) (sub y c h2),λx hx=>?_,λx c h _=>by simp[gG] at h,I.ok.hd,I.ok.frames,.inl (),λb hb=>#[?_,λx c e=>?_],I.bs,qP I.ok.bsz I.sz,
  λb o e hb=>?_,λb hb=>?_,I.stack,I.stkFree]
 .have hx':((Df scope X.env).names.lookup x=U .cell\/(Df scope X.env).names.lookup x=U .free):=hx;have hfr:scope.names.lookup x=U .free:=by
   rcases hx' with h|h
   .rcases u4 _ _ _ h with h|⟨_,h⟩
    .exact ba () (S.nocell _ (oo h))
    .exact h
   .rcases u4 _ _ _ h with h|⟨h,_⟩
    .exact h
    .cases h
  have hm:=oo hfr;obtain⟨c,hc⟩:=I.ok.has x (S.free _ hm ());exact C0.mp (yY _ _ x c hm hc)
 .exact qG (qI (hlt b hb) hC)
 .exact(hf b hb).2.2.2.2.1 x c (sub x c e)
 .rcases(hf b hb).2.2.2.1 with z|z
  .exact I.ok.noex b o e z
  .exact ba (qI (qw e) I.ok.bsz) (uD.mpr z)
 .intro z;rcases eC.mp (I.stkSub b z) with e|e
  .exact(hf b hb).2.1 e
  .exact(hf b hb).2.2.1 e
def Xc (I:Inv X XL L H s) (S:CompScope X scope) (hf:∀b∈fp,gT X XL H b) (hlt:∀b∈fp,b<s.heap.objs.size) (hC:C=s.heap.objs.size) (hlen:fv.length=N'.length)
  (hfv:∀(i j:J) x,N'[i]?=U x->fv[i]?=U (U j)->X.N[j]?=U x/\(X.env.kindOf x=U .cell\/X.env.kindOf x=U .free)/\scope.names.lookup x=U .free) {m:af->ak au} (hn:h'.Ns C m) (hk:∀b o,s.heap.get? b=U o->h'.get? b=U o) :
  Inv (gG X N' scope (gm X.env scope.names []) C s H fp) [] (gF fv L) H {s with heap:=h',toks:=t'}:=by
 have ok:=Qk (N':=N') I S hf hlt (CU hC.symm);have sub:=Ac (env:=X.env) scope.names [] (λx c h=>by simp at h);refine#[ok,(),I.bare,Un.kept hk,#[m,hn,λi x v e1 e2 e3=>?_],λx c e=>?_,?_,λx c e=>I.freeC x c (sub x c e),λp hp=>?_,I.hok.kept hk,?_]
 .have e1':N'[i]?=U x:=e1;have e2':(gF fv L)[i]?=U (U v):=e2;unfold gF at e2';rw[ql] at e2';cases q:fv[i]? with
  |none=>rw[q] at e2';cases e2'
  |some o=>
   rw[q] at e2';cases o with
   |none=>cases e2'
   |some j=>
    have e2'':(L[j]?).join=U v:=by simpa using e2'
    obtain⟨hN,hkk,hfree⟩:=hfv i j x e1' q;have hσ:L[j]?=U (U v):=by
     cases z:L[j]? with
     |none=>rw[z] at e2'';cases e2''
     |some w=>rw[z] at e2'';cases w with
      |none=>cases e2''
      |some w'=>simp at e2'';rw[e2'']
    obtain⟨m0,hn0,hl⟩:=I.loc;obtain⟨u,r,l⟩:=hl j x v hN hσ (.inr hkk);refine#[u,r,.inr #[?_,?_]]
    .rcases e3 with z|z|z
     .have z':(Df scope X.env).names.lookup x=U .local:=z;rcases u4 _ _ _ z' with y|⟨y,_⟩
      .rw[hfree] at y;cases y
      .cases y
     .exact .inl z
     .exact .inr z
    .rcases l with⟨k,_⟩|⟨_,c,hc,hcell⟩
     .rcases hkk with y|y
      .rw[k] at y;cases y
      .rw[k] at y;cases y
     .obtain⟨c',hc'⟩:=C0.mp (yY scope.names [] x c (oo hfree) hc);have e:=sub x c' hc';rw[hc] at e;cases e;obtain⟨oc,ho,hd⟩:=hcell;exact#[c,hc',oc,hk _ _ ho,hd]
 .obtain⟨v,oc,ho,hd⟩:=I.cell x c (sub x c e);exact#[v,oc,hk _ _ ho,hd]
 .exact I.hok.fresh (CU hC.symm)
 .exact ba (show p∈([]:Z (ar×bo)) from hp) (by simp)
 .show(gF fv L).length=N'.length;unfold gF;rw[qe,hlen]
def Wi (I:Inv X XL L H s) {cl:Z (af×ar)} (hf:∀b∈fp,gT X XL H b) (hC:s.heap.objs.size<=C) {pl:Z (ar×bo)} 
  (ag:Inv (gG X N' scope cl C s H fp) pl BT H' s') (hs:iY C s'.heap h'):Inv X XL L H' {s' with heap:=h'}:=by
 have hCn:H' C=B:=ag.free;refine I.call' ag.os ?_ ?_ ag.bare λb hb=>#[(hf b hb).2.2.2.1,(hf b hb).2.1,(hf b hb).2.2.2.2.1,(hf b hb).2.2.2.2.2]
 .have aa:Un (frs X.stack) fp H H' s.heap s'.heap:=ag.base;have neC:∀b o,s.heap.get? b=U o->b≠C:=λb o e=>qG (qI (qw e) hC);refine#[λb o e n h1 h2=>?_,λb o e n h1 h2=>?_,aa.free,λb o e h2=>?_,aa.tups,aa.frzs,aa.tbls]
  .exact(hs.2 b (neC b o e)).trans (aa.keep b o e n h1 h2)
  .obtain⟨sl,q⟩:=aa.slot b o e n h1 h2;exact#[sl,(hs.2 b (neC b o e)).trans q]
  .obtain⟨o',q⟩:=aa.there b o e h2;exact#[o',(hs.2 b (neC b o e)).trans q]
 .intro b u e;refine(ag.hok b u e).stay (λc v hc q=>(hs.2 c ?_).trans q) (λ_ q=>q) λ_ _ q=>q;rintro rfl;rcases hc with z|z
  .rw[<-z,hCn] at e;cases e
  .rw[hCn] at z;cases z
def PTs (X:Cx) (es:Z Expr) (t:TT):Prop:=
 ∀(XL:Z (ar×bo)) (s:aF) (L:St) (H:Hp) (Q:aR->Hp->Prop),Inv X XL L H s->t L H Q->
  aM (aL X.prog X.w) X.A (forIn es ah λc r=>if r=ah then do let ok ←isTrue c X.env (eval c X.env);pure (uC ok) else pure (uC r)) (TP X XL L Q) X.xe s
noncomputable def SI:TT:=λ_ H Q=>Q ah H
def Jd :PTs X [] SI:=λ_ _ _ H _ I h=>wpAny_tests_nil #[H,I,h]
def LP {c:Expr} {t:TT} (hc:PT X c t):PTs X [c] t:=λXL s L H Q I h=>wpAny_tests_one (hc XL s L H Q I h)
def LcW (ag:It) (g:TG) (tc:TT) (te:TE) (acc:ar) (Q:V->Hp->Prop) (σ0:St) (H1:Hp):Prop:=
 ∃W:J->J->Z V->St->Hp->Prop,(∃m,W 0 m [] σ0 (upd H1 acc (.lst [])))/\∀i m ys BT H',W i m ys BT H'->H' acc=U (.lst ys) /\
  ((ag.stop i H'/\Q (.ref acc) H')\/(ag.go i H'/\∀x H2,ag.yld i H' x H2->g x BT H2 λσ2 H3=>tc σ2 H3 λb H4=>
   if b=ah then te σ2 H4 λv H5=>H5 acc=U (.lst ys)/\ys.length<aH/\∃m',m'<m/\W (i+1) m' (ys++[v]) σ2 (upd H5 acc (.lst (ys++[v])))
   else ∃m',m'<m/\W (i+1) m' ys σ2 H4))
def tLC (wi:TI) (g:TG) (tc:TT) (te:TE) (fv:Z (ak J)):TE:=λL H Q=>wi L H λag H1=>∀acc,H1 acc=B->LcW ag g tc te acc Q (gF fv L) H1
def PB (X:Cx) (N':Z af) (scope:Scope) (tg:Expr) (ifs:Z Expr) (elt:Expr) (g:TG) (tc:TT) (te:TE):Prop:=
 ∀(cl:Z (af×ar)) (C:ar) (mt:aF) (Ty:Hp) (fp:Z ar),PG (gG X N' scope cl C mt Ty fp) tg g/\PTs (gG X N' scope cl C mt Ty fp) ifs tc/\PE (gG X N' scope cl C mt Ty fp) elt te
structure FvOk (X:Cx) (N':Z af) (scope:Scope) (fv:Z (ak J)):Prop where
 len:fv.length=N'.length
 at':∀(i j:J) x,N'[i]?=U x->fv[i]?=U (U j)->X.N[j]?=U x/\(X.env.kindOf x=U .cell\/X.env.kindOf x=U .free)/\scope.names.lookup x=U .free
variable {y:af} {py spos:bV}
section
variable {g:TG}
def FF {s2:aF} {it:ar} {tn:J->Heap->Prop} {ag:It} {Q:VK} {RR:au->ar->Result->aF->Prop} (hc:X.calm=ah) (S:CompScope X scope) (F:FvOk X N' scope fv) (hb:PB X N' scope tg ifs elt g tc te)
  (I2:Inv X XL L H1 s2) (T:Turn X.prog X.w X.K tg ag fp it tn) (st2:tn 0 s2.heap) (f2:∀b∈fp,gT X XL H1 b) (q:∀acc,H1 acc=B->LcW ag g tc te acc Q (gF fv L) H1)
  (hRR:∀(a C:ar) (H':Hp) (s':aF) (m:af->ak au),s'.heap.Ns C m->(∀h',iY C s'.heap h'->Inv X XL L H' {s' with heap:=h'})->gT X XL H' C->Q (.ref a) H'->RR (.ref a) C (.ok .next) s') :
  aM (aL X.prog X.w) X.A (newList []) (λacc s₃=>aM (aL X.prog X.w) X.A (newFunctionEnv scope X.env.globals (gm X.env scope.names []) [] X.env.qual B .none (U X.env)) (λcenv s₄ =>
   hU (aL X.prog X.w) X.A (.compStart (.ListComp elt [⟨tg,iter,ifs,0⟩] scope pos) 0 (.ref it) acc {cenv with scope:=Df scope X.env}) (RR acc cenv.locals) s₄) X.xe s₃) X.xe s2:=by
 refine rG ?_;have hacc:H1 s2.heap.objs.size=B:=I2.fresh;have I3:Inv X XL L (upd H1 s2.heap.objs.size (.lst [])) {s2 with heap:=s2.heap.push {cls:=.type "list",data:=.seq ([]:Z au).toArray} }:=I2.lnew .nil (eA _);generalize hs3:({s2 with heap:=s2.heap.push {cls:=.type "list",data:=.seq ([]:Z au).toArray} }:aF)=s3 at I3 ⊢;have up:∀b o,s2.heap.get? b=U o->s3.heap.get? b=U o:=λb o e=>by rw[<-hs3];exact qv _ e
 have lt2:∀b∈fp,b<s2.heap.objs.size:=λb hb=>by obtain⟨o,e,_⟩:=T.obj 0 _ st2 b hb;exact qw e
 have sz3:s2.heap.objs.size<s3.heap.objs.size:=by rw[<-hs3];show _<(s2.heap.push _).objs.size;rw[i7];exact ut _
 have lt3:∀b∈fp,b<s3.heap.objs.size:=λb hb=>uB (lt2 b hb) sz3;have f3:∀b∈fp,gT X XL (upd H1 s2.heap.objs.size (.lst [])) b:=λb hb=>#[by rw[aW (qG (lt2 b hb))];exact(f2 b hb).1,(f2 b hb).2];have st3:tn 0 s3.heap:=T.keep _ _ _ st2 λb _ o e=>up b o e;refine wpAny_newFunctionEnv S.nocell (by intro y hy;simp at hy) (λh4 hn4 sb4=>?_) S.kind;have k4:∀b o,s3.heap.get? b=U o->h4.get? b=U o:=λb o e=>(sb4.2 b (qG (qw e))).trans (qv _ e);have st4:tn 0 h4:=T.keep _ _ _ st3 λb _ o e=>k4 b o e;have I4:=Xc I3 S f3 lt3 () F.len F.at' hn4 k4 (t':=s3.toks+([]:Z (af×au)).length);generalize hX:gG X N' scope (gm X.env scope.names []) s3.heap.objs.size s3 (upd H1 s2.heap.objs.size (.lst [])) fp=X' at I4;obtain⟨bg,bt,be⟩:=hb (gm X.env scope.names []) s3.heap.objs.size s3 (upd H1 s2.heap.objs.size (.lst [])) fp;rw[hX] at bg bt be;have hprog:X'.prog=X.prog:=by rw[<-hX];rfl
 have hw:X'.w=X.w:=by rw[<-hX];rfl
 have hK:X'.K=X.K:=by rw[<-hX];rfl
 have hA:X'.A=X.A:=by rw[<-hX];rfl
 have hcalm:X'.calm=ah:=by rw[<-hX];exact hc
 have hxe:X'.xe=λ_ _=>False:=by rw[<-hX];rfl
 have henv:X'.env=MJ scope (gm X.env scope.names []) s3.heap.objs.size X.env:=by rw[<-hX];rfl
 have stat:∀{H':Hp},(∀b∈fp,H' b=B)->∀b∈fp,gT X' [] H' b:=λ{H'} hn b hb=>by have f:=f3 b hb;have ok:=I4.ok;refine#[hn b hb,(ok.exf b (by rw[<-hX];exact hb)).1,ok.exfs b (by rw[<-hX];exact hb),.inl (by rw[<-hX];exact hb),λx c e=>(ok.exf b (by rw[<-hX];exact hb)).2 x c e,λp hp=>?_];rw[<-hX] at hp;exact ba (show p∈([]:Z (ar×bo)) from hp) (by simp)
 obtain⟨W,⟨m0,w0⟩,turn⟩:=q s2.heap.objs.size hacc;have loop:∀s5:aF,s5={s3 with heap:=h4,toks:=s3.toks+([]:Z (af×au)).length} ->
   hU (aL X.prog X.w) X.A (.compLoop (.ListComp elt [⟨tg,iter,ifs,0⟩] scope pos) 0 (.ref it) (.ref s2.heap.objs.size) (MJ scope (gm X.env scope.names []) s3.heap.objs.size X.env))
    (RR (.ref s2.heap.objs.size) s3.heap.objs.size) s5:=by
  intro s5 hs5;refine Pu (λn s'=>∃i ys BT H',Inv X' [] BT H' s'/\tn i s'.heap/\(∀b∈fp,H' b=B)/\W i n ys BT H') ?_ m0 #[0,[],gF fv L,_,hs5▸I4,hs5▸st4,λb hb=>(f3 b hb).1,w0];rintro n s6 ⟨i,ys,σ6,H6,I6,st6,fr6,w6⟩;obtain⟨ha6,turn6⟩:=turn i n ys σ6 H6 w6;rw[<-henv];rcases turn6 with⟨stop,qn⟩|⟨go,step⟩
  .have d:=T.done X' hprog hw hK hcalm i [] s6 σ6 H6 (λ_ _=>False) I6 (stat fr6) st6 stop;rw[hA] at d;refine thn d λr s7 #[hr,I7]=>?_;subst hr;obtain⟨m7,hn7,_⟩:=I7.loc;have hl:X'.env.locals=s3.heap.objs.size:=by rw[henv];rfl
   refine hRR _ _ H6 s7 m7 (hl▸hn7) (λh' hs'=>?_) ?_ qn
   .rw[<-hX] at I7;exact Wi I3 f3 (qx _) I7 hs'
   .exact I3.fpOk (qx _) (by have:=I7.free;rw[hl] at this;exact this)
  .have d:=T.item X' hprog hw hK hcalm i [] s6 σ6 H6 (λ_ _=>False) I6 (stat fr6) st6 go;rw[hA] at d;refine thn d λr s7 ζ=>?_;obtain⟨u,hr,h7⟩:=ζ;subst hr;refine thn h7 λ_ s8 ζ=>?_;obtain⟨x,H8,I8,r8,y8,st8,fr8⟩:=ζ;have I8':=I8.pinned (stat fr8) (T.obj _ _ st8);have dg:=bg _ s8 σ6 H8 x u _ I8' r8 (step x H8 y8);rw[hprog,hw,hA,hxe] at dg;refine thn dg λ_ s9 #[σ9,H9,I9,q9]=>?_;have dt:=bt _ s9 σ9 H9 _ I9 q9;rw[hprog,hw,hA,hxe] at dt;refine thn dt λb s10 #[H10,I10,q10]=>?_;have again:∀{σ7:St} {H7:Hp} {s7:aF} {ys':Z V},Inv X' ([]++ud fp s8.heap) σ7 H7 s7->(∃m',m'<n/\W (i+1) m' ys' σ7 H7)->∃m,m<n/\∃i ys BT H',Inv X' [] BT H' s7/\tn i s7.heap/\(∀b∈fp,H' b=B)/\W i m ys BT H':=λ{σ7 H7 s7 ys'} I7 n7=>by obtain⟨m',hm,w7⟩:=n7;refine#[m',hm,i+1,ys',σ7,H7,I7.unpinned,T.keep _ _ _ st8 λb hb o e=>(I7.pin (b,o) (qT _ (qT _ (wl hb e)))).1,λb hb=>?_,w7];obtain⟨o,e,_⟩:=T.obj _ _ st8 b hb;exact(I7.pin (b,o) (qT _ (qT _ (wl hb e)))).2.1
   cases b with
   |false=>
    rw[xa qu] at q10 ⊢;exact again I10 q10
   |true=>
    rw[qZ ()] at q10 ⊢;have de:=be _ s10 σ9 H10 _ I10 q10;rw[hprog,hw,hA,hxe] at de;refine thE de λv s11 y H11 I11 r11 ζ=>?_;obtain⟨ha11,hz11,n11⟩:=ζ;have da:=Bi _ s11 σ9 H11 (.ref s2.heap.objs.size) [y] (.ref s2.heap.objs.size) [v] (λ_ H'=>H'=upd H11 s2.heap.objs.size (.lst (ys++[y]))) I11 () (.cons r11 .nil) #[_,ys,y,(),(),ha11,hz11,()];rw[hprog,hw,hA,hxe] at da;refine thE da λ_ s12 _ H12 I12 _ e12=>?_;subst e12;exact again I12 n11
 exact codeAny_compStart_list (loop _ ()) (T.self _ 0 _ _ _ st4 (loop _ ()))
def EB (hc:X.calm=ah) (S:CompScope X scope) (F:FvOk X N' scope fv) (hi:PI X tg iter wi) (hb:PB X N' scope tg ifs elt g tc te) (hs:∀x,lj iter X.env x=pure x:=by intro _;rfl) :
  PE X (.ListComp elt [⟨tg,iter,ifs,0⟩] scope pos) (tLC wi g tc te fv):=by
 intro XL s L H Q I h;rw[eval_ListComp];refine YW () hs (D9 I S) S.kind S.names (thn (hi XL s L H _ I h) λx s1 h1=>thn h1 λitv s2 h2=>?_);obtain⟨it,fp,tn,ag,H1,e,I2,T,st2,f2,q⟩:=h2;subst e;refine FF hc S F hb I2 T st2 f2 q ?_;intro a C H' s' m hn hI hCL hq;exact#[m,hn,λh' hs'=>#[.ref a,H',hI h' hs',(),hq]]
def zG (hN:X.N.Nodup) (hy:X.N[i]?=U y) (hyl:X.env.scope.names.lookup y=U .local) (hc:X.calm=ah) (S:CompScope X scope) (F:FvOk X N' scope fv) (hi:PI X tg iter wi) (hb:PB X N' scope tg ifs elt g tc te)
  (hsw:eD (.ListComp elt [⟨tg,iter,ifs,0⟩] scope pos) (U (.Name y py)) spos.line X.env=pure ah)
  (hs:∀x,lj iter X.env x=pure x:=by intro _;rfl) :
  PS X (.Assign [.Name y py] (.ListComp elt [⟨tg,iter,ifs,0⟩] scope pos) spos) (ph (tLC wi g tc te fv) (pG i)):=by
 intro XL s L H D I h;rw[exec_Assign_Name_used _ _ _ _ hsw];refine qA (Mf (qA ?_));refine qA (fj (YW () hs (D9 I S) S.kind S.names
  (thn (hi XL s L H _ I h) λx s1 h1=>thn h1 λitv s2 h2=>?_)) (λ_ s' hq=>qE (qE hq)) λ_ _ e=>e)
 obtain⟨it,fp,tn,ag,H1,e,I2,T,st2,f2,q⟩:=h2;subst e;refine FF hc S F hb I2 T st2 f2 q ?_;intro a C H' s' m hn hI hCL hq;have I':Inv X XL L H' s':=hI s'.heap (YX _ _);refine Yo ?_;refine LZ (v:=.ref a) I' hN hy (.inl hyl) () (λs'' I'' hch=>?_) (.inr hyl);obtain⟨ad,hsb,had⟩:=hch;obtain⟨f0,f1,f2',f3,f4,f5⟩:=hCL;have hne:C≠ad:=by
  rcases had with z|z
  .rw[z];exact f1
  .exact λe=>f4 y ad z e.symm
 refine#[m,hn.sameBut hsb hne,λh' hs'=>?_];exact#[_,H',I''.turned (t':=s''.toks) (λb o hb e=>(hs'.2 b hb).trans e) f0 f1 f3 f4 f5,hq]
end
noncomputable def Its (x:af):It:=#[λi _=>i<x.cps.size,λi H v H'=>H'=H/\∃c,x.cps[i]?=U c/\v=.str ⟨#[c]⟩,λi _=>i=x.cps.size]
def Od {M:rj} {n:af} {p:bV} {it:au} {Q:li->aF->Prop} (hQ:Q .unit s):aM M A (xG (.Name n p) it u) Q E s:=qE hQ
def JA {n:af} {p:bV} {ty:String} (it:ar) (x:af) (t:Tok)
  (W:∀A:dh,A.handled=B->Walks P w A it [it] [it] x.cps.size (SignAt x) (λi h=>h.IsStrIter it ty x t i))
  (sf:∀(A:dh) (i:J) (s:aF) (Q:au->aF->Prop) (E:au->aF->Prop),s.heap.IsStrIter it ty x t i->Q (.ref it) s->aM (aL P w) A (xH (.ref it)) Q E s):Turn P w K (.Name n p) (Its x) [it] it (λi h=>h.IsStrIter it ty x t i) where
 mem:=by simp
 obj:=λi h st b hb=>by
  have e:b=it:=by simpa using hb
  subst e;obtain⟨o,e,c,d⟩:=st;exact#[o,e,λv z=>by rw[d] at z;cases z]
 keep:=λi h h' st k=>by obtain⟨o,e,r⟩:=st;exact#[o,k it (by simp) o e,r]
 item:=by intro X hP hw hK hc i XL s L H E I hf st hg;subst hP hw hK;obtain⟨f0,f1,f2,f3,f4,f5⟩:=hf it (by simp);refine(W X.A (I.ok.hd hc)).item i s _ _ hg st λv h' tk hv st' kk=>?_;obtain⟨c,u,hcc,rfl⟩:=hv;have I1:Inv X XL L H {s with heap:=h',toks:=tk}:=I.turned (λb o hb e=>kk b o (by simpa using hb) e) f0 f1 f3 f4 f5;exact#[_,(),Od #[.str ⟨#[c]⟩,H,I1,#[_,()],#[(),c,hcc,()],st',λb hb=>(hf b hb).1]]
 done:=by intro X hP hw hK hc i XL s L H E I hf st hg;subst hP hw hK;obtain⟨f0,f1,f2,f3,f4,f5⟩:=hf it (by simp);have hi:i=x.cps.size:=hg;subst hi;exact(W X.A (I.ok.hd hc)).done s _ _ st λh' tk kk=>#[(),I.turned (λb o hb e=>kk b o (by simpa using hb) e) f0 f1 f3 f4 f5]
 self:=sf
def Px (te:TE):TI:=λL H R=>te L H λv H1=>∃x,v=.str x/\R (Its x) H1
def Pc {n:af} {p:bV} (he:PE X e te):PI X (.Name n p) e (Px te):=by
 intro XL s L H R I h;refine thE (he XL s L H _ I h) λv s1 y H1 I1 r1 q1=>?_;obtain⟨x,e,q⟩:=q1;subst e;obtain⟨t,rfl⟩:=r1;have fin:∀(ty:String) (o:bo),(s1.heap.push o).IsStrIter s1.heap.objs.size ty x t 0->Turn X.prog X.w X.K (.Name n p) (Its x) [s1.heap.objs.size] s1.heap.objs.size (λi h=>h.IsStrIter s1.heap.objs.size ty x t i)->
   PIE X XL L (.Name n p) R (.ref s1.heap.objs.size) {s1 with heap:=s1.heap.push o}:=λty o st T=>by
  refine#[s1.heap.objs.size,[s1.heap.objs.size],_,_,H1,(),I1.kept λb o e=>qv _ e,T,st,λb hb=>?_,q];have e:b=s1.heap.objs.size:=by simpa using hb
  subst e;exact I1.fpOk (qx _) (I1.hok.fresh (qx _))
 cases ha:x.cps.all (· < 128)
 .exact wpAny_pyIter_wide ha (fin _ _ #[_,qJ _ (),(),()] (JA _ x t (λA' hA=>Walks.strWide hA _ x t) λ_ _ _ _ _ st h=>wpAny_pyIter_striter_wide st h))
 .exact YY ha (fin _ _ #[_,qJ _ (),(),()] (JA _ x t (λA' hA=>Walks.strAscii hA _ x t) λ_ _ _ _ _ st h=>wpAny_pyIter_striter_ascii st h))
inductive D where
 |non|bl (b:aR)|int (i:aj)|str (x:af)|tup (l:Z D)|lst (l:Z D)|scr (ns:Z aj)
 |dk (l:Z (Key×D))|dt (l:Z (Z Key×D))|ins (c:af) (fs:Z (af×D))|ty (n:String)
structure Cn where
 cls:af->ak ar
 self:ak ar:=B
mutual
inductive Rep (O:Cn) (K:aJ) (G:Hp):V->D->Prop where
 |non:Rep O K G .non .non
 |bl (b:aR):Rep O K G (.bl b) (.bl b)
 |int (i:aj):Rep O K G (.int i) (.int i)
 |str (x:af):Rep O K G (.str x) (.str x)
 |ty (n:String):Rep O K G (.ty n) (.ty n)
 |tup {a:ar} {vs:Z V} {ds:Z D}:G a=U (.tup vs)->Reps O K G vs ds->Rep O K G (.ref a) (.tup ds)
 |lst {a:ar} {vs:Z V} {ds:Z D}:G a=U (.lst vs)->Reps O K G vs ds->Rep O K G (.ref a) (.lst ds)
 |scr {a:ar} {ns:Z aj}:SqL K G a (ns.map V.int)->Rep O K G (.ref a) (.scr ns)
 |dk {a:ar} {us:Z (Key×V)} {kvs:Z (Key×D)}:G a=U (.dK us)->us.map (·.1)=kvs.map (·.1)->Reps O K G (us.map (·.2)) (kvs.map (·.2))->Rep O K G (.ref a) (.dk kvs)
 |dt {a:ar} {us:Z (Z Key×V)} {kvs:Z (Z Key×D)}:G a=U (.dT us)->us.map (·.1)=kvs.map (·.1)->Reps O K G (us.map (·.2)) (kvs.map (·.2))->Rep O K G (.ref a) (.dt kvs)
 |ins {a C dx:ar} {c:af} {us:Z (af×V)} {fs:Z (af×D)}:G a=U (.ins C dx us)->O.cls c=U C->us.map (·.1)=fs.map (·.1)->Reps O K G (us.map (·.2)) (fs.map (·.2))->Rep O K G (.ref a) (.ins c fs)
inductive Reps (O:Cn) (K:aJ) (G:Hp):Z V->Z D->Prop where
 |nil:Reps O K G [] []
 |cons {v:V} {d:D} {vs:Z V} {ds:Z D}:Rep O K G v d->Reps O K G vs ds->Reps O K G (v::vs) (d::ds)
end
variable {O:Cn} {G G' G1 G2:Hp}
theorem Rep.tr {Γ':Cn} {v:V} {d:D} (s:a9 G G') (hc:Γ'.cls=O.cls) (r:Rep O K G v d):Rep Γ' K G' v d:=
 r.rec (motive_1:=λv d _=>Rep Γ' K G' v d) (motive_2:=λvs ds _=>Reps Γ' K G' vs ds) .non .bl .int .str .ty (λh _ i=>.tup (s _ _ h) i) (λh _ i=>.lst (s _ _ h) i) (λh=>.scr (s.seq h)) (λh e _ i=>.dk (s _ _ h) e i) (λh e _ i=>.dt (s _ _ h) e i) (λh c e _ i=>.ins (s _ _ h) (hc▸c) e i) .nil λ_ _ a b=>.cons a b
theorem Reps.tr {Γ':Cn} {vs:Z V} {ds:Z D} (s:a9 G G') (hc:Γ'.cls=O.cls) (r:Reps O K G vs ds):Reps Γ' K G' vs ds:=by
 induction ds generalizing vs with
 |nil=>cases r;exact .nil
 |cons d ds i=>cases r with|cons h r=>exact .cons (h.tr s hc) (i r)
def Rep.mono {v:V} {d:D} (r:Rep O K G v d) (s:a9 G G'):Rep O K G' v d:=r.tr s ()
def Reps.mono {vs:Z V} {ds:Z D} (r:Reps O K G vs ds) (s:a9 G G'):Reps O K G' vs ds:=r.tr s ()
def Rep.re {Γ':Cn} (hc:Γ'.cls=O.cls) {v:V} {d:D} (r:Rep O K G v d):Rep Γ' K G v d:=r.tr (.refl _) hc
def Reps.re {Γ':Cn} (hc:Γ'.cls=O.cls) {vs:Z V} {ds:Z D} (r:Reps O K G vs ds):Reps Γ' K G vs ds:=r.tr (.refl _) hc
theorem Reps.length {ds:Z D}:∀{vs:Z V},Reps O K G vs ds->vs.length=ds.length:=by
 induction ds with
 |nil=>intro _ r;cases r;rfl
 |cons d ds i=>intro _ r;cases r with|cons _ r=>rw[qh,qh,i r]
theorem Reps.get {ds:Z D}:∀{vs:Z V} {i:J} {d:D},Reps O K G vs ds->ds[i]?=U d->∃v,vs[i]?=U v/\Rep O K G v d:=by
 induction ds with
 |nil=>intro _ _ _ _ e;cases e
 |cons d ds ih=>intro _ i _ r e;cases r with|cons r t=>cases i with|zero=>cases e;exact#[_,(),r]|succ i=>exact ih (i:=i) t e
theorem Reps.append {ws:Z V} {ds es:Z D}:∀{vs:Z V},Reps O K G vs ds->Reps O K G ws es->Reps O K G (vs++ws) (ds++es):=by
 induction ds with
 |nil=>intro _ r s;cases r;exact s
 |cons d ds i=>intro _ r s;cases r with|cons r t=>exact .cons r (i t s)
theorem Reps.take:∀{vs:Z V} {ds:Z D} (n:J),Reps O K G vs ds->Reps O K G (vs.take n) (ds.take n)
 |_,_,0,_=>.nil
 |_,_,_+1,.nil=>.nil
 |_,_,n+1,.cons r t=>.cons r (t.take n)
theorem Reps.drop:∀{vs:Z V} {ds:Z D} (n:J),Reps O K G vs ds->Reps O K G (vs.drop n) (ds.drop n)
 |_,_,0,r=>r
 |_,_,_+1,.nil=>.nil
 |_,_,n+1,.cons _ t=>t.drop n
theorem Reps.ints:∀(ns:Z aj),Reps O K G (ns.map V.int) (ns.map D.int)
 |[]=>.nil
 |n::r=>.cons (.int n) (Reps.ints r)
theorem Reps.rep {vs:Z V} {ds:Z D} (h:Reps O K G vs ds):∀k:J,Reps O K G (bB k vs).flatten (bB k ds).flatten
 |0=>.nil
 |k+1=>by rw[mK,mK,rJ,rJ];exact h.append (Reps.rep h k)
structure Step (G H G' H':Hp):Prop where
 hh:a9 H H'
 gg:a9 G G'
 gh:a9 G' H'
 out:∀a o,H a=U o->G' a=G a
def Step.refl (gh:a9 G H):Step G H G H:=#[.refl _,.refl _,gh,λ_ _ _=>rfl]
def Step.trans (a:Step G H G1 H1) (b:Step G1 H1 G2 H2):Step G H G2 H2:=
 #[a.hh.trans b.hh,a.gg.trans b.gg,b.gh,λc o e=>(b.out c o (a.hh c o e)).trans (a.out c o e)]
def Step.new {p:ar} {o:HO} (gh:a9 G H) (hp:H p=B):Step G H (upd G p o) (upd H p o):=by
 have gp:G p=B:=gh.free hp;refine#[λb u e=>?_,λb u e=>?_,λb u e=>?_,λb u e=>?_]
 .rw[aW (ce e hp)];exact e
 .rw[aW (ce e gp)];exact e
 .by_cases hb:b=p
  .subst hb;rw[bK] at e ⊢;exact e
  .rw[aW hb] at e ⊢;exact gh b u e
 .rw[aW (ce e hp)]
def Step.newOwn {p:ar} {o:HO} (gh:a9 G H) (hp:H p=B):Step G H G (upd H p o):=by
 refine#[λb u e=>?_,.refl _,λb u e=>?_,λ_ _ _=>rfl]
 .rw[aW (ce e hp)];exact e
 .rw[aW (ce (gh b u e) hp)];exact gh b u e
inductive Slot where
 |sh (d:D)
 |own (ds:Z D)
 |obj (c:af) (fs:Z (af×D))
 |objd (c:af) (fs:Z (af×D)) (n:af) (kvs:Z (Key×D))
 |pin (a:ar)
abbrev bj:=Z (ak Slot)
noncomputable def QB:D->aR
 |.non=>ah
 |.bl _=>ah
 |.int _=>ah
 |.str _=>ah
 |_=>ao
def pk (H:Hp):Z ar->Z (Z V)->Prop
 |[],[]=>True
 |p::ps,vs::vss=>H p=U (.lst vs)/\pk H ps vss
 |_,_=>False
def vi (O:Cn) (K:aJ) (G:Hp):Z (Z V)->Z (Z D)->Prop
 |[],[]=>True
 |vs::vss,ds::dss=>Reps O K G vs ds/\vi O K G vss dss
 |_,_=>False
theorem pk.mem {H:Hp}:∀{ps:Z ar} {vss:Z (Z V)},pk H ps vss->∀b∈ps,∃o,H b=U o
 |[],_,_,b,hb=>by cases hb
 |p::ps,[],h,b,hb=>h.elim
 |p::ps,vs::vss,h,b,hb=>by
  rcases eC.mp hb with rfl|hb
  .exact#[_,h.1]
  .exact h.2.mem b hb
theorem pk.stay {H H':Hp}:∀{ps:Z ar} {vss:Z (Z V)},pk H ps vss->(∀b∈ps,H' b=H b)->pk H' ps vss
 |[],[],_,_=>trivial
 |[],_::_,h,_=>h.elim
 |p::ps,[],h,_=>h.elim
 |p::ps,vs::vss,h,e=>#[(e p qf).trans h.1,h.2.stay λb hb=>e b (qg _ hb)]
theorem vi.map {O:Cn} {K:aJ} {G G':Hp} (f:∀{vs:Z V} {ds:Z D},Reps O K G vs ds->Reps O K G' vs ds):∀{vss:Z (Z V)} {dss:Z (Z D)},vi O K G vss dss->vi O K G' vss dss
 |[],[],_=>trivial
 |[],_::_,h=>h.elim
 |_::_,[],h=>h.elim
 |_::_,_::_,h=>#[f h.1,h.2.map f]
inductive SR (O:Cn) (K:aJ) (Ty G H:Hp):Slot->V->Z ar->Prop where
 |sh {d:D} {v:V}:Rep O K G v d->SR O K Ty G H (.sh d) v []
 |own {a:ar} {vs:Z V} {ds:Z D}:Ty a=B->G a=B->H a=U (.lst vs)->Reps O K G vs ds->SR O K Ty G H (.own ds) (.ref a) [a]
 |obj {c:af} {a C dx:ar} {vs:Z (af×V)} {fs:Z (af×D)}:O.cls c=U C->Ty a=B->G a=B->H a=U (.ins C dx vs)->vs.map (·.1)=fs.map (·.1)->Reps O K G (vs.map (·.2)) (fs.map (·.2))->O.self=U a->SR O K Ty G H (.obj c fs) (.ref a) [a]
 |objd {c n:af} {a C dx p:ar} {vs:Z (af×V)} {fs:Z (af×D)} {us:Z (Key×V)} {kvs:Z (Key×D)}:O.cls c=U C->Ty a=B->G a=B->H a=U (.ins C dx (vs++[(n,.ref p)]))->vs.map (·.1)=fs.map (·.1)->Reps O K G (vs.map (·.2)) (fs.map (·.2))->
   Ty p=B->G p=B->H p=U (.dK us)->us.map (·.1)=kvs.map (·.1)->Reps O K G (us.map (·.2)) (kvs.map (·.2))->O.self=U a->SR O K Ty G H (.objd c fs n kvs) (.ref a) [a,p]
 |pin (a:ar):SR O K Ty G H (.pin a) (.ref a) []
variable {Ty:Hp}
section
variable {s:Slot}
def SR.fpt (r:SR O K Ty G H s v fp):∀b∈fp,Ty b=B/\G b=B/\∃o,H b=U o:=by
 cases r with
 |sh r=>intro b hb;cases hb
 |own h1 h2 h3 _=>intro b hb;rw[cm.mp hb];exact#[h1,h2,_,h3]
 |obj _ h1 h2 h3 _ _ _=>intro b hb;rw[cm.mp hb];exact#[h1,h2,_,h3]
 |objd _ h1 h2 h3 _ _ q1 q2 q3 _ _ _=>
  intro b hb;rcases eC.mp hb with rfl|hb
  .exact#[h1,h2,_,h3]
  .rw[cm.mp hb];exact#[q1,q2,_,q3]
 |pin a=>intro b hb;cases hb
def SR.stay (r:SR O K Ty G H s v fp) (gg:a9 G G') (hg:∀b∈fp,G' b=B) (hh:∀b∈fp,H' b=H b):SR O K Ty G' H' s v fp:=by
 cases r with
 |sh r=>exact .sh (r.mono gg)
 |own h1 h2 h3 h4=>exact .own h1 (hg _ (cm.mpr ())) ((hh _ (cm.mpr ())).trans h3) (h4.mono gg)
 |obj c h1 h2 h3 h4 h5 hs=>exact .obj c h1 (hg _ (cm.mpr ())) ((hh _ (cm.mpr ())).trans h3) h4 (h5.mono gg) hs
 |objd c h1 h2 h3 h4 h5 q1 q2 q3 q4 q5 hs=>
  exact .objd c h1 (hg _ qf) ((hh _ qf).trans h3) h4 (h5.mono gg) q1 (hg _ (qg _ qf)) ((hh _ (qg _ qf)).trans q3) q4 (q5.mono gg) hs
 |pin a=>exact .pin a
def SR.stepS (r:SR O K Ty G H s v fp) (t:Step G H G' H'):SR O K Ty G' H' s v fp:=r.stay t.gg (λb hb=>by
 obtain⟨_,h2,o,h3⟩:=r.fpt b hb;exact(t.out b o h3).trans h2) (λb hb=>by
 obtain⟨_,_,o,h3⟩:=r.fpt b hb;rw[h3];exact t.hh b o h3)
end
def SR.uniq {s:Slot} {fq:Z ar} (r:SR O K Ty G H s v fp) (q:SR O K Ty G H s v fq):fp=fq:=by
 cases r with
 |sh r=>cases q;rfl
 |own h1 h2 h3 _=>cases q;rfl
 |obj _ h1 h2 h3 _ _ _=>cases q;rfl
 |objd _ h1 h2 h3 _ _ q1 q2 q3 _ _ _=>
  cases q with
  |objd _ _ _ k3 _ _ _ _ _ _ _ _=>
   rw[h3] at k3;have z:=(HO.ins.inj (qK k3)).2.2;have z2:=(List.append_inj' z ()).2;cases z2;rfl
 |pin a=>cases q;rfl
structure EnvRel (O:Cn) (K:aJ) (Ty G H:Hp) (Y:bj) (L:St):Prop where
 len:Y.length=L.length
 sl:∃fps:J->Z ar,(∀(i:J) s,Y[i]?=U (U s)->∃v,L[i]?=U (U v)/\SR O K Ty G H s v (fps i)) /\
  ∀(i j:J) s t,i≠j->Y[i]?=U (U s)->Y[j]?=U (U t)->∀b∈fps i,b∉fps j
structure At (O:Cn) (K:aJ) (Tm Ty G H:Hp) (Y:bj) (L:St):Prop where
 st:Step Tm Ty G H
 env:EnvRel O K Ty G H Y L
def gY (Y:bj):Prop:=∀(i:J) s,Y[i]?=U (U s)->∃d,s=.sh d
variable {Tm:Hp} {Y:bj} {fp':Z ar} {d:D} {ds:Z D}
def EnvRel.ofSh (len:Y.length=L.length) (no:gY Y) (sh:∀(i:J) d,Y[i]?=U (U (.sh d))->∃v,L[i]?=U (U v)/\Rep O K G v d):EnvRel O K Ty G H Y L :=
 #[len,λ_=>[],λi s e=>by obtain⟨d,rfl⟩:=no i s e;obtain⟨v,h1,h2⟩:=sh i d e;exact#[v,h1,.sh h2],λ_ _ _ _ _ _ _ b hb=>by cases hb]
def EnvRel.sh (E:EnvRel O K Ty G H Y L) (i:J) (d:D) (e:Y[i]?=U (U (.sh d))):∃v,L[i]?=U (U v)/\Rep O K G v d:=by
 obtain⟨fps,h,_⟩:=E.sl;obtain⟨v,h1,h2⟩:=h i _ e;generalize fps i=fp at h2;cases h2 with
 |sh r=>exact#[v,h1,r]
def EnvRel.own (E:EnvRel O K Ty G H Y L) (i:J) (ds:Z D) (e:Y[i]?=U (U (.own ds))):∃a vs,L[i]?=U (U (.ref a))/\Ty a=B/\G a=B/\H a=U (.lst vs)/\Reps O K G vs ds:=by
 obtain⟨fps,h,_⟩:=E.sl;obtain⟨v,h1,h2⟩:=h i _ e;generalize fps i=fp at h2;cases h2 with
 |own q1 q2 q3 q4=>exact#[_,_,h1,q1,q2,q3,q4]
def At.gh (A:At O K Tm Ty G H Y L):a9 G H:=A.st.gh
def At.step (A:At O K Tm Ty G H Y L) (s:Step G H G' H'):At O K Tm Ty G' H' Y L:=by
 obtain⟨fps,h,ap⟩:=A.env.sl;exact#[A.st.trans s,A.env.len,fps,λi t e=>by obtain⟨v,h1,h2⟩:=h i t e;exact#[v,h1,h2.stepS s],ap]
def At.put (A:At O K Tm Ty G H Y L) {s':Slot} {v':V} 
  (hfp:fp=[]\/∃s v,Y[i]?=U (U s)/\L[i]?=U (U v)/\SR O K Ty G H s v fp)
  (hH:∀b o,H b=U o->b∉fp->H' b=U o) (hS:SR O K Ty G' H' s' v' fp') (hn:∀b∈fp',b∈fp\/H b=B)
  (gg:a9 G G') (gh:a9 G' H') (out:∀b o,H b=U o->b∉fp->G' b=G b) (out2:∀b∈fp,Ty b=B):At O K Tm Ty G' H' (Y.set i (U s')) (L.set i (U v')):=by
 obtain⟨fps,h,ap⟩:=A.env.sl;have hl:=A.env.len;have old:∀b∈fp,∀j t,j≠i->Y[j]?=U (U t)->b∉fps j:=λb hb j t hj e=>by
  rcases hfp with rfl|⟨s,v,h1,h2,h3⟩
  .cases hb
  .obtain⟨v2,h4,h5⟩:=h i s h1;rw[h2] at h4;cases h4;have efp:fp=fps i:=h3.uniq h5;subst efp;exact ap i j s t (dU hj) h1 e b hb
 have slj:∀(j:J) t,j≠i->Y[j]?=U (U t)->∃v,L[j]?=U (U v)/\SR O K Ty G' H' t v (fps j):=λj t hj e=>by
  obtain⟨v,h1,h2⟩:=h j t e;refine#[v,h1,h2.stay gg (λb hb=>?_) (λb hb=>?_)]
  .obtain⟨_,q2,o,q3⟩:=h2.fpt b hb;exact(out b o q3 λz=>old b z j t hj e hb).trans q2
  .obtain⟨_,_,o,q3⟩:=h2.fpt b hb;rw[q3];exact hH b o q3 λz=>old b z j t hj e hb
 have no2:∀b o,Ty b=U o->b∉fp:=λb o e z=>by rw[out2 b z] at e;cases e
 have hst:Step Tm Ty G' H':=#[λb o e=>hH b o (A.st.hh b o e) (no2 b o e),A.st.gg.trans gg,gh,λb o e=>(out b o (A.st.hh b o e) (no2 b o e)).trans (A.st.out b o e)];refine#[hst,by simp[hl],λj=>if j=i then fp' else fps j,λj t e=>?_,λj k t u hjk e1 e2 b hb=>?_]
 .by_cases hj:j=i
  .subst hj;have hlt:j < Y.length:=by
    rcases gy j Y.length with q|q
    .exact q
    .rw[Dg (by simp;lia)] at e;cases e
   rw[iZ hlt] at e;cases e;show ∃v,_/\SR _ _ _ _ _ _ v (if j=j then fp' else fps j);rw[qZ ()];exact#[v',by rw[iZ .(b)],hS]
  .rw[qC (dU hj)] at e ⊢;show ∃v,_/\SR _ _ _ _ _ _ v (if j=i then fp' else fps j);rw[xa hj];exact slj j t hj e
 .have cross:∀{k:J} {u:Slot},k≠i->Y[k]?=U (U u)->∀b∈fp',b∉fps k:=λ{k u} hk e b hb hb2=>by
   rcases hn b hb with z|z
   .exact old b z k u hk e hb2
   .obtain⟨v,_,q⟩:=h k u e;obtain⟨_,_,o,q3⟩:=q.fpt b hb2;rw[z] at q3;cases q3
  replace hb:b∈(if j=i then fp' else fps j):=hb
  show b∉(if k=i then fp' else fps k);by_cases hj:j=i
  .subst hj;have hk:k≠j:=dU hjk;rw[qZ ()] at hb;rw[xa hk];rw[qC hjk] at e2;exact cross hk e2 b hb
  .rw[xa hj] at hb;rw[qC (dU hj)] at e1;by_cases hk:k=i
   .subst hk;rw[qZ ()];exactλz=>cross hj e1 b z hb
   .rw[xa hk];rw[qC (dU hk)] at e2;exact ap j k t u hjk e1 e2 b hb
def At.setSh (A:At O K Tm Ty G H Y L) (r:Rep O K G v d):At O K Tm Ty G H (Y.set i (U (.sh d))) (L.set i (U v)):=
 A.put (.inl ()) (λb o e _=>e) (.sh r) (λb hb=>by cases hb) (.refl _) A.gh (λ_ _ _ _=>rfl) (λb hb=>by cases hb)
def At.setOwn (A:At O K Tm Ty G H Y L) (ha:H a=B) (r:Reps O K G vs ds):At O K Tm Ty G (upd H a (.lst vs)) (Y.set i (U (.own ds))) (L.set i (U (.ref a))):=by have h0:Ty a=B:=A.st.hh.free ha;have hg:G a=B:=A.gh.free ha;refine A.put (.inl ()) (λb o e _=>by rw[aW (ce e ha)];exact e) (.own h0 hg bK r) (λb hb=>.inr (by rw[cm.mp hb];exact ha)) (.refl _) (λb o e=>?_) (λ_ _ _ _=>rfl) (λb hb=>by cases hb);rw[aW (ce e hg)];exact A.gh b o e
def Qj {l:Z α} {x:α} (h:l[i]?=U x):l.set i x=l:=by
 apply List.ext_getElem?;intro j;by_cases hj:j=i
 .subst hj;rw[iZ (gv.mp h).1,h]
 .rw[qC (dU hj)]
def At.ch (A:At O K Tm Ty G H Y L) {s s':Slot} (hi:Y[i]?=U (U s)) (hv:L[i]?=U (U v)) (hs:SR O K Ty G H s v fp)
  (hH:∀b o,H b=U o->b∉fp->H' b=U o) (hS:SR O K Ty G' H' s' v fp') (hn:∀b∈fp',b∈fp\/H b=B)
  (gg:a9 G G') (gh:a9 G' H') (out:∀b o,H b=U o->b∉fp->G' b=G b):At O K Tm Ty G' H' (Y.set i (U s')) L:=by
 have:=A.put (.inr #[s,v,hi,hv,hs]) hH hS hn gg gh out λb hb=>(hs.fpt b hb).1
 rwa [Qj hv] at this
def At.get (A:At O K Tm Ty G H Y L) {s:Slot} (hi:Y[i]?=U (U s)):∃v fp,L[i]?=U (U v)/\SR O K Ty G H s v fp:=by obtain⟨fps,h,_⟩:=A.env.sl;obtain⟨v,h1,h2⟩:=h i s hi;exact#[v,_,h1,h2]
def At.chOwn (A:At O K Tm Ty G H Y L) {es:Z D} {ws:Z V} (hi:Y[i]?=U (U (.own ds))) (ha:L[i]?=U (U (.ref a))) (r:Reps O K G ws es):At O K Tm Ty G (upd H a (.lst ws)) (Y.set i (U (.own es))) L:=by
 obtain⟨v,fp,h1,h2⟩:=A.get hi;rw[ha] at h1;cases h1;cases h2 with
 |own q1 q2 q3 q4=>
  refine A.ch hi ha (.own q1 q2 q3 q4) (λb o e hb=>?_) (.own q1 q2 bK r) (λb hb=>.inl hb) (.refl _) (λb o e=>?_) (λ_ _ _ _=>rfl)
  .rw[aW (λz=>hb (cm.mpr z))];exact e
  .rw[aW (ce e q2)];exact A.gh b o e
def At.freeze (A:At O K Tm Ty G H Y L) (hi:Y[i]?=U (U (.own ds))):∃G',a9 G G'/\At O K Tm Ty G' H (Y.set i (U (.sh (.lst ds)))) L:=by
 obtain⟨v,fp,h1,h2⟩:=A.get hi;cases h2 with
 |own q1 q2 q3 q4=>
  rename_i a vs;have sm:a9 G (upd G a (.lst vs)):=λb o e=>by rw[aW (ce e q2)];exact e
  refine#[upd G a (.lst vs),sm,A.ch hi h1 (.own q1 q2 q3 q4) (λb o e hb=>e) (.sh (.lst bK (q4.mono sm))) (λb hb=>by cases hb) sm (λb o e=>?_) (λb o e hb=>?_)]
  .by_cases hb:b=a
   .subst hb;rw[bK] at e;cases e;exact q3
   .rw[aW hb] at e;exact A.gh b o e
  .rw[aW (λz=>hb (cm.mpr z))]
mutual
inductive NewL (H G:Hp):V->D->Prop where
 |flat {v:V} {d:D}:QB d=ah->NewL H G v d
 |tup {a:ar} {vs:Z V} {ds:Z D}:G a=U (.tup vs)->NewLs H G vs ds->NewL H G (.ref a) (.tup ds)
 |lst {a:ar} {vs:Z V} {ds:Z D}:G a=U (.lst vs)->H a=B->NewLs H G vs ds->NewL H G (.ref a) (.lst ds)
inductive NewLs (H G:Hp):Z V->Z D->Prop where
 |nil:NewLs H G [] []
 |cons {v:V} {d:D} {vs:Z V} {ds:Z D}:NewL H G v d->NewLs H G vs ds->NewLs H G (v::vs) (d::ds)
end
inductive Fl where
 |nx|bk|ct|rt (d:D)|ow (ds:Z D)|nw (d:D)|od (kvs:Z (Key×D))
abbrev FE:=bj->ak D
abbrev FT:=bj->ak aR
abbrev FA:=bj->ak (Z D)
abbrev FS:=bj->ak (Fl×bj)
inductive TD (O:Cn) (K:aJ) (f:FE) (L:St) (H:Hp) (Q:VK):Prop where
 |mk:∀Tm Ty G Y d,At O K Tm Ty G H Y L->f Y=U d->(∀v G' H',Step G H G' H'->Rep O K G' v d->Q v H')->TD O K f L H Q
inductive TDt (O:Cn) (K:aJ) (f:FT) (L:St) (H:Hp) (Q:aR->Hp->Prop):Prop where
 |mk:∀Tm Ty G Y b,At O K Tm Ty G H Y L->f Y=U b->(∀G' H',Step G H G' H'->Q b H')->TDt O K f L H Q
inductive TDa (O:Cn) (K:aJ) (f:FA) (L:St) (H:Hp) (Q:Z V->Hp->Prop):Prop where
 |mk:∀Tm Ty G Y ds,At O K Tm Ty G H Y L->f Y=U ds->(∀vs G' H',Step G H G' H'->Reps O K G' vs ds->Q vs H')->TDa O K f L H Q
def nQ (O:Cn) (K:aJ) (E:Ends) (Ty G' H':Hp) (BT:St):Fl->Prop
 |.nx=>E.nx BT H'
 |.bk=>E.bk BT H'
 |.ct=>E.ct BT H'
 |.rt d=>∀v,Rep O K G' v d->E.rt v H'
 |.ow ds=>∀p vs,Ty p=B->G' p=B->H' p=U (.lst vs)->Reps O K G' vs ds->E.rt (.ref p) H'
 |.nw d=>∀v,Rep O K G' v d->NewL Ty G' v d->E.rt v H'
 |.od kvs=>∀p us,Ty p=B->G' p=B->H' p=U (.dK us)->us.map (·.1)=kvs.map (·.1)->Reps O K G' (us.map (·.2)) (kvs.map (·.2))->E.rt (.ref p) H'
inductive TDs (O:Cn) (K:aJ) (g:FS) (E:Ends) (L:St) (H:Hp):Prop where
 |mk:∀Tm Ty G Y fl KK,At O K Tm Ty G H Y L->g Y=U (fl,KK)->(∀BT G' H',a9 G G'->At O K Tm Ty G' H' KK BT->nQ O K E Ty G' H' BT fl)->TDs O K g E L H
inductive TDo (O:Cn) (K:aJ) (f:FA) (L:St) (H:Hp) (Q:VK):Prop where
 |mk:∀Tm Ty G Y ds,At O K Tm Ty G H Y L->f Y=U ds->(∀p vs G' H',Step G H G' H'->H' p=B->Reps O K G' vs ds->Q (.ref p) (upd H' p (.lst vs)))->TDo O K f L H Q
structure DE (O:Cn) (X:Cx) (e:Expr) (f:FE):Prop where
 out:PE X e (TD O X.K f)
structure DT (O:Cn) (X:Cx) (e:Expr) (f:FT):Prop where
 out:PT X e (TDt O X.K f)
structure DW (O:Cn) (X:Cx) (e:Expr) (f:FT):Prop where
 out:PW X e (TDt O X.K f)
structure DA (O:Cn) (X:Cx) (es:Z Expr) (f:FA):Prop where
 out:PA X es (TDa O X.K f)
structure DS (O:Cn) (X:Cx) (st:Stmt) (g:FS):Prop where
 out:PS X st (TDs O X.K g)
structure DSs (O:Cn) (X:Cx) (st:Z Stmt) (g:FS):Prop where
 out:PSs X st (TDs O X.K g)
structure DO (O:Cn) (X:Cx) (e:Expr) (f:FA):Prop where
 out:PE X e (TDo O X.K f)
variable {fa fb fc f:FE}
section
variable {a c:Expr}
def PE.imp {t t':TE} (h:PE X e t) (i:∀L H Q,t' L H Q->t L H Q):PE X e t':=λXL s L H Q I q=>h XL s L H Q I (i _ _ _ q)
def PT.imp {t t':TT} (h:PT X e t) (i:∀L H Q,t' L H Q->t L H Q):PT X e t':=λXL s L H Q I q=>h XL s L H Q I (i _ _ _ q)
def PW.imp {t t':TT} (h:PW X e t) (i:∀L H Q,t' L H Q->t L H Q):PW X e t':=λwh XL s L H Q I q=>h wh XL s L H Q I (i _ _ _ q)
def PA.imp {t t':TA} (h:PA X es t) (i:∀L H Q,t' L H Q->t L H Q):PA X es t':=λp XL s L H Q I q=>h p XL s L H Q I (i _ _ _ q)
def PS.imp {st:Stmt} {t t':TS} (h:PS X st t) (i:∀E L H,t' E L H->t E L H):PS X st t':=λXL s L H E I q=>h XL s L H E I (i _ _ _ q)
def PSs.imp {st:Z Stmt} {t t':TS} (h:PSs X st t) (i:∀E L H,t' E L H->t E L H):PSs X st t':=λXL s L H E I q=>h XL s L H E I (i _ _ _ q)
noncomputable def vSh (i:J):FE:=λY=>match Y[i]? with
 |some (U (.sh d))=>U d
 |_=>B
def O4 (h:vSh i Y=U d):Y[i]?=U (U (.sh d)):=by
 unfold vSh at h;split at h
 .rename_i e;cases h;exact e
 .cases h
def ai (i:J) (hN:X.N[i]?=U x:=by rfl) (hv:Vis X.env.scope x:=by ac_nf) (hd:(x==("__debug__":af))=ao:=by decide)
  (hcd:(x==("__classdict__":af))=ao:=by decide):DE O X (.Name x pos) (vSh i):=⟨(dM hN hv hd hcd).imp λL H Q #[Tm,Ty,G,Y,d,A,h,k]=>by
 obtain⟨v,h1,h2⟩:=A.env.sh i d (O4 h);exact#[v,h1,k v G H (.refl A.gh) h2]⟩
noncomputable def vC (d:D):FE:=λ_=>U d
def TD.const (r:∀G,Rep O X.K G v d) (h:PE X e (tC v)):DE O X e (vC d):=⟨h.imp λL H Q ζ=>by obtain⟨Tm,Ty,G,Y,d',A,h,k⟩:=ζ;cases h;exact k v G H (.refl A.gh) (r G)⟩
def aw {i j}:DE O X (.Constant (.int i) j pos) (vC (.int i)):=TD.const (λ_=>.int i) vB
def c7 {i j}:DE O X (.Constant (.bool i) j pos) (vC (.bl i)):=TD.const (λ_=>.bl i) GV
def eK {j}:DE O X (.Constant .none j pos) (vC .non):=TD.const (λ_=>.non) zW
def aB {i j}:DE O X (.Constant (.str i) j pos) (vC (.str i)):=TD.const (λ_=>.str i) J5
def eX {i:aj} {t:Tok} (hg:Gl X x) (hm:X.mg x=U (.int i t)) (hd:(x==("__debug__":af))=ao:=by decide):DE O X (.Name x pos) (vC (.int i)):=TD.const (λ_=>.int i) (kN hg hm #[t,()] hd)
noncomputable def b2 (g:D->D->ak D) (fa fb:FE):FE:=λY=>(fa Y).bind λx=>(fb Y).bind λy=>g x y
noncomputable def b1 (g:D->ak D) (fa:FE):FE:=λY=>(fa Y).bind g
def fB (O:Cn) (K:aJ) (g:D->D->ak D) (r:R2):Prop:=
 ∀{G H v u x y z},a9 G H->Rep O K G v x->Rep O K G u y->g x y=U z->∀Q:VK,(∀w G' H',Step G H G' H'->Rep O K G' w z->Q w H')->r v u H Q
def TD.two {g:D->D->ak D} {r:R2} (hr:fB O X.K g r):∀L H Q,TD O X.K (b2 g fa fb) L H Q->tOp r (TD O X.K fa) (TD O X.K fb) L H Q:=by
 rintro L H Q ⟨Tm,Ty,G,Y,d,A,h,k⟩;unfold b2 at h;cases ha:fa Y with
 |none=>rw[ha] at h;cases h
 |some x=>
  cases hb:fb Y with
  |none=>rw[ha] at h;simp only[qa,hb,Option.bind_none] at h;cases h
  |some y=>
   simp only[ha,hb,qa] at h;refine#[Tm,Ty,G,Y,x,A,ha,λv G1 H1 s1 r1=>#[Tm,Ty,G1,Y,y,A.step s1,hb,λu G2 H2 s2 r2=>?_]];exact hr s2.gh (r1.mono s2.gg) r2 h Q λw G' H' s r=>k w G' H' ((s1.trans s2).trans s) r
def nS {op:Mi} {g:D->D->ak D} {r:R2} (ho:OpR X (gK op) r) (hr:fB O X.K g r) (ha:DE O X a fa) (hb:DE O X b fb):DE O X (.BinOp a op b pos) (b2 g fa fb):=⟨(FX ho ha.1 hb.1).imp (TD.two hr)⟩
noncomputable def bZ:D->D->ak D
 |.int i,.int j=>U (.int (i+j))
 |.str x,.str y=>if x.length+y.length<=aH then U (.str (x++y)) else B
 |.lst x,.lst y=>if x.length+y.length<=aH then U (.lst (x++y)) else B
 |_,_=>B
noncomputable def kt:D->D->ak D
 |.int i,.int j=>U (.int (i-j))
 |_,_=>B
noncomputable def kM (x:af) (n:J):af:=⟨(bB n x.cps.toList).flatten.toArray⟩
def lK:D->D->ak D
 |.int i,.int j=>if (-(2 ^ 64)<i/\i<2 ^ 64)\/(-(2 ^ 64)<j/\j<2 ^ 64) then U (.int (i*j)) else B
 |.lst x,.int j=>if -(2 ^ 63)<=j/\j<2 ^ 63/\x.length*j.toNat<=aH then U (.lst (bB j.toNat x).flatten) else B
 |.str x,.int j=>if 0<=j/\j<1000/\x.length<1000 then U (.str (kM x j.toNat)) else B
 |_,_=>B
noncomputable def o7:D->D->ak D
 |.int i,.int j=>if 0<j/\j<1073741824 then U (.int (i / j)) else B
 |_,_=>B
noncomputable def nX:D->D->ak D
 |.int i,.int j=>if 0<j then U (.int (i%j)) else B
 |_,_=>B
noncomputable def nI:D->D->ak D
 |.int i,.int j=>if 0<=j/\j<=1000000/\i.natAbs<2 ^ 64 then U (.int (i ^ j.toNat)) else B
 |_,_=>B
def Rep.int_inv {i:aj} (r:Rep O K G v (.int i)):v=.int i:=by cases r;rfl
def Rep.str_inv {i:af} (r:Rep O K G v (.str i)):v=.str i:=by cases r;rfl
def Rep.bl_inv {i:aR} (r:Rep O K G v (.bl i)):v=.bl i:=by cases r;rfl
def Rep.lst_inv (r:Rep O K G v (.lst ds)):∃a vs,v=.ref a/\G a=U (.lst vs)/\Reps O K G vs ds:=by cases r;exact#[_,_,(),by assumption,by assumption]
def Rep.tup_inv (r:Rep O K G v (.tup ds)):∃a vs,v=.ref a/\G a=U (.tup vs)/\Reps O K G vs ds:=by cases r;exact#[_,_,(),by assumption,by assumption]
def Rep.scr_inv {ns:Z aj} (r:Rep O K G v (.scr ns)):∃a,v=.ref a/\SqL K G a (ns.map V.int):=by cases r;exact#[_,(),by assumption]
def ip {Q:VK} (gh:a9 G H) (r:Reps O K G vs ds) (k:∀w G' H',Step G H G' H'->Rep O K G' w (.lst ds)->Q w H'):∀p,H p=B->Q (.ref p) (upd H p (.lst vs)):=λp hp=>by have s:=Step.new (o:=.lst vs) gh hp;exact k _ _ _ s (.lst bK (r.mono s.gg))
def wv {Q:VK} (gh:a9 G H) (r:Reps O K G vs ds) (k:∀w G' H',Step G H G' H'->Rep O K G' w (.tup ds)->Q w H'):∀p,H p=B->Q (.ref p) (upd H p (.tup vs)):=λp hp=>by have s:=Step.new (o:=.tup vs) gh hp;exact k _ _ _ s (.tup bK (r.mono s.gg))
def Kp :fB O K bZ (λx y H Q=>(rI0 (λi j=>V.int (i+j)) x y H Q\/(∃i j,x=.str i/\y=.str j/\i.length+j.length<=aH/\Q (.str (i++j)) H))\/Cf x y H Q):=by
 intro G H v u x y z gh r1 r2 h Q k;unfold bZ at h;split at h
 .cases h;cases r1.int_inv;cases r2.int_inv;exact .inl (.inl #[_,_,(),(),k _ G H (.refl gh) (.int _)])
 .split at h
  .cases h;cases r1.str_inv;cases r2.str_inv;exact .inl (.inr #[_,_,(),(),by assumption,k _ G H (.refl gh) (.str _)])
  .cases h
 .split at h
  .rename_i hz;cases h;obtain⟨a,vs,rfl,ha,ra⟩:=r1.lst_inv;obtain⟨b,us,rfl,hb,rb⟩:=r2.lst_inv;exact .inr #[a,b,vs,us,(),(),gh _ _ ha,gh _ _ hb,by rw[ra.length,rb.length];exact hz,ip gh (ra.append rb) k]
  .cases h
 .cases h
def FV:OpR X (gK .Add) (λx y H Q=>(rI0 (λi j=>V.int (i+j)) x y H Q\/(∃i j,x=.str i/\y=.str j/\i.length+j.length<=aH/\Q (.str (i++j)) H))\/Cf x y H Q):=(Pf.or Pw).or QM
def bx (ha:DE O X a fa) (hb:DE O X b fb):DE O X (.BinOp a .Add b pos) (b2 bZ fa fb):=nS FV Kp ha hb
def GS {g:D->D->ak D} {o:aj->aj->aj} (hg:∀x y z,g x y=U z->∃i j,x=.int i/\y=.int j/\z=.int (o i j)):fB O K g (rI0 λi j=>V.int (o i j)):=by intro G H v u x y z gh r1 r2 h Q k;obtain⟨i,j,rfl,rfl,rfl⟩:=hg x y z h;cases r1.int_inv;cases r2.int_inv;exact#[_,_,(),(),k _ G H (.refl gh) (.int _)]
def pd {g:D->D->ak D} {C:aj->aj->Prop} {o:aj->aj->aj} (hg:∀x y z,g x y=U z->∃i j,x=.int i/\y=.int j/\C i j/\z=.int (o i j)):fB O K g (rI C λi j=>V.int (o i j)):=by intro G H v u x y z gh r1 r2 h Q k;obtain⟨i,j,rfl,rfl,hc,rfl⟩:=hg x y z h;cases r1.int_inv;cases r2.int_inv;exact#[_,_,(),(),hc,k _ G H (.refl gh) (.int _)]
def lI (ha:DE O X a fa) (hb:DE O X b fb):DE O X (.BinOp a .Sub b pos) (b2 kt fa fb):=nS Hc (GS λx y z h=>by unfold kt at h;split at h<;>cases h;exact#[_,_,(),(),()]) ha hb
def Xk (ha:DE O X a fa) (hb:DE O X b fb):DE O X (.BinOp a .FloorDiv b pos) (b2 o7 fa fb):=nS Ir (pd λx y z h=>by
 unfold o7 at h;split at h
 .split at h<;>cases h;exact#[_,_,(),(),by assumption,()]
 .cases h) ha hb
def ww (ha:DE O X a fa) (hb:DE O X b fb):DE O X (.BinOp a .Mod b pos) (b2 nX fa fb):=nS F4 (pd λx y z h=>by
 unfold nX at h;split at h
 .split at h<;>cases h;exact#[_,_,(),(),by assumption,()]
 .cases h) ha hb
def sx (ha:DE O X a fa) (hb:DE O X b fb):DE O X (.BinOp a .Pow b pos) (b2 nI fa fb):=nS Vc (pd λx y z h=>by
 unfold nI at h;split at h
 .split at h<;>cases h;exact#[_,_,(),(),by assumption,()]
 .cases h) ha hb
theorem Ec (a:cg J):∀(k:J) (acc:Z J),(bB k a).foldl (·++·) acc.toArray=(acc++(bB k a.toList).flatten).toArray
 |0,acc=>by simp
 |k+1,acc=>by
  rw[mK,kj,mK,rJ,<-qy,<-Ec a k (acc++a.toList)]
  congr 1
  simp
def E6:R2:=λx y H Q=>∃z n,x=.str z/\y=.int n/\0<=n/\n<1000/\z.length<1000/\Q (.str (kM z n.toNat)) H
def Sk:OpR X (gK .Mult) E6:=by
 intro XL s L H x y v u Q I rx ry h;obtain⟨z,n,rfl,rfl,h0,h1,h2,q⟩:=h;obtain⟨t,rfl⟩:=rx;obtain⟨t',rfl⟩:=ry;have hl:z.length*n.toNat<=1000000:=qP (Nat.mul_le_mul (ui h2) (show n.toNat<=1000 by lia)) .(a);have e0:(bB n.toNat z.cps).foldl (·++·) #[]=(kM z n.toNat).cps:=by have:=Ec z.cps n.toNat [];simpa[kM] using this
 refine PySem.P.mul_str ?_ (λh _=>?_) (λ_ _=>?_) ?_
 .rw[qQ .(b),qQ .(b)];rfl
 .have e:(z.length:aj)*n=((z.length*n.toNat:J):aj):=by rw[Int.natCast_mul];congr 1;lia
  have:(z.length:aj)<=(2 ^ 63-1:aj) / n:=Int.le_ediv_of_mul_le .(b) (by rw[e];lia);lia
 .unfold xaN;exact qQ (by have:=gL;lia)
 .split
  .have:n=0:=by lia
   subst this;exact#[by decide,#[.str _,H,I.tok _,#[_,()],by simpa[kM,CQ] using q]]
  .split
   .rename_i hc;have ez:kM z n.toNat=z:=by
     rcases Dh _ _▸hc with e|e
     .have:n=1:=by simpa using e
      subst this;simp[kM]
     .have hz:z.cps=#[]:=by
       have:z.cps.size=0:=by simpa[iA] using e
       exact Array.eq_empty_of_size_eq_zero this
      cases z;simp only at hz;subst hz;simp[kM]
    exact#[.str _,H,I,#[_,()],by rw[<-ez];exact q]
   .rw[e0];refine#[?_,#[.str _,H,I.tok _,#[_,()],q]];have e1:(kM z n.toNat).length=n.toNat*z.length:=by show(bB n.toNat z.cps.toList).flatten.toArray.size=_;rw[qF,FD];simp[iA]
    rw[e1,MF];have:=gL;lia
def WZ :fB O K lK (λx y H Q=>(rI xm (λi j=>V.int (i*j)) x y H Q\/Gf x y H Q)\/E6 x y H Q):=by
 intro G H v u x y z gh r1 r2 h Q k;unfold lK at h;split at h
 .split at h
  .cases h;cases r1.int_inv;cases r2.int_inv;exact .inl (.inl #[_,_,(),(),by assumption,k _ G H (.refl gh) (.int _)])
  .cases h
 .split at h
  .rename_i hz;cases h;obtain⟨a,vs,rfl,ha,ra⟩:=r1.lst_inv;cases r2.int_inv;exact .inl (.inr #[a,_,vs,(),(),gh _ _ ha,hz.1,hz.2.1,by rw[ra.length];exact hz.2.2,ip gh (ra.rep _) k])
  .cases h
 .split at h
  .rename_i hz;cases h;cases r1.str_inv;cases r2.int_inv;exact .inr #[_,_,(),(),hz.1,hz.2.1,hz.2.2,k _ G H (.refl gh) (.str _)]
  .cases h
 .cases h
def oM (ha:DE O X a fa) (hb:DE O X b fb):DE O X (.BinOp a .Mult b pos) (b2 lK fa fb):=nS ((O6.or QI).or Sk) WZ ha hb
end
variable {g':D->D->ak D} {ft:FT} {fr:FA}
section
variable {a c:Expr}
def Rep.non_inv (r:Rep O K G v .non):v=.non:=by cases r;rfl
noncomputable def ltS (x y:af):aR:=decide (x.cps.toList<y.cps.toList)
def ltD:D->D->ak D
 |.int i,.int j=>U (.bl (decide (i<j)))
 |.str x,.str y=>U (.bl (ltS x y))
 |_,_=>B
def leD:D->D->ak D
 |.int i,.int j=>U (.bl (decide (i<=j)))
 |.str x,.str y=>U (.bl (!ltS y x))
 |_,_=>B
noncomputable def gtD:D->D->ak D
 |.int i,.int j=>U (.bl (decide (j<i)))
 |_,_=>B
noncomputable def geD:D->D->ak D
 |.int i,.int j=>U (.bl (decide (j<=i)))
 |_,_=>B
noncomputable def eqS:D->D->ak aR
 |.int i,.int j=>U (decide (i=j))
 |.bl i,.bl j=>U (decide (i=j))
 |.str i,.str j=>U (decide (i=j))
 |.non,.non=>U ah
 |.non,.int _=>U ao|.int _,.non=>U ao|.non,.bl _=>U ao|.bl _,.non=>U ao|.non,.str _=>U ao|.str _,.non=>U ao
 |.int _,.str _=>U ao|.str _,.int _=>U ao|.bl _,.str _=>U ao|.str _,.bl _=>U ao
 |_,_=>B
def eqD (x y:D):ak D:=(eqS x y).map D.bl
def neD (x y:D):ak D:=(eqS x y).map λb=>D.bl (!b)
def Ki {u:V} {x y:D} {k:aR} (r1:Rep O K G v x) (r2:Rep O K G u y) (h:eqS x y=U k):B9 v u=ah/\decide (v=u)=k:=by
 unfold eqS at h;split at h<;>cases h
 .cases r1.int_inv;cases r2.int_inv;exact#[(),by simp]
 .cases r1.bl_inv;cases r2.bl_inv;exact#[(),by simp]
 .cases r1.str_inv;cases r2.str_inv;exact#[(),by simp]
 .cases r1.non_inv;cases r2.non_inv;exact#[(),by simp]
 .cases r1.non_inv;cases r2.int_inv;exact#[(),by simp]
 .cases r1.int_inv;cases r2.non_inv;exact#[(),by simp]
 .cases r1.non_inv;cases r2.bl_inv;exact#[(),by simp]
 .cases r1.bl_inv;cases r2.non_inv;exact#[(),by simp]
 .cases r1.non_inv;cases r2.str_inv;exact#[(),by simp]
 .cases r1.str_inv;cases r2.non_inv;exact#[(),by simp]
 .cases r1.int_inv;cases r2.str_inv;exact#[(),by simp]
 .cases r1.str_inv;cases r2.int_inv;exact#[(),by simp]
 .cases r1.bl_inv;cases r2.str_inv;exact#[(),by simp]
 .cases r1.str_inv;cases r2.bl_inv;exact#[(),by simp]
def Rh :fB O K eqD rEq:=by
 intro G H v u x y z gh r1 r2 h Q k;unfold eqD at h;cases e:eqS x y with
 |none=>rw[e] at h;cases h
 |some b=>
  rw[e] at h;cases h;obtain⟨h1,h2⟩:=Ki r1 r2 e;exact#[h1,by rw[h2];exact k _ G H (.refl gh) (.bl _)]
def R5 :fB O K neD rNe:=by
 intro G H v u x y z gh r1 r2 h Q k;unfold neD at h;cases e:eqS x y with
 |none=>rw[e] at h;cases h
 |some b=>
  rw[e] at h;cases h;obtain⟨h1,h2⟩:=Ki r1 r2 e;exact#[h1,by rw[h2];exact k _ G H (.refl gh) (.bl _)]
def DU {g:D->D->ak D} {o:aj->aj->aR} (hg:∀x y z,g x y=U z->∃i j,x=.int i/\y=.int j/\z=.bl (o i j)):fB O K g (rI0 λi j=>V.bl (o i j)):=by intro G H v u x y z gh r1 r2 h Q k;obtain⟨i,j,rfl,rfl,rfl⟩:=hg x y z h;cases r1.int_inv;cases r2.int_inv;exact#[_,_,(),(),k _ G H (.refl gh) (.bl _)]
def Xl:OpR X (dP .LtE) (λx y H Q=>∃i j,x=.str i/\y=.str j/\Q (.bl (!ltS j i)) H):=by intro XL s L H x y v u Q I rx ry h;obtain⟨i,j,rfl,rfl,q⟩:=h;obtain⟨t,rfl⟩:=rx;obtain⟨t',rfl⟩:=ry;exact PySem.P.le_str (cT I q (by simp[ltS]))
def Qh :fB O K ltD (λx y H Q=>rI0 (λi j=>V.bl (decide (i<j))) x y H Q\/∃i j,x=.str i/\y=.str j/\Q (.bl (decide (i.cps.toList<j.cps.toList))) H):=by
 intro G H v u x y z gh r1 r2 h Q k;unfold ltD at h;split at h<;>cases h
 .cases r1.int_inv;cases r2.int_inv;exact .inl #[_,_,(),(),k _ G H (.refl gh) (.bl _)]
 .cases r1.str_inv;cases r2.str_inv;exact .inr #[_,_,(),(),k _ G H (.refl gh) (.bl _)]
def Po :fB O K leD (λx y H Q=>rI0 (λi j=>V.bl (decide (i<=j))) x y H Q\/∃i j,x=.str i/\y=.str j/\Q (.bl (!ltS j i)) H):=by
 intro G H v u x y z gh r1 r2 h Q k;unfold leD at h;split at h<;>cases h
 .cases r1.int_inv;cases r2.int_inv;exact .inl #[_,_,(),(),k _ G H (.refl gh) (.bl _)]
 .cases r1.str_inv;cases r2.str_inv;exact .inr #[_,_,(),(),k _ G H (.refl gh) (.bl _)]
structure CmpD (O:Cn) (X:Cx) (op:CmpOp) (g:D->D->ak D):Prop where
 ex:∃r,OpR X (dP op) r/\fB O X.K g r
def iT:CmpD O X .Lt ltD:=#[_,Ps.or UU,Qh]
def iy:CmpD O X .LtE leD:=#[_,NU.or Xl,Po]
def pi:CmpD O X .Gt gtD:=#[_,UL,DU λx y z h=>by unfold gtD at h;split at h<;>cases h;exact#[_,_,(),(),()]]
def kX:CmpD O X .GtE geD:=#[_,QQ,DU λx y z h=>by unfold geD at h;split at h<;>cases h;exact#[_,_,(),(),()]]
def bF:CmpD O X .Eq eqD:=#[_,Kx,Rh]
def jG:CmpD O X .NotEq neD:=#[_,NV,R5]
def gE {g:D->D->ak D} (h:CmpD O X op g) (ha:DE O X a fa) (hb:DE O X b fb) (hm:jZ op b=ao):DE O X (.Compare a [op] [b] pos) (b2 g fa fb):=⟨by obtain⟨r,ho,hr⟩:=h.ex;exact(Ab ho ha.1 hb.1 hm).imp (TD.two hr)⟩
noncomputable def chD (g g':D->D->ak D) (fa fb fc:FE):FE:=λY=>(fa Y).bind λx=>(fb Y).bind λy=>(g x y).bind λz=>match z with
 |.bl ah=>(fc Y).bind λw=>g' y w
 |.bl ao=>U (.bl ao)
 |_=>B
def TD.chain {g:D->D->ak D} {r:R2} (hr:fB O X.K g r) (hr':fB O X.K g' r'):∀L H Q,TD O X.K (chD g g' fa fb fc) L H Q->yX r r' (TD O X.K fa) (TD O X.K fb) (TD O X.K fc) L H Q:=by
 rintro L H Q ⟨Tm,Ty,G,Y,d,A,h,k⟩;obtain⟨x,ha,h⟩:=oBd h;obtain⟨y,hb,h⟩:=oBd h;obtain⟨z,hz,h⟩:=oBd h;refine#[Tm,Ty,G,Y,x,A,ha,λv G1 H1 s1 r1=>#[Tm,Ty,G1,Y,y,A.step s1,hb,λu G2 H2 s2 r2=>?_]];refine hr s2.gh (r1.mono s2.gg) r2 hz _ λw G3 H3 s3 r3=>?_;split at h
 .cases r3.bl_inv;obtain⟨w,hc,h⟩:=oBd h;refine#[ah,(),fz #[Tm,Ty,G3,Y,w,((A.step s1).step s2).step s3,hc,λq G4 H4 s4 r4=>?_]];exact hr' s4.gh ((r2.mono s3.gg).mono s4.gg) r4 h Q λw' G' H' s r=>k w' G' H' ((((s1.trans s2).trans s3).trans s4).trans s) r
 .cases r3.bl_inv;cases h;exact#[ao,(),fy (k _ G3 H3 ((s1.trans s2).trans s3) (.bl _))]
 .cases h
def wK {g:D->D->ak D} (h:CmpD O X op g) (h':CmpD O X op' g') (ha:DE O X a fa) (hb:DE O X b fb) (hc:DE O X c fc) (hm:CL [op,op'] [b,c]=ao:=by with_unfolding_all rfl) :
  DE O X (.Compare a [op,op'] [b,c] pos) (chD g g' fa fb fc):=⟨by
 obtain⟨r,ho,hr⟩:=h.ex;obtain⟨r',ho',hr'⟩:=h'.ex;exact(OF ho ho' ha.1 hb.1 hc.1 hm).imp (TD.chain hr hr')⟩
noncomputable def toB (f:FE):FT:=λY=>(f Y).bind λd=>match d with
 |.bl b=>U b
 |_=>B
def TDt.val :∀L H Q,TDt O X.K (toB f) L H Q->TD O X.K f L H λx H'=>∃k,x=.bl k/\Q k H':=by rintro L H Q ⟨Tm,Ty,G,Y,b,A,h,k⟩;obtain⟨d,hd,h⟩:=oBd h;split at h<;>cases h;exact#[Tm,Ty,G,Y,_,A,hd,λv G' H' s r=>#[b,r.bl_inv,k G' H' s]]
def bc {g:D->D->ak D} (h:CmpD O X op g) (ha:DE O X a fa) (hb:DE O X b fb) (hm:jZ op b=ao):DT O X (.Compare a [op] [b] pos) (toB (b2 g fa fb)):=⟨by obtain⟨r,ho,hr⟩:=h.ex;exact(Hm ho ha.1 hb.1 hm).imp λL H Q q=>TD.two hr L H _ (TDt.val L H Q q)⟩
def IK {g:D->D->ak D} (h:CmpD O X op g) (h':CmpD O X op' g') (ha:DE O X a fa) (hb:DE O X b fb) (hc:DE O X c fc) (hm:CL [op,op'] [b,c]=ao:=by with_unfolding_all rfl) :
  DT O X (.Compare a [op,op'] [b,c] pos) (toB (chD g g' fa fb fc)):=⟨by
 obtain⟨r,ho,hr⟩:=h.ex;obtain⟨r',ho',hr'⟩:=h'.ex;exact(Ow ho ho' ha.1 hb.1 hc.1 hm).imp λL H Q q=>TD.chain hr hr' L H _ (TDt.val L H Q q)⟩
def bP (h:DE O X e f) (he:∀whole,isTrue e X.env whole=(do let v ←whole;mC e.pos;i4 [v] (truthy v)):=by intro _;rfl):DT O X e (toB f):=⟨(sT h.1 he).imp TDt.val⟩
noncomputable def cL (f:FT):FT:=λY=>(f Y).map (!·)
noncomputable def gB (f g:FT):FT:=λY=>(f Y).bind λb=>if b=ah then g Y else U ao
noncomputable def orT (f g:FT):FT:=λY=>(f Y).bind λb=>if b=ah then U ah else g Y
variable {gt:FT} {aZ:Z Expr}
def DW.dt (h:DW O X e ft):DT O X e ft:=⟨h.1.pt⟩
def bQ (h:DT O X a ft):DT O X (.UnaryOp .Not a pos) (cL ft):=⟨(xh h.1).imp λL H Q=>by rintro⟨Tm,Ty,G,Y,b,A,h,k⟩;obtain⟨c,hc,h⟩:=oMd h;exact#[Tm,Ty,G,Y,c,A,hc,λG' H' s=>by show Q (!c) H';rw[h];exact k G' H' s]⟩
def kP (h:DT O X a ft):DW O X (.BoolOp .And [a] pos) ft:=⟨GD h.1⟩
def dq (h:DT O X a ft):DW O X (.BoolOp .Or [a] pos) ft:=⟨yv h.1⟩
def jV (h:DT O X a ft) (h':DW O X (.BoolOp .And (b::aZ) pos) gt):DW O X (.BoolOp .And (a::b::aZ) pos) (gB ft gt):=⟨(Ko h.1 h'.1).imp λL H Q=>by
 rintro⟨Tm,Ty,G,Y,r,A,h,k⟩;obtain⟨c,hc,h⟩:=oBd h;refine#[Tm,Ty,G,Y,c,A,hc,λG1 H1 s1=>?_];cases c with
 |true=>exact fz #[Tm,Ty,G1,Y,r,A.step s1,by simpa using h,λG' H' s=>k G' H' (s1.trans s)]
 |false=>
  rw[xa qu] at h;cases h;exact fy (k _ _ s1)⟩
def cH (h:DT O X a ft) (h':DW O X (.BoolOp .Or (b::aZ) pos) gt):DW O X (.BoolOp .Or (a::b::aZ) pos) (orT ft gt):=⟨(yw h.1 h'.1).imp λL H Q=>by
 rintro⟨Tm,Ty,G,Y,r,A,h,k⟩;obtain⟨c,hc,h⟩:=oBd h;refine#[Tm,Ty,G,Y,c,A,hc,λG1 H1 s1=>?_];cases c with
 |false=>exact fy #[Tm,Ty,G1,Y,r,A.step s1,by simpa using h,λG' H' s=>k G' H' (s1.trans s)]
 |true=>
  rw[qZ ()] at h;cases h;exact fz (k _ _ s1)⟩
noncomputable def fQ (fa fb:FE):FE:=λY=>(fa Y).bind λd=>match d with
 |.bl ah=>fb Y
 |.bl ao=>U (.bl ao)
 |_=>B
noncomputable def orD (fa fb:FE):FE:=λY=>(fa Y).bind λd=>match d with
 |.bl ah=>U (.bl ah)
 |.bl ao=>fb Y
 |_=>B
noncomputable def Kj (fa:FE):FE:=λY=>(fa Y).bind λd=>match d with
 |.bl b=>U (.bl (!b))
 |_=>B
def fK {op} (h:DE O X a fa):DE O X (.BoolOp op [a] pos) fa:=⟨D' h.1⟩
def eZ (ha:DE O X a fa) (hb:DE O X (.BoolOp .And (b::aZ) pos) fb):DE O X (.BoolOp .And (a::b::aZ) pos) (fQ fa fb):=⟨(F0 ha.1 hb.1).imp λL H Q=>by
 rintro⟨Tm,Ty,G,Y,d,A,h,k⟩;obtain⟨x,hx,h⟩:=oBd h;refine#[Tm,Ty,G,Y,x,A,hx,λv G1 H1 s1 r1=>?_];split at h
 .cases r1.bl_inv;exact#[ah,(),fz #[Tm,Ty,G1,Y,d,A.step s1,h,λw G' H' s r=>k w G' H' (s1.trans s) r]]
 .cases r1.bl_inv;cases h;exact#[ao,(),fy (k _ G1 H1 s1 (.bl _))]
 .cases h⟩
def Gs (ha:DE O X a fa) (hb:DE O X (.BoolOp .Or (b::aZ) pos) fb):DE O X (.BoolOp .Or (a::b::aZ) pos) (orD fa fb):=⟨(UG ha.1 hb.1).imp λL H Q=>by
 rintro⟨Tm,Ty,G,Y,d,A,h,k⟩;obtain⟨x,hx,h⟩:=oBd h;refine#[Tm,Ty,G,Y,x,A,hx,λv G1 H1 s1 r1=>?_];split at h
 .cases r1.bl_inv;cases h;exact#[ah,(),fz (k _ G1 H1 s1 (.bl _))]
 .cases r1.bl_inv;exact#[ao,(),fy #[Tm,Ty,G1,Y,d,A.step s1,h,λw G' H' s r=>k w G' H' (s1.trans s) r]]
 .cases h⟩
def TF (ha:DE O X a fa):DE O X (.UnaryOp .Not a pos) (Kj fa):=⟨(Ia ha.1).imp λL H Q=>by
 rintro⟨Tm,Ty,G,Y,d,A,h,k⟩;obtain⟨x,hx,h⟩:=oBd h;refine#[Tm,Ty,G,Y,x,A,hx,λv G1 H1 s1 r1=>?_];split at h
 .cases r1.bl_inv;cases h;exact#[_,(),k _ G1 H1 s1 (.bl _)]
 .cases h⟩
noncomputable def ay:FA:=λ_=>U []
noncomputable def av (fa:FE) (fr:FA):FA:=λY=>(fa Y).bind λx=>(fr Y).map (x::·)
def aq:DA O X [] ay:=⟨gc.imp λL H Q=>by rintro⟨Tm,Ty,G,Y,d,A,h,k⟩;cases h;exact k _ G H (.refl A.gh) .nil⟩
def al (ha:DE O X e fa) (hr:DA O X es fr) (hs:aK (e::es) X.env=(ao,eval e X.env)::aK es X.env:=by rfl):DA O X (e::es) (av fa fr):=⟨(dB ha.1 hr.1 hs).imp λL H Q=>by rintro⟨Tm,Ty,G,Y,d,A,h,k⟩;obtain⟨x,hx,h⟩:=oBd h;obtain⟨xs,hxs,h⟩:=oMd h;subst h;exact#[Tm,Ty,G,Y,x,A,hx,λv G1 H1 s1 r1=>#[Tm,Ty,G1,Y,xs,A.step s1,hxs,λvs G2 H2 s2 r2=>k _ G2 H2 (s1.trans s2) (.cons (r1.mono s2.gg) r2)]]⟩
noncomputable def szF (fr:FA):FA:=λY=>(fr Y).bind λl=>if l.length<=aH then U l else B
noncomputable def bE (fr:FA):FE:=λY=>(fr Y).map D.lst
noncomputable def fE (fr:FA):FE:=λY=>(fr Y).map D.tup
def DO.de (h:DO O X e fr):DE O X e (bE fr):=⟨h.1.imp λL H Q=>by rintro⟨Tm,Ty,G,Y,d,A,h,k⟩;obtain⟨ds,hd,rfl⟩:=oMd h;exact#[Tm,Ty,G,Y,ds,A,hd,λp vs G' H' s hp r=>ip s.gh r (λw G2 H2 s2 r2=>k w G2 H2 (s.trans s2) r2) p hp]⟩
def bM (h:DA O X es fr):DO O X (.List es pos) (szF fr):=⟨(Jp h.1).imp λL H Q=>by
 rintro⟨Tm,Ty,G,Y,d,A,h,k⟩;obtain⟨ds,hd,h⟩:=oBd h;split at h
 .rename_i hz;cases h;exact#[Tm,Ty,G,Y,d,A,hd,λvs G' H' s r=>#[by rw[r.length];exact hz,λp hp=>k p vs G' H' s hp r]]
 .cases h⟩
def fD {x1} (h:DA O X es fr):DE O X (.Tuple es x1 pos) (fE (szF fr)):=⟨(zB h.1).imp λL H Q=>by
 rintro⟨Tm,Ty,G,Y,d,A,h,k⟩;obtain⟨ds',hd',rfl⟩:=oMd h;obtain⟨ds,hd,h⟩:=oBd hd';split at h
 .rename_i hz;cases h;exact#[Tm,Ty,G,Y,ds',A,hd,λvs G' H' s r=>#[by rw[r.length];exact hz,wv s.gh r λw G2 H2 s2 r2=>k w G2 H2 (s.trans s2) r2]]
 .cases h⟩
def Bt (O:Cn) (K:aJ) (g:Z D->ak D) (r:Z V->Hp->VK->Prop):Prop:=
 ∀{G H vs ds z},a9 G H->Reps O K G vs ds->g ds=U z->∀Q:VK,(∀w G' H',Step G H G' H'->Rep O K G' w z->Q w H')->r vs H Q
noncomputable def cF (g:Z D->ak D) (fr:FA):FE:=λY=>(fr Y).bind g
def TD.call {g:Z D->ak D} {r:Z V->Hp->VK->Prop} (hr:Bt O X.K g r):∀L H Q,TD O X.K (cF g fr) L H Q->tCB r (TDa O X.K fr) L H Q:=by rintro L H Q ⟨Tm,Ty,G,Y,d,A,h,k⟩;obtain⟨ds,hd,h⟩:=oBd h;exact#[Tm,Ty,G,Y,ds,A,hd,λvs G1 H1 s1 r1=>hr s1.gh r1 h Q λw G' H' s r=>k w G' H' (s1.trans s) r]
structure BltD (O:Cn) (X:Cx) (id:String) (g:Z D->ak D):Prop where
 ex:∃r,fO X (.builtin id) r/\Bt O X.K g r
structure TyD (O:Cn) (X:Cx) (id:String) (g:Z D->ak D):Prop where
 ex:∃r,fO X (.type id) r/\Bt O X.K g r
variable {p:bV}
def bw {id:String} {g:Z D->ak D} (hc:BltD O X id g) (hg:Gl X x) (hm:X.mg x=B) (hv:lc x=U (.builtin id)) (ha:DA O X (e::es) fr) (hn:x≠"__name__":=by decide) (hdb:(x==("__debug__":af))=ao:=by decide)
  (he:aK (e::es) X.env=(ao,eval e X.env)::aK es X.env:=by rfl) (hpl:(bX pos (aK es X.env)).any (·.1)=ao:=by rfl):DE O X (.Call (.Name x p) (e::es) [] pos) (cF g fr):=⟨by
 obtain⟨r,h1,h2⟩:=hc.ex;exact(pL h1 hg hm hv ha.1 hn hdb he hpl).imp (TD.call h2)⟩
def f9 {id:String} {g:Z D->ak D} (hc:TyD O X id g) (hg:Gl X x) (hm:X.mg x=B) (hv:lc x=U (.type id)) (ha:DA O X (e::es) fr) (hn:x≠"__name__":=by decide) (hdb:(x==("__debug__":af))=ao:=by decide)
  (he:aK (e::es) X.env=(ao,eval e X.env)::aK es X.env:=by rfl) (hpl:(bX pos (aK es X.env)).any (·.1)=ao:=by rfl):DE O X (.Call (.Name x p) (e::es) [] pos) (cF g fr):=⟨by
 obtain⟨r,h1,h2⟩:=hc.ex;exact(Fq h1 hg hm hv ha.1 hn hdb he hpl).imp (TD.call h2)⟩
def kI {n:String} (hg:Gl X x) (hm:X.mg x=B) (hv:lc x=U (.type n)) (hn:x≠"__name__":=by decide) (hd:(x==("__debug__":af))=ao:=by decide):DE O X (.Name x pos) (vC (.ty n)):=TD.const (λ_=>.ty n) (E8 hg hm hv () hn hd)
def Reps.one (r:Reps O K G vs [d]):∃v,vs=[v]/\Rep O K G v d:=by
 cases r with
 |cons h t=>cases t;exact#[_,(),h]
def Reps.two {d':D} (r:Reps O K G vs [d,d']):∃v u,vs=[v,u]/\Rep O K G v d/\Rep O K G u d':=by
 cases r with
 |cons h t=>cases t with
  |cons h2 t2=>cases t2;exact#[_,_,(),h,h2]
noncomputable def tM:Z D->ak D
 |[.int i,.int j]=>U (.int (if j<i then j else i))
 |_=>B
def u6 (hc:X.calm=ah):BltD O X "min" tM:=#[_,V4 hc,λ{G H vs ds z} gh r h Q k=>by unfold tM at h;split at h<;>cases h;obtain⟨v,u,rfl,r1,r2⟩:=r.two;cases r1.int_inv;cases r2.int_inv;exact#[_,_,(),k _ G H (.refl gh) (.int _)]]
noncomputable def cu:Z D->ak D
 |[.str x]=>if x.length<=aH then U (.int (x.length:J)) else B
 |[.lst l]=>U (.int (l.length:J))
 |[.tup l]=>U (.int (l.length:J))
 |[.scr l]=>U (.int (l.length:J))
 |_=>B
def b6:BltD O X "len" cu:=#[_,QV,λ{G H vs ds z} gh r h Q k=>by
 unfold cu at h;split at h
 .split at h
  .cases h;obtain⟨v,rfl,r1⟩:=r.one;cases r1.str_inv;exact#[_,_,(),#[by assumption,()],k _ G H (.refl gh) (.int _)]
  .cases h
 .cases h;obtain⟨v,rfl,r1⟩:=r.one;obtain⟨a,vs,rfl,ha,rv⟩:=r1.lst_inv;exact#[_,_,(),.inl #[vs,.inl (.inl (gh _ _ ha)),()],k _ G H (.refl gh) (by rw[rv.length];exact .int _)]
 .cases h;obtain⟨v,rfl,r1⟩:=r.one;obtain⟨a,vs,rfl,ha,rv⟩:=r1.tup_inv;exact#[_,_,(),.inr #[vs,.inl (.inl (gh _ _ ha)),()],k _ G H (.refl gh) (by rw[rv.length];exact .int _)]
 .cases h;obtain⟨v,rfl,r1⟩:=r.one;obtain⟨a,rfl,ha⟩:=r1.scr_inv;exact#[_,_,(),.inl #[_,gh.seq ha,()],k _ G H (.refl gh) (by rw[qe];exact .int _)]
 .cases h]
noncomputable def tyD:D->ak String
 |.non=>U "NoneType"
 |.bl _=>U "bool"
 |.int _=>U "int"
 |.str _=>U "str"
 |.lst _=>U "list"
 |.tup _=>U "tuple"
 |.dk _=>U "dict"
 |.dt _=>U "dict"
 |_=>B
noncomputable def fU (t c:String):ak aR:=if (rf t==rf c)=ah then U ah else if PySem.W.kitMeta c=ah then fY (λx=>x.contains (rf c)) (PySem.fastBuiltinMro t) else B
def e7:Z D->ak D
 |[d,.ty c]=>(tyD d).bind λt=>(fU t c).map D.bl
 |_=>B
def QL {t:String} (gh:a9 G H) (r:Rep O K G v d) (h:tyD d=U t):TyOf K H v (.type t):=by
 unfold tyD at h;split at h<;>cases h
 .cases r.non_inv;exact .non
 .cases r.bl_inv;exact .bl _
 .cases r.int_inv;exact .int _
 .cases r.str_inv;exact .str _
 .obtain⟨a,vs,rfl,ha,_⟩:=r.lst_inv;exact .lst (gh _ _ ha)
 .obtain⟨a,vs,rfl,ha,_⟩:=r.tup_inv;exact .tup (gh _ _ ha)
 .cases r with
  |dk h _ _=>exact .dK (gh _ _ h)
 .cases r with
  |dt h _ _=>exact .dT (gh _ _ h)
def kz:BltD O X "isinstance" e7:=by
 refine#[λvs H Q=>∃v t c b,vs=[v,.ty c]/\TyOf X.K H v (.type t)/\oa X.K (.type t) (.type c)=U b/\Q (.bl b) H,?_,?_]
 .intro XL s L H xs us Q I r h;obtain⟨v,t,c,b,rfl,ty,hk,q⟩:=h;obtain⟨u,w',rfl,r1,r2⟩:=z9 r;cases r2;exact Pa I r1 ty hk λtk=>#[.bl b,H,I.tok tk,(),q]
 .intro G H vs ds z gh r h Q k;unfold e7 at h;split at h
  .obtain⟨t,ht,h⟩:=oBd h;obtain⟨b,hb,rfl⟩:=oMd h;obtain⟨v,u,rfl,r1,r2⟩:=r.two;cases r2;exact#[v,t,_,b,(),QL gh r1 ht,hb,k _ G H (.refl gh) (.bl _)]
  .cases h
end
variable {β:Type} {fo:FE}
section
variable {a c:Expr}
def Reps.atI {K:aJ} {G:Hp} {vs:Z V} {ds:Z D} {i:aj} {d:D} (r:Reps O K G vs ds) (h:L2.atI ds i=U d):∃v,L2.atI vs i=U v/\Rep O K G v d:=by
 unfold L2.atI at h ⊢;rw[r.length];cases e:ixN ds.length i with
 |none=>rw[e] at h;cases h
 |some j=>
  rw[e] at h;obtain⟨v,h1,h2⟩:=r.get h;exact#[v,h1,h2]
def UB (g:α->β) (xs:Z α) (i:aj):L2.atI (xs.map g) i=(L2.atI xs i).map g:=by
 unfold L2.atI;rw[qe];cases ixN xs.length i with
 |none=>rfl
 |some j=>simp
def ixD:D->D->ak D
 |.lst l,.int i=>atI l i
 |.tup l,.int i=>atI l i
 |.scr l,.int i=>(atI l i).map D.int
 |.str x,.int i=>if x.length<=aH then (atI x.cps.toList i).map λc=>D.str ⟨#[c]⟩ else B
 |_,_=>B
def Ek :fB O K ixD (rIx K):=by
 intro G H v u x y z gh r1 r2 h Q k;unfold ixD at h;split at h
 .obtain⟨a,vs,rfl,ha,rv⟩:=r1.lst_inv;cases r2.int_inv;obtain⟨w,hw,rw'⟩:=rv.atI h;exact .inl #[a,vs,_,w,(),(),.inl (.inl (gh _ _ ha)),hw,k w G H (.refl gh) rw']
 .obtain⟨a,vs,rfl,ha,rv⟩:=r1.tup_inv;cases r2.int_inv;obtain⟨w,hw,rw'⟩:=rv.atI h;exact .inr (.inl #[a,vs,_,w,(),(),.inl (.inl (gh _ _ ha)),hw,k w G H (.refl gh) rw'])
 .obtain⟨a,rfl,ha⟩:=r1.scr_inv;cases r2.int_inv;obtain⟨n,hn,rfl⟩:=oMd h;exact .inl #[a,_,_,.int n,(),(),gh.seq ha,by rw[UB,hn];rfl,k _ G H (.refl gh) (.int _)]
 .split at h
  .cases r1.str_inv;cases r2.int_inv;obtain⟨n,hn,rfl⟩:=oMd h;exact .inr (.inr #[_,_,n,(),(),by assumption,hn,k _ G H (.refl gh) (.str _)])
  .cases h
 .cases h
def aT (ha:DE O X a fa) (hb:DE O X b fb) (hs:uV b:=by intro _ _;rfl):DE O X (.Subscript a b pos) (b2 ixD fa fb):=⟨(BG AN ha.1 hb.1 hs).imp (TD.two Ek)⟩
def et (xs:Z α) (lo hi:ak aj):Z α:=(xs.drop (HT.sIx xs.length 0 lo)).take (HT.sIx xs.length xs.length hi-HT.sIx xs.length 0 lo)
def V8 (g:α->β) (xs:Z α) (lo hi:ak aj):et (xs.map g) lo hi=(et xs lo hi).map g:=by unfold et;simp
def Reps.cut (r:Reps O K G vs ds) (lo hi:ak aj):Reps O K G (lV vs lo hi) (et ds lo hi):=by unfold lV et;rw[r.length];exact(r.drop _).take _
def gZ (x:af) (lo hi:ak aj):af:=⟨(et x.cps.toList lo hi).toArray⟩
def Fw (lo hi:ak aj) (n:J):MK lo hi 1 n=(db (HT.sIx n n hi-HT.sIx n 0 lo)).map (HT.sIx n 0 lo+·):=by
 rw[<-YJ];have h1:∀(o:ak aj) (d:J),d<=n->(match o with|none=>(d:aj)|some i=>if (1:aj) > 0 then max 0 (min (if i<0 then i+(n:aj) else i) n) else max (-1) (min (if i<0 then i+(n:aj) else i) ((n:aj)-1)))=((HT.sIx n d o:J):aj):=λo d hd=>by
  cases o with
  |none=>simp[HT.sIx]
  |some i=>
   simp only[HT.sIx,show(1:aj) > 0 by decide,dc];by_cases h:i<0
   .simp only[h,dc];lia
   .simp only[h,dE];lia
 have e0:=h1 lo 0 (eA _);have e1:=h1 hi n (qx _);rw[<-e0,<-e1];rfl
def GG (x:af) (lo hi:ak aj):ML x lo hi=gZ x lo hi:=by
 have key:(MK lo hi 1 x.length).filterMap (x.cps[·]?)=et x.cps.toList lo hi:=by rw[Fw,C4];unfold et;rw[show x.cps.toList.length=x.length by simp[iA]]
 unfold ML gZ;split
 .rename_i h;rw[<-key];have hl:(MK lo hi 1 x.length).length=x.length:=by simpa using h
  rw[Fw] at hl ⊢;rw[C4];rw[qe,qX] at hl;have hb:HT.sIx x.length x.length hi<=x.length:=by
   cases hi with
   |none=>simp[HT.sIx]
   |some i=>simp only[HT.sIx];split<;>lia
  have h0:HT.sIx x.length 0 lo=0\/x.length=0:=by lia
  have hx:x.cps.toList.length=x.length:=by simp[iA]
  have e:(x.cps.toList.drop (HT.sIx x.length 0 lo)).take (HT.sIx x.length x.length hi-HT.sIx x.length 0 lo)=x.cps.toList:=by
   rcases h0 with h0|h0
   .rw[h0,h9];rw[h0] at hl;exact oz .(b)
   .have:x.cps.toList=[]:=YZ.mp .(b);rw[this];simp
  rw[e]
 .rw[key]
noncomputable def pN:bj->ak (ak aj):=λ_=>U B
noncomputable def pS (f:FE):bj->ak (ak aj):=λY=>(f Y).bind λd=>match d with
 |.int i=>U (U i)
 |_=>B
inductive TDp (O:Cn) (K:aJ) (f:bj->ak (ak aj)) (L:St) (H:Hp) (Q:ak aj->Hp->Prop):Prop where
 |mk:∀Tm Ty G Y o,At O K Tm Ty G H Y L->f Y=U o->(∀G' H',Step G H G' H'->Q o H')->TDp O K f L H Q
structure DP (O:Cn) (X:Cx) (e:ak Expr) (f:bj->ak (ak aj)):Prop where
 out:PO X e (TDp O X.K f)
def fC:DP O X B pN:=⟨λXL s L H Q I ζ=>by obtain⟨Tm,Ty,G,Y,o,A,h,k⟩:=ζ;cases h;exact AD XL s L H Q I (k G H (.refl A.gh))⟩
def eL (h:DE O X e f):DP O X (U e) (pS f):=⟨λXL s L H Q I ζ=>by obtain⟨Tm,Ty,G,Y,o,A,q,k⟩:=ζ;obtain⟨d,hd,q⟩:=oBd q;split at q<;>cases q;exact Bm h.1 XL s L H Q I #[Tm,Ty,G,Y,_,A,hd,λv G' H' s r=>#[_,r.int_inv,k G' H' s]]⟩
def KU:SlR X (λx lo hi H Q=>∃z,x=.str z/\z.length<=aH/\Q (.str (gZ z lo hi)) H):=by
 intro XL s L H x v vl vu lo hi sl Q I rx hs pl pu h;obtain⟨z,rfl,hz,q⟩:=h;obtain⟨t,rfl⟩:=rx;refine#["str",_,PySem.F.slot_str_getitem.lookup,ox _ _ _,?_];obtain⟨l,rfl,el⟩:∃l:ak (aj×Tok),vl=partValue l/\l.map (·.1)=lo:=by
  cases pl with
  |none=>exact#[B,(),()]
  |int i t=>exact#[U (i,t),(),()]
 obtain⟨u,rfl,eu⟩:∃l:ak (aj×Tok),vu=partValue l/\l.map (·.1)=hi:=by
  cases pu with
  |none=>exact#[B,(),()]
  |int i t=>exact#[U (i,t),(),()]
 refine wpAny_getItem_str_slice (st:=B) hs () ?_;have e:(if ((fY (λx=>x.fst) (B:ak (aj×Tok))).getD 1==1 && (slicePicked z l u B).length==z.length)=ah then z else {cps:=(List.filterMap (λx=>z.cps[x]?) (slicePicked z l u B)).toArray})=gZ z lo hi:=by
  have e0:ML z (l.map (·.1)) (u.map (·.1))=gZ z lo hi:=by rw[el,eu];exact GG z lo hi
  exact e0
 refine post_val_or_str #[?_,λt' k=>?_]
 .rw[e,<-GG];exact qP (Txt.slice_le z _ _) hz
 .rw[e];exact#[.str _,H,I.tok k,#[_,()],q]
def lb (lo hi:ak aj):D->ak D
 |.lst l=>U (.lst (et l lo hi))
 |.scr l=>U (.lst ((et l lo hi).map D.int))
 |.tup l=>if HT.sIx l.length 0 lo=0/\HT.sIx l.length l.length hi=l.length then B else U (.tup (et l lo hi))
 |.str x=>if x.length<=aH then U (.str (gZ x lo hi)) else B
 |_=>B
def slF (f:FE) (fl fh:bj->ak (ak aj)):FE:=λY=>(f Y).bind λd=>(fl Y).bind λl=>(fh Y).bind λh=>lb l h d
variable {fl fh:bj->ak (ak aj)} {lo hi:ak Expr}
def e8 (he:DE O X e f) (hl:DP O X lo fl) (hh:DP O X hi fh):DE O X (.Subscript e (.Slice lo hi B p2) pos) (slF f fl fh):=⟨(yo (L5.or (T8.or KU)) he.1 hl.1 hh.1).imp λL H Q=>by
 rintro⟨Tm,Ty,G,Y,d,A,h,k⟩;obtain⟨x,hx,h⟩:=oBd h;obtain⟨l,hl,h⟩:=oBd h;obtain⟨u,hu,h⟩:=oBd h;refine#[Tm,Ty,G,Y,x,A,hx,λv G1 H1 s1 r1=>#[Tm,Ty,G1,Y,l,A.step s1,hl,λG2 H2 s2=>#[Tm,Ty,G2,Y,u,(A.step s1).step s2,hu,λG3 H3 s3=>?_]]];have s:=(s1.trans s2).trans s3;have r:=r1.mono (s2.gg.trans s3.gg);have gh:=s3.gh;unfold lb at h;split at h
 .cases h;obtain⟨a,vs,rfl,ha,rv⟩:=r.lst_inv;exact .inl #[a,vs,(),.inl (.inl (gh _ _ ha)),ip gh (rv.cut l u) λw G4 H4 s4 r4=>k w G4 H4 (s.trans s4) r4]
 .cases h;obtain⟨a,rfl,ha⟩:=r.scr_inv;refine .inl #[a,_,(),gh.seq ha,ip gh ?_ λw G4 H4 s4 r4=>k w G4 H4 (s.trans s4) r4];show Reps O X.K G3 (et _ l u) _;rw[V8];exact Reps.ints _
 .split at h
  .cases h
  .rename_i hw;cases h;obtain⟨a,vs,rfl,ha,rv⟩:=r.tup_inv;exact .inr (.inl #[a,vs,(),.inl (.inl (gh _ _ ha)),by rw[rv.length];exact hw,wv gh (rv.cut l u) λw G4 H4 s4 r4=>k w G4 H4 (s.trans s4) r4])
 .split at h
  .cases h;cases r.str_inv;exact .inr (.inr #[_,(),by assumption,k _ _ _ s (.str _)])
  .cases h
 .cases h⟩
structure MtD (O:Cn) (X:Cx) (T id:String) (g:D->Z D->ak D):Prop where
 ex:∃r,MtR X id r/\∀{G H v x vs ds z},a9 G H->Rep O X.K G v x->Reps O X.K G vs ds->g x ds=U z->∀Q:VK,(∀w G' H',Step G H G' H'->Rep O X.K G' w z->Q w H')->r v vs H Q
 ty:∀{G H v x ds z},a9 G H->Rep O X.K G v x->g x ds=U z->tyV X.K T v H
noncomputable def mF (g:D->Z D->ak D) (f:FE) (fr:FA):FE:=λY=>(f Y).bind λd=>(fr Y).bind λds=>g d ds
def kU {id:String} {g:D->Z D->ak D} (pa:PlainAttrs T) (slot:Y0 T name id) (hty:xP (.builtin id)=pure (.type "method_descriptor")) (hm:MtD O X T id g) (ho:DE O X o fo) (ha:DA O X (e::es) fr)
  (hbase:i8 o name X.env (eval o X.env)=eval o X.env:=by rfl)
  (hfew:((bX cpos (aK (e::es) X.env)).all (λx=>!x.1) && (kf cpos (kh [] X.env)).all (λx=>x.1.isSome)
   && decide ((e::es).length+([]:Z i9).length+(if ([]:Z i9).isEmpty then 0 else 1)<30))=ah:=by rfl)
  (hline:(apos.endLine==cpos.line)=ah:=by rfl) (hs:aK (e::es) X.env=(ao,eval e X.env)::aK es X.env:=by rfl) (hplain:(bX cpos (aK es X.env)).any (·.1)=ao:=by rfl) :
  DE O X (.Call (.Attribute o name apos) (e::es) [] cpos) (mF g fo fr):=⟨by
 obtain⟨r,h1,h2⟩:=hm.ex;refine(sW pa slot hty h1 ho.1 ha.1 hbase hfew hline hs hplain).imp λL H Q=>?_;rintro⟨Tm,Ty,G,Y,d,A,h,k⟩;obtain⟨x,hx,h⟩:=oBd h;obtain⟨ds,hd,h⟩:=oBd h;exact#[Tm,Ty,G,Y,x,A,hx,λv G1 H1 s1 r1=>#[hm.ty s1.gh r1 h,Tm,Ty,G1,Y,ds,A.step s1,hd,λvs G2 H2 s2 r2=>h2 s2.gh (r1.mono s2.gg) r2 h Q λw G3 H3 s3 r3=>k w G3 H3 ((s1.trans s2).trans s3) r3]]⟩
noncomputable def pY:Z D->ak (Z af)
 |[]=>U []
 |.str x::r=>(pY r).map (x::·)
 |_::_=>B
def kJ:D->Z D->ak D
 |.str sep,[.lst l]=>(pY l).bind λys=>if (ys.map (·.length)).sum+ys.length*sep.length<=16777216 then U (.str (uE sep ys)) else B
 |_,_=>B
theorem Ej {K:aJ} {G:Hp} {ds:Z D}:∀{vs:Z V} {ys:Z af},Reps O K G vs ds->pY ds=U ys->vs=ys.map V.str:=by
 induction ds with
 |nil=>intro _ _ r h;cases r;cases h;rfl
 |cons d ds Ej=>
  intro _ _ r h;cases r with|cons h1 h2=>
  cases d with
  |str x=>
   obtain⟨zs,hz,rfl⟩:=oMd (h);rw[h1.str_inv,Ej h2 hz];rfl
  |_=>cases h
theorem GH:∀{ys:Z af} {us:Z au},bq (ys.map V.str) us->StrsAre us ys
 |[],_,r=>by rw[qR] at r;cases r;exact .nil
 |y::ys,_,r=>by
  rw[qp] at r;cases r with
  |cons r1 r2=>
   obtain⟨t,e⟩:=r1;subst e;exact .cons y t (GH r2)
def nL:MtD O X "str" "str.join" kJ:=by
 refine#[#[λv vs H Q=>∃sep a ys,v=.str sep/\vs=[.ref a]/\H a=U (.lst (ys.map V.str))/\(ys.map (·.length)).sum+ys.length*sep.length<=16777216/\Q (.str (uE sep ys)) H,?_,?_],?_]
 .intro XL s L H x xs v us Q I rx rs h;obtain⟨sep,a,ys,rfl,rfl,ha,hz,q⟩:=h;obtain⟨t,rfl⟩:=rx;obtain⟨u,rfl,ru⟩:=fR rs;cases ru;obtain⟨its,rv,pl,_⟩:=I.list (.inl (.inl ha));exact join_list pl.isList (GH rv) hz λt' k=>#[.str _,H,I.tok k,#[_,()],q]
 .intro G H v x vs ds z gh r1 r2 h Q k;unfold kJ at h;split at h
  .obtain⟨ys,hy,h⟩:=oBd h;split at h
   .cases h;cases r1.str_inv;obtain⟨v,rfl,r3⟩:=r2.one;obtain⟨a,ws,rfl,ha,rw'⟩:=r3.lst_inv;refine#[_,a,ys,(),(),?_,by assumption,k _ G H (.refl gh) (.str _)];rw[<-Ej rw' hy];exact gh _ _ ha
   .cases h
  .cases h
 .intro G H v x ds z gh r h;unfold kJ at h;split at h
  .cases r.str_inv;exact ()
  .cases h
noncomputable def md:Z D->ak (Z aR)
 |[]=>U []
 |.bl x::r=>(md r).map (x::·)
 |_::_=>B
theorem DY {K:aJ} {G:Hp} {ds:Z D}:∀{vs:Z V} {ys:Z aR},Reps O K G vs ds->md ds=U ys->vs=ys.map V.bl:=by
 induction ds with
 |nil=>intro _ _ r h;cases r;cases h;rfl
 |cons d ds DY=>
  intro _ _ r h;cases r with|cons h1 h2=>
  cases d with
  |bl x=>
   obtain⟨zs,hz,rfl⟩:=oMd (h);rw[h1.bl_inv,DY h2 hz];rfl
  |_=>cases h
def nF:Z D->ak D
 |[.lst l]=>(md l).map λbs=>D.bl (bs.all id)
 |_=>B
theorem K':∀{bs:Z aR} {us:Z au},bq (bs.map V.bl) us->us=bs.map mz
 |[],_,r=>by rw[qR] at r;cases r;rfl
 |y::ys,_,r=>by
  rw[qp] at r;cases r with
  |cons r1 r2=>cases r1;rw[K' r2];rfl
def Pg (bs:Z aR):(db bs.length).all (λi=>bs.getD i ao)=bs.all id:=by
 rw[uq,ie,ie];constructor
 .intro h x hx;obtain⟨i,hi,e⟩:=MM.mp hx;have:=h i (fg.mpr hi);simp[MN,hi] at this;rw[<-e];exact this
 .intro h i hi;have hi':=fg.mp hi;have:=h (bs[i]) (Y1 hi');simp[MN,hi'];exact this
def XM {bs:Z aR} :TruthOf prog w A (λi v=>(bs.map mz).toArray[i]?=U v) (λi=>bs.getD i ao):=λi v s Q E hP hQ=>by
 have hP':(bs.map mz)[i]?=U v:=by simpa using hP
 rw[ql] at hP';obtain⟨b,hb,rfl⟩:=oMd hP';have:bs.getD i ao=b:=by simp[MN,hb]
 have hQ':Q (bs.getD i ao) s:=hQ;rw[this] at hQ';exact mD hQ'
def gV (hc:X.calm=ah):BltD O X "all" nF:=by
 refine#[λvs H Q=>∃(a:ar) (bs:Z aR),vs=[.ref a]/\H a=U (.lst (bs.map V.bl))/\Q (.bl (bs.all id)) H,?_,?_]
 .intro XL s L H xs us Q I r h;obtain⟨a,bs,rfl,ha,q⟩:=h;obtain⟨u,rfl,ru⟩:=fR r;cases ru;obtain⟨its,rv,pl,_⟩:=I.list (.inl (.inl ha));have e:=K' rv;subst e;refine call_all_walk (xS pl.isList ?_);have ne:a≠s.heap.objs.size:=by obtain⟨o,_,h1,_⟩:=pl;exact qG (qw h1)
  refine#[s.heap.objs.size,_,_,_,_,_,λi=>bs.getD i ao,(),MO (show X.A.in1.handled=B from I.ok.hd hc) s.heap.objs.size a ne (bs.map mz).toArray,#[#[_,qJ _ (),(),()],pl.isList.at λo q=>qv _ q],XM,λh' tk hk=>?_];have e2:(bs.map mz).toArray.size=bs.length:=by simp
  rw[e2,Pg];refine#[.bl _,H,I.kept λb o z=>hk b o ?_ (qv _ z),(),q];intro z';have:b=s.heap.objs.size:=by simpa using z'
  exact ba (qw z) (by rw[this];exact n9 _)
 .intro G H vs ds z gh r h Q k;unfold nF at h;split at h
  .obtain⟨bs,hb,rfl⟩:=oMd h;obtain⟨v,rfl,r1⟩:=r.one;obtain⟨a,ws,rfl,ha,rw'⟩:=r1.lst_inv;refine#[a,bs,(),?_,k _ G H (.refl gh) (.bl _)];rw[<-DY rw' hb];exact gh _ _ ha
  .cases h
end
structure Yd (O:Cn) (K:aJ) (ag:It) (G:Hp) (ds:Z D):Prop where
 go:∀(i:J) d G2 H2,ds[i]?=U d->a9 G G2->a9 G2 H2->ag.go i H2/\∀x H3,ag.yld i H2 x H3->∃G3,Step G2 H2 G3 H3/\Rep O K G3 x d
 stop:∀G2 H2,a9 G G2->a9 G2 H2->ag.stop ds.length H2
inductive TDi (O:Cn) (K:aJ) (f:FA) (L:St) (H:Hp) (R:It->Hp->Prop):Prop where
 |mk:∀Tm Ty G Y ds,At O K Tm Ty G H Y L->f Y=U ds->(∀ag G' H',Step G H G' H'->Yd O K ag G' ds->R ag H')->TDi O K f L H R
structure DI (O:Cn) (X:Cx) (tg e:Expr) (f:FA):Prop where
 out:PI X tg e (TDi O X.K f)
def PI.imp {t t':TI} (h:PI X tg e t) (i:∀L H R,t' L H R->t L H R):PI X tg e t':=λXL s L H R I q=>h XL s L H R I (i _ _ _ q)
variable {fi:FA} {ts:Z Expr} {gs:FGs} {fe:FE}
section
variable {a c:Expr} {p:bV}
def XT {a:ar} (h:G a=U (.tup vs)) (r:Reps O K G vs ds):Yd O K (Itt K a) G ds:=by refine#[λi d G2 H2 hd g1 g2=>?_,λG2 H2 g1 g2=>#[vs,.inl (.inl (g2 _ _ (g1 _ _ h))),by rw[r.length];exact qx _]];obtain⟨v,hv,rv⟩:=r.get hd;refine#[#[vs,v,.inl (.inl (g2 _ _ (g1 _ _ h))),hv],λx H3 #[e1,e2]=>?_];subst e1;have:=e2 vs (.inl (.inl (g2 _ _ (g1 _ _ h))));rw[hv] at this;cases this;exact#[G2,.refl g2,rv.mono g1]
noncomputable def sV:D->ak (Z D)
 |.lst l=>U l
 |.tup l=>U l
 |.scr l=>U (l.map D.int)
 |_=>B
def itF (f:FE):FA:=λY=>(f Y).bind sV
def WF {l:Expr} {tl:TE} (hl:PE X l tl):PI X tg l (λL H R=>tl L H λx H1=>(∃a,x=.ref a/\(∃xs,SqL X.K H1 a xs)/\R (Itl X.K a) H1)\/(∃a,x=.ref a/\(∃xs,SqT X.K H1 a xs)/\R (Itt X.K a) H1)):=by
 intro XL s L H R I h;refine thE (hl XL s L H _ I h) λv s1 x H1 I1 r1 q1=>?_;rcases q1 with⟨a,e,⟨xs,hq⟩,q⟩|⟨a,e,⟨xs,hq⟩,q⟩
 .subst e;cases r1;obtain⟨its,rv,p,hz⟩:=I1.list hq;refine xS p.isList ?_;refine#[s1.heap.objs.size,[s1.heap.objs.size],_,_,H1,(),I1.kept λb o e=>qv _ e,Oh a _,#[_,qJ _ (),(),()],λb hb=>?_,q];have e:b=s1.heap.objs.size:=by simpa using hb
  subst e;exact I1.fpOk (qx _) (I1.hok.fresh (qx _))
 .subst e;cases r1;obtain⟨its,rv,p,hz⟩:=I1.tuple hq;refine wpAny_pyIter_tuple (p) ?_;refine#[s1.heap.objs.size,[s1.heap.objs.size],_,_,H1,(),I1.kept λb o e=>qv _ e,Xj a _,#[_,qJ _ (),(),()],λb hb=>?_,q];have e:b=s1.heap.objs.size:=by simpa using hb
  subst e;exact I1.fpOk (qx _) (I1.hok.fresh (qx _))
def cr (h:DE O X iter f):DI O X tg iter (itF f):=⟨(WF h.1).imp λL H R=>by
 rintro⟨Tm,Ty,G,Y,ds,A,h,k⟩;obtain⟨d,hd,h⟩:=oBd h;refine#[Tm,Ty,G,Y,d,A,hd,λv G' H' s r=>?_];unfold sV at h;split at h
 .cases h;obtain⟨a,vs,rfl,ha,rv⟩:=r.lst_inv;refine .inl #[a,(),#[vs,.inl (.inl (s.gh _ _ ha))],k _ G' H' s ?_];refine#[λi d G2 H2 hd g1 g2=>?_,λG2 H2 g1 g2=>#[vs,.inl (.inl (g2 _ _ (g1 _ _ ha))),by rw[rv.length];exact qx _]];obtain⟨v,hv,rv'⟩:=rv.get hd;refine#[#[vs,v,.inl (.inl (g2 _ _ (g1 _ _ ha))),hv],λx H3 #[e1,e2]=>?_];subst e1;have:=e2 vs (.inl (.inl (g2 _ _ (g1 _ _ ha))));rw[hv] at this;cases this;exact#[G2,.refl g2,rv'.mono g1]
 .cases h;obtain⟨a,vs,rfl,ha,rv⟩:=r.tup_inv;exact .inr #[a,(),#[vs,.inl (.inl (s.gh _ _ ha))],k _ G' H' s (XT ha rv)]
 .rename_i l;cases h;obtain⟨a,rfl,ha⟩:=r.scr_inv;refine .inl #[a,(),#[_,s.gh.seq ha],k _ G' H' s ?_];refine#[λi d G2 H2 hd g1 g2=>?_,λG2 H2 g1 g2=>#[_,g2.seq (g1.seq ha),by simp]];rw[ql] at hd;obtain⟨n,hn,rfl⟩:=oMd hd;have hv:(MP V.int l)[i]?=U (V.int n):=by rw[ql,hn];rfl
  refine#[#[_,_,g2.seq (g1.seq ha),hv],λx H3 #[e1,e2]=>?_];subst e1;have:=e2 _ (g2.seq (g1.seq ha));rw[hv] at this;cases this;exact#[G2,.refl g2,.int _]
 .cases h⟩
noncomputable def Bv:D->ak (Z D)
 |.str x=>U (x.cps.toList.map fun c=>D.str ⟨#[c]⟩)
 |_=>B
def itS (f:FE):FA:=λY=>(f Y).bind Bv
def tJ {n:af} {q:bV} (h:DE O X iter f):DI O X (.Name n q) iter (itS f):=⟨(Pc h.1).imp λL H R=>by
 rintro⟨Tm,Ty,G,Y,ds,A,h,k⟩;obtain⟨d,hd,h⟩:=oBd h;refine#[Tm,Ty,G,Y,d,A,hd,λv G' H' s r=>?_];unfold Bv at h;split at h<;>cases h;cases r.str_inv;rename_i x;refine#[x,(),k _ G' H' s #[λi d G2 H2 hd g1 g2=>?_,λG2 H2 g1 g2=>?_]]
 .rw[ql] at hd;obtain⟨c,hc,rfl⟩:=oMd hd;have hc':x.cps[i]?=U c:=by simpa using hc
  refine#[(ig.mp hc').1,λy H3 ζ=>?_];obtain⟨e1,c2,h2,e2⟩:=ζ;subst e1;subst e2;rw[hc'] at h2;cases h2;exact#[G2,.refl g2,.str _]
 .show _=x.cps.size;simp⟩
def BO :Yd O K (Itr lo n) G ((db n).map λi:J=>D.int (lo+i)):=by
 refine#[λi d G2 H2 hd g1 g2=>?_,λG2 H2 g1 g2=>?_]
 .rw[ql] at hd;obtain⟨j,hj,rfl⟩:=oMd hd;have hi:i<n:=by have:=(gv.mp hj).1;simpa using this
  have e:j=i:=by simpa[hi] using hj.symm
  subst e;refine#[hi,λx H3 #[e1,e2]=>?_];subst e1;subst e2;exact#[G2,.refl g2,.int _]
 .show n<=_;simp
noncomputable def iw:Z D->ak (Z D)
 |[.int j]=>if -(2 ^ 62)<=j/\j<2 ^ 62 then U ((db j.toNat).map λi:J=>D.int (0+i)) else B
 |_=>B
noncomputable def pQ:Z D->ak (Z D)
 |[.int i,.int j]=>if -(2 ^ 62)<=i/\i<2 ^ 62 /\ -(2 ^ 62)<=j/\j<2 ^ 62 then U ((db (j-i).toNat).map λk:J=>D.int (i+k)) else B
 |_=>B
noncomputable def itR (g:Z D->ak (Z D)) (fr:FA):FA:=λY=>(fr Y).bind g
def Fe (hg:Gl X "range") (hm:X.mg "range"=B) (h:DA O X [a] fr) (hs:aK [a] X.env=[(ao,eval a X.env)]:=by rfl):DI O X tg (.Call (.Name "range" p) [a] [] pos) (itR iw fr):=⟨(Gh hg hm h.1 hs).imp λL H R=>by
 rintro⟨Tm,Ty,G,Y,ds,A,h,k⟩;obtain⟨d,hd,h⟩:=oBd h;refine#[Tm,Ty,G,Y,d,A,hd,λv G' H' s r=>?_];unfold iw at h;split at h
 .split at h
  .rename_i hz;cases h;obtain⟨v,rfl,r1⟩:=r.one;cases r1.int_inv;exact#[_,(),hz.1,hz.2,k _ G' H' s BO]
  .cases h
 .cases h⟩
def WD (hg:Gl X "range") (hm:X.mg "range"=B) (h:DA O X [a,b] fr) (hs:aK [a,b] X.env=[(ao,eval a X.env),(ao,eval b X.env)]:=by rfl) (hs2:aK [b] X.env=[(ao,eval b X.env)]:=by rfl):DI O X tg (.Call (.Name "range" p) [a,b] [] pos) (itR pQ fr):=⟨(NT hg hm h.1 hs hs2).imp λL H R=>by
 rintro⟨Tm,Ty,G,Y,ds,A,h,k⟩;obtain⟨d,hd,h⟩:=oBd h;refine#[Tm,Ty,G,Y,d,A,hd,λv G' H' s r=>?_];unfold pQ at h;split at h
 .split at h
  .rename_i hz;cases h;obtain⟨v,u,rfl,r1,r2⟩:=r.two;cases r1.int_inv;cases r2.int_inv;exact#[_,_,(),hz,k _ G' H' s BO]
  .cases h
 .cases h⟩
abbrev FG:=D->bj->ak bj
abbrev FGs:=Z D->bj->ak bj
inductive TDg (O:Cn) (K:aJ) (g:FG) (v:V) (L:St) (H:Hp) (Q:St->Hp->Prop):Prop where
 |mk:∀Tm Ty G Y d KK,At O K Tm Ty G H Y L->Rep O K G v d->g d Y=U KK->(∀BT,At O K Tm Ty G H KK BT->Q BT H)->TDg O K g v L H Q
inductive TDgs (O:Cn) (K:aJ) (g:FGs) (vs:Z V) (L:St) (H:Hp) (Q:St->Hp->Prop):Prop where
 |mk:∀Tm Ty G Y ds KK,At O K Tm Ty G H Y L->Reps O K G vs ds->g ds Y=U KK->(∀BT,At O K Tm Ty G H KK BT->Q BT H)->TDgs O K g vs L H Q
structure DG (O:Cn) (X:Cx) (tg:Expr) (g:FG):Prop where
 pg:PG X tg (TDg O X.K g)
 no:∀d Y KK,g d Y=U KK->gY Y->gY KK
structure DGs (O:Cn) (X:Cx) (ts:Z Expr) (g:FGs):Prop where
 pg:PGs X ts (TDgs O X.K g)
 no:∀d Y KK,g d Y=U KK->gY Y->gY KK
def PG.imp {t t':TG} (h:PG X tg t) (i:∀v L H Q,t' v L H Q->t v L H Q):PG X tg t':=λXL s L H v u Q I r q=>h XL s L H v u Q I r (i _ _ _ _ q)
def PGs.imp {t t':TGs} (h:PGs X ts t) (i:∀v L H Q,t' v L H Q->t v L H Q):PGs X ts t':=λXL s L H v u Q I r q=>h XL s L H v u Q I r (i _ _ _ _ q)
noncomputable def bp (i:J):FG:=λd Y=>U (Y.set i (U (.sh d)))
def Pn (h:gY Y):gY (Y.set i (U (.sh d))):=λj ds e=>by
 by_cases hj:j=i
 .subst hj;rw[List.getElem?_set,qZ ()] at e;split at e<;>cases e;exact#[_,()]
 .rw[qC (dU hj)] at e;exact h j ds e
def bO (i:J) (hN:X.N.Nodup) (hi:X.N[i]?=U x:=by rfl) (hx:Loc X.env.scope x:=by ac_nf) (hf:X.fn x=ah\/X.env.scope.names.lookup x=U .local:=by ac_nf):DG O X (.Name x pos) (bp i):=by
 refine#[(Ta hN hi hx hf).imp λv L H Q=>?_,λd Y KK e h=>?_]
 .rintro⟨Tm,Ty,G,Y,d,KK,A,r,h,k⟩;cases h;exact k _ (A.setSh r)
 .cases e;exact Pn h
noncomputable def kC:FGs:=λds Y=>match ds with
 |[]=>U Y
 |_=>B
noncomputable def gW (g:FG) (gs:FGs):FGs:=λds Y=>match ds with
 |d::r=>(g d Y).bind λKK=>gs r KK
 |_=>B
def wY:DGs O X [] kC:=by
 refine#[Xt.imp λvs L H Q=>?_,λd Y KK e h=>?_]
 .rintro⟨Tm,Ty,G,Y,ds,KK,A,r,h,k⟩;unfold kC at h;split at h<;>cases h;cases r;exact#[(),k L A]
 .unfold kC at e;split at e<;>cases e;exact h
def lW {g:FG} (h1:DG O X e g) (h2:DGs O X ts gs) (hs:(ka (e::ts) X.env).map (·.2)=rl e X.env::(ka ts X.env).map (·.2):=by rfl):DGs O X (e::ts) (gW g gs):=by
 refine#[(Pt h1.pg h2.pg hs).imp λvs L H Q=>?_,λds Y KK e h=>?_]
 .rintro⟨Tm,Ty,G,Y,ds,KK,A,r,h,k⟩;unfold gW at h;split at h
  .obtain⟨ρ1,h1,h⟩:=oBd h;cases r with
   |cons r1 r2=>exact#[_,_,(),Tm,Ty,G,Y,_,ρ1,A,r1,h1,λσ1 A1=>#[Tm,Ty,G,ρ1,_,KK,A1,r2,h,k]]
  .cases h
 .unfold gW at e;split at e
  .obtain⟨ρ1,e1,e⟩:=oBd e;exact h2.no _ _ _ e (h1.no _ _ _ e1 h)
  .cases e
noncomputable def kH (n:J) (gs:FGs):FG:=λd Y=>match d with
 |.tup ds=>if ds.length=n then gs ds Y else B
 |_=>B
def v8 {k:J} (hc:X.calm=ah) (h:DGs O X ts gs) (hn:(ka ts X.env).length=n:=by rfl) (hst:(ka ts X.env).findIdx? (·.1)=B:=by rfl):DG O X (.Tuple ts k pos) (kH n gs):=by
 refine#[(Td hc h.pg hn hst).imp λv L H Q=>?_,λds Y KK e q=>?_]
 .rintro⟨Tm,Ty,G,Y,d,KK,A,r,h,k⟩;unfold kH at h;split at h
  .split at h
   .rename_i hl;obtain⟨a,vs,rfl,ha,rv⟩:=r.tup_inv;exact#[a,vs,(),.inl (.inl (A.gh _ _ ha)),by rw[rv.length];exact hl,Tm,Ty,G,Y,_,KK,A,rv,h,k]
   .cases h
  .cases h
 .unfold kH at e;split at e
  .split at e
   .exact h.no _ _ _ e q
   .cases e
  .cases e
def fP (g:FG) (ft:FT) (fe:FE):Z D->bj->ak (Z D)
 |[],_=>U []
 |x::xs,Y=>(g x Y).bind λρ1=>(ft ρ1).bind λb=>if b=ah then (fe ρ1).bind λd=>(fP g ft fe xs ρ1).map (d::·) else fP g ft fe xs ρ1
noncomputable def gu (fv:Z (ak J)) (Y:bj):bj:=fv.map λo=>o.bind λj=>match Y[j]? with
 |some (U (.sh d))=>U (.sh d)
 |_=>B
def cG (fi:FA) (g:FG) (ft:FT) (fe:FE) (fv:Z (ak J)):FA:=λY=>(fi Y).bind λxs=>if xs.length<=aH then fP g ft fe xs (gu fv Y) else B
structure DTs (O:Cn) (X:Cx) (es:Z Expr) (f:FT):Prop where
 out:PTs X es (TDt O X.K f)
def PTs.imp {t t':TT} (h:PTs X es t) (i:∀L H Q,t' L H Q->t L H Q):PTs X es t':=λXL s L H Q I q=>h XL s L H Q I (i _ _ _ q)
noncomputable def tT:FT:=λ_=>U ah
def cN:DTs O X [] tT:=⟨Jd.imp λL H Q=>by rintro⟨Tm,Ty,G,Y,b,A,h,k⟩;cases h;exact k G H (.refl A.gh)⟩
def zF (h:DT O X c ft):DTs O X [c] ft:=⟨LP h.1⟩
variable {g:FG}
structure DB (O:Cn) (X:Cx) (N':Z af) (scope:Scope) (tg:Expr) (ifs:Z Expr) (elt:Expr) (g:FG) (ft:FT) (fe:FE):Prop where
 out:∀(cl:Z (af×ar)) (C:ar) (mt:aF) (Ty:Hp) (fp:Z ar),DG O (gG X N' scope cl C mt Ty fp) tg g/\DTs O (gG X N' scope cl C mt Ty fp) ifs ft/\DE O (gG X N' scope cl C mt Ty fp) elt fe
def DB.pb (h:DB O X N' scope tg ifs elt g ft fe):PB X N' scope tg ifs elt (TDg O X.K g) (TDt O X.K ft) (TD O X.K fe):=λcl C mt Ty fp=>#[(h.1 cl C mt Ty fp).1.pg,(h.1 cl C mt Ty fp).2.1.1,(h.1 cl C mt Ty fp).2.2.1]
def W3 (A:At O K Tm Ty G H Y L):At O K G H G H (gu fv Y) (gF fv L)/\gY (gu fv Y):=by
 have no:gY (gu fv Y):=λi ds e=>by
  unfold gu at e;rw[ql] at e;obtain⟨o,ho,e⟩:=oMd e;cases o with
  |none=>cases e
  |some j=>
   simp only[qa] at e;split at e<;>cases e;exact#[_,()]
 refine#[#[.refl A.gh,.ofSh (by simp[gu,gF]) no λi d e=>?_],no];unfold gu at e;unfold gF;rw[ql] at e ⊢;obtain⟨o,ho,e⟩:=oMd e;rw[ho];cases o with
 |none=>cases e
 |some j=>
  simp only[qa] at e;split at e
  .rename_i d' hd';cases e;obtain⟨v,h1,h2⟩:=A.env.sh j d hd';exact#[v,by simp[h1],h2]
  .cases e
inductive Bzq {α β γ δ:Type} (a b c:Prop) (p q r s t u:α->β->γ->δ->Prop):Prop where
 |mk:a->b->c->∀x y z w,p x y z w->q x y z w->r x y z w->s x y z w->t x y z w->u x y z w->Bzq a b c p q r s t u
def Cw (no:∀d Y KK,g d Y=U KK->gY Y->gY KK):∀L H Q,TDo O X.K (cG fi g ft fe fv) L H Q->tLC (TDi O X.K fi) (TDg O X.K g) (TDt O X.K ft) (TD O X.K fe) fv L H Q:=by
 rintro L H Q ⟨Tm,Ty,G,Y,ds,A,h,k⟩;obtain⟨xs,hx,h⟩:=oBd h;split at h
 case isFalse=>cases h
 rename_i hz;refine#[Tm,Ty,G,Y,xs,A,hx,λag G1 H1 s1 ρ acc hacc=>?_];have gacc:G1 acc=B:=s1.gh.free hacc;obtain⟨A0,no0⟩:=W3 (A.step s1);refine#[λi m ys BT H'=>Bzq (m=xs.length-i) (i<=xs.length) (ys.length<=i) (λG' KK _ _=>At O X.K G1 H1 G' H' KK BT) (λ_ KK _ _=>gY KK) (λ_ _ _ _=>H' acc=U (.lst ys)) (λG' _ _ _=>G' acc=B) (λG' _ done _=>Reps O X.K G' ys done) (λ_ KK done aZ=>fP g ft fe (xs.drop i) KK=U aZ/\done++aZ=ds),?_,?_]
 .refine#[xs.length,(),eA _,qx _,G1,gu fv Y,[],ds,?_,no0,bK,gacc,.nil,by rw[h9];exact h,()];have sn:=Step.newOwn (o:=.lst []) s1.gh hacc;exact#[sn,.ofSh A0.env.len no0 A0.env.sh]
 .rintro i m ys BT H' ⟨hm,hi,hyi,G',KK,done,aZ,A',no',hacc',gacc',ry,hr,hd⟩;subst hm;refine#[hacc',?_];by_cases hlt:i<xs.length
  .right
   have hxi:xs[i]?=U xs[i]:=by simp[hlt]
   obtain⟨go,yl⟩:=ρ.go i _ G' H' hxi A'.st.gg A'.gh;refine#[go,λx H2 hy=>?_];obtain⟨G2,s2,r2⟩:=yl x H2 hy;have A2:=A'.step s2;have hdr:xs.drop i=xs[i]::xs.drop (i+1):=mO hlt;rw[hdr] at hr;obtain⟨ρ1,h1,hr⟩:=oBd hr;obtain⟨b,h2,hr⟩:=oBd hr;refine#[G1,H1,G2,KK,_,ρ1,A2,r2,h1,λσ2 A3=>#[G1,H1,G2,ρ1,b,A3,h2,λG4 H4 s4=>?_]];have no1:=no _ _ _ h1 no';have hH4:H4 acc=U (.lst ys):=s4.hh _ _ (s2.hh _ _ hacc');have hG4:G4 acc=B:=(s4.out _ _ (s2.hh _ _ hacc')).trans ((s2.out _ _ hacc').trans gacc');cases b with
   |false=>
    rw[xa qu] at hr;refine fy #[xs.length-(i+1),by lia,(),hlt,by lia,G4,ρ1,done,aZ,A3.step s4,no1,hH4,hG4,(ry.mono s2.gg).mono s4.gg,hr,hd]
   |true=>
    rw[qZ ()] at hr;obtain⟨d,h3,hr⟩:=oBd hr;obtain⟨zs,h5,rfl⟩:=oMd hr;refine fz #[G1,H1,G4,ρ1,d,A3.step s4,h3,λv G5 H5 s5 r5=>?_];have A5:=(A3.step s4).step s5;have hH5:H5 acc=U (.lst ys):=s5.hh _ _ hH4;have hG5:G5 acc=B:=(s5.out _ _ hH4).trans hG4;refine#[hH5,by lia,xs.length-(i+1),by lia,(),hlt,by rw[qk,qY];lia,G5,ρ1,done++[d],zs,?_,no1,bK,hG5,((((ry.mono s2.gg).mono s4.gg).mono s5.gg).append (.cons r5 .nil)),h5,by rw[qy];exact hd];refine#[#[λb o e=>?_,A5.st.gg,λb o e=>?_,A5.st.out],.ofSh A5.env.len no1 A5.env.sh]
    .rw[aW (ce e hacc)];exact A5.st.hh b o e
    .rw[aW (ce e hG5)];exact A5.st.gh b o e
  .left
   have e:i=xs.length:=by lia
   subst e;rw[rQ] at hr;cases hr;rw[dZ] at hd;subst hd;refine#[ρ.stop G' H' A'.st.gg A'.gh,?_];have hf:H'=upd (λb=>if b=acc then B else H' b) acc (.lst ys):=by
    funext b
    by_cases hb:b=acc
    .subst hb;rw[bK];exact hacc'
    .rw[aW hb,xa hb]
   rw[hf];refine k acc ys G' (λb=>if b=acc then B else H' b) (s1.trans #[λb o e=>?_,A'.st.gg,λb o e=>?_,A'.st.out]) (qZ ()) ry
   .show(if b=acc then B else H' b)=U o;rw[xa (ce e hacc)];exact A'.st.hh b o e
   .show(if b=acc then B else H' b)=U o;rw[xa (ce e gacc')];exact A'.st.gh b o e
def cM (hc:X.calm=ah) (S:CompScope X scope) (F:FvOk X N' scope fv) (hi:DI O X tg iter fi) (hb:DB O X N' scope tg ifs elt g ft fe) (hs:∀x,lj iter X.env x=pure x:=by intro _;rfl) :
  DO O X (.ListComp elt [⟨tg,iter,ifs,0⟩] scope pos) (cG fi g ft fe fv):=⟨(EB hc S F hi.1 hb.pb hs).imp (Cw (hb.1 [] 0 X.mt X.Ty []).1.no)⟩
end
variable {g:FS} {sts sa sb:Z Stmt} {gg:FG} {vp:bV}
section
variable {a c:Expr} {p:bV} {g':FS} {st:Stmt}
noncomputable def dQ:FS:=λY=>U (.nx,Y)
def bu (g g':FS):FS:=λY=>(g Y).bind λr=>match r.1 with
 |.nx=>g' r.2
 |fl=>U (fl,r.2)
def bW:DSs O X [] dQ:=⟨ub.imp λE L H=>by rintro⟨Tm,Ty,G,Y,fl,KK,A,h,k⟩;cases h;exact k L G H (.refl _) A⟩
def aQ (h:DS O X st g):DSs O X [st] g:=⟨lF h.1⟩
def aU (h1:DS O X st g) (h2:DSs O X sts g'):DSs O X (st::sts) (bu g g'):=⟨(kG h1.1 h2.1).imp λE L H=>by
 rintro⟨Tm,Ty,G,Y,fl,KK,A,h,k⟩;obtain⟨⟨fl1,ρ1⟩,h1,h⟩:=oBd h;refine#[Tm,Ty,G,Y,fl1,ρ1,A,h1,λσ1 G1 H1 sm A1=>?_];cases fl1 with
 |nx=>exact#[Tm,Ty,G1,ρ1,fl,KK,A1,h,λBT G' H' sm' A'=>k BT G' H' (sm.trans sm') A']
 |bk=>cases h;exact k σ1 G1 H1 sm A1
 |ct=>cases h;exact k σ1 G1 H1 sm A1
 |rt d=>cases h;exact k σ1 G1 H1 sm A1
 |ow d=>cases h;exact k σ1 G1 H1 sm A1
 |nw d=>cases h;exact k σ1 G1 H1 sm A1
 |od d=>cases h;exact k σ1 G1 H1 sm A1⟩
noncomputable def cP (f:FE):FS:=λY=>(f Y).map λd=>(.rt d,Y)
def aX (h:DE O X e f):DS O X (.Return (U e) pos) (cP f):=⟨(nM h.1).imp λE L H=>by rintro⟨Tm,Ty,G,Y,fl,KK,A,h,k⟩;obtain⟨d,hd,h⟩:=oMd h;cases h;exact#[Tm,Ty,G,Y,d,A,hd,λv G' H' s r=>k L G' H' s.gg (A.step s) v r]⟩
noncomputable def c6 (i:J) (f:FE):FS:=λY=>(f Y).map λd=>(.nx,Y.set i (U (.sh d)))
def cX (i:J) (hN:X.N.Nodup) (h:DE O X e f) (hi:X.N[i]?=U x:=by rfl) (hx:Loc X.env.scope x:=by ac_nf) (hs:eD e (U (.Name x pos')) pos.line X.env=pure ao:=by rfl) (hf:X.fn x=ah\/X.env.scope.names.lookup x=U .local:=by ac_nf) :
  DS O X (.Assign [.Name x pos'] e pos) (c6 i f):=⟨(l6 hN hi hx h.1 hs hf).imp λE L H=>by
 rintro⟨Tm,Ty,G,Y,fl,KK,A,h,k⟩;obtain⟨d,hd,h⟩:=oMd h;cases h;exact#[Tm,Ty,G,Y,d,A,hd,λv G' H' s r=>k _ G' H' s.gg ((A.step s).setSh r)]⟩
noncomputable def nN (i:J) (f:FA):FS:=λY=>(f Y).map λd=>(.nx,Y.set i (U (.own d)))
def Sj :∀E L H,TDs O X.K (nN i fr) E L H->ph (TDo O X.K fr) (pG i) E L H:=by rintro E L H ⟨Tm,Ty,G,Y,fl,KK,A,h,k⟩;obtain⟨d,hd,h⟩:=oMd h;cases h;exact#[Tm,Ty,G,Y,d,A,hd,λp vs G' H' s hp r=>k _ G' _ s.gg ((A.step s).setOwn hp r)]
def BE (i:J) (hN:X.N.Nodup) (h:DO O X e fr) (hi:X.N[i]?=U x:=by rfl) (hx:Loc X.env.scope x:=by ac_nf) (hs:eD e (U (.Name x pos')) pos.line X.env=pure ao:=by rfl) (hf:X.fn x=ah\/X.env.scope.names.lookup x=U .local:=by ac_nf) :
  DS O X (.Assign [.Name x pos'] e pos) (nN i fr):=⟨(l6 hN hi hx h.1 hs hf).imp Sj⟩
def XC :∀E L H,TDs O X.K (c6 i (bE fr)) E L H->ph (TDo O X.K fr) (pG i) E L H:=by rintro E L H ⟨Tm,Ty,G,Y,fl,KK,A,h,k⟩;obtain⟨d,hd,h⟩:=oMd h;obtain⟨ds,hd',rfl⟩:=oMd hd;cases h;refine#[Tm,Ty,G,Y,ds,A,hd',λp vs G' H' s hp r=>?_];have s2:=Step.new (o:=.lst vs) s.gh hp;exact k _ _ _ (s.gg.trans s2.gg) (((A.step s).step s2).setSh (.lst bK (r.mono s2.gg)))
def KL (i:J) (hN:X.N.Nodup) (hc:X.calm=ah) (S:CompScope X scope) (F:FvOk X N' scope fv) (hi:DI O X tg iter fi) (hb:DB O X N' scope tg ifs elt gg ft fe)
  (hy:X.N[i]?=U y:=by rfl) (hyl:X.env.scope.names.lookup y=U .local:=by rfl) (hsw:eD (.ListComp elt [⟨tg,iter,ifs,0⟩] scope pos) (U (.Name y py)) spos.line X.env=pure ah:=by rfl) (hs:∀x,lj iter X.env x=pure x:=by intro _;rfl) :
  DS O X (.Assign [.Name y py] (.ListComp elt [⟨tg,iter,ifs,0⟩] scope pos) spos) (c6 i (bE (cG fi gg ft fe fv))):=⟨(zG hN hy hyl hc S F hi.1 hb.pb hsw hs).imp λE L H q=>Cw (hb.1 [] 0 X.mt X.Ty []).1.no L H _ (XC E L H q)⟩
noncomputable def uZ (i:J) (f:FE):FS:=λY=>match Y[i]? with
 |some (U (.own ds))=>(f Y).bind λd=>if ds.length<aH then U (.nx,Y.set i (U (.own (ds++[d])))) else B
 |_=>B
def Os (i:J) (h:DE O X e f) (hN:X.N[i]?=U x:=by rfl) (hv:Vis X.env.scope x:=by ac_nf) (hd:(x==("__debug__":af))=ao:=by decide)
  (hcd:(x==("__classdict__":af))=ao:=by decide)
  (hbase:i8 (.Name x vp) "append" X.env (eval (.Name x vp) X.env)=eval (.Name x vp) X.env:=by rfl)
  (hfew:((bX cpos (aK [e] X.env)).all (λx=>!x.1) && (kf cpos (kh [] X.env)).all (λx=>x.1.isSome)
   && decide ([e].length+([]:Z i9).length+(if ([]:Z i9).isEmpty then 0 else 1)<30))=ah:=by rfl)
  (hline:(apos.endLine==cpos.line)=ah:=by rfl) (hs:aK [e] X.env=(ao,eval e X.env)::aK [] X.env:=by rfl) (hplain:(bX cpos (aK [] X.env)).any (·.1)=ao:=by rfl)
  (hsw:eD (.Call (.Attribute (.Name x vp) "append" apos) [e] [] cpos) B pos.line X.env=pure ao:=by rfl) :
  DS O X (.Expr (.Call (.Attribute (.Name x vp) "append" apos) [e] [] cpos) pos) (uZ i f):=⟨(wd (sW MQ MD Y2 Bi (dM hN hv hd hcd) (dB h.1 gc hs) hbase hfew hline hs hplain) hsw).imp λE L H=>by
  rintro⟨Tm,Ty,G,Y,fl,KK,A,h,k⟩;unfold uZ at h;split at h
  .rename_i ds hi;obtain⟨d,hd,h⟩:=oBd h;split at h
   .rename_i hz;cases h;obtain⟨a,vs,h1,h2,h3,h4,h5⟩:=A.env.own i ds hi;refine#[.ref a,h1,.inl #[(),vs,.inl (.inl h4)],Tm,Ty,G,Y,d,A,hd,λv G1 H1 s1 r1=>?_];have A1:=A.step s1;refine#[a,vs,v,(),(),s1.hh _ _ h4,by rw[h5.length];exact hz,?_];exact k L G1 _ s1.gg (A1.chOwn hi h1 ((h5.mono s1.gg).append (.cons r1 .nil)))
   .cases h
  .cases h⟩
noncomputable def pe (i:J) (g:FS):FS:=λY=>match Y[i]? with
 |some (U (.own ds))=>g (Y.set i (U (.sh (.lst ds))))
 |_=>B
def TDs.frz (i:J):∀E L H,TDs O X.K (pe i g) E L H->TDs O X.K g E L H:=by
 rintro E L H ⟨Tm,Ty,G,Y,fl,KK,A,h,k⟩;unfold pe at h;split at h
 .rename_i ds hi;obtain⟨G',sm,A'⟩:=A.freeze hi;exact#[Tm,Ty,G',_,fl,KK,A',h,λσ1 G1 H1 sm1 A1=>k σ1 G1 H1 (sm.trans sm1) A1]
 .cases h
def EC (i:J) (h:DSs O X sts g):DSs O X sts (pe i g):=⟨h.1.imp (TDs.frz i)⟩
noncomputable def sIf (ft:FT) (g g':FS):FS:=λY=>(ft Y).bind λc=>if c=ah then g Y else g' Y
def bS (hc:DT O X c ft) (ha:DSs O X sa g) (hb:DSs O X sb g'):DS O X (.If c sa sb pos) (sIf ft g g'):=⟨(sR hc.1 ha.1 hb.1).imp λE L H=>by
 rintro⟨Tm,Ty,G,Y,fl,KK,A,h,k⟩;obtain⟨x,hx,h⟩:=oBd h;refine#[Tm,Ty,G,Y,x,A,hx,λG1 H1 s1=>?_];cases x with
 |true=>exact fz #[Tm,Ty,G1,Y,fl,KK,A.step s1,by simpa using h,λσ2 G2 H2 sm2 A2=>k σ2 G2 H2 (s1.gg.trans sm2) A2]
 |false=>exact fy #[Tm,Ty,G1,Y,fl,KK,A.step s1,by simpa using h,λσ2 G2 H2 sm2 A2=>k σ2 G2 H2 (s1.gg.trans sm2) A2]⟩
def fF (gg:FG) (body:FS):Z D->FS
 |[],Y=>U (.nx,Y)
 |x::xs,Y=>(gg x Y).bind λρ1=>(body ρ1).bind λr=>match r.1 with
  |.nx=>fF gg body xs r.2
  |.ct=>fF gg body xs r.2
  |.bk=>U (.nx,r.2)
  |.rt d=>U (.rt d,r.2)
  |.ow d=>U (.ow d,r.2)
  |.nw d=>U (.nw d,r.2)
  |.od d=>U (.od d,r.2)
def fS (fi:FA) (gg:FG) (body:FS):FS:=λY=>(fi Y).bind λxs=>fF gg body xs Y
def pM (hp:um (aL X.prog X.w) X.A X.env X.xe) (hc:X.calm=ah) (hi:DI O X tg iter fi) (hg:DG O X tg gg) (hb:DSs O X body g) (hs:∀x,lj iter X.env x=pure x:=by intro _;rfl) :
  DS O X (.For tg iter body [] pos) (fS fi gg g):=⟨(El hp hc hi.1 hg.pg hb.1 hs).imp λE L H=>by
 rintro⟨Tm,Ty,G,Y,fl,KK,A,h,k⟩;obtain⟨xs,hx,h⟩:=oBd h;refine#[Tm,Ty,G,Y,xs,A,hx,λag G1 H1 s1 ρ=>?_];refine#[λi m BT H'=>m=xs.length-i/\i<=xs.length/\∃G' ρ1,a9 G1 G'/\At O X.K Tm Ty G' H' ρ1 BT/\fF gg g (xs.drop i) ρ1=U (fl,KK),#[xs.length,(),eA _,G1,Y,.refl _,A.step s1,by rw[h9];exact h],?_];rintro i m BT H' ⟨rfl,hi,G',ρ1,sm,A',hr⟩;by_cases hlt:i<xs.length
 .right
  have hxi:xs[i]?=U xs[i]:=by simp[hlt]
  obtain⟨go,yl⟩:=ρ.go i _ G' H' hxi sm A'.gh;have hdr:xs.drop i=xs[i]::xs.drop (i+1):=mO hlt;rw[hdr] at hr;obtain⟨ρ2,h2,hr⟩:=oBd hr;obtain⟨⟨fl3,ρ3⟩,h3,hr⟩:=oBd hr;refine#[go,λσ3 H3=>(fl3=.nx\/fl3=.ct)/\∃G3,a9 G1 G3/\At O X.K Tm Ty G3 H3 ρ3 σ3,λσ3 H3 #[hfl,G3,sm3,A3]=>?_,λx H2 hy=>?_]
  .refine#[xs.length-(i+1),by lia,(),hlt,G3,ρ3,sm3,A3,?_];rcases hfl with e|e<;>subst e<;>exact hr
  .obtain⟨G2,s2,r2⟩:=yl x H2 hy;refine#[Tm,Ty,G2,ρ1,_,ρ2,A'.step s2,r2,h2,λσ2 A2=>#[Tm,Ty,G2,ρ2,fl3,ρ3,A2,h3,λσ3 G3 H3 sm3 A3=>?_]];have smm:a9 G1 G3:=(sm.trans s2.gg).trans sm3;cases fl3 with
   |nx=>exact#[.inl (),G3,smm,A3]
   |ct=>exact#[.inr (),G3,smm,A3]
   |bk=>cases hr;exact k σ3 G3 H3 (s1.gg.trans smm) A3
   |rt d=>cases hr;exact k σ3 G3 H3 (s1.gg.trans smm) A3
   |ow d=>cases hr;exact k σ3 G3 H3 (s1.gg.trans smm) A3
   |nw d=>cases hr;exact k σ3 G3 H3 (s1.gg.trans smm) A3
   |od d=>cases hr;exact k σ3 G3 H3 (s1.gg.trans smm) A3
 .left
  have e:i=xs.length:=by lia
  subst e;rw[rQ] at hr;cases hr;exact#[ρ.stop G' H' sm A'.gh,k BT G' H' (s1.gg.trans sm) A']⟩
end
variable {fk:FE} {ke:Expr} {m:J}
section
variable {a c:Expr} {fw:FE} {p:bV}
def VI:DE O X (.Dict [] [] pos) (vC (.dk [])):=⟨J8.imp λL H Q=>by rintro⟨Tm,Ty,G,Y,d,A,h,k⟩ p hp;cases h;have s:=Step.new (o:=.dK []) A.gh hp;exact k _ _ _ s (.dk bK () .nil)⟩
noncomputable def K1 (fk fv:FE):FE:=λY=>(fk Y).bind λk=>(fv Y).bind λv=>match k with
 |.int i=>U (.dk [(.inl i,v)])
 |.str x=>U (.dk [(.inr x,v)])
 |_=>B
def N1 {ve:Expr} (hk:DE O X ke fk) (hv:DE O X ve fw):DE O X (.Dict [U ke] [ve] pos) (K1 fk fw):=⟨(HE (GZ hk.1 hv.1 J9) () () (by simp) (by simp)).imp λL H Q=>by
 rintro⟨Tm,Ty,G,Y,d,A,h,k⟩ p hp;obtain⟨kd,hkd,h⟩:=oBd h;obtain⟨vd,hvd,h⟩:=oBd h;have s0:=Step.newOwn (o:=.dK []) A.gh hp;refine#[Tm,Ty,G,Y,kd,A.step s0,hkd,λkv G1 H1 s1 r1=>#[Tm,Ty,G1,Y,vd,(A.step s0).step s1,hvd,λvv G2 H2 s2 r2=>?_]];have hp2:H2 p=U (.dK []):=s2.hh _ _ (s1.hh _ _ bK);have gp2:G2 p=B:=(s2.out _ _ (s1.hh _ _ bK)).trans ((s1.out _ _ bK).trans (A.gh.free hp));refine#[hp2,?_];have s12:=(s0.trans s1).trans s2;have back:Step G H G2 (λb=>if b=p then B else H2 b):=by
  refine#[λb o e=>?_,s12.gg,λb o e=>?_,s12.out]
  .show(if b=p then B else H2 b)=U o;rw[xa (ce e hp)];exact s12.hh b o e
  .show(if b=p then B else H2 b)=U o;rw[xa (ce e gp2)];exact s12.gh b o e
 have fin:∀(kk:Key),kV kk=kv->d=.dk [(kk,vd)]->∃kvs:Z (Key×V),[(kv,vv)]=kvs.map (λkv=>(kV kv.1,kv.2))/\kvs.length<=15/\Q (.ref p) (upd H2 p (.dK (iL [] kvs))):=λkk ek ed=>by
  refine#[[(kk,vv)],by simp[ek],by simp,?_];have e1:iL [] [(kk,vv)]=[(kk,vv)]:=rfl;rw[e1];have s3:=Step.new (o:=.dK [(kk,vv)]) back.gh (qZ ());have hf:upd (λb=>if b=p then B else H2 b) p (.dK [(kk,vv)])=upd H2 p (.dK [(kk,vv)]):=by
   funext b
   by_cases hb:b=p
   .subst hb;rw[bK,bK]
   .rw[aW hb,aW hb];exact xa hb
  rw[<-hf];refine k _ _ _ (back.trans s3) ?_;subst ed;exact .dk (us:=[(kk,vv)]) bK () (.cons (r2.mono s3.gg) .nil)
 have rk:=r1.mono s2.gg;split at h
 .cases h;cases rk.int_inv;exact fin (n6 _) () ()
 .cases h;cases rk.str_inv;exact fin (cC _) () ()
 .cases h⟩
inductive spF (O:Cn) (K:aJ) (n:J) (F:Z D->ak D) (vs:Z V) (H:Hp) (Q:VK) (_e3:XK):Prop where
 |mk:∀G ds d,a9 G H->Reps O K G vs ds->ds.length=n->F ds=U d->(∀v G' H',Step G H G' H'->Rep O K G' v d->Q v H')->spF O K n F vs H Q _e3
noncomputable def aN (n:J) (g:FS):Z D->ak D:=λds=>(g (ds.map (fun d=>U (Slot.sh d))++bB n B)).bind λr=>match r.1 with
 |.rt d=>U d
 |.nx=>U .non
 |_=>B
def w8 (gh:a9 G H) (r:Reps O K G vs ds) (hm:m=N.length-vs.length):At O K G H G H (ds.map (fun d=>U (Slot.sh d))++bB m B) (eJ N vs):=by
 have no:gY (ds.map (fun d=>U (Slot.sh d))++bB m B):=λi es e=>by
  by_cases hi:i<ds.length
  .rw[qD (by simpa using hi),ql] at e;obtain⟨d,_,e⟩:=oMd e;cases e;exact#[_,()]
  .rw[qN (by simpa using hi),ux] at e;split at e<;>cases e
 refine#[.refl gh,.ofSh (by simp[eJ,r.length,hm]) no λi d e=>?_];by_cases hi:i<ds.length
 .rw[qD (by simpa using hi),ql] at e;obtain⟨d',hd,e⟩:=oMd e;cases e;obtain⟨v,hv,rv⟩:=r.get hd;refine#[v,?_,rv];unfold eJ;rw[qD (by rw[qe,r.length];exact hi),ql,hv];rfl
 .rw[qN (by simpa using hi),ux] at e;split at e<;>cases e
def Fun.okD {st:Stmt} {f:ar} {k:J} (F:Fun K x qual st f fd) (S:FnScope N ps (aD st))
  (hbody:∀(cdv:au) (A:dh) (outer:Z cD) (s:aF) (H:Hp) (E:XK),Room k (A.deeper (bR qual (aD st) s.heap.objs.size f cdv))->
   DSs O (cB CX0 P w K mg base N qual (aD st) f cdv A outer s H E).nox (cI st) g):FnOk P w K mg base CX0 (k+1) f fd ps (spF O K ps.length (aN (N.length-ps.length) g)):=by
 refine F.ok S (λvs H Q E h=>?_) (fun cdv A outer s H vs Q E hr h=>?_)
 .obtain⟨G,ds,d,_,r,hl,_⟩:=h;rw[r.length,hl]
 .obtain⟨G,ds,d,gh,r,hl,hd,k⟩:=h;refine#[_,(hbody cdv A outer s H E hr).1,?_];obtain⟨⟨fl,KK⟩,hg,hd⟩:=oBd hd;refine#[G,H,G,_,fl,KK,w8 gh r (by rw[r.length,hl]),hg,λBT G' H' sm A'=>?_];cases fl with
  |rt d'=>cases hd;exactλv rv=>k v G' H' A'.st rv
  |nx=>cases hd;exact k .non G' H' A'.st .non
  |bk=>cases hd
  |ct=>cases hd
  |ow d=>cases hd
  |nw d=>cases hd
  |od d=>cases hd
def S7 {k:J} {fx:ar} {F:Z D->ak D} (Fo:FnOk X.prog X.w X.K X.mg X.base CX0 k fx fd ps (spF O X.K n F)) (hr:Room k X.A) (hg:Gl X x) (hm:X.mg x=U (.ref fx)) (hk:fM X.K (.ref fx)=ah) (hb:eP X.K fd ps [])
  (ha:DA O X (e::es) fr) (hn:∀Y ds,fr Y=U ds->ds.length=n) (hdb:(x==("__debug__":af))=ao:=by decide) (he:aK (e::es) X.env=(ao,eval e X.env)::aK es X.env:=by rfl) (hpl:(bX pos (aK es X.env)).any (·.1)=ao:=by rfl) :
  DE O X (.Call (.Name x p) (e::es) [] pos) (cF F fr):=⟨(nq Fo hr hg hm hk hb .nil lD ha.1 hdb he hpl).imp λL H Q=>by
 rintro⟨Tm,Ty,G,Y,d,A,h,k⟩;obtain⟨ds,hd,h⟩:=oBd h;refine#[Tm,Ty,G,Y,ds,A,hd,λvs G1 H1 s1 r1=>?_];rw[dZ];exact#[G1,ds,d,s1.gh,r1,hn Y ds hd,h,λv G' H' s r=>k v G' H' (s1.trans s) r]⟩
def S0 (h:ay Y=U ds):ds.length=0:=by cases h;rfl
def nO (hn:∀Y ds,fr Y=U ds->ds.length=n):∀Y ds,av fa fr Y=U ds->ds.length=n+1:=λY ds h=>by obtain⟨x,hx,h⟩:=oBd h;obtain⟨xs,hxs,rfl⟩:=oMd h;rw[qh,hn Y xs hxs]
end
structure Cal (O:Cn) (P:b7) (w:bU) (K:aJ) (mg:af->ak au) (base:Heap) (x:af) (n k:J) (F:Z D->ak D):Prop where
 ex:∃f fd ps,FnOk P w K mg base CX0 k f fd ps (spF O K n F)/\mg x=U (.ref f)/\fM K (.ref f)=ah/\eP K fd ps []
structure Dfn (K:aJ) (mg:af->ak au) (x:af) (st:Stmt):Prop where
 ex:∃f fd,Fun K x x st f fd/\mg x=U (.ref f)
section
variable {p:bV}
def dz {k:J} {F:Z D->ak D} (C:Cal O X.prog X.w X.K X.mg X.base x n k F) (hr:Room j X.A) (hk:k<=j) (hg:Gl X x) (ha:DA O X (e::es) fr) (hn:∀Y ds,fr Y=U ds->ds.length=n)
  (hdb:(x==("__debug__":af))=ao:=by decide) (he:aK (e::es) X.env=(ao,eval e X.env)::aK es X.env:=by rfl) (hpl:(bX pos (aK es X.env)).any (·.1)=ao:=by rfl) :
  DE O X (.Call (.Name x p) (e::es) [] pos) (cF F fr):=by
 obtain⟨f,fd,ps,h1,h2,h3,h4⟩:=C.ex;exact S7 h1 (hr.mono hk) hg h2 h3 h4 ha hn hdb he hpl
def Dfn.cal {st:Stmt} {k:J} (F:Dfn K mg x st) (S:FnScope N ps (aD st))
  (hb:∀(kV doc pm:au) (an:ak ar) (cdv ct:au) (us:Z au),us.length=ps.length->gM (eT x x (e9 st) (cI st) (aD st) .none kV doc pm an cdv ct) #[us,[]]=pure (ps.zip us))
  (hbody:∀(f:ar) (cdv:au) (A:dh) (outer:Z cD) (s:aF) (H:Hp) (E:XK),Room k (A.deeper (bR x (aD st) s.heap.objs.size f cdv))->
   DSs O (cB CX0 P w K mg base N x (aD st) f cdv A outer s H E).nox (cI st) g):Cal O P w K mg base x ps.length (k+1) (aN (N.length-ps.length) g):=by
 obtain⟨f,fd,h1,h2⟩:=F.ex;exact#[f,fd,ps,h1.okD S (hbody f),h2,h1.kp,h1.binds hb]
def Dfn.mk' {st:Stmt} {f:ar} {kV:au} (X:K.In h) (G:h.Ns dD mg) (a:ii K dD x=U (U (.ref f)))
  (l:K.lookup f=U #[oc,od,.func (eT x x (e9 st) (cI st) (aD st) .none kV doc pm an cdv ct),osl]) (c:uz K cdv x=ah) (k:fM K (.ref f)=ah):Dfn K mg x st:=
 #[f,_,yn l c k,gN X G a]
noncomputable def D6 (names:Z (af×hV)) (outer:Z (af×hV)):aR:=
 names.all λy=>y.2 != .cell && (y.2 != .local || names.lookup y.1==U .local) && (y.2 != .free || outer.lookup y.1==U .cell || outer.lookup y.1==U .free)
def CompScope.of (hk:scope.kind=.function) (h:D6 scope.names X.env.scope.names=ah):CompScope X scope:=by
 unfold D6 at h;rw[ie] at h;refine#[hk,λy hy e=>?_,λy hy e=>?_,λy hy e=>?_]
 .have:=h y hy;rw[e] at this;simp at this
 .have:=h y hy;rw[e] at this;simpa using this
 .have:=h y hy;rw[e] at this;simpa[Env.kindOf] using this
noncomputable def ID (N':Z af) (fv:Z (ak J)) (N:Z af) (outer names:Z (af×hV)):aR:=
 fv.length==N'.length && (N'.zip fv).all λy=>match y.2 with
  |none=>ah
  |some j=>N[j]?==U y.1 && (outer.lookup y.1==U .cell || outer.lookup y.1==U .free) && names.lookup y.1==U .free
def FvOk.of (h:ID N' fv X.N X.env.scope.names scope.names=ah):FvOk X N' scope fv:=by
 unfold ID at h;rw[eM,ie] at h;obtain⟨h1,h2⟩:=h;refine#[by simpa using h1,λi j x e1 e2=>?_];have hm:(x,U j)∈N'.zip fv:=by refine xT.mpr #[i,?_];rw[Y3];exact#[e1,e2]
 have:=h2 _ hm;simp only[eM,Dh,i6] at this;exact#[this.1.1,this.1.2,this.2]
end
mutual
def pdD:D->ak uF
 |.non=>U .none
 |.bl b=>U (.bool b)
 |.int i=>U (.int i)
 |.str x=>U (.str x)
 |.tup l=>(ff l).map PyData.tuple
 |.lst l=>(ff l).map PyData.list
 |.scr ns=>U (.list (ns.map Y4))
 |_=>B
def ff:Z D->ak (Z uF)
 |[]=>U []
 |d::r=>(pdD d).bind λp=>(ff r).map (p::·)
end
theorem Iw {h:Heap}:∀{ns:Z aj} {us:Z au},bq (ns.map V.int) us->∃as,ReadsAll h us (ns.map Y4) as
 |[],_,r=>by rw[qR] at r;cases r;exact#[_,.nil]
 |n::ns,_,r=>by
  rw[qp] at r;cases r with
  |cons r1 r2=>
   obtain⟨t,e⟩:=r1;subst e;obtain⟨as,q⟩:=Iw r2;exact#[_,.cons (.int n t) q]
theorem Reps.reads (I:Inv X XL L H s) (gh:a9 G H) {vs:Z V} {ds:Z D} {us:Z au} {ps:Z uF} (r:Reps O X.K G vs ds):bq vs us->ff ds=U ps->∃as,ReadsAll s.heap us ps as:=by
 refine r.rec (motive_1:=λv d _=>∀u p,bz v u->pdD d=U p->∃as,Reads s.heap u p as) (motive_2:=λvs ds _=>∀us ps,bq vs us->ff ds=U ps->∃as,ReadsAll s.heap us ps as) ?_ ?_ ?_ ?_ ?_ ?_ ?_ ?_ ?_ ?_ ?_ ?_ ?_ us ps
 .intro u p r h;cases r;rw[pdD] at h;cases h;exact#[_,.none]
 .intro b u p r h;cases r;rw[pdD] at h;cases h;exact#[_,.bool b]
 .intro i u p r h;obtain⟨t,rfl⟩:=r;rw[pdD] at h;cases h;exact#[_,.int i t]
 .intro x u p r h;obtain⟨t,rfl⟩:=r;rw[pdD] at h;cases h;exact#[_,.str x t]
 .intro n u p r h;rw[pdD] at h;cases h;all_goals (intros;contradiction)
 .intro a vs ds ha _ i u p r h;cases r;rw[pdD] at h;obtain⟨ps,hp,rfl⟩:=oMd h;obtain⟨its,rv,⟨o,e1,e2,n,e3⟩,_⟩:=I.tuple (.inl (.inl (gh _ _ ha)));obtain⟨as,q⟩:=i _ _ rv hp;exact#[_,.tuple e1 e2 e3 (by simpa using q)]
 .intro a vs ds ha _ i u p r h;cases r;rw[pdD] at h;obtain⟨ps,hp,rfl⟩:=oMd h;obtain⟨its,rv,⟨o,n,e1,e2,_,e3⟩,_⟩:=I.list (.inl (.inl (gh _ _ ha)));obtain⟨as,q⟩:=i _ _ rv hp;exact#[_,.list e1 e2 e3 (by simpa using q)]
 .intro a ns hs u p r h;cases r;rw[pdD] at h;cases h;obtain⟨its,rv,⟨o,n,e1,e2,_,e3⟩,_⟩:=I.list (gh.seq hs);obtain⟨as,q⟩:=Iw rv;exact#[_,.list e1 e2 e3 (by simpa using q)]
 iterate 3
  .intros
   rename_i h
   rw[pdD] at h;cases h;all_goals (intros;contradiction)
 .intro us ps r h;cases r;rw[ff] at h;cases h;exact#[_,.nil]
 .intro v d vs ds _ _ i1 i2 us ps r h;cases r with
  |cons q1 q2=>
   rw[ff] at h;obtain⟨p,hp,h⟩:=oBd h;obtain⟨ps,hps,rfl⟩:=oMd h;obtain⟨as,a1⟩:=i1 _ _ q1 hp;obtain⟨bs,a2⟩:=i2 _ _ q2 hps;exact#[_,.cons a1 a2]
theorem Rep.reads (I:Inv X XL L H s) (gh:a9 G H) {v:V} {d:D} {u:au} {p:uF} (r:Rep O X.K G v d) (q:bz v u) (h:pdD d=U p):∃as,Reads s.heap u p as:=by
 obtain⟨as,a⟩:=Reps.reads I gh (.cons r .nil) (.cons q .nil) (ps:=[p]) (by rw[ff,h,ff];rfl);cases a with|cons a _=>exact#[_,a]
section
variable {a c:Expr}
noncomputable def eqX (x y:D):ak aR:=(pdD x).bind λp=>(pdD y).bind λq=>if eE p=ah/\eE q=ah then U (eU p q) else B
def xc (x y:D):ak D:=(eqX x y).map D.bl
def p7 (x y:D):ak D:=(eqX x y).map λb=>D.bl (!b)
def rX (O:Cn) (K:aJ) (neg:aR):R2:=λx y H Q=>∃G d e b,a9 G H/\Rep O K G x d/\Rep O K G y e/\eqX d e=U b/\Q (.bl (if neg then !b else b)) H
def Ks {x y:D} {b:aR} (h:eqX x y=U b):∃p q,pdD x=U p/\pdD y=U q/\eE p=ah/\eE q=ah/\b=eU p q:=by
 obtain⟨p,hp,h⟩:=oBd h;obtain⟨q,hq,h⟩:=oBd h;split at h
 .rename_i hz;cases h;exact#[p,q,hp,hq,hz.1,hz.2,()]
 .cases h
def Qx (hu:X.A.units+64<c5):OpR X (dP .Eq) (rX O X.K ao):=by intro XL s L H x y v u Q I rx ry h;obtain⟨G,d,e,b,gh,r1,r2,hb,q⟩:=h;obtain⟨p,q',hp,hq,s1,s2,rfl⟩:=Ks hb;obtain⟨as,a1⟩:=r1.reads I gh rx hp;obtain⟨bs,a2⟩:=r2.reads I gh ry hq;exact eq_dataH a1 a2 s1 s2 hu #[.bl _,H,I,(),q]
def UW (hu:X.A.units+64<c5):OpR X (dP .NotEq) (rX O X.K ah):=by intro XL s L H x y v u Q I rx ry h;obtain⟨G,d,e,b,gh,r1,r2,hb,q⟩:=h;obtain⟨p,q',hp,hq,s1,s2,rfl⟩:=Ks hb;obtain⟨as,a1⟩:=r1.reads I gh rx hp;obtain⟨bs,a2⟩:=r2.reads I gh ry hq;exact ne_dataH a1 a2 s1 s2 hu #[.bl _,H,I,(),q]
def Rm (hu:X.A.units+64<c5):CmpD O X .Eq xc:=#[_,Qx hu,λ{G H v u x y z} gh r1 r2 h Q k=>by obtain⟨b,hb,rfl⟩:=oMd h;exact#[G,x,y,b,gh,r1,r2,hb,k _ G H (.refl gh) (.bl _)]]
def Qs (hu:X.A.units+64<c5):CmpD O X .NotEq p7:=#[_,UW hu,λ{G H v u x y z} gh r1 r2 h Q k=>by obtain⟨b,hb,rfl⟩:=oMd h;exact#[G,x,y,b,gh,r1,r2,hb,k _ G H (.refl gh) (.bl _)]]
noncomputable def inX (x y:D):ak aR:=(pdD x).bind λp=>(pdD y).bind λq=>match q with
 |.list l=>if eE p=ah/\gz l=ah then U (l.any λz=>eU z p) else B
 |_=>B
def tP (x y:D):ak D:=(inX x y).map D.bl
def yA (x y:D):ak D:=(inX x y).map λb=>D.bl (!b)
def Kt (O:Cn) (K:aJ) (neg:aR):R2:=λx y H Q=>∃G d e b,a9 G H/\Rep O K G x d/\Rep O K G y e/\inX d e=U b/\Q (.bl (if neg then !b else b)) H
def IC {x y:D} {b:aR} (h:inX x y=U b):∃p l,pdD x=U p/\pdD y=U (.list l)/\eE p=ah/\gz l=ah/\b=l.any λz=>eU z p:=by
 obtain⟨p,hp,h⟩:=oBd h;obtain⟨q,hq,h⟩:=oBd h;split at h
 .split at h
  .rename_i hz;cases h;exact#[p,_,hp,hq,hz.1,hz.2,()]
  .cases h
 .cases h
def BC {p:uF} (h:eE p=ah):p.canLay0=ah/\p.depth<=64:=by unfold eE at h;rw[eM] at h;exact#[h.1,km h.2]
def Ob (hu:X.A.units+66<c5):OpR X (dP .In) (Kt O X.K ao):=by intro XL s L H x y v u Q I rx ry h;obtain⟨G,d,e,b,gh,r1,r2,hb,q⟩:=h;obtain⟨p,l,hp,hq,s1,s2,rfl⟩:=IC hb;obtain⟨as,a1⟩:=r1.reads I gh rx hp;obtain⟨bs,a2⟩:=r2.reads I gh ry hq;obtain⟨c1,c2⟩:=BC s1;have:=C2 (lv l) p.depth;exact SeqAt.in_list_reads a2 a1 s2 c1 .(b) #[.bl _,H,I,(),q]
def Xb (hu:X.A.units+66<c5):OpR X (dP .NotIn) (Kt O X.K ah):=by intro XL s L H x y v u Q I rx ry h;obtain⟨G,d,e,b,gh,r1,r2,hb,q⟩:=h;obtain⟨p,l,hp,hq,s1,s2,rfl⟩:=IC hb;obtain⟨as,a1⟩:=r1.reads I gh rx hp;obtain⟨bs,a2⟩:=r2.reads I gh ry hq;obtain⟨c1,c2⟩:=BC s1;have:=C2 (lv l) p.depth;exact SeqAt.notIn_list_reads a2 a1 s2 c1 .(b) #[.bl _,H,I,(),q]
def LD (hu:X.A.units+66<c5):CmpD O X .In tP:=#[_,Ob hu,λ{G H v u x y z} gh r1 r2 h Q k=>by obtain⟨b,hb,rfl⟩:=oMd h;exact#[G,x,y,b,gh,r1,r2,hb,k _ G H (.refl gh) (.bl _)]]
def Wl (hu:X.A.units+66<c5):CmpD O X .NotIn yA:=#[_,Xb hu,λ{G H v u x y z} gh r1 r2 h Q k=>by obtain⟨b,hb,rfl⟩:=oMd h;exact#[G,x,y,b,gh,r1,r2,hb,k _ G H (.refl gh) (.bl _)]]
def iq {k:J} (hr:Room k X.A):X.A.units+66<c5:=by have:=hr.un;lia
def nh {k:J} (hr:Room k X.A):X.A.units+64<c5:=by have:=hr.un;lia
noncomputable def dX (d:D):aR:=match d with
 |.non=>ah
 |_=>ao
def isD (x y:D):ak D:=match y with
 |.non=>U (.bl (dX x))
 |_=>B
def pR (x y:D):ak D:=match y with
 |.non=>U (.bl (!dX x))
 |_=>B
def JG (r:Rep O K G v d):decide (v=.non)=dX d:=by cases r<;>simp[dX]
def vD:CmpD O X .Is isD:=#[_,WR,λ{G H v u x y z} gh r1 r2 h Q k=>by unfold isD at h;split at h<;>cases h;exact#[r2.non_inv,by rw[JG r1];exact k _ G H (.refl gh) (.bl _)]]
def we:CmpD O X .IsNot pR:=#[_,VB,λ{G H v u x y z} gh r1 r2 h Q k=>by unfold pR at h;split at h<;>cases h;exact#[r2.non_inv,by rw[JG r1];exact k _ G H (.refl gh) (.bl _)]]
end
variable {fx:FE}
section
variable {a c i:Expr} {p:bV}
noncomputable def iS (i:J) (f:FE):FS:=λY=>match Y[i]? with
 |some (U (.own ds))=>(f Y).bind λd=>match d with
  |.lst l=>if ds.length+l.length<=aH then U (.nx,Y.set i (U (.own (ds++l)))) else B
  |_=>B
 |_=>B
def tz (i:J) (h:DE O X e f) (hN:X.N[i]?=U x:=by rfl) (hv:Vis X.env.scope x:=by ac_nf) (hd:(x==("__debug__":af))=ao:=by decide)
  (hcd:(x==("__classdict__":af))=ao:=by decide)
  (hbase:i8 (.Name x vp) "extend" X.env (eval (.Name x vp) X.env)=eval (.Name x vp) X.env:=by rfl)
  (hfew:((bX cpos (aK [e] X.env)).all (λx=>!x.1) && (kf cpos (kh [] X.env)).all (λx=>x.1.isSome)
   && decide ([e].length+([]:Z i9).length+(if ([]:Z i9).isEmpty then 0 else 1)<30))=ah:=by rfl)
  (hline:(apos.endLine==cpos.line)=ah:=by rfl) (hs:aK [e] X.env=(ao,eval e X.env)::aK [] X.env:=by rfl) (hplain:(bX cpos (aK [] X.env)).any (·.1)=ao:=by rfl)
  (hsw:eD (.Call (.Attribute (.Name x vp) "extend" apos) [e] [] cpos) B pos.line X.env=pure ao:=by rfl) :
  DS O X (.Expr (.Call (.Attribute (.Name x vp) "extend" apos) [e] [] cpos) pos) (iS i f):=⟨(wd (sW MQ YM PySem.F.type_list_extend P6 (dM hN hv hd hcd) (dB h.1 gc hs) hbase hfew hline hs hplain) hsw).imp λE L H=>by
  rintro⟨Tm,Ty,G,Y,fl,KK,A,h,k⟩;unfold iS at h;split at h
  .rename_i ds hi;obtain⟨d,hd,h⟩:=oBd h;split at h
   .rename_i l;split at h
    .rename_i hz;cases h;obtain⟨a,vs,h1,h2,h3,h4,h5⟩:=A.env.own i ds hi;refine#[.ref a,h1,.inl #[(),vs,.inl (.inl h4)],Tm,Ty,G,Y,_,A,hd,λv G1 H1 s1 r1=>?_];have A1:=A.step s1;obtain⟨b,us,rfl,hb,rb⟩:=r1.lst_inv;refine#[a,b,vs,us,(),(),s1.hh _ _ h4,s1.gh _ _ hb,by rw[h5.length,rb.length];exact hz,?_];exact k L G1 _ s1.gg (A1.chOwn hi h1 ((h5.mono s1.gg).append rb))
    .cases h
   .cases h
  .cases h⟩
noncomputable def Be:Z D->ak D
 |[.lst l]=>U (.tup l)
 |[.tup l]=>U (.tup l)
 |_=>B
def Oy:TyD O X "tuple" Be:=#[_,OY,λ{G H vs ds z} gh r h Q k=>by
 unfold Be at h;split at h<;>cases h
 .obtain⟨v,rfl,r1⟩:=r.one;obtain⟨a,us,rfl,ha,ra⟩:=r1.lst_inv;exact#[a,us,(),.inl #[.inl (.inl (gh _ _ ha)),wv gh ra k]]
 .obtain⟨v,rfl,r1⟩:=r.one;obtain⟨a,us,rfl,ha,ra⟩:=r1.tup_inv;exact#[a,us,(),.inr #[.inl (.inl (gh _ _ ha)),k _ G H (.refl gh) (.tup ha ra)]]]
noncomputable def Aa:Z D->ak D
 |[.lst l]=>U (.lst l)
 |[.tup l]=>U (.lst l)
 |[.scr l]=>U (.lst (l.map D.int))
 |_=>B
def WS:TyD O X "list" Aa:=#[_,WB,λ{G H vs ds z} gh r h Q k=>by
 unfold Aa at h;split at h<;>cases h
 .obtain⟨v,rfl,r1⟩:=r.one;obtain⟨a,us,rfl,ha,ra⟩:=r1.lst_inv;exact#[a,us,(),.inl (.inl (.inl (gh _ _ ha))),ip gh ra k]
 .obtain⟨v,rfl,r1⟩:=r.one;obtain⟨a,us,rfl,ha,ra⟩:=r1.tup_inv;exact#[a,us,(),.inr (.inl (.inl (gh _ _ ha))),ip gh ra k]
 .obtain⟨v,rfl,r1⟩:=r.one;obtain⟨a,rfl,ha⟩:=r1.scr_inv;exact#[a,_,(),.inl (gh.seq ha),ip gh (Reps.ints _) k]]
noncomputable def lH [eS κ] (kvs:Z (κ×α)) (k:κ):ak α:=(kvs.find? λkv=>decide (kv.1=k)).map (·.2)
noncomputable def gS [eS κ] (kvs:Z (κ×α)) (k:κ) (v:α):Z (κ×α):=
 if (kvs.any λkv=>decide (kv.1=k))=ah then kvs.map (λkv=>if kv.1=k then (kv.1,v) else kv) else kvs++[(k,v)]
theorem zA {κ:Type} [eS κ] {K:aJ} {G:Hp} {k:κ} {us:Z (κ×V)}:∀{kvs:Z (κ×D)},us.map (·.1)=kvs.map (·.1)->Reps O K G (us.map (·.2)) (kvs.map (·.2))->
  (lH kvs k=B/\gI us k=B)\/∃d v,lH kvs k=U d/\gI us k=U v/\Rep O K G v d:=by
 induction us with
 |nil=>intro kvs e _;cases kvs with|nil=>exact .inl #[rfl,rfl]|cons=>cases e
 |cons q us zA=>
  intro kvs e r;cases kvs with|nil=>cases e|cons p kvs=>
  rcases q with⟨k1,v⟩;rcases p with⟨k2,d⟩
  have e1:k1=k2:=(ij e).1;have e2:us.map (·.1)=kvs.map (·.1):=(ij e).2;subst e1;have r:Reps O K G (v::us.map (·.2)) (d::kvs.map (·.2)):=r;cases r with
  |cons r1 r2=>
   by_cases h:k1=k
   .exact .inr #[d,v,by simp[lH,lr,h],vX h,r1]
   .have:=zA e2 r2;rw[uT h];simpa[lH,lr,h] using this
theorem JH {κ:Type} [eS κ] {k:κ} {α β:Type}:∀{us:Z (κ×α)} {kvs:Z (κ×β)},us.map (·.1)=kvs.map (·.1)->(us.any λkv=>decide (kv.1=k))=(kvs.any λkv=>decide (kv.1=k))
 |[],[],_=>rfl
 |[],_::_,e=>by cases e
 |_::_,[],e=>by cases e
 |(k1,v)::us,(k2,d)::kvs,e=>by have e1:k1=k2:=(ij e).1;subst e1;rw[rL,rL,JH (ij e).2]
theorem Hu {κ:Type} [eS κ] {K:aJ} {G:Hp} {k:κ} {v:V} {d:D} (rv:Rep O K G v d) {us:Z (κ×V)}:∀{kvs:Z (κ×D)},us.map (·.1)=kvs.map (·.1)->Reps O K G (us.map (·.2)) (kvs.map (·.2))->
  (us.map λkv=>if kv.1=k then (kv.1,v) else kv).map (·.1)=(kvs.map λkv=>if kv.1=k then (kv.1,d) else kv).map (·.1)/\Reps O K G ((us.map λkv=>if kv.1=k then (kv.1,v) else kv).map (·.2)) ((kvs.map λkv=>if kv.1=k then (kv.1,d) else kv).map (·.2)):=by
 induction us with
 |nil=>intro kvs e _;cases kvs with|nil=>exact#[rfl,.nil]|cons=>cases e
 |cons q us Hu=>
  intro kvs e r;cases kvs with|nil=>cases e|cons p kvs=>
  rcases q with⟨k1,u⟩;rcases p with⟨k2,x⟩
  have e1:k1=k2:=(ij e).1;have e2:us.map (·.1)=kvs.map (·.1):=(ij e).2;subst e1;have r:Reps O K G (u::us.map (·.2)) (x::kvs.map (·.2)):=r;cases r with
  |cons r1 r2=>
   obtain⟨h1,h2⟩:=Hu e2 r2;by_cases h:k1=k
   .subst h;simp only[qp,dc];exact#[by rw[h1],.cons rv h2]
   .simp only[qp,xa h];exact#[by rw[h1],.cons r1 h2]
def Em [eS κ] {k:κ} (rv:Rep O K G v d) {us:Z (κ×V)} {kvs:Z (κ×D)} (e:us.map (·.1)=kvs.map (·.1)) (r:Reps O K G (us.map (·.2)) (kvs.map (·.2))) :
  (dy us k v).map (·.1)=(gS kvs k d).map (·.1)/\Reps O K G ((dy us k v).map (·.2)) ((gS kvs k d).map (·.2)):=by
 unfold dy gS;rw[JH e];split
 .exact Hu rv e r
 .simp only[gA,qp,qR];exact#[by rw[e],r.append (.cons rv .nil)]
def jQ:D->ak Key
 |.int i=>U (.inl i)
 |.str x=>U (.inr x)
 |_=>B
def im:Z D->ak (Z Key)
 |[]=>U []
 |d::r=>(jQ d).bind λk=>(im r).map (k::·)
def xu {k:Key} (r:Rep O K G v d) (h:jQ d=U k):v=kV k:=by
 unfold jQ at h;split at h<;>cases h
 .exact r.int_inv
 .exact r.str_inv
theorem oP {K:aJ} {G:Hp} {ds:Z D}:∀{vs:Z V} {ks:Z Key},Reps O K G vs ds->im ds=U ks->vs=ks.map kV:=by
 induction ds with
 |nil=>intro _ _ r h;cases r;cases h;rfl
 |cons d ds oP=>intro _ _ r h;cases r with|cons h1 h2=>obtain⟨k,hk,h⟩:=oBd h;obtain⟨zs,hz,rfl⟩:=oMd h;rw[xu h1 hk,oP h2 hz];rfl
def pT (d k:D):ak (ak D):=match d,k with
 |.dk l,k=>(jQ k).map (lH l)
 |.dt l,.tup t=>(im t).map (lH l)
 |_,_=>B
def KN {y:V} {k:D} {r:ak D} (gh:a9 G H) (rv:Rep O K G v d) (ry:Rep O K G y k) (h:pT d k=U r) :
  ∃a o,v=.ref a/\iI H a y o/\((r=B/\o=B)\/∃w z,r=U z/\o=U w/\Rep O K G w z):=by
 unfold pT at h;split at h
 .obtain⟨kk,hk,rfl⟩:=oMd h;cases rv with
  |dk h1 h2 h3=>
   have ey:=xu ry hk;subst ey;refine#[_,_,(),iI.k (gh _ _ h1),?_];rcases zA h2 h3 with⟨q1,q2⟩|⟨z,w,q1,q2,q3⟩
   .exact .inl #[q1,q2]
   .exact .inr #[w,z,q1,q2,q3]
 .obtain⟨kk,hk,rfl⟩:=oMd h;cases rv with
  |dt h1 h2 h3=>
   obtain⟨b,ys,rfl,hb,rb⟩:=ry.tup_inv;have ey:=oP rb hk;subst ey;refine#[_,_,(),iI.t (gh _ _ h1) (gh _ _ hb),?_];rcases zA h2 h3 with⟨q1,q2⟩|⟨z,w,q1,q2,q3⟩
   .exact .inl #[q1,q2]
   .exact .inr #[w,z,q1,q2,q3]
 .cases h
def BI (d k:D):ak D:=(pT d k).bind id
def Yb (hu:X.A.units+66<c5) (ho:DE O X o fo) (hi:DE O X i fi') (hs:Ao i:=by intro _ _;rfl):DE O X (.Subscript o i pos) (b2 BI fo fi'):=⟨(PH .(b) ho.1 hi.1 hs).imp λL H Q=>by
 rintro⟨Tm,Ty,G,Y,d,A,h,k⟩;obtain⟨x,hx,h⟩:=oBd h;obtain⟨y,hy,h⟩:=oBd h;refine#[Tm,Ty,G,Y,x,A,hx,λv G1 H1 s1 r1=>#[Tm,Ty,G1,Y,y,A.step s1,hy,λu G2 H2 s2 r2=>?_]];obtain⟨r,hr,h⟩:=oBd h;obtain⟨a,ov,rfl,hg,hc⟩:=KN s2.gh (r1.mono s2.gg) r2 hr;rcases hc with⟨rfl,_⟩|⟨w,z,rfl,rfl,rw'⟩
 .cases h
 .cases h;exact#[a,w,(),hg,k w G2 H2 (s1.trans s2) rw']⟩
noncomputable def b3 (g:D->D->D->ak D) (fa fb fc:FE):FE:=λY=>(fa Y).bind λx=>(fb Y).bind λy=>(fc Y).bind λz=>g x y z
def wE (k d:D):ak D:=(pT d k).map λr=>.bl (!r.isSome)
def OS (O:Cn) (K:aJ) (neg:aR):R2:=λy x H Q=>∃G k d r,a9 G H/\Rep O K G y k/\Rep O K G x d/\pT d k=U r/\Q (.bl (if neg then !r.isSome else r.isSome)) H
def T7 (hu:X.A.units+66<c5):OpR X (dP .NotIn) (OS O X.K ah):=by
 intro XL s L H x y v u Q I rx ry h;obtain⟨G,kd,d,r,gh,r1,r2,hr,q⟩:=h;obtain⟨a,ov,rfl,hg,hc⟩:=KN gh r2 r1 hr;cases ry;have e:ov.isSome=r.isSome:=by rcases hc with⟨rfl,rfl⟩|⟨w,z,rfl,rfl,_⟩<;>rfl
 exact UH .(b) I hg rx λs3 I3=>#[.bl _,H,I3,(),by rw[e];exact q]
def Va (hu:X.A.units+66<c5):CmpD O X .NotIn wE:=#[_,T7 hu,λ{G H v u x y z} gh r1 r2 h Q k=>by obtain⟨r,hr,rfl⟩:=oMd h;exact#[G,x,y,r,gh,r1,r2,hr,k _ G H (.refl gh) (.bl _)]]
noncomputable def sNo:FS:=λ_=>B
def Xq {st:Stmt} :DS O X st sNo:=⟨λXL s L H E I q=>by obtain⟨Tm,Ty,G,Y,fl,KK,A,h,k⟩:=q;cases h⟩
end
structure CF (O:Cn) (K:aJ) (c:af) (attrs:Z af):Prop where
 ex:∃C,O.cls c=U C/\Cls K C/\∀f∈attrs,ma K C f
variable {cl:af} {attrs:Z af} {ap:bV}
section
variable {a c i:Expr} {fv:FE} {p:bV} {fl n m:af}
theorem jJ {K:aJ} {G:Hp} {k:af} {us:Z (af×V)}:∀{fs:Z (af×D)},us.map (·.1)=fs.map (·.1)->Reps O K G (us.map (·.2)) (fs.map (·.2))->
  (fs.lookup k=B/\us.lookup k=B)\/∃d v,fs.lookup k=U d/\us.lookup k=U v/\Rep O K G v d:=by
 induction us with
 |nil=>intro fs e _;cases fs with|nil=>exact .inl #[rfl,rfl]|cons=>cases e
 |cons q us jJ=>
  intro fs e r;cases fs with|nil=>cases e|cons p fs=>
  rcases q with⟨k1,v⟩;rcases p with⟨k2,d⟩
  have e1:k1=k2:=(ij e).1;have e2:us.map (·.1)=fs.map (·.1):=(ij e).2;subst e1;have r:Reps O K G (v::us.map (·.2)) (d::fs.map (·.2)):=r;cases r with
  |cons r1 r2=>
   by_cases h:k=k1
   .subst h;exact .inr #[d,v,by simp[dY],by simp[dY],r1]
   .have hb:(k==k1)=ao:=by simpa using h
    have:=jJ e2 r2;simpa[dY,hb] using this
theorem BP {f:af} {v:V}:∀{fs:Z (af×V)},fs.lookup f=B->eF f v fs=fs++[(f,v)]
 |[],_=>rfl
 |(g,x)::r,h=>by
  by_cases e:f=g
  .subst e;simp[dY] at h
  .have hb:(f==g)=ao:=by simpa using e
   rw[eF,xa (λz=>e z.symm),BP (by simpa[dY,hb] using h)];rfl
noncomputable def Fc (c f:af):D->ak D
 |.ins c' fs=>if c'=c then fs.lookup f else B
 |_=>B
def CB (c f:af) (fo:FE):FE:=λY=>(fo Y).bind (Fc c f)
def so (hc:CF O X.K cl attrs) (hf:fl∈attrs) (ho:DE O X o fo) (hb:i8 o fl X.env (eval o X.env)=eval o X.env:=by rfl):DE O X (.Attribute o fl pos) (CB cl fl fo):=⟨(wn ho.1 hb).imp λL H Q=>by
 rintro⟨Tm,Ty,G,Y,d,A,h,k⟩;obtain⟨x,hx,hq⟩:=oBd h;clear h;refine#[Tm,Ty,G,Y,x,A,hx,λv G1 H1 s1 r1=>?_];unfold Fc at hq;split at hq
 .split at hq
  .rename_i ec;subst ec;obtain⟨C,q1,q2,q3⟩:=hc.ex;cases r1 with
   |ins h1 h2 h3 h4=>
    rw[q1] at h2;cases h2;rcases jJ h3 h4 with⟨z1,_⟩|⟨d',v',z1,z2,z3⟩
    .rw[z1] at hq;cases hq
    .rw[z1] at hq;cases hq;exact#[_,C,_,_,v',(),s1.gh _ _ h1,q2,q3 fl hf,z2,k v' G1 H1 s1 z3]
  .cases hq
 .cases hq⟩
noncomputable def LQ (f:af):Slot->ak D
 |.obj _ fs=>fs.lookup f
 |.objd _ fs n _=>if f=n then B else fs.lookup f
 |_=>B
noncomputable def SZ:Slot->ak af
 |.obj c _=>U c
 |.objd c _ _ _=>U c
 |_=>B
def oX (c f:af) (i:J):FE:=λY=>match Y[i]? with
 |some (U s)=>if SZ s=U c then LQ f s else B
 |_=>B
def PP {vs:Z (af×V)} {f:af} {w:V} (h:vs.lookup f=U v):(vs++[(n,w)]).lookup f=U v:=by
 induction vs with
 |nil=>cases h
 |cons p r ih=>
  obtain⟨g,x⟩:=p;by_cases e:f=g
  .subst e;simpa[dY] using h
  .have hb:(f==g)=ao:=by simpa using e
   simp only[qq,dY,hb] at h ⊢;exact ih h
def wf (i:J) (hc:CF O X.K cl attrs) (hf:fl∈attrs) (hN:X.N[i]?=U x:=by rfl) (hv:Vis X.env.scope x:=by ac_nf) (hd:(x==("__debug__":af))=ao:=by decide)
  (hcd:(x==("__classdict__":af))=ao:=by decide) (hb:i8 (.Name x vp) fl X.env (eval (.Name x vp) X.env)=eval (.Name x vp) X.env:=by rfl):DE O X (.Attribute (.Name x vp) fl pos) (oX cl fl i):=⟨(wn (dM hN hv hd hcd) hb).imp λL H Q=>by
 rintro⟨Tm,Ty,G,Y,d,A,h,k⟩;unfold oX at h;split at h
 .rename_i s hi;split at h
  .rename_i hcl;obtain⟨C,q1,q2,q3⟩:=hc.ex;obtain⟨v,fp,h1,h2⟩:=A.get hi;cases h2 with
   |sh _=>cases h
   |own _ _ _ _=>cases h
   |pin _=>cases h
   |obj g1 g2 g3 g4 g5 g6 g7=>
    cases hcl;rw[q1] at g1;cases g1;have h:dY fl _=U d:=h;rcases jJ g5 g6 with⟨z1,_⟩|⟨d',v',z1,z2,z3⟩
    .rw[z1] at h;cases h
    .rw[z1] at h;cases h;exact#[_,h1,_,C,_,_,v',(),g4,q2,q3 fl hf,z2,k v' G H (.refl A.gh) z3]
   |objd g1 g2 g3 g4 g5 g6 _ _ _ _ _ g7=>
    cases hcl;rw[q1] at g1;cases g1;unfold LQ at h;simp only at h;split at h
    .cases h
    .rcases jJ g5 g6 with⟨z1,_⟩|⟨d',v',z1,z2,z3⟩
     .rw[z1] at h;cases h
     .rw[z1] at h;cases h;exact#[_,h1,_,C,_,_,v',(),g4,q2,q3 fl hf,PP z2,k v' G H (.refl A.gh) z3]
  .cases h
 .cases h⟩
noncomputable def BF (c f:af) (i:J) (fv:FE):FS:=λY=>(fv Y).bind λd=>match Y[i]? with
 |some (U (.obj c' fs))=>if c'=c/\fs.lookup f=B/\fs.length<100 then U (.nx,Y.set i (U (.obj c (fs++[(f,d)])))) else B
 |_=>B
def gO (i:J) (hc:CF O X.K cl attrs) (hf:fl∈attrs) (hv':DE O X value fv) (hN:X.N[i]?=U x:=by rfl) (hv:Vis X.env.scope x:=by ac_nf) (hd:(x==("__debug__":af))=ao:=by decide)
  (hcd:(x==("__classdict__":af))=ao:=by decide) (hs:eD value (U (.Attribute (.Name x vp) fl pos')) pos.line X.env=pure ao:=by rfl):DS O X (.Assign [.Attribute (.Name x vp) fl pos'] value pos) (BF cl fl i fv):=⟨(BS (dM hN hv hd hcd) hv'.1 hs).imp λE L H=>by
 rintro⟨Tm,Ty,G,Y,flw,KK,A,h,k⟩;obtain⟨d,hd,h⟩:=oBd h;split at h
 .rename_i c' fs hi;split at h
  .rename_i hz;obtain⟨rfl,hz2,hz3⟩:=hz;cases h;obtain⟨C,q1,q2,q3⟩:=hc.ex;refine#[Tm,Ty,G,Y,d,A,hd,λv G1 H1 s1 r1=>?_];have A1:=A.step s1;obtain⟨w,fp,h1,h2⟩:=A1.get hi;cases h2 with
   |obj g1 g2 g3 g4 g5 g6 g7=>
    rename_i a C' dx vs;have g1':=g1;rw[q1] at g1;cases g1;have hl:vs.lookup fl=B:=by
     rcases jJ g5 g6 with⟨_,z2⟩|⟨d',v',z1,_,_⟩
     .exact z2
     .rw[z1] at hz2;cases hz2
    have hlen:vs.length=fs.length:=by simpa using cQ fX g5
    refine#[_,h1,a,C,dx,vs,(),g4,q2,q3 fl hf,by lia,?_];rw[BP hl];refine k L G1 _ s1.gg (A1.ch hi h1 (.obj g1' g2 g3 g4 g5 g6 g7) (λb o e hb=>?_) (.obj g1' g2 g3 bK (by simp[g5]) (by simpa using g6.append (.cons r1 .nil)) g7) (λb hb=>.inl hb) (.refl _) (λb o e=>?_) (λ_ _ _ _=>rfl))
    .rw[aW (λz=>hb (cm.mpr z))];exact e
    .rw[aW (ce e g3)];exact A1.gh b o e
  .cases h
 .cases h⟩
noncomputable def sB (c f:af) (i:J):FS:=λY=>match Y[i]? with
 |some (U (.obj c' fs))=>if c'=c/\fs.lookup f=B/\fs.length<100 then U (.nx,Y.set i (U (.objd c fs f []))) else B
 |_=>B
def Sg (i:J) (hc:CF O X.K cl attrs) (hf:fl∈attrs) {dp:bV} (hN:X.N[i]?=U x:=by rfl) (hv:Vis X.env.scope x:=by ac_nf) (hd:(x==("__debug__":af))=ao:=by decide)
  (hcd:(x==("__classdict__":af))=ao:=by decide) (hs:eD (.Dict [] [] dp) (U (.Attribute (.Name x vp) fl pos')) pos.line X.env=pure ao:=by rfl):DS O X (.Assign [.Attribute (.Name x vp) fl pos'] (.Dict [] [] dp) pos) (sB cl fl i):=⟨(BS (dM hN hv hd hcd) J8 hs).imp λE L H=>by
 rintro⟨Tm,Ty,G,Y,flw,KK,A,h,k⟩ p hp;unfold sB at h;split at h
 .rename_i c' fs hi;split at h
  .rename_i hz;obtain⟨rfl,hz2,hz3⟩:=hz;cases h;obtain⟨C,q1,q2,q3⟩:=hc.ex;obtain⟨w,fp,h1,h2⟩:=A.get hi;cases h2 with
   |obj g1 g2 g3 g4 g5 g6 g7=>
    rename_i a C' dx vs;have g1':=g1;rw[q1] at g1;cases g1;have hl:vs.lookup fl=B:=by
     rcases jJ g5 g6 with⟨_,z2⟩|⟨d',v',z1,_,_⟩
     .exact z2
     .rw[z1] at hz2;cases hz2
    have hlen:vs.length=fs.length:=by simpa using cQ fX g5
    have npa:a≠p:=ce g4 hp;refine#[_,h1,a,C,dx,vs,(),by rw[aW npa];exact g4,q2,q3 fl hf,by lia,?_];rw[BP hl];have hp0:Ty p=B:=A.st.hh.free hp;have hpg:G p=B:=A.gh.free hp;refine k L G _ (.refl _) (A.ch hi h1 (.obj g1' g2 g3 g4 g5 g6 g7) (λb o e hb=>?_) (.objd g1' g2 g3 bK g5 g6 hp0 hpg (by rw[aW npa.symm,bK]) () .nil g7) (λb hb=>?_) (.refl _) (λb o e=>?_) (λ_ _ _ _=>rfl))
    .rw[aW (λz=>hb (cm.mpr z)),aW (ce e hp)];exact e
    .rcases eC.mp hb with rfl|hb
     .exact .inl (cm.mpr ())
     .rw[cm.mp hb];exact .inr hp
    .rw[aW (ce e g3),aW (ce e hpg)];exact A.gh b o e
  .cases h
 .cases h⟩
def l9 (c f:af) (i:J) (fk fv:FE):FS:=λY=>(fv Y).bind λd=>(fk Y).bind λkd=>(jQ kd).bind λk=>match Y[i]? with
 |some (U (.objd c' fs n kvs))=>if c'=c/\n=f/\fs.lookup f=B/\kvs.length<100000 then U (.nx,Y.set i (U (.objd c fs n (gS kvs k d)))) else B
 |_=>B
def X3 {vs:Z (af×V)} {f:af} {w:V} (h:vs.lookup f=B):(vs++[(f,w)]).lookup f=U w:=by
 induction vs with
 |nil=>simp[dY]
 |cons p r ih=>
  obtain⟨g,x⟩:=p;by_cases e:f=g
  .subst e;simp[dY] at h
  .have hb:(f==g)=ao:=by simpa using e
   simp only[qq,dY,hb] at h ⊢;exact ih h
def Sn (i:J) (hu:X.A.units+66<c5) (hc:CF O X.K cl attrs) (hf:fl∈attrs) (hk:DE O X ke fk) (hv':DE O X value fv) (hN:X.N[i]?=U x:=by rfl) (hv:Vis X.env.scope x:=by ac_nf) (hd:(x==("__debug__":af))=ao:=by decide)
  (hcd:(x==("__classdict__":af))=ao:=by decide) (hb:i8 (.Name x vp) fl X.env (eval (.Name x vp) X.env)=eval (.Name x vp) X.env:=by rfl) (hs:eD value (U (.Subscript (.Attribute (.Name x vp) fl ap) ke pos')) pos.line X.env=pure ao:=by rfl) :
  DS O X (.Assign [.Subscript (.Attribute (.Name x vp) fl ap) ke pos'] value pos) (l9 cl fl i fk fv):=⟨(OE .(b) (wn (dM hN hv hd hcd) hb) hk.1 hv'.1 hs).imp λE L H=>by
 rintro⟨Tm,Ty,G,Y,flw,KK,A,h,k⟩;obtain⟨d,hd,ha⟩:=oBd h;clear h;obtain⟨kd,hkd,hb1⟩:=oBd ha;clear ha;obtain⟨kk,hkk,hq⟩:=oBd hb1;clear hb1;split at hq
 .rename_i c' fs n kvs hi;split at hq
  .rename_i hz;obtain⟨rfl,rfl,hz2,hz3⟩:=hz;cases hq;obtain⟨C,q1,q2,q3⟩:=hc.ex;refine#[Tm,Ty,G,Y,d,A,hd,λv G1 H1 s1 r1=>?_];have A1:=A.step s1;obtain⟨w,fp,h1,h2⟩:=A1.get hi;cases h2 with
   |objd g1 g2 g3 g4 g5 g6 y1 y2 y3 y4 y5 g7=>
    rename_i a C' dx p vs us;have g1':=g1;rw[q1] at g1;cases g1;have hl:vs.lookup n=B:=by
     rcases jJ g5 g6 with⟨_,z2⟩|⟨d',v',z1,_,_⟩
     .exact z2
     .rw[z1] at hz2;cases hz2
    refine#[_,h1,a,C,dx,_,.ref p,(),g4,q2,q3 n hf,X3 hl,Tm,Ty,G1,Y,kd,A1,hkd,λu G2 H2 s2 r2=>?_];have A2:=A1.step s2;have eu:=xu r2 hkk;subst eu;have hp2:H2 p=U (.dK us):=s2.hh _ _ y3;have ha2:H2 a=U (.ins C dx (vs++[(n,.ref p)])):=s2.hh _ _ g4;have ga2:G2 a=B:=(s2.out _ _ g4).trans g3;have gp2:G2 p=B:=(s2.out _ _ y3).trans y2;have npa:a≠p:=zz ha2 hp2 (by intro z;cases z);have hlen:us.length=kvs.length:=by simpa using cQ fX y4
    obtain⟨w1,w2⟩:=Em (r1.mono s2.gg) y4 (y5.mono s2.gg);refine#[p,_,(),sX.k hp2 (by have:=gL;lia),?_];refine k L G2 _ (s1.gg.trans s2.gg) (A2.ch hi h1 (.objd g1' g2 ga2 ha2 g5 (g6.mono s2.gg) y1 gp2 hp2 y4 (y5.mono s2.gg) g7) (λb o e hb=>?_) (.objd g1' g2 ga2 (by rw[aW npa];exact ha2) g5 (g6.mono s2.gg) y1 gp2 bK w1 w2 g7) (λb hb=>.inl hb) (.refl _) (λb o e=>?_) (λ_ _ _ _=>rfl))
    .rw[aW (λz=>hb (by rw[z];exact qg _ qf))];exact e
    .rw[aW (ce e gp2)];exact A2.gh b o e
  .cases hq
 .cases hq⟩
noncomputable def Gd:Slot->ak D
 |.obj c fs=>U (.ins c fs)
 |.objd c fs n kvs=>U (.ins c (fs++[(n,.dk kvs)]))
 |_=>B
def At.done (A:At O K Tm Ty G H Y L) {i:J} {s:Slot} (hi:Y[i]?=U (U s)) (hd:Gd s=U d):∃a G',O.self=U a/\Step Tm Ty G' H/\Rep O K G' (.ref a) d:=by
 obtain⟨v,fp,h1,h2⟩:=A.get hi;cases h2 with
 |sh _=>cases hd
 |own _ _ _ _=>cases hd
 |pin _=>cases hd
 |obj g1 g2 g3 g4 g5 g6 g7=>
  cases hd;rename_i a C dx vs fs;have sm:a9 G (upd G a (.ins C dx vs)):=λb o e=>by rw[aW (ce e g3)];exact e
  refine#[a,upd G a (.ins C dx vs),g7,#[A.st.hh,A.st.gg.trans sm,λb o e=>?_,λb o e=>?_],.ins bK g1 g5 (g6.mono sm)]
  .by_cases hb:b=a
   .subst hb;rw[bK] at e;cases e;exact g4
   .rw[aW hb] at e;exact A.gh b o e
  .rw[aW (ce e g2)];exact A.st.out b o e
 |objd g1 g2 g3 g4 g5 g6 y1 y2 y3 y4 y5 g7=>
  cases hd;rename_i n a C dx p vs fs us kvs;have npa:a≠p:=zz g4 y3 (by intro z;cases z);have sm:a9 G (upd (upd G p (.dK us)) a (.ins C dx (vs++[(n,.ref p)]))):=λb o e=>by rw[aW (ce e g3),aW (ce e y2)];exact e
  refine#[a,_,g7,#[A.st.hh,A.st.gg.trans sm,λb o e=>?_,λb o e=>?_],.ins bK g1 (by simp[g5]) ?_]
  .by_cases hb:b=a
   .subst hb;rw[bK] at e;cases e;exact g4
   .rw[aW hb] at e;by_cases hb':b=p
    .subst hb';rw[bK] at e;cases e;exact y3
    .rw[aW hb'] at e;exact A.gh b o e
  .rw[aW (ce e g2),aW (ce e y1)];exact A.st.out b o e
  .have r2:Rep O K (upd (upd G p (.dK us)) a (.ins C dx (vs++[(n,.ref p)]))) (.ref p) (.dk kvs):=.dk (by rw[aW npa.symm,bK]) y4 (y5.mono sm);simpa using(g6.mono sm).append (.cons r2 .nil)
end
noncomputable def Cn.mk1 (O:Cn) (x:ar):Cn:=#[O.cls,U x]
section
variable {c:af} {x:ar}
def Rep.to1 (x:ar) (r:Rep O K G v d):Rep (O.mk1 x) K G v d:=Rep.re (O:=O) (Γ':=O.mk1 x) () r
def Rep.of1 (r:Rep (O.mk1 x) K G v d):Rep O K G v d:=Rep.re (O:=O.mk1 x) (Γ':=O) () r
def Reps.of1 {v:Z V} {d:Z D} (r:Reps (O.mk1 x) K G v d):Reps O K G v d:=Reps.re (O:=O.mk1 x) (Γ':=O) () r
def CF.re (h:CF O K c attrs) (x:ar):CF (O.mk1 x) K c attrs:=⟨h.ex⟩
def QT {F:Z D->ak D} {Q:VK} {E:XK} (x:ar) (h:spF (O.mk1 x) K n F vs H Q E):spF O K n F vs H Q E:=by obtain⟨G,ds,d,h1,h2,h3,h4,k⟩:=h;exact#[G,ds,d,h1,h2.of1,h3,h4,λv G' H' s r=>k v G' H' s (r.to1 x)]
def Cal.re {k:J} {F:Z D->ak D} (C:Cal O P w K mg base y n k F) (x:ar):Cal (O.mk1 x) P w K mg base y n k F:=by obtain⟨f,fd,ps,h1,h2,h3,h4⟩:=C.ex;exact#[f,fd,ps,h1.imp λvs H Q E q=>QT x q,h2,h3,h4]
structure CalM (O:Cn) (P:b7) (w:bU) (K:aJ) (mg:af->ak au) (base:Heap) (c m:af) (n k:J) (F:Z D->ak D):Prop where
 ex:∃C f fd ps,O.cls c=U C/\Cls K C/\Meth K C m f/\FnOk P w K mg base CX0 k f fd ps (spF O K n F)/\eP K fd ps []
inductive spI (O:Cn) (K:aJ) (C:ar) (n:J) (F:Z D->ak D) (vs:Z V) (H:Hp) (Q:VK) (_e3:XK):Prop where
 |mk:∀x dx H1 G ds d us,vs=.ref x::us->H=upd (upd H1 dx (.own x)) x (.ins C dx [])->H1 x=B->H1 dx=B->dx≠x->a9 G H1->Reps O K G us ds->ds.length=n->F ds=U d->(∀G' H',Step G H1 G' H'->Rep O K G' (.ref x) d->Q .non H')->spI O K C n F vs H Q _e3
structure CalI (O:Cn) (P:b7) (w:bU) (K:aJ) (mg:af->ak au) (base:Heap) (c:af) (n k:J) (F:Z D->ak D):Prop where
 ex:∃C f fd ps,O.cls c=U C/\Mk K C f/\mg c=U (.ref C)/\FnOk P w K mg base CX0 k f fd ps (spI O K C n F)/\eP K fd ps []
end
section
variable {p:bV} {c m:af}
noncomputable def kY (c m:af) (F:Z D->ak D) (fo:FE) (fr:FA):FE:=λY=>(fo Y).bind λd=>match d with
 |.ins c' fs=>if c'=c/\fs.lookup m=B then (fr Y).bind λds=>F (d::ds) else B
 |_=>B
def gH {k:J} {F:Z D->ak D} (C:CalM O X.prog X.w X.K X.mg X.base c m 1 k F) (hr:Room j X.A) (hk:k<=j) (ho:DE O X o fo)
  (ht:eval (.Call (.Attribute o m apos) [] [] pos) X.env=(do
   let ov ←eval o X.env
   mC apos.atName
   let (f,first) ←i4 [ov] (rC ov m pl)
   xM pos f first (bX pos (aK [] X.env)) (kf pos (kh [] X.env))):=by rfl) :
  DE O X (.Call (.Attribute o m apos) [] [] pos) (kY c m F fo ay):=⟨by
 obtain⟨Ca,f,fd,ps,h0,h1,h2,h3,h4⟩:=C.ex;refine(EU ho.1 h1 h2 h3 (hr.mono hk) h4 .nil lD ht).imp λL H Q=>?_;rintro⟨Tm,Ty,G,Y,d,A,h,k⟩;obtain⟨x,hx,hq⟩:=oBd h;clear h;refine#[Tm,Ty,G,Y,x,A,hx,λv G1 H1 s1 r1=>?_];split at hq
 .rename_i c' fs;split at hq
  .rename_i hz;obtain⟨rfl,hz2⟩:=hz;obtain⟨ds,hds,hF⟩:=oBd hq;cases hds;have r1':=r1;cases r1 with
   |ins g1 g2 g3 g4=>
    rw[h0] at g2;cases g2;rename_i _ _ us0;have hl:dY m us0=B:=by
     rcases jJ g3 g4 with⟨_,z2⟩|⟨d',v',z1,_,_⟩
     .exact z2
     .rw[z1] at hz2;cases hz2
    refine#[_,_,_,(),s1.gh _ _ g1,hl,?_];exact#[G1,_,d,s1.gh,.cons r1' .nil,(),hF,λv G' H' s r=>k v G' H' (s1.trans s) r]
  .cases hq
 .cases hq⟩
end
def pw (n:J) (c:af) (g:FS):Z D->ak D:=λds=>(g (U (.obj c [])::ds.map (fun d=>U (Slot.sh d))++bB n B)).bind λr=>match r.1 with
 |.nx=>match r.2[0]? with
  |some (U s)=>Gd s
  |_=>B
 |_=>B
variable {s0:af}
section
variable {c:af}
def Fun.okI {st:Stmt} {f:ar} {k:J} (F:Fun K x qual st f fd) (S:FnScope N (s0::ps) (aD st)) (hC:O.cls c=U C)
  (hbody:∀(y:ar) (cdv:au) (A:dh) (outer:Z cD) (s:aF) (H:Hp) (E:XK),Room k (A.deeper (bR qual (aD st) s.heap.objs.size f cdv))->
   DSs (O.mk1 y) (cB CX0 P w K mg base N qual (aD st) f cdv A outer s H E).nox (cI st) g):FnOk P w K mg base CX0 (k+1) f fd (s0::ps) (spI O K C ps.length (pw (N.length-(ps.length+1)) c g)):=by
 refine F.ok S (λvs H Q E h=>?_) (fun cdv A outer s H vs Q E hr h=>?_)
 .obtain⟨y,dx,H1,G,ds,d,us,rfl,_,_,_,_,_,r,hl,_⟩:=h;rw[qh,r.length,hl,qh]
 .obtain⟨y,dx,H1,G,ds,d,us,rfl,rfl,hx,hdx,hne,gh,r,hl,hd,k⟩:=h;refine#[_,(hbody y cdv A outer s _ E hr).1,?_];obtain⟨⟨fl,KK⟩,hg,hd⟩:=oBd hd;have s1:=Step.newOwn (o:=.own y) gh hdx;have hx1:(upd H1 dx (.own y)) y=B:=by rw[aW (dU hne)];exact hx
  have s2:=s1.trans (Step.newOwn (o:=.ins C dx []) s1.gh hx1);have hlen:us.length=ds.length:=r.length;have A0:At (O.mk1 y) K G H1 G (upd (upd H1 dx (.own y)) y (.ins C dx [])) (U (.obj c [])::ds.map (fun d=>U (Slot.sh d))++bB (N.length-(ps.length+1)) B) (eJ N (.ref y::us)):=by
   refine#[s2,by simp[eJ,hlen,hl],λi=>if i=0 then [y] else [],λi t e=>?_,λi j t u hij e1 e2 b hb=>?_]
   .cases i with
    |zero=>
     cases e;exact#[.ref y,(),.obj hC hx (gh.free hx) bK () .nil ()]
    |succ i=>
     have e:(ds.map (fun d=>U (Slot.sh d))++bB (N.length-(ps.length+1)) B)[i]?=U (U t):=e;by_cases hi:i<ds.length
     .rw[qD (by simpa using hi),ql] at e;obtain⟨d',hd',e⟩:=oMd e;cases e;obtain⟨v,hv,rv⟩:=r.get hd';refine#[v,?_,.sh (rv.to1 y)];show((us.map U)++_)[i]?=U (U v);rw[qD (by rw[qe,hlen];exact hi),ql,hv];rfl
     .rw[qN (by simpa using hi),ux] at e;split at e<;>cases e
   .have hb:b∈(if i=0 then [y] else []):=hb;show b∉(if j=0 then [y] else []);by_cases hi:i=0
    .subst hi;rw[xa (dU hij)];exactλz=>by cases z
    .rw[xa hi] at hb;cases hb
  refine#[G,H1,G,_,fl,KK,A0,hg,λBT G' H' sm A'=>?_];cases fl with
  |nx=>
   simp only at hd;split at hd
   .rename_i sl hs;obtain⟨a,G2,e1,st2,rp⟩:=A'.done hs hd;cases e1;exact k G2 H' st2 rp.of1
   .cases hd
  |rt d'=>cases hd
  |ow d'=>cases hd
  |nw d'=>cases hd
  |od d'=>cases hd
  |bk=>cases hd
  |ct=>cases hd
structure DfnM (K:aJ) (C:ar) (c m qual:af) (st:Stmt):Prop where
 ex:∃f fd,Fun K m qual st f fd/\di K (.ref C) m=U (U (.ref f))/\xJ K (.ref f)=ah
structure ClsOk (O:Cn) (K:aJ) (mg:af->ak au) (c:af) (C:ar):Prop where
 cn:O.cls c=U C
 cl:Cls K C
 mgC:mg c=U (.ref C)
 makes:xK K C=ah
 kp:fM K (.ref C)=ah
def DfnM.cal {m:af} {st:Stmt} {k:J} (Γ:ClsOk O K mg c C) (F:DfnM K C c m qual st) (S:FnScope N ps (aD st))
  (hb:∀(kV doc pm:au) (an:ak ar) (cdv ct:au) (us:Z au),us.length=ps.length->gM (eT m qual (e9 st) (cI st) (aD st) .none kV doc pm an cdv ct) #[us,[]]=pure (ps.zip us))
  (hbody:∀(f:ar) (cdv:au) (A:dh) (outer:Z cD) (s:aF) (H:Hp) (E:XK),Room k (A.deeper (bR qual (aD st) s.heap.objs.size f cdv))->
   DSs O (cB CX0 P w K mg base N qual (aD st) f cdv A outer s H E).nox (cI st) g):CalM O P w K mg base c m ps.length (k+1) (aN (N.length-ps.length) g):=by
 obtain⟨f,fd,h1,h2,h3⟩:=F.ex;exact#[C,f,fd,ps,Γ.cn,Γ.cl,#[h2,h3,h1.kp],h1.okD S (hbody f),h1.binds hb]
def DfnM.calI {st:Stmt} {k:J} (Γ:ClsOk O K mg c C) (F:DfnM K C c "__init__" qual st) (S:FnScope N (s0::ps) (aD st))
  (hb:∀(kV doc pm:au) (an:ak ar) (cdv ct:au) (us:Z au),us.length=(s0::ps).length->gM (eT "__init__" qual (e9 st) (cI st) (aD st) .none kV doc pm an cdv ct) #[us,[]]=pure ((s0::ps).zip us))
  (hbody:∀(f y:ar) (cdv:au) (A:dh) (outer:Z cD) (s:aF) (H:Hp) (E:XK),Room k (A.deeper (bR qual (aD st) s.heap.objs.size f cdv))->
   DSs (O.mk1 y) (cB CX0 P w K mg base N qual (aD st) f cdv A outer s H E).nox (cI st) g):CalI O P w K mg base c ps.length (k+1) (pw (N.length-(ps.length+1)) c g):=by
 obtain⟨f,fd,h1,h2,h3⟩:=F.ex;exact#[C,f,fd,s0::ps,Γ.cn,#[Γ.makes,h2,h3,Γ.kp],Γ.mgC,h1.okI S Γ.cn (hbody f),h1.binds hb]
def ClsOk.cf (Γ:ClsOk O K mg c C) (h:∀f∈attrs,ma K C f):CF O K c attrs:=#[C,Γ.cn,Γ.cl,h]
end
variable {M n0 ep:J} {owner:cg (ak J)} {hs:Z aj} {I:ar} {wr:Z ar} {hashAt:J->aj} {es':cg (aj×au)}
namespace ST
structure Pr where
 j:J
 more:J
 i:J
 pt:J
noncomputable def adv (M:J) (p:Pr):Pr:=if p.more > 0 then {p with j:=p.j+1,more:=p.more-1} else
 {j:=(jA M p.i p.pt).1,more:=dF M (jA M p.i p.pt).1-(jA M p.i p.pt).1,i:=(jA M p.i p.pt).1,pt:=(jA M p.i p.pt).2}
noncomputable def st0 (M:J) (h:aj):Pr:={j:=fN h%(M+1),more:=dF M (fN h%(M+1))-fN h%(M+1),i:=fN h%(M+1),pt:=fN h}
def it (M:J) (h:aj):J->Pr
 |0=>st0 M h
 |n+1=>adv M (it M h n)
def ag (M:J) (h:aj) (n:J):J:=(it M h n).j
noncomputable def lp (M:J) (h:aj):J->J×J
 |0=>(fN h%(M+1),fN h)
 |r+1=>jA M (lp M h r).1 (lp M h r).2
noncomputable def nu (M:J) (x:J×J):Pr:={j:=x.1,more:=dF M x.1-x.1,i:=x.1,pt:=x.2}
theorem vR (M:J) (h:aj) (n:J):∀k,it M h (n+k)=(Nat.repeat (adv M) k (it M h n))
 |0=>rfl
 |k+1=>by rw[<-oA,it,vR M h n k];rfl
def Tt (M i:J):dF M i-i<=9:=by unfold dF;split<;>lia
theorem wm (M:J):∀(k:J) (p:Pr),k<=p.more->Nat.repeat (adv M) k p={p with j:=p.j+k,more:=p.more-k}
 |0,p,_=>rfl
 |k+1,p,h=>by rw[Nat.repeat,wm M k p .(b)];unfold adv;rw[qZ (by show p.more-k > 0;lia)];simp only[Nat.sub_sub,oA]
theorem ED (M:J) (h:aj):∀r,∃n,n<=10*r/\it M h n=nu M (lp M h r)
 |0=>#[0,qx _,()]
 |r+1=>by obtain⟨n,hn,e⟩:=ED M h r;have hl:=Tt M (lp M h r).1;refine#[n+(dF M (lp M h r).1-(lp M h r).1)+1,by lia,?_];have e2:=wm M (dF M (lp M h r).1-(lp M h r).1) (nu M (lp M h r)) (qx _);rw[it,vR,e,e2];unfold adv;rw[xa (by show ¬((dF M (lp M h r).1-(lp M h r).1)-(dF M (lp M h r).1-(lp M h r).1) > 0);lia)];rfl
def XH (h:aj):fN h<2 ^ 64:=by unfold fN;have h1:=xU h (show(2 ^ 64:aj)≠0 by decide);have h2:=xV h (show(0:aj)<2 ^ 64 by decide);lia
theorem KP (M:J) (h:aj):∀r,(lp M h r).2=fN h / 32 ^ r
 |0=>by simp[lp]
 |r+1=>by show(lp M h r).2 / 32=_;rw[KP M h r,Nat.div_div_eq_div_mul,Y5]
def UC (M:J) (h:aj) {r:J} (hr:13<=r):(lp M h r).2=0:=by rw[KP];refine Nat.div_eq_of_lt (qI (XH h) ?_);exact qP .(a) (Di .(a) hr)
noncomputable def fl (M i:J):J:=(i*5+1)%(M+1)
def orb (M:J):J->J->J
 |0,i=>i
 |m+1,i=>fl M (orb M m i)
theorem AQ (M:J) (h:aj):∀m,(lp M h (13+m)).1=orb M m (lp M h 13).1
 |0=>rfl
 |m+1=>by show(jA M (lp M h (13+m)).1 (lp M h (13+m)).2).1=_;rw[UC M h .(b),AQ M h m];simp[jA,orb,fl]
theorem vZ (M i:J) (a:J):∀b,orb M (a+b) i=orb M b (orb M a i)
 |0=>rfl
 |b+1=>by rw[<-oA,orb,vZ M i a b];rfl
def zt (M:J):J->J->Z J
 |0,_=>[]
 |n+1,i=>i::zt M n (fl M i)
theorem Ij (M:J):∀m i,orb M (m+1) i=orb M m (fl M i)
 |0,_=>rfl
 |m+1,i=>by rw[orb,Ij M m i];rfl
theorem HC (M:J):∀(n i j:J),j∈zt M n i->∃m,m<n/\orb M m i=j
 |0,_,_,h=>nomatch h
 |n+1,i,j,h=>by
  rcases eC.mp h with e|h
  .exact#[0,Dj _,e.symm]
  .obtain⟨m,hm,e⟩:=HC M n (fl M i) j h;exact#[m+1,by lia,by rw[Ij];exact e]
structure Full (M:J):Prop where
 all:∀j,j<=M->∃m,m<M+1/\orb M m 0=j
 back:orb M (M+1) 0=0
def chk (M:J):aR:=(db (M+1)).all (λj=>(zt M (M+1) 0).contains j) && orb M (M+1) 0==0
def wg (h:chk M=ah):Full M:=by unfold chk at h;rw[eM,ie] at h;refine#[λj hj=>?_,by simpa using h.2];have:=h.1 j (fg.mpr .(b));exact HC M (M+1) 0 j (by simpa using this)
def LO:Full 7:=wg (by nofun)
def Ul:Full 31:=wg (by nofun)
def Pi:Full 127:=wg (by nofun)
def VZ:Full 511:=wg (by nofun)
def Full.reach (F:Full M) (hi:i<=M) (hj:j<=M):∃m,m<=M/\orb M m i=j:=by
 obtain⟨a,ha,ea⟩:=F.all i hi;obtain⟨b,hb,eb⟩:=F.all j hj;by_cases h:a<=b
 .refine#[b-a,by lia,?_];rw[<-ea,<-vZ,show a+(b-a)=b by lia,eb]
 .refine#[M+1-a+b,by lia,?_];rw[<-ea,<-vZ,show a+(M+1-a+b)=(M+1)+b by lia,vZ,F.back,eb]
def AE (M:J) (h:aj):∀r,(lp M h r).1<=M
 |0=>MR.mp (MS _ (Dj _))
 |r+1=>MR.mp (MS _ (Dj _))
def Full.covers (F:Full M) (h:aj) (hj:j<=M):∃n,n<10*(M+15)/\ag M h n=j:=by obtain⟨m,hm,e⟩:=F.reach (AE M h 13) hj;obtain⟨n,hn,en⟩:=ED M h (13+m);refine#[n,by lia,?_];unfold ag;rw[en];show(lp M h (13+m)).1=j;rw[AQ,e]
theorem Er (M:J) (h:aj):∀n,(it M h n).j+(it M h n).more<=M
 |0=>by
  have:=AE M h 0;show(lp M h 0).1+(dF M (lp M h 0).1-(lp M h 0).1)<=M;unfold dF;split<;>lia
 |n+1=>by
  have ih:=Er M h n;rw[it];unfold adv;split
  .show(it M h n).j+1+((it M h n).more-1)<=M;lia
  .show(jA M (it M h n).i (it M h n).pt).1+(dF M (jA M (it M h n).i (it M h n).pt).1-(jA M (it M h n).i (it M h n).pt).1)<=M;have:(jA M (it M h n).i (it M h n).pt).1<=M:=MR.mp (MS _ (Dj _));unfold dF;split<;>lia
def BA (M:J) (h:aj) (n:J):ag M h n<=M:=qP (iB _ _) (Er M h n)
def Full.first (F:Full M) (h:aj) (occ:J->aR) (hf:∃j,j<=M/\occ j=ao):∃n,n<10*(M+15)/\occ (ag M h n)=ao/\∀m,m<n->occ (ag M h m)=ah:=by
 obtain⟨j,hj,hof⟩:=hf;obtain⟨n,hn,e⟩:=F.covers h hj;have key:∀n,n<10*(M+15)->occ (ag M h n)=ao->∃n,n<10*(M+15)/\occ (ag M h n)=ao/\∀m,m<n->occ (ag M h m)=ah:=by
  intro n
  induction n using Nat.strongRecOn with
  |ind n ih=>
   intro hn ho;by_cases hx:∃m,m<n/\occ (ag M h m)=ao
   .obtain⟨m,hm,hm2⟩:=hx;exact ih m hm .(b) hm2
   .refine#[n,hn,ho,λm hm=>?_];cases q:occ (ag M h m) with
    |true=>rfl
    |false=>exact ba #[m,hm,q] hx
 exact key n hn (by rw[e];exact hof)
theorem zu (xs:cg J) (j:J) (hs:xs.toList.Pairwise (· < ·)):∀(fuel lo hi:J),hi-lo<=fuel->lo<=hi->hi<=xs.size->(∀i,i<lo->∀v,xs[i]?=U v->v<j)->(∀i,hi<=i->∀v,xs[i]?=U v->j<=v)->
  (Dk xs j fuel lo hi<=xs.size)/\(∀i,i<Dk xs j fuel lo hi->∀v,xs[i]?=U v->v<j)/\∀i,Dk xs j fuel lo hi<=i->∀v,xs[i]?=U v->j<=v
 |0,lo,hi,hf,hl,hh,h1,h2=>by
  have e:lo=hi:=by lia
  subst e;exact#[hh,h1,h2]
 |fuel+1,lo,hi,hf,hl,hh,h1,h2=>by
  have mono:∀a b va vb,a<b->xs[a]?=U va->xs[b]?=U vb->va<vb:=λa b va vb hab ha hb=>by have:=Y6.mp hs a b;obtain⟨a1,a2⟩:=ig.mp ha;obtain⟨b1,b2⟩:=ig.mp hb;have q:=this (by simpa using a1) (by simpa using b1) hab;simpa[a2,b2] using q
  unfold Dk;by_cases hlt:lo<hi
  .rw[qZ hlt];have hm1:lo<=(lo+hi) / 2:=by lia
   have hm2:(lo+hi) / 2<hi:=by lia
   have hget:∃v,xs[(lo+hi) / 2]?=U v:=#[xs[(lo+hi) / 2]'.(b),by simp[show(lo+hi) / 2<xs.size by lia]];obtain⟨v,hv⟩:=hget;have hd:xs.getD ((lo+hi) / 2) j=v:=by simp[Dl,hv]
   dsimp only;rw[hd];by_cases hvj:v<j
   .rw[qZ hvj];refine zu xs j hs fuel _ _ .(b) .(b) hh (λi hi' w hw=>?_) h2;rcases gy i ((lo+hi) / 2) with hi2|hi2
    .exact uB (mono i _ w v hi2 hw hv) hvj
    .have e:i=(lo+hi) / 2:=by lia
     subst e;rw[hv] at hw;cases hw;exact hvj
   .rw[xa hvj];refine zu xs j hs fuel _ _ .(b) .(b) .(b) h1 λi hi' w hw=>?_;rcases gy ((lo+hi) / 2) i with hi2|hi2
    .exact qP .(b) (ui (mono _ i v w hi2 hv hw))
    .have e:i=(lo+hi) / 2:=by lia
     subst e;rw[hv] at hw;cases hw;lia
  .rw[xa hlt];have e:lo=hi:=by lia
   subst e;exact#[hh,h1,h2]
def Bo (xs:cg J) (j:J) (hs:xs.toList.Pairwise (· < ·)):cO xs j<=xs.size/\(∀i,i<cO xs j->∀v,xs[i]?=U v->v<j)/\∀i,cO xs j<=i->∀v,xs[i]?=U v->j<=v:=
 zu xs j hs xs.size 0 xs.size (qx _) (eA _) (qx _) (λi h=>ba h (MT _)) λi h v hv=>by have:=(ig.mp hv).1;lia
def Bg (xs:cg J) (j i:J) (hs:xs.toList.Pairwise (· < ·)) (h:xs[i]?=U j):cO xs j=i:=by
 obtain⟨h0,h1,h2⟩:=Bo xs j hs;rcases Y7 (cO xs j) i with hl|hl|hl
 .have hi:=(ig.mp h).1;have hg:xs[cO xs j]?=U (xs[cO xs j]'.(b)):=by simp[show cO xs j<xs.size by lia]
  have q1:=h2 _ (qx _) _ hg;have:=Y6.mp hs (cO xs j) i (by simp;lia) (by simpa using hi) hl;obtain⟨_,e⟩:=ig.mp h;simp only[Array.getElem_toList] at this;lia
 .exact hl
 .have:=h1 i hl j h;lia
structure Tb (t:mQ) (es:cg (aj×au)):Prop where
 full:Full t.mask
 sz:t.place.size=es.size
 dm:t.dummies=#[]
 ri:t.place.toList.Pairwise (· < ·)
 le:∀j∈t.place.toList,j<=t.mask
 few:es.size*5<t.mask*3
 rc:∀(i j:J) (h:aj) (x:au),t.place[i]?=U j->es[i]?=U (h,x)->∃n,ag t.mask h n=j/\∀m,m<n->ag t.mask h m∈t.place.toList
section
variable {t:mQ} {es:cg (aj×au)}
def Tb.live (T:Tb t es) (h:t.place[i]?=U j):t.slot j=.live i:=by unfold Y8;rw[Bg _ _ _ T.ri h];simp[h]
def Tb.empty (T:Tb t es) (h:j∉t.place.toList):t.slot j=.empty:=by
 unfold Y8;have h1:t.place[cO t.place j]?≠U j:=λe=>h (by rw[<-qL] at e;exact qS e)
 have h2:MU t.dummies j=ao:=by rw[T.dm];rfl
 simp[h1,h2]
def Tb.occ (T:Tb t es) (h:j∈t.place.toList):∃i:J,t.place[i]?=U j:=by obtain⟨i,hi⟩:=xT.mp h;exact#[i,by rw[<-qL];exact hi]
def Tb.fits (T:Tb t es):t.fits es.size=ah:=by have h1:=T.sz;have h2:=T.few;simp only[MV,Y9,T.dm,Array.size_empty,eM,i6,rR];lia
theorem tO:∀(a b:Z J),a.Nodup->(∀x∈a,x∈b)->a.length<=b.length
 |[],_,_,_=>eA _
 |x::r,b,nd,h=>by have hx:=h x qf;have nd':=om.mp nd;have:=tO r (b.erase x) nd'.2 λy hy=>(List.mem_erase_of_ne (λe=>nd'.1 (by rw[<-e];exact hy))).mpr (h y (qg _ hy));have hl:=List.length_erase_of_mem hx;have hp:0<b.length:=List.length_pos_of_mem hx;rw[qh];lia
def Tb.free (T:Tb t es):∃j,j<=t.mask/\decide (j∈t.place.toList)=ao:=by
 by_cases hx:∃j,j<=t.mask/\j∉t.place.toList
 .obtain⟨j,h1,h2⟩:=hx;exact#[j,h1,qQ h2]
 .exfalso;have all:∀j,j<=t.mask->j∈t.place.toList:=λj hj=>Classical.byContradiction λhn=>hx #[j,hj,hn];have h1:=tO (db (t.mask+1)) t.place.toList MW λj hj=>all j (by have:=fg.mp hj;lia);have h2:=T.sz;have h3:=T.few;simp only[qX,hG] at h1;lia
def Tb.first (T:Tb t es) (h:aj):∃n,n<10*(t.mask+15)/\ag t.mask h n∉t.place.toList/\∀m,m<n->ag t.mask h m∈t.place.toList:=by obtain⟨n,h1,h2,h3⟩:=T.full.first h (λj=>decide (j∈t.place.toList)) T.free;exact#[n,h1,of_decide_eq_false h2,λm hm=>km (h3 m hm)]
noncomputable def gQ (p:Pr):Dm:={j:=p.j,more:=p.more,i:=p.i,perturb:=p.pt,dummy:=B}
def HB (t:mQ) (p:Pr):t.advance (gQ p)=gQ (adv t.mask p):=by
 unfold SetTable.advance adv gQ;by_cases h:p.more > 0
 .simp only[h,dc]
 .simp only[h,dE]
theorem Tb.probe_go (T:Tb t es) (hashAt:J->aj) (h:aj) {n0:J} (hf:ag t.mask h n0∉t.place.toList) (ho:∀m,m<n0->ag t.mask h m∈t.place.toList):∀(fuel n:J),n<=n0->n0<n+fuel->
  (∃n' i,n<=n'/\n'<n0/\t.place[i]?=U (ag t.mask h n')/\hashAt i=h/\(∀m i,n<=m->m<n'->t.place[i]?=U (ag t.mask h m)->hashAt i≠h)/\MX t hashAt h fuel (gQ (it t.mask h n))=U (.candidate (ag t.mask h n') i (gQ (it t.mask h (n'+1))))) \/
  ((∀m i,n<=m->m<n0->t.place[i]?=U (ag t.mask h m)->hashAt i≠h)/\MX t hashAt h fuel (gQ (it t.mask h n))=U (.empty (ag t.mask h n0) B))
 |0,n,h1,h2=>by lia
 |fuel+1,n,h1,h2=>by
  unfold MX;by_cases hn:n=n0
  .subst hn
   right
   refine#[λm i a b=>by lia,?_];have hs:t.slot (gQ (it t.mask h n)).j=.empty:=T.empty hf;rw[hs];rfl
  .obtain⟨i,hi⟩:=T.occ (ho n .(b));have hs:t.slot (gQ (it t.mask h n)).j=.live i:=T.live hi;rw[hs];dsimp only;by_cases hh:hashAt i=h
   .left
    refine#[n,i,qx _,by lia,hi,hh,λm i a b=>by lia,?_];rw[qZ (by simpa using hh),HB];rfl
   .rw[xa (by simpa using hh),HB];have inj:∀i',t.place[i']?=U (ag t.mask h n)->i'=i:=λi' h'=>by rw[<-Bg _ _ _ T.ri h',<-Bg _ _ _ T.ri hi]
    have ext:∀{b:J},(∀m i,n+1<=m->m<b->t.place[i]?=U (ag t.mask h m)->hashAt i≠h)->∀m i,n<=m->m<b->t.place[i]?=U (ag t.mask h m)->hashAt i≠h:=λ{b} q m i' a c d=>by
     by_cases e:m=n
     .subst e;rw[inj i' d];exact hh
     .exact q m i' .(b) c d
    rcases T.probe_go hashAt h hf ho fuel (n+1) .(b) .(b) with⟨n',i',a,b,c,d,e,f⟩|⟨e,f⟩
    .exact .inl #[n',i',by lia,b,c,d,ext e,f]
    .exact .inr #[ext e,f]
def uh (xs:cg α) (p:J) (x:α) (hp:p<=xs.size):(dG xs p x).toList=xs.toList.take p++x::xs.toList.drop p:=by unfold dG;simp[MY,List.extract_eq_take_drop];exact oz (by simp)
def Ef (l:Z α) (p:J) (x:α) (hp:p<=l.length) (i:J):(l.take p++x::l.drop p)[i]?=if i<p then l[i]? else if i=p then U x else l[i-1]?:=by
 by_cases h1:i<p
 .rw[qZ h1,qD (by rw[qH];lia),uy h1]
 .rw[xa h1,qN (by rw[qH];lia),qH,uG hp];by_cases h2:i=p
  .rw[qZ h2,h2];simp
  .rw[xa h2];obtain⟨k,hk⟩:∃k,i-p=k+1:=#[i-p-1,by lia];rw[hk,qc,uH]
   congr 1
   lia
def Cj (l:Z α) (p:J) (x y:α):y∈l.take p++x::l.drop p↔y=x\/y∈l:=by
 rw[fW,qO];constructor
 .rintro(h|h|h)
  .exact .inr (uI h)
  .exact .inl h
  .exact .inr (oB h)
 .rintro(h|h)
  .exact .inr (.inl h)
  .have:y∈l.take p++l.drop p:=by rw[MZ];exact h
   rcases fW.mp this with h|h
   .exact .inl h
   .exact .inr (.inr h)
def Tb.put (T:Tb t es) {h:aj} {x:au} (hf:ag t.mask h n0∉t.place.toList) (ho:∀m,m<n0->ag t.mask h m∈t.place.toList) (few:(es.size+1)*5<t.mask*3) (pl:aR) :
  Tb { (t.put (ag t.mask h n0)).1 with plain:=pl} (dG es (t.put (ag t.mask h n0)).2 (h,x)):=by
 obtain⟨b0,b1,b2⟩:=Bo t.place (ag t.mask h n0) T.ri;have bes:cO t.place (ag t.mask h n0)<=es.size:=by rw[<-T.sz];exact b0
 have pl1:(dG t.place (cO t.place (ag t.mask h n0)) (ag t.mask h n0)).toList=t.place.toList.take (cO t.place (ag t.mask h n0))++ag t.mask h n0::t.place.toList.drop (cO t.place (ag t.mask h n0)):=uh _ _ _ b0;have el1:(dG es (cO t.place (ag t.mask h n0)) (h,x)).toList=es.toList.take (cO t.place (ag t.mask h n0))++(h,x)::es.toList.drop (cO t.place (ag t.mask h n0)):=uh _ _ _ bes;have szp:(dG t.place (cO t.place (ag t.mask h n0)) (ag t.mask h n0)).size=t.place.size+1:=by rw[<-hG,pl1];simp;lia
 have sze:(dG es (cO t.place (ag t.mask h n0)) (h,x)).size=es.size+1:=by rw[<-hG,el1];simp;lia
 refine#[T.full,?_,?_,?_,?_,?_,?_]
 .show(dG t.place _ _).size=_;rw[szp];show _=(dG es (cO t.place (ag t.mask h n0)) (h,x)).size;rw[sze,T.sz]
 .show(if MU t.dummies (ag t.mask h n0)=ah then _ else t.dummies)=#[];rw[T.dm];rfl
 .show(dG t.place (cO t.place (ag t.mask h n0)) (ag t.mask h n0)).toList.Pairwise (· < ·);rw[pl1,List.pairwise_append,List.pairwise_cons];have tk:∀a∈t.place.toList.take (cO t.place (ag t.mask h n0)),a<ag t.mask h n0:=λa ha=>by
   obtain⟨i,hi⟩:=xT.mp ha;have hi':i<cO t.place (ag t.mask h n0):=by have:=(gv.mp hi).1;rw[qH] at this;lia
   rw[uy hi',qL] at hi;exact b1 i hi' a hi
  have dr:∀a∈t.place.toList.drop (cO t.place (ag t.mask h n0)),ag t.mask h n0<a:=λa ha=>by
   obtain⟨i,hi⟩:=xT.mp ha;rw[uH,qL] at hi;have h1:=b2 _ (iB _ i) a hi;rcases gy (ag t.mask h n0) a with q|q
   .exact q
   .exact ba (by rw[<-qL] at hi;have e:a=ag t.mask h n0:=.(b);rw[e] at hi;exact qS hi) hf
  refine#[T.ri.sublist (rF _ _),#[dr,T.ri.sublist (M0 _ _)],λa ha b hb=>?_];rcases eC.mp hb with e|hb
  .rw[e];exact tk a ha
  .exact uB (tk a ha) (dr b hb)
 .intro j hj;have hj':j∈(dG t.place (cO t.place (ag t.mask h n0)) (ag t.mask h n0)).toList:=hj;rw[pl1,Cj] at hj';rcases hj' with e|hj'
  .rw[e];exact BA _ _ _
  .exact T.le j hj'
 .show(dG es (cO t.place (ag t.mask h n0)) (h,x)).size*5<t.mask*3;rw[sze];exact few
 .intro i j h' x' e1 e2;have e1':(dG t.place (cO t.place (ag t.mask h n0)) (ag t.mask h n0)).toList[i]?=U j:=by rw[qL];exact e1
  have e2':(dG es (cO t.place (ag t.mask h n0)) (h,x)).toList[i]?=U (h',x'):=by rw[qL];exact e2
  rw[pl1,Ef _ _ _ (by simpa using b0)] at e1';rw[el1,Ef _ _ _ (by simpa using bes)] at e2';have up:∀{n:J},(∀m,m<n->ag t.mask h' m∈t.place.toList)->∀m,m<n->ag t.mask h' m∈(dG t.place (cO t.place (ag t.mask h n0)) (ag t.mask h n0)).toList:=λq m hm=>by rw[pl1,Cj];exact .inr (q m hm)
  by_cases c1:i<cO t.place (ag t.mask h n0)
  .rw[qZ c1] at e1' e2';rw[qL] at e1' e2';obtain⟨n,hn,q⟩:=T.rc i j h' x' e1' e2';exact#[n,hn,up q]
  .rw[xa c1] at e1' e2';by_cases c2:i=cO t.place (ag t.mask h n0)
   .rw[qZ c2] at e1' e2';cases e1';cases e2';exact#[n0,(),up ho]
   .rw[xa c2] at e1' e2';rw[qL] at e1' e2';obtain⟨n,hn,q⟩:=T.rc _ j h' x' e1' e2';exact#[n,hn,up q]
end
noncomputable def eW (owner:cg (ak J)) (j:J):aR:=(owner.getD j (U 0)).isNone
def tD {h:aj} {r:J} (e:it M h n=nu M (lp M h r)) {k:J} (hk:k<dF M (lp M h r).1+1-(lp M h r).1):ag M h (n+k)=(lp M h r).1+k:=by unfold ag;rw[vR,e,wm M k _ (by show k<=dF M (lp M h r).1-(lp M h r).1;lia)];rfl
def Tu {h:aj} {r:J} (e:it M h n=nu M (lp M h r)):it M h (n+(dF M (lp M h r).1+1-(lp M h r).1))=nu M (lp M h (r+1)):=by
 have hge:(lp M h r).1<=dF M (lp M h r).1:=by unfold dF;split<;>lia
 have e2:=wm M (dF M (lp M h r).1-(lp M h r).1) (nu M (lp M h r)) (qx _);rw[show n+(dF M (lp M h r).1+1-(lp M h r).1)=n+(dF M (lp M h r).1-(lp M h r).1)+1 by lia,it,vR,e,e2];unfold adv;rw[xa (by show ¬((dF M (lp M h r).1-(lp M h r).1)-(dF M (lp M h r).1-(lp M h r).1) > 0);lia)];rfl
theorem E2 {M:J} {h:aj} (owner:cg (ak J)) {rs:J} (hfr:eW owner (lp M h rs).1=ah):∀(fuel r n:J),it M h n=nu M (lp M h r)->r<=rs->rs<r+fuel->(∀m,m<n->eW owner (ag M h m)=ao)->
  ∃n',eW owner (ag M h n')=ah/\(∀m,m<n'->eW owner (ag M h m)=ao)/\uJ M owner fuel (lp M h r).1 (lp M h r).2=U (ag M h n')
 |0,r,n,_,h1,h2,_=>by lia
 |fuel+1,r,n,e,h1,h2,h3=>by
  unfold uJ;cases hf:(db (dF M (lp M h r).1+1-(lp M h r).1)).find? (λk=>(owner.getD ((lp M h r).1+k) (U 0)).isNone) with
  |some k=>
   have hk:=fg.mp (Y' hf);have hp:eW owner ((lp M h r).1+k)=ah:=by have:=Za hf;exact this
   refine#[n+k,by rw[tD e hk];exact hp,λm hm=>?_,?_]
   .rcases gy m n with c|c
    .exact h3 m c
    .obtain⟨d,rfl⟩:∃d,m=n+d:=#[m-n,by lia];rw[tD e .(b)];obtain⟨as,bs,hab,hno⟩:=(List.find?_eq_some_iff_append.mp hf).2;have hd:d∈as:=by
      have hl:as=db k:=by
       have hlen:as.length=k:=by
        have:(db (dF M (lp M h r).1+1-(lp M h r).1))[as.length]?=U k:=by rw[hab];simp
        rw[List.getElem?_range] at this
        .exact qK this
        .have:=cQ fX hab;simp at this;lia
       have:=cQ (Dn k) hab;rw[List.take_range,uG .(b),<-hlen,List.take_left'] at this
       .rw[hlen] at this;exact this.symm
       .rfl
      rw[hl];exact fg.mpr .(b)
     have:=hno d hd;exact Do.mpr (λz=>by rw[show(owner.getD ((lp M h r).1+d) (U 0)).isNone=ah from z] at this;cases this)
   .rw[tD e hk]
  |none=>
   have hn:∀k,k<dF M (lp M h r).1+1-(lp M h r).1->eW owner (ag M h (n+k))=ao:=λk hk=>by rw[tD e hk];have:=M1.mp hf k (fg.mpr hk);exact Do.mpr this
   have hge:(lp M h r).1<=dF M (lp M h r).1:=by unfold dF;split<;>lia
   have hr:r≠rs:=λz=>by subst z;have:=hn 0 .(b);rw[tD e .(b),Nat.add_zero,hfr] at this;cases this
   exact E2 owner hfr fuel (r+1) _ (Tu e) .(b) .(b) λm hm=>by
    rcases gy m n with c|c
    .exact h3 m c
    .obtain⟨d,rfl⟩:∃d,m=n+d:=#[m-n,by lia];exact hn d .(b)
def Full.free (F:Full M) (h:aj) (owner:cg (ak J)) (hf:∃j,j<=M/\eW owner j=ah) :
  ∃n,eW owner (ag M h n)=ah/\(∀m,m<n->eW owner (ag M h m)=ao)/\uJ M owner (oC M) (fN h%(M+1)) (fN h)=U (ag M h n):=by
 obtain⟨j,hj,hjf⟩:=hf;obtain⟨m,hm,e⟩:=F.reach (AE M h 13) hj;have hl:(lp M h (13+m)).1=j:=by rw[AQ,e]
 exact E2 owner (by rw[hl];exact hjf) (oC M) 0 0 () (eA _) (by unfold oC;lia) λm hm=>ba hm (MT _)
structure Own (M:J) (hs:Z aj) (owner:cg (ak J)):Prop where
 sz:owner.size=M+1
 lt:∀(j k:J),owner[j]?=U (U k)->k<hs.length
 on:∀k,k<hs.length->∃j:J,owner[j]?=U (U k)
 inj:∀(j j' k:J),owner[j]?=U (U k)->owner[j']?=U (U k)->j=j'
 rc:∀(j k:J) h,owner[j]?=U (U k)->hs[k]?=U h->∃n,ag M h n=j/\∀m,m<n->eW owner (ag M h m)=ao
def tm :eW owner j=ah↔owner[j]?=U B:=by
 unfold eW;rw[Dl];cases e:owner[j]? with
 |none=>simp
 |some o=>cases o<;>simp
def Own.empty (M:J):Own M [] (Zb (M+1) B):=by
 have no:∀(j k:J),(Zb (M+1) (B:ak J))[j]?=U (U k)->False:=λj k h=>by rw[Array.getElem?_replicate] at h;split at h<;>cases h
 exact#[by simp,λj k h=>(no j k h).elim,λk h=>ba h (MT _),λj _ k h _=>(no j k h).elim,λj k _ h _=>(no j k h).elim]
def Own.room (Γ:Own M hs owner) (hr:hs.length<=M):∃j,j<=M/\eW owner j=ah:=by
 by_cases hx:∃j,j<=M/\eW owner j=ah
 .exact hx
 .exfalso;have all:∀j,j<=M->∃k,owner[j]?=U (U k):=λj hj=>by
   have h1:eW owner j≠ah:=λz=>hx #[j,hj,z];have h2:j<owner.size:=by rw[Γ.sz];lia
   cases q:owner[j] with
   |none=>exact ba (tm.mpr (by simp[h2,q])) h1
   |some k=>exact#[k,by simp[h2,q]]
  have pig:=tO ((db (M+1)).map λj=>((owner[j]?).join).getD 0) (db hs.length) ?_ ?_
  .rw[qe,qX,qX] at pig;lia
  .refine Zc.mpr (rS.mpr (Zd ?_ MW));intro a b ha hb hab e;obtain⟨k,hk⟩:=all a (by have:=fg.mp ha;lia);obtain⟨k',hk'⟩:=all b (by have:=fg.mp hb;lia);simp only[hk,hk',Ze,Zg] at e;subst e;exact hab (Γ.inj a b k hk hk')
  .intro x hx';obtain⟨j,hj,rfl⟩:=dH.mp hx';obtain⟨k,hk⟩:=all j (by have:=fg.mp hj;lia);simp only[hk,Ze,Zg];exact fg.mpr (Γ.lt j k hk)
def Own.more (Γ:Own M hs owner) {h:aj} (hf:eW owner (ag M h n)=ah) (ho:∀m,m<n->eW owner (ag M h m)=ao) :
  Own M (hs++[h]) (owner.setIfInBounds (ag M h n) (U hs.length)):=by
 have hlt:ag M h n<owner.size:=by rw[Γ.sz];have:=BA M h n;lia
 have hold:=tm.mp hf;have get:∀j:J,(owner.setIfInBounds (ag M h n) (U hs.length))[j]?=if j=ag M h n then U (U hs.length) else owner[j]?:=λj=>by
  rw[Array.getElem?_setIfInBounds];by_cases e:ag M h n=j
  .subst e;simp[hlt]
  .rw[xa e,xa (dU e)]
 have stay:∀{j k:J},owner[j]?=U (U k)->(owner.setIfInBounds (ag M h n) (U hs.length))[j]?=U (U k):=λ{j k} q=>by
  rw[get,xa]
  .exact q
  .intro e;rw[e,hold] at q;cases q
 have notfree:∀{j:J},eW owner j=ao->eW (owner.setIfInBounds (ag M h n) (U hs.length)) j=ao:=λ{j} q=>by
  refine Do.mpr λz=>?_;have z':=tm.mp z;rw[get] at z';split at z'
  .cases z'
  .rw[tm.mpr z'] at q;cases q
 refine#[by simp[Γ.sz],λj k q=>?_,λk hk=>?_,λj j' k q q'=>?_,λj k h' q q'=>?_]
 .rw[get] at q;rw[qk,qY];split at q
  .cases q;lia
  .have:=Γ.lt j k q;lia
 .rw[qk,qY] at hk;by_cases e:k=hs.length
  .exact#[ag M h n,by rw[get,qZ (),e]]
  .obtain⟨j,hj⟩:=Γ.on k .(b);exact#[j,stay hj]
 .rw[get] at q q';split at q
  .rename_i c;cases q;split at q'
   .rename_i c';rw[c,c']
   .have:=Γ.lt j' _ q';lia
  .split at q'
   .cases q';have:=Γ.lt j _ q;lia
   .exact Γ.inj j j' k q q'
 .rw[get] at q;split at q
  .rename_i c;cases q;rw[qN (qx _)] at q';simp at q';subst q';exact#[n,c.symm,λm hm=>notfree (ho m hm)]
  .have hk:=Γ.lt j k q;rw[qD hk] at q';obtain⟨n',e,r⟩:=Γ.rc j k h' q q';exact#[n',e,λm hm=>notfree (r m hm)]
def Full.lays (F:Full M) (hs:cg aj) (hr:hs.size<=M):∃owner,Zh M hs=U owner/\Own M hs.toList owner:=by
 have all:∀(aZ done:Z aj) (owner:cg (ak J)),Own M done owner->(done++aZ).length<=M->∃owner',Own M (done++aZ) owner' /\
   aZ.foldl (λ(acc:ak (cg (ak J)×J)) h=>do
    let (owner,k) ←acc
    let j ←uJ M owner (oC M) (fN h%(M+1)) (fN h)
    pure (owner.setIfInBounds j (U k),k+1)) (U (owner,done.length))=U (owner',(done++aZ).length):=by
  intro aZ
  induction aZ with
  |nil=>intro done owner Γ _;exact#[owner,by rw[dZ];exact Γ,by simp]
  |cons h r ih=>
   intro done owner Γ hl;obtain⟨n,h1,h2,h3⟩:=F.free h owner (Γ.room (by simp at hl;lia));have O':=Γ.more h1 h2;obtain⟨owner',O2,e⟩:=ih (done++[h]) _ O' (by simpa using hl);refine#[owner',by simpa using O2,?_];rw[kj];have e1:(do
    let (owner,k) ←U (owner,done.length)
    let j ←uJ M owner (oC M) (fN h%(M+1)) (fN h)
    pure (owner.setIfInBounds j (U k),k+1):ak (cg (ak J)×J))=U (owner.setIfInBounds (ag M h n) (U done.length),done.length+1):=by
    show(uJ M owner (oC M) (fN h%(M+1)) (fN h) >>= λj=>pure (owner.setIfInBounds j (U done.length),done.length+1))=_;rw[h3];rfl
   rw[e1];rw[qk,qY] at e;rw[e];simp
 obtain⟨owner',Γ,e⟩:=all hs.toList [] _ (Own.empty M) (by simpa using hr);refine#[owner',?_,by simpa using Γ];unfold Zh;rw[<-Array.foldl_toList];have e':=cQ (fY (·.1)) e;exact e'
theorem L6 {α β:Type} (f:α->ak β):∀(l:Z α),(∀k∈l,∃y,f k=U y)->∀i:J,(l.filterMap f)[i]?=(l[i]?).bind f
 |[],_,i=>by simp
 |k::r,h,i=>by
  obtain⟨y,hy⟩:=h k qf;rw[Zi hy];cases i with
  |zero=>simp[hy]
  |succ i=>simp only[qc];exact L6 f r (λk hk=>h k (qg _ hk)) i
theorem zL {α β:Type} (f:α->ak β):∀(l:Z α),(∀k∈l,∃y,f k=U y)->(l.filterMap f).length=l.length
 |[],_=>rfl
 |k::r,h=>by obtain⟨y,hy⟩:=h k qf;rw[Zi hy,qh,qh,zL f r λk hk=>h k (qg _ hk)]
noncomputable def fJ (M:J) (owner:cg (ak J)):Z (J×J):=(db (M+1)).filterMap λj=>(owner.getD j B).map (j,·)
def kZ (hsz:owner.size=M+1) {k:J} :(j,k)∈fJ M owner↔owner[j]?=U (U k):=by
 unfold fJ;rw[mE];constructor
 .rintro⟨j',hj',e⟩;rw[Dl] at e;cases q:owner[j']? with
  |none=>rw[q] at e;cases e
  |some o=>
   rw[q] at e;cases o with
   |none=>cases e
   |some k'=>cases e;exact q
 .intro q;have hj:j<owner.size:=(ig.mp q).1;exact#[j,fg.mpr .(b),by rw[Dl,q];rfl]
def Lb (M:J) (owner:cg (ak J)):((fJ M owner).map (·.1)).Pairwise (· < ·):=by rw[rS];refine xaO _ ?_ (List.pairwise_lt_range);intro a a' haa b hb b' hb';obtain⟨k,_,rfl⟩:=oMd hb;obtain⟨k',_,rfl⟩:=oMd hb';exact haa
def PQ (Γ:Own M hs owner):((fJ M owner).map (·.2)).Nodup:=by have h1:=rS.mp (Lb M owner);refine Zc.mpr (rS.mpr (Zd ?_ h1));rintro⟨j,k⟩ ⟨j',k'⟩ ha hb hlt e;have e':k=k':=e;subst e';have:=Γ.inj j j' k ((kZ Γ.sz).mp ha) ((kZ Γ.sz).mp hb);have hlt':j<j':=hlt;lia
def Wr (Γ:Own M hs owner):(fJ M owner).length=hs.length:=by
 have h1:=tO ((fJ M owner).map (·.2)) (db hs.length) (PQ Γ) λk hk=>by obtain⟨⟨j,k'⟩,hm,rfl⟩:=dH.mp hk;exact fg.mpr (Γ.lt j k' ((kZ Γ.sz).mp hm))
 have h2:=tO (db hs.length) ((fJ M owner).map (·.2)) MW λk hk=>by obtain⟨j,hj⟩:=Γ.on k (fg.mp hk);exact dH.mpr #[(j,k),(kZ Γ.sz).mpr hj,()]
 rw[qe,qX] at h1 h2;lia
def Full.relaid {t:mQ} {es:cg (aj×au)} {wanted:J} (F:Full (rV wanted-1)) (few:es.size*5<(rV wanted-1)*3) :
  ∃t' order,t.relaid (es.map (·.1)) wanted=U (t',order)/\(order.filterMap (es[·]?)).size=es.size/\Tb t' (order.filterMap (es[·]?))/\(∀e,e∈(order.filterMap (es[·]?)).toList↔e∈es.toList)/\t'.mask=rV wanted-1/\t'.led=t.led:=by
 generalize hM:rV wanted-1=M at F few;obtain⟨owner,hl,Γ⟩:=F.lays (es.map (·.1)) (by simp;lia);have hlen:(es.map (·.1)).toList.length=es.size:=by simp
 have llen:(fJ M owner).length=es.size:=by rw[Wr Γ,hlen]
 refine#[{mask:=M,place:=((fJ M owner).map (·.1)).toArray,dummies:=#[],finger:=t.finger,led:=t.led,moves:=t.movedTo M,plain:=t.plain},((fJ M owner).map (·.2)).toArray,?_,?_]
 .unfold SetTable.relaid;rw[hM];unfold SetTable.laid;rw[hl];rfl
 .have hall:∀k∈(fJ M owner).map (·.2),∃y,es[k]?=U y:=λk hk=>by obtain⟨⟨j,k'⟩,hm,rfl⟩:=dH.mp hk;have:=Γ.lt j k' ((kZ Γ.sz).mp hm);rw[hlen] at this;exact#[es[k'],by simp[this]]
  have etl:(Zj (λx=>es[x]?) ((fJ M owner).map (·.2)).toArray).toList=((fJ M owner).map (·.2)).filterMap (λx=>es[x]?):=by simp
  have esz:(Zj (λx=>es[x]?) ((fJ M owner).map (·.2)).toArray).size=es.size:=by rw[<-hG,etl,zL _ _ hall,qe,llen]
  refine#[esz,#[F,?_,(),?_,?_,?_,?_],λe=>?_,(),()]
  .rw[esz];simp[llen]
  .show((fJ M owner).map (·.1)).toArray.toList.Pairwise (· < ·);exact Lb M owner
  .intro j hj;have hj':j∈(fJ M owner).map (·.1):=hj;obtain⟨⟨j',k⟩,hm,rfl⟩:=dH.mp hj';have:=(ig.mp ((kZ Γ.sz).mp hm)).1;rw[Γ.sz] at this;show j'<=M;lia
  .rw[esz];exact few
  .intro i j h x e1 e2;have e1':((fJ M owner).map (·.1))[i]?=U j:=by simpa using e1
   rw[<-qL,etl,L6 _ _ hall,ql] at e2;rw[ql] at e1';obtain⟨⟨j',k⟩,hm,rfl⟩:=oMd e1';rw[hm] at e2;have e2':es[k]?=U (h,x):=e2;have ho:=(kZ Γ.sz).mp (qS hm);obtain⟨n,hn,q⟩:=Γ.rc j' k h ho (by simp[e2']);refine#[n,hn,λm hm'=>?_];have hnf:=q m hm';have hle:=BA M h m;have hlt:ag M h m<owner.size:=by rw[Γ.sz];lia
   cases c:owner[ag M h m] with
   |none=>
    rw[tm.mpr (by simp[hlt,c])] at hnf;cases hnf
   |some k'=>
    exact dH.mpr #[(ag M h m,k'),(kZ Γ.sz).mpr (by simp[hlt,c]),rfl]
  .rw[etl,mE];constructor
   .rintro⟨k,_,hk⟩;rw[<-qL] at hk;exact qS hk
   .intro he;obtain⟨k,hk⟩:=xT.mp he;rw[qL] at hk;have hlt:=(ig.mp hk).1;obtain⟨j,hj⟩:=Γ.on k (by rw[hlen];exact hlt);exact#[k,dH.mpr #[(j,k),(kZ Γ.sz).mpr hj,()],hk]
def Mk (M:J):Prop:=M=7\/M=31\/M=127\/M=511
def Mk.full (h:Mk M):Full M:=by
 rcases h with h|h|h|h<;>subst h
 .exact LO
 .exact Ul
 .exact Pi
 .exact VZ
def Mk.grow (h:Mk M) (h1:n*5<M*3) (h2:¬(n+1)*5<M*3) (hn:n<=300):Mk (rV (Dp (n+1))-1)/\(n+1)*5<(rV (Dp (n+1))-1)*3/\rV (Dp (n+1))<=512:=by
 rcases h with h|h|h|h<;>subst h
 .have:n=4:=by lia
  subst this;exact#[.inr (.inl .(a)),by decide,by decide]
 .have:n=18:=by lia
  subst this;exact#[.inr (.inr (.inl .(a))),by decide,by decide]
 .have:n=76:=by lia
  subst this;exact#[.inr (.inr (.inr .(a))),by decide,by decide]
 .omega
section
variable {G:cg uj->cg uj->Prop} {P:J->au->Prop} {St:J->aF->Prop}
def GB (prog:b7) (w:bU) (A:dh) (S:ar) (Ba:Heap->Prop) (P:J->au->Prop) (n:J) (ag:J->bo->Prop):Prop:=
 ∀(i:J) (v:au) (s:aF) (o:bo) (Q:aR->aF->Prop) (E:au->aF->Prop),i<n->P i v->s.heap.get? S=U o->ag i o->Ba s.heap->
  (∀b h' tk o',s.toks<=tk->iY S s.heap h'->h'.get? S=U o'->ag (i+1) o'->Q b {s with heap:=h',toks:=tk})->aM (aL prog w) A (setAdd S v) Q E s
def Rw (W:WalksS prog w A.in1 I fp wr G n P St) (S:ar) (hSf:S∉fp) (Ba:Heap->Prop) (hBa:∀h h',Ba h->(∀b o,b∉S::wr->h.get? b=U o->h'.get? b=U o)->Ba h') (ag:J->bo->Prop) (hadd:GB prog w A.in1 S Ba P n ag) :
  ∀(k i:J) (s:aF) (o:bo),n-i=k->i<=n->St i s->s.heap.get? S=U o->ag i o->Ba s.heap->
   (∀s' o',Moved (S::wr) G s s'->s'.heap.get? S=U o'->ag n o'->R (.ok (.ret .none)) s')->
   hU (aL prog w) A (.builtin "set.update.loop" #[[.ref S,.ref I],[]]) R s:=by
 have hSw:S∉wr:=λh=>hSf (W.sub _ h);have hsub:∀b∈wr,b∈S::wr:=λb hb=>qg _ hb;intro k
 induction k with
 |zero=>
  intro i s o hk hi hst hS hJ hB hR;have hin:i=n:=by lia
  subst hin;refine uK Zk ?_;rw[Dq M2 _];refine qA (W.done s _ _ hst λs' hm=>?_);exact qE (hR s' o (hm.mono hsub) (hm.heap S _ hSw hS) hJ)
 |succ k ih=>
  intro i s o hk hi hst hS hJ hB hR;have hlt:i<n:=by lia
  refine uK Zk ?_;rw[Dq M2 _];refine qA (W.item i s _ _ hlt hst λv s' hP hst' hm=>?_);refine qA (qW ?_);refine hadd i v s' o _ _ hlt hP (hm.heap S _ hSw hS) hJ (hBa _ _ hB λb o hb e=>hm.heap b o (λz=>hb (hsub b z)) e) λb h' tk o' htk hsb hS' hJ'=>?_;refine qE #[M3 M2 _,ih (i+1) _ o' .(b) hlt (W.frame _ s' _ _ hst' htk λb hb o e=>?_) hS' hJ' ?_ λs'' o'' hm'' hS'' hJ''=>?_]
  .rw[hsb.2 b (λh:b=S=>hSf (by rw[<-h];exact hb))];exact e
  .refine hBa _ _ (hBa _ _ hB λb o hb e=>hm.heap b o (λz=>hb (hsub b z)) e) λb o hb e=>?_;rw[hsb.2 b (λh:b=S=>hb (by rw[h];exact qf))];exact e
  .refine hR s'' o'' (Zl W.gtrans ((hm.mono hsub).then_heap htk λb o hb e=>?_) hm'') hS'' hJ'';rw[hsb.2 b (λh:b=S=>hb (by rw[h];exact qf))];exact e
end
set_option maxRecDepth 100000 in
set_option maxHeartbeats 3200000 in
def Ke (hh:A.handled=B) (hl:s.heap.IsList l items) (ag:J->bo->Prop)
  (hJ0:∀led:aR,ag 0 {cls:=.type "set",dict:=B,data:=.set #[] 0 (.fresh 0 0 led)})
  (hadd:∀A':dh,A'.units<=A.units+16->GB prog w A' s.heap.objs.size (λh=>∀b o,b<s.heap.objs.size->s.heap.get? b=U o->h.get? b=U o) (λi v=>items[i]?=U v) items.size ag)
  (h:∀(h':Heap) (tk:J) (o:bo),h'.get? s.heap.objs.size=U o->ag items.size o->
   (∀b o,b<s.heap.objs.size->s.heap.get? b=U o->h'.get? b=U o)->Q (.ref s.heap.objs.size) {s with heap:=h',toks:=tk}) :
  aM (aL prog w) A (call (.type "set") [.ref l]) Q E s:=by
 obtain⟨c,tl,hmro⟩:=oE.mro;have hmade:=oE.made;have hsub:=oE.sub;refine rD (codeAny_of_tree ?_);refine qE #[Zm _ (by nofun),uK F.entry_type_call ?_];rw[Around.under_plain (weight_type_call_type "set" [.ref l] []) ()];have h1:=oE.notType;have h2:=oE.canCreate;have hct:=F.typeCall_set_1 (.ref l)
 repeat (any_goals (first|assumption|wp_step))
 refine rE (code_set_new_1 (.ref l) (E:=E) (Q₁:=λobj dl=>∃led:aR,obj=.ref s.heap.objs.size/\dl={s with heap:=s.heap.push {cls:=.type "set",dict:=B,data:=.set #[] 0 (.fresh 0 0 led)} }) λled=>#[led,rfl,rfl]) λr dl hr=>?_;cases r with
 |error e=>exact hr
 |ok fl=>
  cases fl with
  |ret obj=>
   obtain⟨led,rfl,rfl⟩:=hr;have hS:(s.heap.push {cls:=.type "set",dict:=B,data:=.set #[] 0 (.fresh 0 0 led)}).get? s.heap.objs.size=U {cls:=.type "set",dict:=B,data:=.set #[] 0 (.fresh 0 0 led)}:=qJ _ ();have hT:Dr {s with heap:=s.heap.push {cls:=.type "set",dict:=B,data:=.set #[] 0 (.fresh 0 0 led)} } (.ref s.heap.objs.size) "set":=#[_,hS,rfl];have hli:=oE.init.lookup;have hbi:=oE.init.bind (.ref s.heap.objs.size)
   repeat (any_goals (first|assumption|wp_step))
   refine rE (Ds (R:=wants (λr s₂=>r=.none/\∃h' tk o,s₂={s with heap:=h',toks:=tk}/\h'.get? s.heap.objs.size=U o/\ag items.size o /\
     (∀b o,b<s.heap.objs.size->s.heap.get? b=U o->h'.get? b=U o)) E) oE.init.plain F.entry_set_init (check_set_init_1 hT ?_)) λr₂ s₂ hr₂=>?_
   .obtain⟨ol,hol,hcl,nl,hdl⟩:=hl;obtain⟨ocls,odict,odata,oslots⟩:=ol;simp only at hcl hdl;subst hcl;subst hdl;have hol':(s.heap.push {cls:=.type "set",dict:=B,data:=.set #[] 0 (.fresh 0 0 led)}).get? l=U {cls:=.type "list",dict:=odict,data:=.seq items nl,slots:=oslots}:=qv _ hol;have hsls:=F.sub_list_set;have hslf:=F.sub_list_frozenset;have hne:(rf "list"==rf "dict")=ao:=by decide
    have hl1:(s.heap.push {cls:=.type "set",dict:=B,data:=.set #[] 0 (.fresh 0 0 led)}).IsList l items:=#[_,hol',(),nl,()];unfold Builtin.«set.__init__» noKeywords xaP;generalize hPI:xH=PI
    wp_walk
    subst hPI;refine xS hl1 ?_;refine qA (wpAny_runValue ?_);have hlS:l<s.heap.objs.size:=qw hol;have hh3:A.in1.in1.in1.handled=B:=by simp[hh]
    have hneI:l≠(s.heap.push {cls:=.type "set",dict:=B,data:=.set #[] 0 (.fresh 0 0 led)}).objs.size:=by rw[i7];exact qG (M4 hlS)
    have hSf:s.heap.objs.size∉[(s.heap.push {cls:=.type "set",dict:=B,data:=.set #[] 0 (.fresh 0 0 led)}).objs.size,l]:=by rw[i7];simp only[qO,cm,qM,or_false,oF];exact#[qG (ut _),xF hlS]
    have hget:((s.heap.push {cls:=.type "set",dict:=B,data:=.set #[] 0 (.fresh 0 0 led)}).push {cls:=.type "list_iterator",data:=.fields [.ref l,.int 0 0].toArray}).get? s.heap.objs.size
       = U {cls:=.type "set",dict:=B,data:=.set #[] 0 (.fresh 0 0 led)}:=qv _ hS
    refine Rw ((MO hh3 _ l hneI items).toS) s.heap.objs.size
     hSf (λh=>∀b o,b<s.heap.objs.size->s.heap.get? b=U o->h.get? b=U o) (λh h' hB hk b o hb e=>hk b o ?_ (hB b o hb e)) ag (hadd _ (by show A.units+3<=_;lia)) (items.size-0) 0 _ _ .(b) (eA _)
     #[#[_,qJ _ (),(),()],(hl1.push _)] hget (hJ0 led) (λb o hb e=>qv _ (qv _ e)) ?hR
    .have hb1:b≠s.heap.objs.size:=qG hb;have hb2:b≠(s.heap.push {cls:=.type "set",dict:=B,data:=.set #[] 0 (.fresh 0 0 led)}).objs.size:=by rw[i7];exact qG (M4 hb)
     simp only[qO,cm,qM,or_false,oF];exact#[hb1,hb2]
    case hR=>
     intro s' o' hm hS' hJ';obtain⟨h',g',d',tk',os'⟩:=s';have eg:g'=s.gens:=hm.gens;have ed:d'=s.drawn:=hm.drawn;have eo:os'=s.os:=hm.os;subst eg;subst ed;subst eo;refine qE ?_;refine qE #[(),h',tk',o',(),hS',hJ',λb o hb e=>?_];have hb1:b≠s.heap.objs.size:=qG hb;have hb2:b≠(s.heap.push {cls:=.type "set",dict:=B,data:=.set #[] 0 (.fresh 0 0 led)}).objs.size:=by rw[i7];exact qG (M4 hb)
     exact hm.heap b o (by simp only[qO,cm,qM,or_false,oF];exact#[hb1,hb2]) (qv _ (qv _ e))
   .cases r₂ with
    |error e=>exact hr₂
    |ok fl₂ =>
     cases fl₂ with
     |ret r=>
      obtain⟨rfl,h',tk,o',rfl,hS',hJ',hk'⟩:=hr₂
      repeat (any_goals (first|assumption|wp_step))
      exact h _ _ _ hS' hJ' hk'
     |_=>exact hr₂.elim
  |_=>exact hr.elim
noncomputable def dd [eS κ] (l:Z κ):Z κ:=l.foldl (λa k=>if k∈a then a else a++[k]) []
def zY [eS κ] (l:Z κ) (k:κ):dd (l++[k])=if k∈dd l then dd l else dd l++[k]:=by unfold dd;rw[xW];rfl
def jU [eS κ] (l:Z κ):(dd l).length<=l.length:=by
 have key:∀(l a:Z κ),(l.foldl (λa k=>if k∈a then a else a++[k]) a).length<=a.length+l.length:=by
  intro l
  induction l with
  |nil=>intro a;exact qx _
  |cons k r ih=>
   intro a;rw[kj];refine qP (ih _) ?_;split
   .simp only[qh];lia
   .simp only[qk,qh,qm];lia
 have:=key l [];simpa[dd] using this
section
variable [eS κ] {knd:KeyKind prog w κ}
def V0 {ks:Z κ} {Q:aR->aF->Prop} (hk:IsTupleKey knd s.heap ks a) (hsc:∀v k,knd.is k v=ah->v.scannable=ah) (h:∀b,Q b s):aM (aL prog w) A (hashByValue 8 (.ref a)) Q E s:=by
 have hT:=hk.typeIs;obtain⟨o,items,n,ho,_,hd,hi⟩:=hk;refine qA (YQ hT F.slot_tuple_hash.lookup ?_);refine qA (mU ho hd ?_);refine qA ?_;show aM _ _ (forIn items _ _) _ _ s;rw[<-Zn];have hall:∀v∈items.toList,v.scannable=ah:=by
  have:∀{x:Z κ} {vs:Z au},ItemsAre knd x vs->∀v∈vs,v.scannable=ah:=by
   intro x vs q
   induction q with
   |nil=>intro v hv;cases hv
   |cons h1 _ ih=>
    intro v hv;rcases eC.mp hv with rfl|hv
    .exact hsc _ _ h1
    .exact ih v hv
  exact this hi
 refine M5 _ (λaZ r s'=>s'=s/\∀v∈aZ,v.scannable=ah) _ ?_ ?_ _ _ #[(),hall]
 .rintro v aZ r s' ⟨rfl,hv⟩;rw[hashByValue_scannable _ (hv v qf)];refine qA (qE ?_);cases hp:plainKind v with
  |true=>
   simp only[iC,qr,dE];exact qE #[(),λu hu'=>hv u (qg _ hu')]
  |false=>
   simp only[rW,dc]
   first|exact qE (qE (h _))|exact qE (h _)|exact qA (qE (qE (qE (h _))))
 .rintro⟨r1,r2⟩ s' ⟨rfl,_⟩
  first|exact qE (h _)|(cases r1<;>exact qE (h _))
def KH {ks:Z κ} {Q:aR->aF->Prop} (hk:IsTupleKey knd s.heap ks a) (h:Q ao s):aM (aL prog w) A (M6 8 (.ref a)) Q E s:=by
 have hT:=hk.typeIs;obtain⟨o,items,n,ho,_,hd,hi⟩:=hk;unfold M6;refine qA (xN hT ?_);dsimp only;rw[qZ .(a)];refine qA (qE ?_);simp only[iC,qr,dE];refine qA (mU ho hd ?_);refine qA ?_;rw[<-Zn];refine M5 _ (λaZ r s'=>r.1=B/\s'=s/\∀v∈aZ,Zo v=ah) _ ?_ ?_ _ _ #[(),(),hi.byValue]
 .rintro v aZ r s' ⟨hr,rfl,hv⟩;have e:M6 7 v=pure ao:=by
   have:=hv v qf;cases v with
   |ref b=>simp[Zo] at this
   |_=>rfl
  rw[e];refine qA (qE ?_);simp only[qr,dE];exact qE #[(),(),λu hu'=>hv u (qg _ hu')]
 .rintro⟨r1,r2⟩ s' ⟨hr,rfl,_⟩;simp only at hr;subst hr;exact qE h
def UQ {ks:Z κ} {Q:aR->aF->Prop} (hk:IsTupleKey knd s.heap ks a) (st:Z au) (hst:∀y∈st,∃k b,y=.ref b/\IsTupleKey knd s.heap k b) (h:Q ao s):aM (aL prog w) A (searchCouldBeSeen (.ref a) st) Q E s:=by
 refine qA ?_;refine M5 _ (λaZ r s'=>r.1=B/\s'=s/\∀y∈aZ,∃k b,y=.ref b/\IsTupleKey knd s.heap k b) _ ?_ ?_ _ _ #[(),(),hst]
 .rintro v aZ r s' ⟨hr,rfl,hv⟩;obtain⟨k,b,rfl,hb⟩:=hv v qf;dsimp only;split
  .exact qE #[(),(),λu hu'=>hv u (qg _ hu')]
  .refine qA (Zp hk ?_);simp only[iC,qr,dE];refine qA (Zp hb ?_);simp only[iC,qr,dE];refine qA (KH hk ?_);simp only[qr,dE];refine qA (KH hb ?_);simp only[qr,dE];exact qE #[(),(),λu hu'=>hv u (qg _ hu')]
 .rintro⟨r1,r2⟩ s' ⟨hr,rfl,_⟩;simp only at hr;subst hr;exact qE h
end
def ET {t:mQ} {es:cg (aj×au)} (T:Tb t es) {h:aj} {p:Dm} {r:ak SetTable.Met} (hp:t.probe hashAt h p=r) (hpp:p=gQ (it t.mask h n)) (hn:n<=n0) (hn0:n0<10*(t.mask+15))
  (hf:ag t.mask h n0∉t.place.toList) (ho:∀m,m<n0->ag t.mask h m∈t.place.toList) :
  (∃n' i,n<=n'/\n'<n0/\t.place[i]?=U (ag t.mask h n')/\hashAt i=h/\(∀m i,n<=m->m<n'->t.place[i]?=U (ag t.mask h m)->hashAt i≠h)/\r=U (.candidate (ag t.mask h n') i (gQ (it t.mask h (n'+1))))) \/
  ((∀m i,n<=m->m<n0->t.place[i]?=U (ag t.mask h m)->hashAt i≠h)/\r=U (.empty (ag t.mask h n0) B)):=by
 subst hpp;subst hp;exact T.probe_go hashAt h hf ho (10*oC t.mask) n hn (by unfold oC;lia)
def R1 {t:mQ} {es:cg (aj×au)} (T:Tb t es) {h:aj} {p:Dm} (hp:∀met,t.probe hashAt h p=U met->False) (hpp:p=gQ (it t.mask h n)) (hn:n<=n0) (hn0:n0<10*(t.mask+15))
  (hf:ag t.mask h n0∉t.place.toList) (ho:∀m,m<n0->ag t.mask h m∈t.place.toList):False:=by
 rcases ET T () hpp hn hn0 hf ho with⟨n',i,_,_,_,_,_,g6⟩|⟨_,g2⟩
 .exact hp _ g6
 .exact hp _ g2
section
variable [eS κ] {knd:KeyKind prog w κ}
def tF (knd:KeyKind prog w κ) (h:Heap) (es:cg (aj×au)):Prop:=∀(i:J) e,es[i]?=U e->∃k b,e=(bA knd k,.ref b)/\IsTupleKey knd h k b
def Mk.odd (h:Mk M):(M%2==0)=ao:=by rcases h with rfl|rfl|rfl|rfl<;>rfl
def T3 {S:ar} {o:bo} {es:cg (aj×au)} {t:mQ} {k:Z κ} {Q:SetFound->aF->Prop} (hu:A.units<c5) (ho:s.heap.get? S=U o) (hd:o.data=.set es ep t) (T:Tb t es) (hM:Mk t.mask)
  (hk:IsTupleKey knd s.heap k a) (he:tF knd s.heap es) (hf:ag t.mask (bA knd k) n0∉t.place.toList) (hocc:∀m,m<n0->ag t.mask (bA knd k) m∈t.place.toList) (hn0:n0<10*(t.mask+15))
  (hyes:∀(i:J) (b:ar),es[i]?=U (bA knd k,.ref b)->IsTupleKey knd s.heap k b->Q (.there B) s)
  (hno:(∀(i:J) (b:ar),es[i]?=U (bA knd k,.ref b)->¬IsTupleKey knd s.heap k b)->Q (.free (ag t.mask (bA knd k) n0) ao) s) :
  ∀(fuel n:J) (stand:ak Dm),n0-n<fuel->n<=n0->(stand.getD (t.probeStart (bA knd k))=gQ (it t.mask (bA knd k) n))->
   (∀(m i:J) (b:ar),m<n->t.place[i]?=U (ag t.mask (bA knd k) m)->es[i]?=U (bA knd k,.ref b)->¬IsTupleKey knd s.heap k b)->
   aM (aL prog w) A (M7 S (.ref a) (bA knd k) ah fuel stand) Q E s:=by
 intro fuel
 induction fuel with
 |zero=>intro n stand h1;lia
 |succ fuel ih=>
  intro n stand h1 h2 hs hw;refine qA (xX ho hd T.fits ?_);dsimp only;have hg:t.gaveWay=ao:=hM.odd;rw[hg];simp only[qr,dE];split
  .rename_i met hp;rcases ET T hp hs h2 hn0 hf hocc with⟨n',i,g1,g2,g3,g4,g5,g6⟩|⟨g1,g2⟩
   .cases g6;have hi:i<es.size:=by have:=(ig.mp g3).1;rw[T.sz] at this;exact this
    have hei:es[i]?=U es[i]:=by simp[hi]
    obtain⟨k',b,e1,hb⟩:=he i _ hei;rw[e1] at hei;have hh:bA knd k'=bA knd k:=by have g4':((es[i]?).map (·.1)).getD 0=bA knd k:=g4;rw[hei] at g4';exact g4'
    rw[hh] at hei;have aZ:aM (aL prog w) A (do
      let U (_,y):=es[i]? | unsupported "internal:set-entry"
      let equal ←i4 [y] (eqBool y (.ref a))
      let (es',_,t') ←setState S
      if ah && equal then return .there B
      let U same:=t'.sameMemory t.moves t.mask|unsupported "set.changed-during-lookup:is-the-new-block-at-the-old-address"
      let still ←match (if same then t'.slot (ag t.mask (bA knd k) n') else .empty) with
       |.live i'=>match es'[i']? with
        |some (_,y')=>do pure (if ←isSame y' y then U i' else B)
        |none=>pure B
       |_=>pure B
      match still with
      |none=>rule "set.search.anew";M7 S (.ref a) (bA knd k) ah fuel B
      |some i'=>if equal then return .there (U i') else M7 S (.ref a) (bA knd k) ah fuel (U (gQ (it t.mask (bA knd k) (n'+1))))) Q E s:=by
     rw[hei];dsimp only;refine qA (qW (wpAny_eqBool_tuple hu hb hk ?_));refine qA (xX ho hd T.fits ?_);dsimp only;by_cases hkk:k'=k
     .subst hkk;rw[qV ()];simp only[xY,dc];exact qE (hyes i b hei hb)
     .rw[qQ hkk];simp only[xY,qr,dE];have hsm:t.sameMemory t.moves t.mask=U ah:=by unfold SetTable.sameMemory;simp
      rw[hsm];dsimp only;simp only[dc];rw[T.live g3];dsimp only;rw[hei];dsimp only;refine qA (wpAny_isSame_ref_self ?_);simp only[dc];refine qA (qE ?_);dsimp only;refine ih (n'+1) _ .(b) .(b) () ?_;intro m i2 b2 hm hp2 he2;by_cases h3:m<n
      .exact hw m i2 b2 h3 hp2 he2
      .by_cases h4:m=n'
       .subst h4;have ei:i2=i:=by have q1:=T.live hp2;have q2:=T.live g3;rw[q1] at q2;injection q2
        subst ei;rw[hei] at he2;cases he2;exactλz=>hkk (hb.inj z)
       .exfalso;refine g5 m i2 .(b) .(b) hp2 ?_;show((es[i2]?).map (·.1)).getD 0=_;rw[he2];rfl
    cases hled:t.led with
    |true=>
     simp only[iC,qr,dE];exact aZ
    |false=>
     simp only[rW,dc];refine qA (UQ hk _ (λy hy=>?_) ?_)
     .obtain⟨e,he1,rfl⟩:=dH.mp hy;have he2:e∈es.toList:=by have:=Ml.mp he1;rw[Array.mem_filter] at this;exact Ml.mpr this.1
      obtain⟨j,hj,ej⟩:=MM.mp he2;obtain⟨k2,b2,q1,q2⟩:=he j e (by rw[<-qL,uL hj,ej]);exact#[k2,b2,by rw[q1],q2]
     .simp only[qr,dE];exact aZ
   .cases g2;dsimp only;refine qE (hno λi b hei hb=>?_);have hi:i<es.size:=(ig.mp hei).1;have hpi:t.place[i]?=U t.place[i]! := by
     have:i<t.place.size:=by rw[T.sz];exact hi
     simp[this]
    obtain⟨m,q1,q2⟩:=T.rc i _ _ _ hpi hei;have hmem:ag t.mask (bA knd k) m∈t.place.toList:=by rw[q1];rw[<-qL] at hpi;exact qS hpi
    have hm:m<n0:=by
     rcases Y7 m n0 with z|z|z
     .exact z
     .subst z;exact ba hmem hf
     .exact ba (q2 n0 z) hf
    by_cases h3:m<n
    .exact hw m i b h3 (by rw[q1];exact hpi) hei hb
    .refine g1 m i .(b) hm (by rw[q1];exact hpi) ?_;show((es[i]?).map (·.1)).getD 0=_;rw[hei];rfl
  .rename_i hp;exact(R1 T hp hs h2 hn0 hf hocc).elim
structure TS (knd:KeyKind prog w κ) (h:Heap) (ks:Z (Z κ)) (o:bo):Prop where
 cls:o.ExactSet
 ex:∃es ep t,o.data=.set es ep t/\Tb t es/\Mk t.mask/\tF knd h es/\es.size=(dd ks).length/\(∀k∈dd ks,∃(i:J) (b:ar),es[i]?=U (bA knd k,.ref b)/\IsTupleKey knd h k b)/\∀(i:J) (k:Z κ) (b:ar),es[i]?=U (bA knd k,.ref b)->IsTupleKey knd h k b->k∈dd ks
def IsTupleKey.mono {k:Z κ} (x:IsTupleKey knd h k a) (q:∀o,h.get? a=U o->h'.get? a=U o):IsTupleKey knd h' k a:=by obtain⟨o,items,n,h1,h2⟩:=x;exact#[o,items,n,q o h1,h2]
def nJ {es:cg (aj×au)} {e:aj×au} :e∈es.toList↔∃i:J,es[i]?=U e:=by
 constructor
 .intro h;obtain⟨i,hi,q⟩:=MM.mp h;exact#[i,by rw[<-qL,uL hi,q]]
 .rintro⟨i,h⟩;rw[<-qL] at h;exact qS h
def RN {h0:Heap} {ks:Z (Z κ)} {k:Z κ} {es:cg (aj×au)} (hk:IsTupleKey knd h0 k a) (hE:tF knd h0 es) (hsz:es.size=(dd ks).length) (hin:∀k∈dd ks,∃(i:J) (b:ar),es[i]?=U (bA knd k,.ref b)/\IsTupleKey knd h0 k b)
  (hout:∀(i:J) (k:Z κ) (b:ar),es[i]?=U (bA knd k,.ref b)->IsTupleKey knd h0 k b->k∈dd ks) (hnew:k∉dd ks) (mem:∀e,e∈es'.toList↔e=(bA knd k,.ref a)\/e∈es.toList) (size:es'.size=es.size+1) :
  tF knd h0 es'/\es'.size=(dd (ks++[k])).length/\(∀k'∈dd (ks++[k]),∃(i:J) (b:ar),es'[i]?=U (bA knd k',.ref b)/\IsTupleKey knd h0 k' b)/\∀(i:J) (k':Z κ) (b:ar),es'[i]?=U (bA knd k',.ref b)->IsTupleKey knd h0 k' b->k'∈dd (ks++[k]):=by
 rw[zY,xa hnew];refine#[λi e he=>?_,by rw[size,hsz,qk,qY],λk' hk'=>?_,λi k' b he hb=>?_]
 .rcases(mem e).mp (nJ.mpr #[i,he]) with rfl|q
  .exact#[k,a,(),hk]
  .obtain⟨j,q⟩:=nJ.mp q;exact hE j e q
 .rcases fW.mp hk' with q|q
  .obtain⟨i,b,q1,q2⟩:=hin k' q;obtain⟨j,q3⟩:=nJ.mp ((mem _).mpr (.inr (nJ.mpr #[i,q1])));exact#[j,b,q3,q2]
  .rw[cm.mp q];obtain⟨j,q3⟩:=nJ.mp ((mem _).mpr (.inl ()));exact#[j,a,q3,hk]
 .rcases(mem _).mp (nJ.mpr #[i,he]) with q|q
  .have e:b=a:=by have:=(Zq q).2;injection this
   subst e;exact fW.mpr (.inr (cm.mpr (hb.inj hk)))
  .obtain⟨j,q⟩:=nJ.mp q;exact fW.mpr (.inl (hout j k' b q hb))
def GR {S:ar} {o:bo} {es:cg (aj×au)} {t t':mQ} (ho:h.get? S=U o) (hd:o.data=.set es ep t):(h.update S (M8 es' t')).get? S=U {o with data:=.set es' (ep+1) t'}:=by
 have q:=Mz (M8 es' t') ho (by rw[putSet_of es' t' hd];rfl)
 rwa [putSet_of es' t' hd] at q
set_option maxHeartbeats 1000000 in
def N7 {S:ar} {o:bo} {h0:Heap} {ks:Z (Z κ)} {k:Z κ} {Q:aR->aF->Prop} (hsc:∀v k,knd.is k v=ah->v.scannable=ah) (hu:A.units<c5) (ho:s.heap.get? S=U o) (T:TS knd h0 ks o) (hk:IsTupleKey knd h0 k a)
  (hB:∀b o,h0.get? b=U o->s.heap.get? b=U o) (hlen:ks.length<=300)
  (h:∀b h' tk o',s.toks<=tk->iY S s.heap h'->h'.get? S=U o'->TS knd h0 (ks++[k]) o'->Q b {s with heap:=h',toks:=tk}):aM (aL prog w) A (setAdd S (.ref a)) Q E s:=by
 obtain⟨hc,es,ep,t,hd,TB,hM,hE,hsz,hin,hout⟩:=T;have up:∀{k:Z κ} {b:ar},IsTupleKey knd h0 k b->IsTupleKey knd s.heap k b:=λq=>IsTupleKey.mono q λo e=>hB _ _ e;have down:∀{k k':Z κ} {b:ar},IsTupleKey knd h0 k' b->IsTupleKey knd s.heap k b->k=k':=λq1 q2=>q2.inj (up q1);have hE':tF knd s.heap es:=λi e he=>by obtain⟨k,b,q1,q2⟩:=hE i e he;exact#[k,b,q1,up q2]
 have hddl:=jU ks;obtain⟨n0,f1,f2,f3⟩:=TB.first (bA knd k);refine qW (qA (wpAny_pyHash_tuple hu (up hk) ?_));refine qW (qA (xX ho hd TB.fits ?_));dsimp only;rw[show byScan (.ref a) es=ao from ()];simp only[qr,dE];refine qA (T3 (s:={s with toks:=s.toks+(k.length+1)}) hu ho hd TB hM (up hk) hE' f2 f3 f1 (λi b hei hb=>?_) (λhall=>?_) 100000 0 B ?_ (eA _) rfl (λm i b hm=>by lia))
 ·
  dsimp only;obtain⟨k',b',q1,q2⟩:=hE i _ hei;have:b'=b:=by have:=(Zq q1).2;injection this with e;exact e.symm
  subst this;have ek:=down q2 hb;subst ek;have hmem:=hout i k _ hei q2;refine qE (h ao s.heap _ o (by show s.toks<=s.toks+(k.length+1);lia) (YX S s.heap) ho #[hc,es,ep,t,hd,TB,hM,hE,?_]);rw[zY,qZ hmem];exact#[hsz,hin,hout]
 ·
  dsimp only;have hnew:k∉dd ks:=λhm=>by obtain⟨i,b,q1,q2⟩:=hin k hm;exact hall i b q1 (up q2)
  have hpl:cO t.place (ag t.mask (bA knd k) n0)<=es.size:=by have:=(Bo t.place (ag t.mask (bA knd k) n0) TB.ri).1;rw[TB.sz] at this;exact this
  have hmaskle:t.mask<=511:=by rcases hM with e|e|e|e<;>lia
  have hmem:∀e,e∈(dG es (cO t.place (ag t.mask (bA knd k) n0)) (bA knd k,cJ a)).toList↔e=(bA knd k,cJ a)\/e∈es.toList:=λe=>by rw[uh _ _ _ hpl];exact Cj _ _ _ _
  have hsize:(dG es (cO t.place (ag t.mask (bA knd k) n0)) (bA knd k,cJ a)).size=es.size+1:=by have:=cQ fX (uh es _ (bA knd k,cJ a) hpl);simp only[hG,qk,qh,qH,ee] at this;lia
  have hpsz:(dG t.place (cO t.place (ag t.mask (bA knd k) n0)) (ag t.mask (bA knd k) n0)).size=es.size+1:=by have:=cQ fX (uh t.place _ (ag t.mask (bA knd k) n0) (by rw[TB.sz];exact hpl));have h3:=TB.sz;simp only[hG,qk,qh,qH,ee] at this;lia
  refine qA (xX (s:={s with toks:=s.toks+(k.length+1)}) ho hd TB.fits ?_);dsimp only;have fin:∀(es':cg (aj×au)) (t':mQ) (h':Heap) (o':bo),Tb t' es'->Mk t'.mask->(∀e,e∈es'.toList↔e=(bA knd k,cJ a)\/e∈es.toList)->es'.size=es.size+1->iY S s.heap h'->h'.get? S=U o'->o'.ExactSet->(∃ep',o'.data=.set es' ep' t')->Q ah {s with heap:=h',toks:=s.toks+(k.length+1)}:=λes' t' h' o' q1 q2 q3 q4 q5 q6 q7 q8=>by obtain⟨ep',q8⟩:=q8;obtain⟨w1,w2,w3,w4⟩:=RN hk hE hsz hin hout hnew q3 q4;exact h ah h' _ o' .(b) q5 q6 #[q7,es',ep',t',q8,q1,q2,w1,w2,w3,w4]
  have aZ:∀pl:aR,aM (aL prog w) A (do
    storeSet S (dG es (t.put (ag t.mask (bA knd k) n0)).2 (bA knd k,cJ a)) { (t.put (ag t.mask (bA knd k) n0)).1 with plain:=pl}
    if (!ao && xZ { (t.put (ag t.mask (bA knd k) n0)).1 with plain:=pl})=ah then do
     setRelay S (Dp (es.size+1))
     pure ah
    else pure ah) Q E {s with toks:=s.toks+(k.length+1)}:=λpl=>by
   refine qA (Zr (s:={s with toks:=s.toks+(k.length+1)}) ho hd ?_ (by show(dG es (cO t.place (ag t.mask (bA knd k) n0)) (bA knd k,cJ a)).size<=aH;rw[hsize,gL];lia));have hg1:=GR (es':=dG es (t.put (ag t.mask (bA knd k) n0)).2 (bA knd k,cJ a)) (t':={ (t.put (ag t.mask (bA knd k) n0)).1 with plain:=pl}) ho hd;have hsb1:=Dt s.heap S (M8 (dG es (t.put (ag t.mask (bA knd k) n0)).2 (bA knd k,cJ a)) { (t.put (ag t.mask (bA knd k) n0)).1 with plain:=pl});have hdum:(t.put (ag t.mask (bA knd k) n0)).1.dummies=#[]:=by show(if MU t.dummies _ then _ else t.dummies)=#[];rw[TB.dm];rfl
   have hfill:Y9 { (t.put (ag t.mask (bA knd k) n0)).1 with plain:=pl}=es.size+1:=by show(dG t.place _ _).size+(t.put (ag t.mask (bA knd k) n0)).1.dummies.size=_;rw[hdum];exact hpsz
   by_cases few:(es.size+1)*5<t.mask*3
   .have hfull:xZ { (t.put (ag t.mask (bA knd k) n0)).1 with plain:=pl}=ao:=by unfold xZ;rw[hfill];exact qQ (by show ¬((es.size+1)*5 ≥ t.mask*3);lia)
    rw[hfull];simp only[rW,YL,qr,dE];refine qE (fin _ _ _ _ (TB.put (x:=.ref a) f2 f3 few pl) hM hmem hsize hsb1 hg1 hc #[_,()])
   .have hfull:xZ { (t.put (ag t.mask (bA knd k) n0)).1 with plain:=pl}=ah:=by unfold xZ;rw[hfill];exact qV (by show((es.size+1)*5 ≥ t.mask*3);lia)
    rw[hfull];simp only[rW,mV,dc];obtain⟨m1,m2,m3⟩:=hM.grow TB.few few .(b);have hes1:(dG es (t.put (ag t.mask (bA knd k) n0)).2 (bA knd k,cJ a)).size=es.size+1:=hsize;obtain⟨t',order,r1,r2,r3,r4,r5,r6⟩:=Full.relaid (t:={ (t.put (ag t.mask (bA knd k) n0)).1 with plain:=pl}) (es:=dG es (t.put (ag t.mask (bA knd k) n0)).2 (bA knd k,cJ a)) m1.full (by rw[hes1];exact m2);unfold setRelay;have hfits:MV { (t.put (ag t.mask (bA knd k) n0)).1 with plain:=pl} (dG es (t.put (ag t.mask (bA knd k) n0)).2 (bA knd k,cJ a)).size=ah:=by unfold MV;rw[hfill,hes1,eM];have:=TB.few;exact#[by rw[i6];exact hpsz,qV (by show es.size+1<=t.mask;lia)]
    refine qA ?_;refine qA (xX (s:={s with heap:=_,toks:=s.toks+(k.length+1)}) hg1 rfl hfits ?_);dsimp only;rw[xa (by rw[gL];lia),r1];refine qA ?_;show aM _ _ (if ((order.filterMap ((dG es (t.put (ag t.mask (bA knd k) n0)).2 (bA knd k,cJ a))[·]?)).size != (dG es (t.put (ag t.mask (bA knd k) n0)).2 (bA knd k,cJ a)).size)=ah then _ else _) _ _ _;rw[xa (by rw[r2];simp)];refine qE ?_;dsimp only;refine Zr (s:={s with heap:=_,toks:=s.toks+(k.length+1)}) hg1 rfl ?_ (by rw[r2,hes1,gL];lia);refine qE (fin _ t' _ _ r3 (by rw[r5];exact m1) (λe=>(r4 e).trans (hmem e)) (by rw[r2,hes1]) (hsb1.trans (Dt _ S _)) (GR hg1 ()) hc #[_,rfl])
  split
  .refine qA (V0 (s:={s with toks:=s.toks+(k.length+1)}) (up hk) hsc λbv=>?_);cases bv
   .exact aZ ao
   .exact aZ _
  .refine qA (qE ?_);exact aZ _
 .show n0-0<100000;have:t.mask<=511:=by rcases hM with e|e|e|e<;>lia
  lia
end
end ST
section
open ST
instance (priority:=high) keyBEq:BEq Key:=Zs
instance (priority:=high) keyLaw:LawfulBEq Key:=inferInstanceAs (@LawfulBEq Key Zs)
def DV (n:J) (o:bo):Prop:=o.ExactSet/\∃es ep t,o.data=.set es ep t/\t.fits es.size=ah/\es.size=n
def na (p:ar) (n:J):HO:=.ext λh=>∃o,h.get? p=U o/\DV n o
def KY (v:au) (k:Key) (h:(dJ P w).is k v=ah):v.scannable=ah:=by rcases jN h with⟨i,t,rfl,rfl⟩|⟨x,t,rfl,rfl⟩<;>rfl
def NR:Z V->Hp->VK->Prop:=λxs H Q=>∃a vs,xs=[.ref a]/\H a=U (.lst vs)/\vs.length<=300 /\
 ((∃ks:Z Key,vs=ks.map kV/\∀p,H p=B->Q (.ref p) (upd H p (na p (dd ks).length))) \/
 (∃ts:Z (Z Key),vs.length=ts.length/\(∀(i:J) t,ts[i]?=U t->∃b,vs[i]?=U (.ref b)/\H b=U (.tup (t.map kV)))/\∀p,H p=B->Q (.ref p) (upd H p (na p (dd ts).length))))
def OB (hc:X.calm=ah) (hu:X.A.units+66<c5):fO X (.type "set") NR:=by
 intro XL s L H xs us Q I r h;obtain⟨a,vs,rfl,ha,hl,h⟩:=h;obtain⟨u,rfl,ru⟩:=fR r;cases ru;obtain⟨its,rv,pl,hz⟩:=I.list (.inl (.inl ha));have hlen:=rv.length;have hsz:its.toArray.size=vs.length:=by rw[qF,hlen]
 have fin:∀(n:J) (h':Heap) (tk:J) (o:bo),h'.get? s.heap.objs.size=U o->DV n o->(∀b o,b<s.heap.objs.size->s.heap.get? b=U o->h'.get? b=U o)->
   (∀p,H p=B->Q (.ref p) (upd H p (na p n)))->EP X XL L Q (.ref s.heap.objs.size) {s with heap:=h',toks:=tk}:=λn h' tk o ho hn hk q=>by
  refine#[.ref s.heap.objs.size,_,I.laid (λb u e=>hk b u (qw e) e) (qx _) ?_,(),q _ I.fresh];refine#[#[o,ho,hn],#[o,ho],λh1 h2 hp hk2=>?_];obtain⟨o1,q1,q2⟩:=hp;exact#[o1,hk2 o1 q1,q2]
 rcases h with⟨ks,rfl,q⟩|⟨ts,ht,hts,q⟩
 ·
  have hkl:ks.length=its.length:=by rw[<-hlen,qe]
  refine Ke (I.ok.hd hc) pl.isList (λi o=>o.SetObjOf (dJ X.prog X.w) (λk=>decide (k∈dd (ks.take i))) (dd (ks.take i)).length) (λled=>?_) (λA' hA' i v sh o Q' E' hi hv ho hJ hB hQ=>?_) λh' tk o ho hJ hk=>?_
  .have:=setObjOf_fresh (knd:=dJ X.prog X.w) led;simpa[dd] using this
  .have hi':i<ks.length:=by rw[qF] at hi;lia
   obtain⟨u2,hu2,ru2⟩:=rv.get (i:=i) (x:=kV ks[i]) (by simp[hi']);have ev:v=u2:=by
    have hv':its[i]?=U v:=by simpa using hv
    rw[hu2] at hv';exact(qK hv').symm
   subst ev;have hkey:=nr (P:=X.prog) (w:=X.w) ru2;have hle:(dd (ks.take i)).length<=300:=by have h1:=jU (ks.take i);rw[qH] at h1;rw[qe] at hl;lia
   refine qW (qA ((dJ X.prog X.w).pyHash hkey ?_));refine wpAny_setAddHashed_of (knd:=dJ X.prog X.w) (s:={sh with toks:=sh.toks+1}) hkey (KY _ _ hkey) (hJ.setOf ho (by unfold M9;lia)) (by unfold M9;lia) λh' hsb hS2=>?_;obtain⟨o',ho',hso⟩:=hS2.objOf;refine hQ _ h' _ o' (uv _) hsb ho' ?_;have htk:ks.take (i+1)=ks.take i++[ks[i]]:=by rw[Du,uL hi'];rfl
   show Obj.SetObjOf (dJ X.prog X.w) o' (λk=>decide (k∈dd (Dn (i+1) ks))) (dd (Dn (i+1) ks)).length;rw[htk,zY];by_cases hm:ks[i]∈dd (ks.take i)
   .rw[qZ hm];rw[qZ (by simpa using hm)] at hso;have e:(λk'=>decide (k'∈dd (ks.take i)) || decide (k'=ks[i]))=λk'=>decide (k'∈dd (ks.take i)):=by
     funext k'
     by_cases hk':k'=ks[i]
     .subst hk';simp[hm]
     .simp[hk']
    rw[e] at hso;exact hso
   .rw[xa hm];rw[xa (by simpa using hm)] at hso;have e:(λk'=>decide (k'∈dd (ks.take i)) || decide (k'=ks[i]))=λk'=>decide (k'∈dd (ks.take i)++[ks[i]]):=by
     funext k'
     rw[uq];simp
    rw[e] at hso;simpa using hso
  .have e:ks.take its.toArray.size=ks:=by rw[qF,<-hkl];exact oG
   rw[e] at hJ;have hS:=hJ.setOf ho (by have:=jU ks;rw[qe] at hl;unfold M9;lia);obtain⟨o1,es,ep,t,v0,v1,v2,_,_,_,v3,v4⟩:=hS;rw[ho] at v0;cases v0;exact fin _ h' tk o ho #[v1,es,ep,t,v2,v3,v4] hk q
 ·
  have hkl:ts.length=its.length:=by rw[<-hlen,ht]
  refine Ke (I.ok.hd hc) pl.isList (λi o=>ST.TS (dJ X.prog X.w) s.heap (ts.take i) o) (λled=>?_) (λA' hA' i v sh o Q' E' hi hv ho hJ hB hQ=>?_) λh' tk o ho hJ hk=>?_
  .refine#[#[(),(),()],#[],0,x5 0 0 led,(),?_,.inl (),λi e he=>by simp at he,rfl,λk hk=>by simp[dd] at hk,λi k b he=>by simp at he];exact#[LO,(),(),by simp[x5],by simp[x5],by simp[x5],λi j h x hp=>by simp[x5] at hp]
  .have hi':i<ts.length:=by rw[qF] at hi;lia
   obtain⟨b,hb1,hb2⟩:=hts i ts[i] (by simp[hi']);obtain⟨u2,hu2,ru2⟩:=rv.get hb1;have ev:v=u2:=by
    have hv':its[i]?=U v:=by simpa using hv
    rw[hu2] at hv';exact(qK hv').symm
   subst ev;cases ru2;have hkey:=oK I.hok hb2;have htk:ts.take (i+1)=ts.take i++[ts[i]]:=by rw[Du,uL hi'];rfl
   refine N7 (λv k=>KY v k) .(b) ho hJ hkey (λb' o' e=>hB b' o' (qw e) e) (by rw[qH];have:=hl;lia) λbb h' tk o' h1 h2 h3 h4=>hQ bb h' tk o' h1 h2 h3 (by show ST.TS _ _ (Dn (i+1) ts) o';rw[htk];exact h4)
  .have e:ts.take its.toArray.size=ts:=by rw[qF,<-hkl];exact oG
   rw[e] at hJ;obtain⟨hc',es,ep,t,w1,w2,w3,w4,w5,w6,w7⟩:=hJ;exact fin _ h' tk o ho #[hc',es,ep,t,w1,w2.fits,w5] hk q
def U':fO X (.builtin "len") (λxs H Q=>∃p n,xs=[.ref p]/\H p=U (na p n)/\n<=300/\Q (.int n) H):=by intro XL s L H xs us Q I r h;obtain⟨p,n,rfl,hp,hn,q⟩:=h;obtain⟨u,rfl,ru⟩:=fR r;cases ru;obtain⟨⟨o,ho,hex,es,ep,t,w1,w2,w3⟩,_,_⟩:=I.hok p _ hp;exact call_len_set ho hex w1 w2 .(b) #[.int n,H,I.tok _,#[_,by rw[w3]],q]
end
section
open ST
def pF:Z D->ak (Z (Z Key))
 |[]=>U []
 |.tup t::r=>(im t).bind λk=>(pF r).map (k::·)
 |_::_=>B
theorem Gk {O:Cn} {K:aJ} {G H:Hp} (gh:a9 G H) {ds:Z D}:∀{vs:Z V} {ts:Z (Z Key)},Reps O K G vs ds->pF ds=U ts->vs.length=ts.length/\∀(i:J) t,ts[i]?=U t->∃b,vs[i]?=U (.ref b)/\H b=U (.tup (t.map kV)):=by
 induction ds with
 |nil=>intro _ _ r h;cases r;cases h;exact#[(),λi t e=>by simp at e]
 |cons d ds Gk=>
  intro _ _ r h;cases r with|cons h1 h2=>
  cases d with
  |tup t=>
   obtain⟨k,hk,h⟩:=oBd h;obtain⟨zs,hz,rfl⟩:=oMd h;obtain⟨a,us,rfl,ha,ra⟩:=h1.tup_inv;have e:=oP ra hk;subst e;obtain⟨q1,q2⟩:=Gk h2 hz;refine#[by rw[qh,qh,q1],λi t' e=>?_];cases i with
   |zero=>cases e;exact#[a,(),gh _ _ ha]
   |succ i=>exact q2 i t' e
  |_=>cases h
def lX:D->ak D
 |.lst l=>if l.length<=300 then match im l with
  |some ks=>U (.int (dd ks).length)
  |none=>(pF l).map λts=>.int (dd ts).length
  else B
 |_=>B
section
variable {p pos2:bV}
def JU (hc:X.calm=ah) (hu:X.A.units+66<c5) (hgl:Gl X "len") (hml:X.mg "len"=B) (hgs:Gl X "set") (hms:X.mg "set"=B) (h:DE O X e f)
  (h1:aK ([.Call (.Name "set" p2) [e] [] pos2]:Z Expr) X.env=(ao,eval (.Call (.Name "set" p2) [e] [] pos2) X.env)::aK [] X.env:=by rfl) (h2:(bX pos (aK [] X.env)).any (·.1)=ao:=by rfl)
  (h3:aK ([e]:Z Expr) X.env=(ao,eval e X.env)::aK [] X.env:=by rfl) (h4:(bX pos2 (aK [] X.env)).any (·.1)=ao:=by rfl) :
  DE O X (.Call (.Name "len" p) [.Call (.Name "set" p2) [e] [] pos2] [] pos) (b1 lX f):=⟨by
 refine(pL U' hgl hml (by rfl) (dB (Fq (OB hc hu) hgs hms (by rfl) (dB h.1 gc h3) .(a) .(a) h3 h4) gc h1) .(a) .(a) h1 h2).imp λL H Q=>?_;rintro⟨Tm,Ty,G,Y,d,A,hq,k⟩;obtain⟨x,hx,hl⟩:=oBd hq;clear hq;refine#[Tm,Ty,G,Y,x,A,hx,λv G1 H1 s1 r1=>?_];unfold lX at hl;split at hl
 .rename_i l;split at hl
  .rename_i hz;obtain⟨a,vs,rfl,ha,ra⟩:=r1.lst_inv;have go:∀(n:J),n<=300->d=.int n->∀p,H1 p=B->∃p' n',[V.ref p]=[V.ref p']/\(upd H1 p (na p n)) p'=U (na p' n')/\n'<=300/\Q (.int n') (upd H1 p (na p n)):=λn hn ed p hp=>by subst ed;refine#[p,n,(),bK,hn,k _ G1 _ (s1.trans (Step.newOwn s1.gh hp)) (.int _)]
   refine#[a,vs,(),s1.gh _ _ ha,by rw[ra.length];exact hz,?_];split at hl
   .rename_i ks hk;refine .inl #[ks,oP ra hk,go _ ?_ (qK hl).symm];have h5:=jU ks;have h6:ks.length=l.length:=by have:=oP ra hk;rw[<-ra.length,this,qe]
    lia
   .obtain⟨ts,ht,e1⟩:=oMd hl;obtain⟨q1,q2⟩:=Gk s1.gh ra ht;refine .inr #[ts,q1,q2,go _ ?_ e1.symm];have h5:=jU ts;have h6:=ra.length;lia
  .cases hl
 .cases hl⟩
end
end
variable {c:J}
namespace DT
def Ol:C8 (.type "list") "keys"=pure B:=by rw[Zt,Zu];kernel_rfl
def QC:C8 (.type "list") "__getattr__"=pure B:=by rw[Zt,Zu];kernel_rfl
theorem W0 {u:Tok} {xs:cg au} (hx:s.heap.get? l=U {cls:=.type "list",data:=.seq xs n}) (hA:A.handled=B)
  (h:∀h' tk e,Heap.NewAttrErr s.heap h' e (.ref l) "keys"->R (.error (.ref e)) {s with heap:=h',toks:=tk}) :
  hU (aL prog w) A (.call (.builtin "list.__getattribute__") #[[.ref l,.str "keys" u],[]]) R s:=by
 obtain⟨hp,g,d,tk,os⟩:=s;have hT:(#[hp,g,d,tk,os]:aF).TypeIs (.ref l) "list":=#[_,hx,()];have f1:=Ol;refine Ds Dv.plain F.entry_list_ga (Dv.check _ _ _ _ _ _ _ _ hT (F.args_list_getattribute_2 _ _) ?_)
 repeat (any_goals (first|assumption|wp_step))
 have hsz:(uA "keys").length+100<=aH:=by rw[PySem.ofString_length];decide
 refine wpAny_raiseAttrError hA h ?_;exact attrMsg_fits (by nofun) hsz
set_option maxHeartbeats 4000000 in
def Ui {Q:ak au->aF->Prop} {xs:cg au} (hx:s.heap.get? l=U {cls:=.type "list",data:=.seq xs n}) (hA:A.handled=B)
  (h:∀h' tk,(∀b ob,s.heap.get? b=U ob->h'.get? b=U ob)->Q B {s with heap:=h',toks:=tk}) :
  aM (aL prog w) A (getAttr? (.ref l) "keys") Q E s:=by
 obtain⟨hp,g,d,tk,os⟩:=s;have hT:∀tk',(#[hp,g,d,tk',os]:aF).TypeIs (.ref l) "list":=λ_=>#[_,hx,()];have f1:=sub_AttributeError;have f2:=Dv.lookup;have f3:=Dv.bind (.ref l);have f5:=QC;refine qA (wpAny_mkText ?_);refine qA (x6 ?_);refine qW (qA (xN (hT _) (qA (Dw f2 ?_))));refine qA (qE ?_);refine qA (x6 (qW ?_));refine qA (Dw f3 ?_);refine rD (W0 hx hA λh' tk' e hn=>?_);obtain⟨t',u',he⟩:=hn.there;have hE:Dr #[h',g,d,tk',os] (.ref e) "AttributeError":=#[_,he,()];refine qA (M' hE f1 ?_);simp only[dc];refine qA (Dw f5 ?_);unfold hookOrError attributeErrorLeaves;simp only[rW,dc];refine qA (wpAny_throw ?_);refine qA (M' hE f1 ?_);simp only[dc];exact qE (h h' tk' hn.keeps)
def Ju:entryFor table "dict.update.loop"=U Builtin.«dict.update.loop»:=entryFor_of_tree (by kernel_rfl)
def wp:plainId "dict.update.loop"=ah:=by nofun
section
variable {G:cg uj->cg uj->Prop} {P:J->au->Prop} {St:J->aF->Prop}
def IX (prog:b7) (w:bU) (A:dh) (S:ar) (h0:Heap) (P:J->au->Prop) (n:J) (ag:J->bo->Prop):Prop:=
 ∀(i:J) (b:ar) (kv vv:au) (s:aF) (o:bo) (Q:li->aF->Prop) (E:au->aF->Prop),i<n->P i (.ref b)->h0.IsTuple b [kv,vv].toArray->s.heap.get? S=U o->ag i o->(∀b o,b<h0.objs.size->h0.get? b=U o->s.heap.get? b=U o)->
  (∀h' tk o',s.toks<=tk->iY S s.heap h'->h'.get? S=U o'->ag (i+1) o'->Q .unit {s with heap:=h',toks:=tk})->aM (aL prog w) A (dictSet S kv vv) Q E s
def RV (W:WalksS prog w A.in1 I fp wr G n P St) (S:ar) (hSf:S∉fp) (h0:Heap) (hS0:h0.objs.size<=S) (hw0:∀b∈wr,h0.objs.size<=b) (ag:J->bo->Prop) (hadd:IX prog w A.in1 S h0 P n ag) (hP:∀i v,P i v->∃b kv vv,v=.ref b/\h0.IsTuple b [kv,vv].toArray) :
  ∀(k i:J) (c:aj) (s:aF) (o:bo),n-i=k->i<=n->St i s->s.heap.get? S=U o->ag i o->(∀b o,b<h0.objs.size->h0.get? b=U o->s.heap.get? b=U o)->
   (∀s' o',Moved (S::wr) G s s'->s'.heap.get? S=U o'->ag n o'->R (.ok (.ret .none)) s')->
   hU (aL prog w) A (.builtin "dict.update.loop" #[[.ref S,.ref I,rA c,.none],[]]) R s:=by
 have hSw:S∉wr:=λh=>hSf (W.sub _ h);have hsub:∀b∈wr,b∈S::wr:=λb hb=>qg _ hb;have keep:∀{h h':Heap},(∀b o,b<h0.objs.size->h0.get? b=U o->h.get? b=U o)->(∀b o,b∉S::wr->h.get? b=U o->h'.get? b=U o)->∀b o,b<h0.objs.size->h0.get? b=U o->h'.get? b=U o:=λq1 q2 b o hb e=>q2 b o (λz=>by
  rcases eC.mp z with z|z
  .rw[z] at hb;exact ba hb (uD.mpr hS0)
  .exact ba hb (uD.mpr (hw0 b z))) (q1 b o hb e)
 intro k
 induction k with
 |zero=>
  intro i c s o hk hi hst hS hJ hB hR;have hin:i=n:=by lia
  subst hin;refine uK Ju ?_;rw[Dq wp _];refine qA (W.done s _ _ hst λs' hm=>?_);exact qA (qE (qE (hR s' o (hm.mono hsub) (hm.heap S _ hSw hS) hJ)))
 |succ k ih=>
  intro i c s o hk hi hst hS hJ hB hR;have hlt:i<n:=by lia
  refine uK Ju ?_;rw[Dq wp _];refine qA (W.item i s _ _ hlt hst λv s' hPv hst' hm=>?_);obtain⟨b,kv,vv,rfl,hb⟩:=hP i v hPv;have hB':=keep hB λb o hb e=>hm.heap b o (λz=>hb (hsub b z)) e;obtain⟨ob,hob,hoc,nn,hod⟩:=hb;have hob':s'.heap.get? b=U ob:=hB' b ob (qw hob) hob;have hTb:s'.TypeIs (.ref b) "tuple":=#[_,hob',hoc];refine qA (qW ?_);refine qA ?_;refine wpAny_tryCatch ?_;refine qA (xN hTb ?_);rw[qZ .(a)];refine qA (mU hob' hod (qE ?_));refine qW (hadd i b kv vv s' o _ _ hlt hPv #[ob,hob,hoc,nn,hod] (hm.heap S _ hSw hS) hJ hB' λh' tk o' htk hsb hS' hJ'=>?_);refine qE #[M3 wp _,ih (i+1) (c+1) _ o' .(b) hlt (W.frame _ s' _ _ hst' htk λb hb o e=>?_) hS' hJ' ?_ λs'' o'' hm'' hS'' hJ''=>?_]
  .rw[hsb.2 b (λh:b=S=>hSf (by rw[<-h];exact hb))];exact e
  .refine keep hB' λb o hb e=>?_;rw[hsb.2 b (λh:b=S=>hb (by rw[h];exact qf))];exact e
  .refine hR s'' o'' (Zl W.gtrans ((hm.mono hsub).then_heap htk λb o hb e=>?_) hm'') hS'' hJ'';rw[hsb.2 b (λh:b=S=>hb (by rw[h];exact qf))];exact e
end
def call_dict_gen (hh:A.handled=B) (hl:s.heap.get? l=U {cls:=.type "list",data:=.seq items c}) (ag:J->bo->Prop)
  (hJ0:ag 0 {cls:=.type "dict",data:=.dict #[]})
  (hadd:∀A':dh,A'.units<=A.units+16->IX prog w A' s.heap.objs.size s.heap (λi v=>items[i]?=U v) items.size ag)
  (hP:∀(i:J) (v:au),items[i]?=U v->∃b kv vv,v=.ref b/\s.heap.IsTuple b [kv,vv].toArray)
  (h:∀(h':Heap) (tk:J) (o:bo),h'.get? s.heap.objs.size=U o->ag items.size o->
   (∀b o,b<s.heap.objs.size->s.heap.get? b=U o->h'.get? b=U o)->Q (.ref s.heap.objs.size) {s with heap:=h',toks:=tk}) :
  aM (aL prog w) A (call (.type "dict") [.ref l]) Q E s:=by
 refine callType_codes (Q₁:=λobj dl=>obj=.ref s.heap.objs.size/\dl={s with heap:=s.heap.push {cls:=.type "dict",data:=.dict #[]} }) F.kt_called_dict (F.kt_typeCall_dict_1 _) F.entry_dict_init (kt_code_dict_new _ #[rfl,rfl]) ?_;rintro obj dl ⟨rfl,rfl⟩;have hnew:(s.heap.push {cls:=.type "dict",data:=.dict #[]}).get? s.heap.objs.size=U {cls:=.type "dict",data:=.dict #[]}:=qJ _ ();have hl1:(s.heap.push {cls:=.type "dict",data:=.dict #[]}).get? l=U {cls:=.type "list",data:=.seq items c}:=qv _ hl;have hT:Dr {s with heap:=s.heap.push {cls:=.type "dict",data:=.dict #[]} } (.ref s.heap.objs.size) "dict":=#[_,hnew,rfl];have hTl:Dr {s with heap:=s.heap.push {cls:=.type "dict",data:=.dict #[]} } (.ref l) "list":=#[_,hl1,rfl];refine#[hT,F.args_dict_init_2 _ _,?_];refine qA ?_;refine qA (wpAny_notOrdered_dict hT ?_);refine qE ?_;refine qA (xN hTl ?_);rw[qZ .(a)];refine qA (Ui hl1 hh λh1 tk1 hk1=>?_);simp only[Option.isNone_none,dc];refine qA (Na ?_);have hl2:h1.IsList l items:=#[_,hk1 _ _ hl1,(),_,()];refine qA (xS hl2 ?_);refine qE #[M3 wp _,?_];have hlS:l<s.heap.objs.size:=qw hl;have hsz1:s.heap.objs.size<h1.objs.size:=qw (hk1 _ _ hnew);have hneI:l≠h1.objs.size:=qG (uB hlS hsz1);have hSf:s.heap.objs.size∉[h1.objs.size,l]:=by simp only[qO,cm,qM,or_false,oF];exact#[qG hsz1,xF hlS]
 have old:∀b o,b<s.heap.objs.size->s.heap.get? b=U o->h1.get? b=U o:=λb o _ e=>hk1 _ _ (qv _ e);refine RV ((MO (by simpa using hh) _ l hneI items).toS) s.heap.objs.size hSf s.heap (qx _) (λb hb=>?_) ag (hadd _ (by show A.units+2<=_;lia)) hP (items.size-0) 0 0 _ _ .(b) (eA _)
  #[#[_,qJ _ (),(),()],hl2.push _] (qv _ (hk1 _ _ hnew)) hJ0 (λb o hb e=>qv _ (old b o hb e)) λs' o' hm hS' hJ'=>?_
 .have:b=h1.objs.size:=by simpa using hb
  rw[this];exact ui hsz1
 .obtain⟨h',g',d',tk',os'⟩:=s';have eg:g'=s.gens:=hm.gens;have ed:d'=s.drawn:=hm.drawn;have eo:os'=s.os:=hm.os;subst eg;subst ed;subst eo;refine#[(),h h' tk' o' hS' hJ' λb o hb e=>hm.heap b o ?_ (qv _ (old b o hb e))];simp only[qO,cm,qM,or_false,oF];exact#[qG hb,qG (uB hb hsz1)]
end DT
section
variable [eS κ]
def mrg (kvs ps:Z (κ×V)):Z (κ×V):=ps.foldl (λacc kv=>dy acc kv.1 kv.2) kvs
def HH (kvs ps:Z (κ×V)) (p:κ×V):mrg kvs (ps++[p])=dy (mrg kvs ps) p.1 p.2:=by unfold mrg;rw[xW];rfl
def QD (kvs:Z (κ×V)) (k:κ) (v:V):(dy kvs k v).length<=kvs.length+1:=by
 unfold dy;split
 .rw[qe];lia
 .rw[qk,qY];lia
theorem ue:∀(ps kvs:Z (κ×V)),(mrg kvs ps).length<=kvs.length+ps.length
 |[],kvs=>qx _
 |p::ps,kvs=>by have h1:=ue ps (dy kvs p.1 p.2);have h2:=QD kvs p.1 p.2;show(mrg (dy kvs p.1 p.2) ps).length<=_;rw[qh];lia
end
def TN:Z V->Hp->VK->Prop:=λxs H Q=>∃(a:ar) (vs:Z V) (ps:Z (Key×V)),xs=[.ref a]/\H a=U (.lst vs)/\vs.length=ps.length/\ps.length<=1000/\(∀(i:J) p,ps[i]?=U p->∃b,vs[i]?=U (.ref b)/\H b=U (.tup [kV p.1,p.2])) /\
 ∀q,H q=B->Q (.ref q) (upd H q (.dK (mrg [] ps)))
def HM {b:ar} {x y:V} (I:Inv X XL L H s) (hb:H b=U (.tup [x,y])):∃u v,bz x u/\bz y v/\s.heap.IsTuple b [u,v].toArray:=by
 obtain⟨its,r,p,_⟩:=I.tuple (.inl (.inl hb));cases r with
 |cons r1 r2=>
  cases r2 with
  |cons r2 r3=>
   cases r3;exact#[_,_,r1,r2,p]
def tuple_inj {b:ar} {x y:cg au} (p:h.IsTuple b x) (q:h.IsTuple b y):x=y:=by obtain⟨o,h1,_,n,h2⟩:=p;obtain⟨o',g1,_,m,g2⟩:=q;rw[h1] at g1;cases g1;rw[h2] at g2;cases g2;rfl
def Qd (hc:X.calm=ah) (hu:X.A.units+66<c5):fO X (.type "dict") TN:=by
 intro XL s L H xs us Q I r h;obtain⟨a,vs,ps,rfl,ha,hl,hz,hp,q⟩:=h;obtain⟨u,rfl,ru⟩:=fR r;cases ru;obtain⟨z,its,n,rv,hlen,e⟩:=I.lstM ha;have hsz:its.toArray.size=ps.length:=by rw[qF,<-hlen,hl]
 have hit:∀(i:J) (v:au),its.toArray[i]?=U v->∃p b u w,ps[i]?=U p/\v=.ref b/\bz (kV p.1) u/\bz p.2 w/\s.heap.IsTuple b [u,w].toArray:=λi v hv=>by
  have hi:i<ps.length:=by rw[<-hsz];exact(ig.mp hv).1
  obtain⟨b,hb1,hb2⟩:=hp i ps[i] (by simp[hi]);obtain⟨u2,hu2,ru2⟩:=rv.get hb1;have hv':its[i]?=U v:=by simpa using hv
  rw[hu2] at hv';cases hv';cases ru2;obtain⟨u,w,r1,r2,r3⟩:=HM I hb2;exact#[ps[i],b,u,w,by simp[hi],rfl,r1,r2,r3]
 refine DT.call_dict_gen (I.ok.hd hc) e (λi o=>∃vs',KV (mrg [] (ps.take i)) vs'/\o.IsDictOf (dJ X.prog X.w) vs') ?_ (λA' hA' i b kv vv sh o Q' E' hi hv hb ho hJ hB hQ=>?_) (λi v hv=>?_) λh' tk o ho hJ hk=>?_
 .obtain⟨o,ho,hd⟩:=Dx.mp (YR (knd:=dJ X.prog X.w) s.heap);have:o={cls:=.type "dict",data:=.dict #[]}:=by have:=qJ s.heap (o:={cls:=.type "dict",data:=.dict #[]}) ();rw[this] at ho;exact(qK ho).symm
  subst this;exact#[[],.nil,hd]
 .obtain⟨p,b',u,w,h1,h2,h3,h4,h5⟩:=hit i _ hv;cases h2;have e2:=tuple_inj hb h5;have e3:kv=u/\vv=w:=by simpa using e2
  obtain⟨rfl,rfl⟩:=e3;obtain⟨vs',k1,k2⟩:=hJ;have hle:vs'.length<=1000:=by have q1:=k1.length;have q2:=ue (ps.take i) ([]:Z (Key×V));rw[qH,qm] at q2;lia
  refine wpAny_dictSet_pairs (nr h3) (Dx.mpr #[o,ho,k2]) (λh' hd' hsb=>?_) (by rw[gL];lia);obtain⟨o',ho',hd''⟩:=Dx.mp hd';refine hQ h' _ o' (uv _) hsb ho' #[_,?_,hd''];have htk:ps.take (i+1)=ps.take i++[p]:=by rw[Du,h1];rfl
  rw[htk,HH];exact k1.put p.1 h4
 .obtain⟨p,b,u,w,h1,h2,h3,h4,h5⟩:=hit i v hv;exact#[b,u,w,h2,h5]
 .obtain⟨vs',k1,k2⟩:=hJ;rw[hsz,oG] at k1;refine#[.ref s.heap.objs.size,_,I.laid (o:=.dK (mrg [] ps)) (λb u e=>hk b u (qw e) e) (qx _) #[?_,?_,vs',k1,Dx.mpr #[o,ho,k2]],(),q _ I.fresh]
  .have:=ue ps ([]:Z (Key×V));rw[qm] at this;rw[gL];lia
  .exact q0.mpr (dU (qG I.big))
def Qw:Z V->Hp->VK->Prop:=λxs H Q=>∃(a:ar) (vs:Z V) (ps:Z (Z Key×V)),xs=[.ref a]/\H a=U (.lst vs)/\vs.length=ps.length/\ps.length<=1000/\(∀(i:J) p,ps[i]?=U p->∃b kb,vs[i]?=U (.ref b)/\H b=U (.tup [.ref kb,p.2])/\H kb=U (.tup (p.1.map kV))) /\
 ∀q,H q=B->Q (.ref q) (upd H q (.dT (mrg [] ps)))
def Qm {P:Z Key->ar->Prop} (hP:∀k b,H b=U (.tup (k.map kV))->P k b):∀{kvs:Z (Z Key×V)} {xs:Z (Z Key×ar×au)},KT H kvs xs->∀x∈xs,P x.1 x.2.1:=by
 intro kvs xs q
 induction q with
 |nil=>intro x hx;cases hx
 | @cons p y ps ys hq t ih=>
  intro x hx;rcases eC.mp hx with rfl|hx
  .exact hP _ _ (by rw[<-hq.1];exact hq.2.1)
  .exact ih x hx
def XW (hc:X.calm=ah) (hu:X.A.units+66<c5):fO X (.type "dict") Qw:=by
 intro XL s L H xs us Q I r h;obtain⟨a,vs,ps,rfl,ha,hl,hz,hp,q⟩:=h;obtain⟨u,rfl,ru⟩:=fR r;cases ru;obtain⟨z,its,n,rv,hlen,e⟩:=I.lstM ha;have hsz:its.toArray.size=ps.length:=by rw[qF,<-hlen,hl]
 have hit:∀(i:J) (v:au),its.toArray[i]?=U v->∃p b kb w,ps[i]?=U p/\v=.ref b/\H kb=U (.tup (p.1.map kV))/\bz p.2 w/\s.heap.IsTuple b [.ref kb,w].toArray:=λi v hv=>by
  have hi:i<ps.length:=by rw[<-hsz];exact(ig.mp hv).1
  obtain⟨b,kb,hb1,hb2,hb3⟩:=hp i ps[i] (by simp[hi]);obtain⟨u2,hu2,ru2⟩:=rv.get hb1;have hv':its[i]?=U v:=by simpa using hv
  rw[hu2] at hv';cases hv';cases ru2;obtain⟨u,w,r1,r2,r3⟩:=HM I hb2;cases r1;exact#[ps[i],b,kb,w,by simp[hi],rfl,hb3,r2,r3]
 have isk:∀{h':Heap},(∀b o,b<s.heap.objs.size->s.heap.get? b=U o->h'.get? b=U o)->∀k b,H b=U (.tup (k.map kV))->(rh (dJ X.prog X.w)).is h' k b:=λhB k b hb=>ST.IsTupleKey.mono (oK I.hok hb) λo e=>hB _ _ (qw e) e;refine DT.call_dict_gen (I.ok.hd hc) e (λi o=>∃xs',KT H (mrg [] (ps.take i)) xs'/\∃es ep,o.ExactDict/\o.data=.dict es ep/\es.toList=xs'.map (entryOfKey (rh (dJ X.prog X.w)))/\(xs'.map (·.1)).Nodup) ?_ (λA' hA' i b kv vv sh o Q' E' hi hv hb ho hJ hB hQ=>?_) (λi v hv=>?_) λh' tk o ho hJ hk=>?_
 .exact#[[],.nil,#[],0,#[(),(),()],(),(),Nb]
 .obtain⟨p,b',kb,w,h1,h2,h3,h4,h5⟩:=hit i _ hv;cases h2;have e2:=tuple_inj hb h5;have e3:kv=.ref kb/\vv=w:=by simpa using e2
  obtain⟨rfl,rfl⟩:=e3;obtain⟨xs',k1,es,ep,k2,k3,k4,k5⟩:=hJ;have hle:xs'.length<=1000:=by have q1:=Paired.length k1;have q2:=ue (ps.take i) ([]:Z (Z Key×V));rw[qH,qm] at q2;lia
  refine wpAny_dictSet_heap (show A'.units<c5 by lia) (isk hB _ _ h3) #[o,es,ep,ho,k2,k3,k4,Qm (isk hB) k1,k5] (λh' hd' hsb=>?_) (by rw[gL];lia);obtain⟨o',es',ep',ho',w2,w3,w4,_,w5⟩:=hd';refine hQ h' _ o' (iB _ _) hsb ho' #[_,?_,es',ep',w2,w3,w4,w5];have htk:ps.take (i+1)=ps.take i++[p]:=by rw[Du,h1];rfl
  rw[htk,HH];exact k1.put p.1 h3 h4
 .obtain⟨p,b,kb,w,h1,h2,h3,h4,h5⟩:=hit i v hv;exact#[b,_,w,h2,h5]
 .obtain⟨xs',k1,es,ep,k2,k3,k4,k5⟩:=hJ;rw[hsz,oG] at k1;refine#[.ref s.heap.objs.size,_,I.laid (o:=.dT (mrg [] ps)) (λb u e=>hk b u (qw e) e) (qx _) #[?_,?_,xs',k1.keeps λb ys e=>?_,o,es,ep,ho,k2,k3,k4,k5],(),q _ I.fresh]
  .have:=ue ps ([]:Z (Z Key×V));rw[qm] at this;rw[gL];lia
  .exact q0.mpr (dU (qG I.big))
  .rw[aW (ce e I.fresh)];exact e
def oR:Z D->ak (Z (Key×D))
 |[]=>U []
 |.tup [k,v]::r=>(jQ k).bind λkk=>(oR r).map ((kk,v)::·)
 |_::_=>B
def n5:Z D->ak (Z (Z Key×D))
 |[]=>U []
 |.tup [.tup t,v]::r=>(im t).bind λkk=>(n5 r).map ((kk,v)::·)
 |_::_=>B
def wU [eS κ] (ps:Z (κ×D)):Z (κ×D):=ps.foldl (λacc kv=>gS acc kv.1 kv.2) []
def AA:Z D->ak D
 |[.lst l]=>if l.length<=1000 then (oR l).map λps=>.dk (wU ps) else B
 |_=>B
def yy:Z D->ak D
 |[.lst l]=>if l.length<=1000 then (n5 l).map λps=>.dt (wU ps) else B
 |_=>B
theorem yL {κ:Type} [eS κ] {K:aJ} {G:Hp}:∀{us:Z (κ×V)} {kvs:Z (κ×D)} {acc:Z (κ×V)} {acd:Z (κ×D)},us.map (·.1)=kvs.map (·.1)->Reps O K G (us.map (·.2)) (kvs.map (·.2))->acc.map (·.1)=acd.map (·.1)->Reps O K G (acc.map (·.2)) (acd.map (·.2))->
  (mrg acc us).map (·.1)=(kvs.foldl (λacc kv=>gS acc kv.1 kv.2) acd).map (·.1)/\Reps O K G ((mrg acc us).map (·.2)) ((kvs.foldl (λacc kv=>gS acc kv.1 kv.2) acd).map (·.2))
 |[],[],_,_,_,_,e,r=>#[e,r]
 |[],_::_,_,_,e,_,_,_=>by cases e
 |_::_,[],_,_,e,_,_,_=>by cases e
 |(k1,v)::us,(k2,d)::kvs,acc,acd,e,r,e0,r0=>by
  have e1:k1=k2:=(ij e).1;subst e1;have r:Reps O K G (v::us.map (·.2)) (d::kvs.map (·.2)):=r;cases r with
  |cons r1 r2=>
   obtain⟨w1,w2⟩:=Em r1 e0 r0;exact yL (us:=us) (kvs:=kvs) (ij e).2 r2 w1 w2
theorem GL {K:aJ} {G H:Hp} (gh:a9 G H) {ds:Z D}:∀{vs:Z V} {ps:Z (Key×D)},Reps O K G vs ds->oR ds=U ps->
  ∃us:Z (Key×V),vs.length=us.length/\us.map (·.1)=ps.map (·.1)/\Reps O K G (us.map (·.2)) (ps.map (·.2))/\∀(i:J) p,us[i]?=U p->∃b,vs[i]?=U (.ref b)/\H b=U (.tup [kV p.1,p.2]):=by
 induction ds with
 |nil=>intro _ _ r h;cases r;cases h;exact#[[],(),(),.nil,λi p e=>by simp at e]
 |cons d ds GL=>
  intro _ _ r h;cases r with|cons h1 h2=>
  unfold oR at h;split at h
  .rename_i heq;cases heq
  .rename_i heq;cases heq;obtain⟨kk,hk,h⟩:=oBd h;obtain⟨zs,hz,rfl⟩:=oMd h;obtain⟨us,q1,q2,q3,q4⟩:=GL h2 hz;obtain⟨a,ws,rfl,ha,ra⟩:=h1.tup_inv;obtain⟨x,y,rfl,rx,ry⟩:=ra.two;have ex:=xu rx hk;subst ex;refine#[(kk,y)::us,by rw[qh,qh,q1],by simp[q2],.cons ry q3,λi p e=>?_];cases i with
   |zero=>cases e;exact#[a,(),gh _ _ ha]
   |succ i=>exact q4 i p e
  .cases h
theorem E3 {K:aJ} {G H:Hp} (gh:a9 G H) {ds:Z D}:∀{vs:Z V} {ps:Z (Z Key×D)},Reps O K G vs ds->n5 ds=U ps->
  ∃us:Z (Z Key×V),vs.length=us.length/\us.map (·.1)=ps.map (·.1)/\Reps O K G (us.map (·.2)) (ps.map (·.2))/\∀(i:J) p,us[i]?=U p->∃b kb,vs[i]?=U (.ref b)/\H b=U (.tup [.ref kb,p.2])/\H kb=U (.tup (p.1.map kV)):=by
 induction ds with
 |nil=>intro _ _ r h;cases r;cases h;exact#[[],(),(),.nil,λi p e=>by simp at e]
 |cons d ds E3=>
  intro _ _ r h;cases r with|cons h1 h2=>
  unfold n5 at h;split at h
  .rename_i heq;cases heq
  .rename_i heq;cases heq;obtain⟨kk,hk,h⟩:=oBd h;obtain⟨zs,hz,rfl⟩:=oMd h;obtain⟨us,q1,q2,q3,q4⟩:=E3 h2 hz;obtain⟨a,ws,rfl,ha,ra⟩:=h1.tup_inv;obtain⟨x,y,rfl,rx,ry⟩:=ra.two;obtain⟨kb,ks,rfl,hkb,rk⟩:=rx.tup_inv;have ex:=oP rk hk;subst ex;refine#[(kk,y)::us,by rw[qh,qh,q1],by simp[q2],.cons ry q3,λi p e=>?_];cases i with
   |zero=>cases e;exact#[a,kb,(),gh _ _ ha,gh _ _ hkb]
   |succ i=>exact q4 i p e
  .cases h
def J4 (hc:X.calm=ah) (hu:X.A.units+66<c5):TyD O X "dict" AA:=#[_,Qd hc hu,λ{G H vs ds z} gh r h Q k=>by
 unfold AA at h;split at h
 .split at h
  .rename_i hz;obtain⟨ps,hp,rfl⟩:=oMd h;obtain⟨v,rfl,r1⟩:=r.one;obtain⟨a,ws,rfl,ha,ra⟩:=r1.lst_inv;obtain⟨us,q1,q2,q3,q4⟩:=GL gh ra hp;refine#[a,ws,us,(),gh _ _ ha,q1,by rw[<-q1,ra.length];exact hz,q4,λp hp=>?_];have s:=Step.new (o:=.dK (mrg [] us)) gh hp;obtain⟨w1,w2⟩:=yL (acc:=[]) (acd:=[]) q2 q3 () .nil;exact k _ _ _ s (.dk bK w1 (w2.mono s.gg))
  .cases h
 .cases h]
def Pd (hc:X.calm=ah) (hu:X.A.units+66<c5):TyD O X "dict" yy:=#[_,XW hc hu,λ{G H vs ds z} gh r h Q k=>by
 unfold yy at h;split at h
 .split at h
  .rename_i hz;obtain⟨ps,hp,rfl⟩:=oMd h;obtain⟨v,rfl,r1⟩:=r.one;obtain⟨a,ws,rfl,ha,ra⟩:=r1.lst_inv;obtain⟨us,q1,q2,q3,q4⟩:=E3 gh ra hp;refine#[a,ws,us,(),gh _ _ ha,q1,by rw[<-q1,ra.length];exact hz,q4,λp hp=>?_];have s:=Step.new (o:=.dT (mrg [] us)) gh hp;obtain⟨w1,w2⟩:=yL (acc:=[]) (acd:=[]) q2 q3 () .nil;exact k _ _ _ s (.dt bK w1 (w2.mono s.gg))
  .cases h
 .cases h]
noncomputable def B3 (fr:FA):FS:=λY=>(fr Y).map λds=>(.ow ds,Y)
def Hr (h:DO O X e fr):DS O X (.Return (U e) pos) (B3 fr):=⟨(nM h.1).imp λE L H=>by rintro⟨Tm,Ty,G,Y,fl,KK,A,h,k⟩;obtain⟨ds,hd,h⟩:=oMd h;cases h;refine#[Tm,Ty,G,Y,ds,A,hd,λp vs G' H' s hp r=>?_];have hp0:Ty p=B:=A.st.hh.free (s.hh.free hp);have hg:G' p=B:=s.gh.free hp;have s2:=s.trans (Step.newOwn (o:=.lst vs) s.gh hp);exact k L G' _ s.gg (A.step s2) p vs hp0 hg bK r⟩
inductive spO (O:Cn) (K:aJ) (n:J) (F:Z D->ak (Z D)) (vs:Z V) (H:Hp) (Q:VK) (_e3:XK):Prop where
 |mk:∀G ds rs,a9 G H->Reps O K G vs ds->ds.length=n->F ds=U rs->(∀p us G' H',Step G H G' H'->H' p=B->Reps O K G' us rs->Q (.ref p) (upd H' p (.lst us)))->spO O K n F vs H Q _e3
noncomputable def pU (n:J) (g:FS):Z D->ak (Z D):=λds=>(g (ds.map (fun d=>U (Slot.sh d))++bB n B)).bind λr=>match r.1 with
 |.ow ds=>U ds
 |_=>B
def Fun.okO {st:Stmt} {f:ar} {k:J} (F:Fun K x qual st f fd) (S:FnScope N ps (aD st))
  (hbody:∀(cdv:au) (A:dh) (outer:Z cD) (s:aF) (H:Hp) (E:XK),Room k (A.deeper (bR qual (aD st) s.heap.objs.size f cdv))->
   DSs O (cB CX0 P w K mg base N qual (aD st) f cdv A outer s H E).nox (cI st) g):FnOk P w K mg base CX0 (k+1) f fd ps (spO O K ps.length (pU (N.length-ps.length) g)):=by
 refine F.ok S (λvs H Q E h=>?_) (fun cdv A outer s H vs Q E hr h=>?_)
 .obtain⟨G,ds,d,_,r,hl,_⟩:=h;rw[r.length,hl]
 .obtain⟨G,ds,rs,gh,r,hl,hd,k⟩:=h;refine#[_,(hbody cdv A outer s H E hr).1,?_];obtain⟨⟨fl,KK⟩,hg,hd⟩:=oBd hd;refine#[G,H,G,_,fl,KK,w8 gh r (by rw[r.length,hl]),hg,λBT G' H' sm A'=>?_];cases fl with
  |rt d'=>cases hd
  |nx=>cases hd
  |bk=>cases hd
  |ct=>cases hd
  |nw d'=>cases hd
  |od d'=>cases hd
  |ow d'=>
   cases hd;intro p us hp0 hg hp rr;have st:Step G H G' (λb=>if b=p then B else H' b):=by
    refine#[λb o e=>?_,A'.st.gg,λb o e=>?_,A'.st.out]
    .show(if b=p then B else H' b)=U o;rw[xa (ce e hp0)];exact A'.st.hh b o e
    .show(if b=p then B else H' b)=U o;rw[xa (ce e hg)];exact A'.st.gh b o e
   have:=k p us G' _ st (qZ ()) rr;have hf:upd (λb=>if b=p then B else H' b) p (.lst us)=H':=by
    funext b
    by_cases hb:b=p
    .subst hb;rw[bK,hp]
    .rw[aW hb];exact xa hb
   rwa [hf] at this
structure CalO (O:Cn) (P:b7) (w:bU) (K:aJ) (mg:af->ak au) (base:Heap) (x:af) (n k:J) (F:Z D->ak (Z D)):Prop where
 ex:∃f fd ps,FnOk P w K mg base CX0 k f fd ps (spO O K n F)/\mg x=U (.ref f)/\fM K (.ref f)=ah/\eP K fd ps []
noncomputable def cFO (F:Z D->ak (Z D)) (fr:FA):FA:=λY=>(fr Y).bind F
section
variable {p:bV}
def Sq {k:J} {F:Z D->ak (Z D)} (C:CalO O X.prog X.w X.K X.mg X.base x n k F) (hr:Room j X.A) (hk:k<=j) (hg:Gl X x) (ha:DA O X (e::es) fr) (hn:∀Y ds,fr Y=U ds->ds.length=n)
  (hdb:(x==("__debug__":af))=ao:=by decide) (he:aK (e::es) X.env=(ao,eval e X.env)::aK es X.env:=by rfl) (hpl:(bX pos (aK es X.env)).any (·.1)=ao:=by rfl) :
  DO O X (.Call (.Name x p) (e::es) [] pos) (cFO F fr):=⟨by
 obtain⟨f,fd,ps,h1,h2,h3,h4⟩:=C.ex;refine(nq h1 (hr.mono hk) hg h2 h3 h4 .nil lD ha.1 hdb he hpl).imp λL H Q=>?_;rintro⟨Tm,Ty,G,Y,d,A,h,k⟩;obtain⟨ds,hd,h⟩:=oBd h;refine#[Tm,Ty,G,Y,ds,A,hd,λvs G1 H1 s1 r1=>?_];rw[dZ];exact#[G1,ds,d,s1.gh,r1,hn Y ds hd,h,λp us G' H' s hp r=>k p us G' H' (s1.trans s) hp r]⟩
def Dfn.calO {st:Stmt} {k:J} (F:Dfn K mg x st) (S:FnScope N ps (aD st))
  (hb:∀(kV doc pm:au) (an:ak ar) (cdv ct:au) (us:Z au),us.length=ps.length->gM (eT x x (e9 st) (cI st) (aD st) .none kV doc pm an cdv ct) #[us,[]]=pure (ps.zip us))
  (hbody:∀(f:ar) (cdv:au) (A:dh) (outer:Z cD) (s:aF) (H:Hp) (E:XK),Room k (A.deeper (bR x (aD st) s.heap.objs.size f cdv))->
   DSs O (cB CX0 P w K mg base N x (aD st) f cdv A outer s H E).nox (cI st) g):CalO O P w K mg base x ps.length (k+1) (pU (N.length-ps.length) g):=by
 obtain⟨f,fd,h1,h2⟩:=F.ex;exact#[f,fd,ps,h1.okO S (hbody f),h2,h1.kp,h1.binds hb]
def Dfn.none {st:Stmt} {k:J} (F:Dfn K mg x st)
  (hb:∀(kV doc pm:au) (an:ak ar) (cdv ct:au) (us:Z au),us.length=ps.length->gM (eT x x (e9 st) (cI st) (aD st) .none kV doc pm an cdv ct) #[us,[]]=pure (ps.zip us))
 : Cal O P w K mg base x ps.length k (λ_=>B):=by
 obtain⟨f,fd,h1,h2⟩:=F.ex;refine#[f,fd,ps,#[λvs H Q E h=>?_,λA outer s H args us vs Q E hr I b v h=>?_],h2,h1.kp,h1.binds hb]
 .obtain⟨_,_,_,_,_,_,z,_⟩:=h;cases z
 .obtain⟨_,_,_,_,_,_,z,_⟩:=h;cases z
end
noncomputable def orG (g g':D->D->ak D) (x y:D):ak D:=match g x y with
 |some z=>U z
 |none=>g' x y
variable {z:D}
section
variable {a c:Expr} {g:D->D->ak D}
def NQ {x y:D} (h:orG g g' x y=U z):g x y=U z\/g' x y=U z:=by
 unfold orG at h;split at h
 .rename_i q;cases h;exact .inl q
 .exact .inr h
def CmpD.or (h:CmpD O X op g) (h':CmpD O X op g'):CmpD O X op (orG g g'):=by
 obtain⟨r,o,d⟩:=h.ex;obtain⟨r',o',d'⟩:=h'.ex;refine#[_,o.or o',λ{G H v u x y z} gh r1 r2 q Q k=>?_];rcases NQ q with q|q
 .exact .inl (d gh r1 r2 q Q k)
 .exact .inr (d' gh r1 r2 q Q k)
def eqA:=orG eqD xc
def neA:=orG neD p7
def IJ (hu:X.A.units+64<c5):CmpD O X .Eq eqA:=bF.or (Rm hu)
def sk (hu:X.A.units+64<c5):CmpD O X .NotEq neA:=jG.or (Qs hu)
def DfnM.mk' {f:ar} {c m:af} {st:Stmt} {kV:au} (a:di K (.ref C) m=U (U (.ref f))) (i:xJ K (.ref f)=ah)
  (l:K.lookup f=U #[oc,od,.func (eT m qual (e9 st) (cI st) (aD st) .none kV doc pm an cdv ct),osl]) (cd:uz K cdv qual=ah) (k:fM K (.ref f)=ah):DfnM K C c m qual st:=#[f,_,yn l cd k,a,i]
end
section
variable {f1 f2 f3 f4 f5 f6 f7:FE}
def ln1:∀Y ds,av f1 ay Y=U ds->ds.length=1:=nO λ_ _ h=>S0 h
def ln2:∀Y ds,av f1 (av f2 ay) Y=U ds->ds.length=2:=nO ln1
def ln3:∀Y ds,av f1 (av f2 (av f3 ay)) Y=U ds->ds.length=3:=nO ln2
def ln4:∀Y ds,av f1 (av f2 (av f3 (av f4 ay))) Y=U ds->ds.length=4:=nO ln3
def ln5:∀Y ds,av f1 (av f2 (av f3 (av f4 (av f5 ay)))) Y=U ds->ds.length=5:=nO ln4
def ln6:∀Y ds,av f1 (av f2 (av f3 (av f4 (av f5 (av f6 ay))))) Y=U ds->ds.length=6:=nO ln5
def ln7:∀Y ds,av f1 (av f2 (av f3 (av f4 (av f5 (av f6 (av f7 ay)))))) Y=U ds->ds.length=7:=nO ln6
end
section
variable {p:bV} {c m:af}
end
section
open PyProof
section
variable {p:bV}
end
end
section
variable {a c i:Expr} {p:bV}
def Hj {t:Tok} (hg:Gl X x) (hm:X.mg x=U (.str y t)) (hd:(x==("__debug__":af))=ao:=by decide):DE O X (.Name x pos) (vC (.str y)):=TD.const (λ_=>.str y) (kN hg hm #[t,()] hd)
noncomputable def inS (x y:af):aR:=!(lq y x 0 y.length 1).isEmpty
def yp:D->D->ak D
 |.str x,.str y=>U (.bl (inS x y))
 |_,_=>B
def Op:CmpD O X .In yp:=#[_,Ot,λ{G H v u x y z} gh r1 r2 h Q k=>by unfold yp at h;split at h<;>cases h;cases r1.str_inv;cases r2.str_inv;exact#[_,_,(),(),k _ G H (.refl gh) (.bl _)]]
noncomputable def pp:D->Z D->ak D
 |.str x,[.str y]=>match lq x y 0 x.length 1 with
  |i::_=>U (.int (i:J))
  |[]=>B
 |_,_=>B
def VJ:MtD O X "str" "str.index" pp:=by
 refine#[#[λv vs H Q=>∃x y i aZ,v=.str x/\vs=[.str y]/\lq x y 0 x.length 1=i::aZ/\Q (.int (i:J)) H,?_,?_],?_]
 .intro XL s L H x xs v us Q I rx rs h;obtain⟨z,y,i,aZ,rfl,rfl,ho,q⟩:=h;obtain⟨t,rfl⟩:=rx;obtain⟨u,rfl,ru⟩:=fR rs;obtain⟨t2,rfl⟩:=ru;exact call_gives Zv (ox _ _ _) PySem.F.entry_str_index (PySem.F.args_str_index_2 _ _) (gives_str_index z y t t2 i aZ ho) #[.int _,H,I.tok _,#[_,()],q]
 .intro G H v x vs ds z gh r1 r2 h Q k;unfold pp at h;split at h
  .split at h
   .rename_i heq;cases h;cases r1.str_inv;obtain⟨v,rfl,r3⟩:=r2.one;cases r3.str_inv;exact#[_,_,_,_,(),(),heq,k _ G H (.refl gh) (.int _)]
   .cases h
  .cases h
 .intro G H v x ds z gh r h;unfold pp at h;split at h
  .cases r.str_inv;exact ()
  .cases h
noncomputable def jD:D->Z D->ak D
 |.str x,[.str y]=>if y.length≠0/\x.length<=1000000 then U (.lst ((fZ x y).map D.str)) else B
 |_,_=>B
theorem Reps.strs {K:aJ} {G:Hp}:∀(ns:Z af),Reps O K G (ns.map V.str) (ns.map D.str)
 |[]=>.nil
 |n::r=>.cons (.str n) (Reps.strs r)
theorem Lw:∀(l:Z (af×Tok)),bq ((l.map (·.1)).map V.str) (strValues l)
 |[]=>.nil
 |(x,t)::r=>.cons #[t,()] (Lw r)
def zP:MtD O X "str" "str.split" jD:=by
 refine#[#[λv vs H Q=>∃x y,v=.str x/\vs=[.str y]/\y.length≠0/\x.length<=1000000/\∀p,H p=B->Q (.ref p) (upd H p (.lst ((fZ x y).map V.str))),?_,?_],?_]
 .intro XL s L H x xs v us Q I rx rs h;obtain⟨z,y,rfl,rfl,hy,hz,q⟩:=h;obtain⟨t,rfl⟩:=rx;obtain⟨u,rfl,ru⟩:=fR rs;obtain⟨t2,rfl⟩:=ru;have hy':(y.length==0)=ao:=by simpa using hy
  have hlen:(fZ z y).length<=z.length+2:=split_le z y;have hsl:=gL;have fin:∀(l:Z (af×Tok)) (k:J),l.map (·.1)=fZ z y->EP X XL L Q (.ref s.heap.objs.size) {s with heap:=s.heap.push {cls:=.type "list",data:=.seq (strValues l).toArray},toks:=k}:=λl k e=>by refine#[.ref _,_,I.lnew (by rw[<-e];exact Lw l) (by rw[qe];lia),(),q _ I.fresh]
  cases h1:(decide (z.length<y.length) || decide (x9 z<x9 y))
  .cases hf:(lq z y 0 z.length (z.length+1)).isEmpty
   .have es:fZ z y=xaQ z (lq z y 0 z.length (z.length+1)) y.length:=(xa (Nc h1)).trans (xa (Nc hf));refine rK uM (ox _ _ _) Nd (Nf _ _) (meets_str_split_sep z y t t2 h1 hy' hf .(b) (by rw[<-es];lia)) ?_;rw[strsFrom_eq];exact fin _ _ ((numbered_texts _ _).trans es.symm)
   .refine rK uM (ox _ _ _) Nd (Nf _ _) (meets_str_split_not_found z y t t2 h1 hy' hf) ?_;exact fin [(z,t)] s.toks ((xa (Nc h1)).trans (qZ hf)).symm
  .refine rK uM (ox _ _ _) Nd (Nf _ _) (meets_str_split_cannot_occur z y t t2 h1) ?_;exact fin [(z,t)] s.toks (qZ h1).symm
 .intro G H v x vs ds z gh r1 r2 h Q k;unfold jD at h;split at h
  .split at h
   .rename_i hz;cases h;cases r1.str_inv;obtain⟨v,rfl,r3⟩:=r2.one;cases r3.str_inv;exact#[_,_,(),(),hz.1,hz.2,ip gh (Reps.strs _) k]
   .cases h
  .cases h
 .intro G H v x ds z gh r h;unfold jD at h;split at h
  .cases r.str_inv;exact ()
  .cases h
end
section
variable {a c i:Expr} {p:bV}
end
variable {p3 p4:bV}
section
variable {a c i:Expr} {p:bV}
end
section
variable {a c i:Expr} {p:bV}
noncomputable def BW:D->ak D
 |.int i=>U (.int (-i))
 |_=>B
noncomputable def Ak:D->ak D
 |.lst l=>U (.lst l.reverse)
 |_=>B
theorem Reps.reverse {K:aJ} {G:Hp} {ds:Z D}:∀{vs:Z V},Reps O K G vs ds->Reps O K G vs.reverse ds.reverse:=by
 induction ds with
 |nil=>intro _ r;cases r;exact .nil
 |cons d ds i=>intro _ r;cases r with|cons h r=>rw[Db,Db];exact(i r).append (.cons h .nil)
def Wp {j} (he:DE O X e f):DE O X (.Subscript e (.Slice B B (U (.UnaryOp .USub (.Constant (.int 1) j p3) p4)) p2) pos) (b1 Ak f):=⟨λXL s L H Q I=>by
 rintro⟨Tm,Ty,G,Y,d,A,h,k⟩;obtain⟨x,hx,h⟩:=oBd h;unfold Ak at h;split at h
 .rename_i l;cases h;refine C9 (thE (he.1 XL s L H (λv H'=>∃G',Step G H G' H'/\Rep O X.K G' v (.lst l)) I #[Tm,Ty,G,Y,_,A,hx,λv G' H' st r=>#[G',st,r]]) λv s1 v' H1 I1 r1 ζ=>?_);obtain⟨G1,st,rp⟩:=ζ;obtain⟨a,vs,rfl,ha,rv⟩:=rp.lst_inv;cases r1;refine wpAny_Slice (qE (qE ?_));refine thn ((R' VE vB) XL s1 L H1 (λv H'=>v=.int (-1)/\H'=H1) I1 #[_,(),(),()]) λvk s3 ζ=>?_;obtain⟨vv,H3,I3,r3,e1,e2⟩:=ζ;subst e1 e2;obtain⟨t,rfl⟩:=r3;have I4:Inv X XL L H3 {s3 with heap:=s3.heap.push {cls:=.type "slice",data:=.fields [.none,.none,.int (-1) t].toArray} }:=I3.kept λb ob q=>qv _ q;obtain⟨its,rr,hti,hz⟩:=I4.list (.inl (.inl (st.gh _ _ ha)));refine Mw hti.isList.typeIs My.lookup ?_ (by with_unfolding_all rfl);refine YK hti.isList (YE ..) .none .none (.int _ _) .(a) ?_ (by rw[qF];have:=rr.length;lia);rw[PySem.W.krv_pick];have hn:=I4.fresh;exact#[.ref _,_,I4.lnew (bq.reverse rr) (by rw[List.length_reverse];exact hz),(),ip st.gh rv.reverse (λw G2 H2 s2 r2=>k w G2 H2 (st.trans s2) r2) _ hn]
 .cases h⟩
end
section
variable {c:Expr} {p:bV}
noncomputable def dkF (F:Z D->ak (Z (Key×D))):Z D->ak D:=λds=>(F ds).map D.dk
end
section
variable {c:Expr} {p:bV}
end
namespace Law
noncomputable abbrev oS (d:D):ak Slot:=U (.sh d)
end Law
abbrev FQ:=Z D->ak D
namespace Law
def dC {p:bV} {k:J} {F:FQ} (C:Cal O X.prog X.w X.K X.mg X.base x n k F) (hr:Room j X.A) (ha:DA O X (e::es) fr) (hn:∀Y ds,fr Y=U ds->ds.length=n) (hk:k<=j:=by decide) (hg:Gl X x:=by exact ()) (hdb:(x==("__debug__":af))=ao:=by decide) (he:aK (e::es) X.env=(ao,eval e X.env)::aK es X.env:=by rfl) (hpl:(bX pos (aK es X.env)).any (·.1)=ao:=by rfl):DE O X (.Call (.Name x p) (e::es) [] pos) (cF F fr):=dz C hr hk hg ha hn hdb he hpl
def bi {P:Z af} (a:sc.kind=.function:=by rfl) (b:sc.isCoroutine=ao:=by rfl) (c:sc.isGenerator=ao:=by rfl) (d:N.Nodup:=by nofun) (e:N.take P.length=P:=by rfl) (f:∀x∈P,sc.names.lookup x=U .local∨sc.names.lookup x=U .cell:=by nofun) (g:∀y∈sc.names,y.2≠.free:=by nofun):FnScope N P sc:=#[a,b,c,d,e,f,g]
end Law
structure Fly (P:b7) (w:bU) (base:Heap) (outer:Z cD) (H H':Hp) (s:aF) (ae:Heap) (e:ar) (cls a0:au) (h:Heap):Prop where
 bst:base.StaysIn ae
 keep:∀b o,s.heap.get? b=U o->H b=B->b∉frs outer->ae.get? b=U o
 slot:∀b o,s.heap.get? b=U o->H b=B->b∈frs outer->∃sl,h.get? b=U {o with slots:=sl}
 nofl:∀b o,s.heap.get? b=U o->b∈frs outer->∀vs,o.data≠.fields vs
 free:∀b o,s.heap.get? b=U o->H b=B->H' b=B
 there:∀b o,s.heap.get? b=U o->b∉frs outer->∃o',ae.get? b=U o'
 frf:∀b∈frs outer,H b=B
 tups:∀b xs,H b=U (.tup xs)->H' b=U (.tup xs)
 frzs:∀b o u,H b=U (.frz o u)->H' b=U (.frz o u)
 tbls:∀b ps,H b=U (.tbl ps)->∃more,H' b=U (.tbl (ps++more))
 hok:HOk P w H' ae
 fly:Ng ae outer e cls a0 h
 new:H' e=B
variable {cls a0:au}
section
variable {ae:Heap} {e:ar}
def Fly.on (F:Fly P w base outer H H' s ae e cls a0 h) (k:h.UpToSlots h') (f:Ng ae outer e cls a0 h'):Fly P w base outer H H' s ae e cls a0 h':=
 #[F.bst,F.keep,λb o q n hb=>by obtain⟨sl,e1⟩:=F.slot b o q n hb;obtain⟨sl',e2⟩:=k b _ e1 (F.nofl b o q hb);exact#[sl',e2],F.nofl,F.free,F.there,F.frf,F.tups,F.frzs,F.tbls,F.hok,f,F.new]
def Fly.un (F:Fly P w base outer H H' s ae e cls a0 h):Un (frs outer) [] H H' s.heap h where
 keep:=λb o q n hb _=>F.fly.1 b o (F.keep b o q n hb)
 slot:=λb o q n hb _=>F.slot b o q n hb
 free:=λb o q n _=>F.free b o q n
 there:=λb o q _=>by
  by_cases hb:b∈frs outer
  .obtain⟨sl,e1⟩:=F.slot b o q (F.frf b hb) hb;exact#[_,e1]
  .obtain⟨o',e1⟩:=F.there b o q hb;exact#[o',F.fly.1 b o' e1]
 tups:=F.tups
 frzs:=F.frzs
 tbls:=F.tbls
def Fly.hk (F:Fly P w base outer H H' s ae e cls a0 h):HOk P w H' h:=F.hok.kept F.fly.1
end
noncomputable def CXO (P:b7) (w:bU) (base:Heap):CXT:=λouter H s E e s'=>
 ∃a cls a0 ae H',e=.ref a/\s'.os=s.os/\lh s'.gens/\Fly P w base outer H H' s ae a cls a0 s'.heap/\E cls B H'
variable {mt:aF}
section
variable {f:ar} {E:XK}
 {XL:Z (ar×bo)} {L:St} {H:Hp} {s:aF} {h1:Heap} {e:ar} {cls:au} {vs:Z au}
def IS (I:Inv (cB (CXO P w base) P w K mg base N qual scope f cd A outer mt Ty E) XL L H s) (hx:Heap.MadeExcOf s.heap h1 e cls vs) (hE:E cls B H) :
  (cB (CXO P w base) P w K mg base N qual scope f cd A outer mt Ty E).xe (.ref e) {s with heap:=h1}:=by
 have hst:=I.stack;have hin:∀env∈(bR qual scope mt.heap.objs.size f cd::outer),∀b,env.frame=U b->b∈(bR qual scope mt.heap.objs.size f cd::outer).filterMap (·.frame):=λenv he b hb=>mE.mpr #[env,he,hb];have hfs:∀b,b∈frs outer->b∈frs (bR qual scope mt.heap.objs.size f cd::outer):=λb hb=>by obtain⟨env,he,hf⟩:=mE.mp hb;exact mE.mpr #[env,qg _ he,hf]
 have hmem:∀b,b∈frs (bR qual scope mt.heap.objs.size f cd::outer)->b=mt.heap.objs.size\/b∈frs outer:=λb hb=>eC.mp (I.stkSub b hb);have old:∀b o,mt.heap.get? b=U o->b∉frs outer->b∉frs (bR qual scope mt.heap.objs.size f cd::outer):=λb o q nb hb=>by
  rcases hmem b hb with z|z
  .exact ba (qw q) (by rw[z];exact n9 _)
  .exact nb z
 have trk:∀b u,H b=U u->b∉frs (bR qual scope mt.heap.objs.size f cd::outer):=λb u q hb=>by rw[I.stkFree b hb] at q;cases q
 refine wpAny_leaves_madeW I.ok.frames () (λb o q=>Yj _ q) (PySem.W.funFrames_hide hst hin) hx λh' t x1 x2 x3 x4=>?_;have noex:∀b:ar,b∉(cB (CXO P w base) P w K mg base N qual scope f cd A outer mt Ty E).ex:=λb z=>ba (show b∈([]:Z ar) from z) (by simp);refine#[e,cls,_,_,H,(),I.os,I.bare,#[λb o q=>?_,λb o q n hb=>?_,λb o q n hb=>?_,λb o q hb=>?_,λb o q n=>I.base.free b o q n (noex b),λb o q hb=>?_,λb hb=>I.ok.frf b hb,I.base.tups,I.base.frzs,I.base.tbls,?_,x1,?_],hE]
 .refine xD _ (I.bk b o q) λhm=>?_;have z:base.get? b=B:=(hst.mem hm).1;rw[z] at q;cases q
 .exact xD _ (I.base.keep b o q n hb (noex b)) (old b o q hb)
 .obtain⟨sl,e1⟩:=I.base.slot b o q n hb (noex b);obtain⟨_,o2,e2,hnf⟩:=hst.mem (hfs b hb);rw[e1] at e2;cases e2;obtain⟨sl',e3⟩:=x4 b _ (hx.keeps _ _ e1) hnf;exact#[sl',e3]
 .obtain⟨_,o2,e2,hnf⟩:=I.ok.funs.mem hb;have z:mt.heap.get? b=U o2:=e2;rw[q] at z;cases z;exact hnf
 .obtain⟨o',e1⟩:=I.base.there b o q (noex b);exact#[o',xD _ e1 (old b o q hb)]
 .intro b u q;refine(I.hok b u q).stay (λc v hc r=>xD _ r ?_) (λ_ z=>z) λ_ _ z=>z;rcases hc with rfl|hc
  .exact trk c u q
  .exact trk c _ hc
 .cases q:H e with
  |none=>rfl
  |some u=>
   have:=(I.hok e u q).lt;have hn:=hx.new;exfalso;obtain⟨ob,hob⟩:∃ob,s.heap.get? e=U ob:=by
    have z:=I.hok e u q;cases u with
    |lst xs=>obtain⟨_,_,_,_,e⟩:=z;exact#[_,e]
    |tup xs=>obtain⟨_,_,_,⟨o,e,_⟩⟩:=z;exact#[_,e]
    |dK kvs=>obtain⟨_,_,_,_,o,_,_,e,_⟩:=z;exact#[_,e]
    |dT kvs=>obtain⟨_,_,_,_,o,_,_,e,_⟩:=z;exact#[_,e]
    |set S n=>obtain⟨o,_,_,_,e,_⟩:=z;exact#[_,e]
    |ins C dx fs=>obtain⟨_,_,_,e,_⟩:=z;exact#[_,e]
    |own y=>obtain⟨_,e⟩:=z;exact#[_,e]
    |frz ob u=>obtain⟨e,_⟩:=z;exact#[_,e]
    |tbl ps=>exact#[_,z]
    |ext φ=>obtain⟨_,⟨_,e⟩,_⟩:=z;exact#[_,e]
   rw[hn] at hob;cases hob
end
def PN (O:Cn) (K:aJ) (n:String) (R:Hp->Prop) (E:Ends) (Ty G' H':Hp) (BT:St) (fl:Fl):Prop:=(fl=.rt (.ty n)->R H')/\(fl≠.rt (.ty n)->nQ O K E Ty G' H' BT fl)
inductive TDx (O:Cn) (K:aJ) (n:String) (R:Hp->Prop) (g:FS) (E:Ends) (L:St) (H:Hp):Prop where
 |mk:∀Tm Ty G Y fl KK,At O K Tm Ty G H Y L->g Y=U (fl,KK)->(∀BT G' H',a9 G G'->At O K Tm Ty G' H' KK BT->PN O K n R E Ty G' H' BT fl)->TDx O K n R g E L H
structure DX (O:Cn) (X:Cx) (n:String) (R:Hp->Prop) (st:Stmt) (g:FS):Prop where
 out:PS X st (TDx O X.K n R g)
noncomputable def yG (n:String) (fr:FA):FS:=λY=>(fr Y).map λ_=>(.rt (.ty n),Y)
section
variable {f:ar} {E:XK}
 {R:Hp->Prop} {n:String} {x:af} {np cpos pos:bV} {e₀:Expr} {aZ:Z Expr} {fr:FA} {Bn newId initId:String} {bmB:Z au}
def SG (hE:∀H',R H'->E (.ref C) B H') (Γ:ya x C bmB newId mg base) (FB:Nh Bn newId initId bmB)
  (hg:Gl (cB (CXO P w base) P w K mg base N qual scope f cd A outer mt Ty E) x)
  (ha:DA O (cB (CXO P w base) P w K mg base N qual scope f cd A outer mt Ty E) (e₀::aZ) fr) (hn:∀Y ds,fr Y=U ds->ds.length<=aH)
  (he:aK (e₀::aZ) (bR qual scope mt.heap.objs.size f cd)=(ao,eval e₀ (bR qual scope mt.heap.objs.size f cd))::aK aZ (bR qual scope mt.heap.objs.size f cd):=by rfl)
  (hpl:(bX cpos (aK aZ (bR qual scope mt.heap.objs.size f cd))).any (·.1)=ao:=by rfl) (hdb:(x==("__debug__":af))=ao:=by decide) :
  DX O (cB (CXO P w base) P w K mg base N qual scope f cd A outer mt Ty E) n R (.Raise (U (.Call (.Name x np) (e₀::aZ) [] cpos)) B pos) (yG n fr):=⟨by
 intro XL s L H D I hq;obtain⟨Tm,H₀',G,Y,fl,KK,At0,h,k⟩:=hq;obtain⟨ds,hd,h⟩:=oMd h;cases h;have hh:(cB (CXO P w base) P w K mg base N qual scope f cd A outer mt Ty E).A.handled=B:=I.ok.hd ();obtain⟨tl,Ns,nm,q,bs,hdct,sn,sub,ab,col,dd,k0,k1,k2,k3,k5,mN,hC,hN,hni,T⟩:=Γ.obj;refine Zw (nm:=nm) (q:=q) (N:=Ns) (bs:=bs) (bm:=tl) (hdct:=hdct) (sn:=sn) (sub:=sub) (ab:=ab) (col:=col) (dd:=dd) (k0:=k0) (k1:=k1) (k2:=k2) (k3:=k3) (k5:=k5)
  FB (mN:=mN) (T.hasType FB.hasBase) hh ?_ hni (nZ I hg Γ.bound #[(),?_] hdb)
 .show(bX cpos (aK (e₀::aZ) (bR qual scope mt.heap.objs.size f cd))).any (·.1)=ao;rw[he];show(ao || (bX cpos (aK aZ (bR qual scope mt.heap.objs.size f cd))).any (·.1))=ao;rw[hpl];rfl
 .have key:=ha.out cpos XL s L H (λvs H1=>vs.length<=aH/\R H1) I #[Tm,H₀',G,Y,ds,At0,hd,λvs G' H' st r=>#[by rw[r.length];exact hn Y ds hd,(k L G' H' st.gg (At0.step st)).1 ()]];have key':aM (aL P w) (A.deeper (bR qual scope mt.heap.objs.size f cd)) (CI (bX cpos (aK (e₀::aZ) (bR qual scope mt.heap.objs.size f cd)))) _ _ s:=key;show aM (aL P w) (A.deeper (bR qual scope mt.heap.objs.size f cd)) (evalArgs (.ref C) ah (bX cpos (aK (e₀::aZ) (bR qual scope mt.heap.objs.size f cd))) []) _ _ s;rw[he] at key' ⊢;refine MB (fj key' (λvs s₂ h₂=>?_) λ_ _ y=>y);obtain⟨xs,H2,I2,r2,z2,w2⟩:=h₂;have kb:=I2.bk;exact#[(),by rw[<-r2.length];exact z2,kb _ _ hC,hN.keeps kb,T.keeps kb,λh' e hx=>IS I2 hx (hE _ w2)]⟩
end
def e6 (a:ar) (cls:au) (h:Heap):Prop:=∃o vs,h.get? a=U o/\o.cls=cls/\o.data=.fields vs
def e6.stay (x:e6 a cls h1) (k:∀o,h1.get? a=U o->h2.get? a=U o):e6 a cls h2:=by obtain⟨o,vs,e,c⟩:=x;exact#[o,vs,k _ e,c]
section
variable {ae:Heap} {e:ar}
def Fly.exc (F:Fly P w base outer H H' s ae e cls a0 h):e6 e cls h:=by obtain⟨oe,vs,h1,h2,h3,h4⟩:=F.fly.first;exact#[oe,vs,h1,h2,h3]
def Fly.fresh (F:Fly P w base outer H H' s ae e cls a0 h):s.heap.get? e=B:=by
 cases q:s.heap.get? e with
 |none=>rfl
 |some o=>
  exfalso;have nf:e∉frs outer:=λhb=>by obtain⟨_,o',h1,h2⟩:=F.fly.2.2.1.mem hb;obtain⟨oe,vs,k1,k2,k3⟩:=F.exc;rw[h1] at k1;cases k1;exact h2 vs k3
  obtain⟨o',z⟩:=F.there e o q nf;rw[F.fly.2.1] at z;cases z
def Fly.unE (F:Fly P w base outer H H' s ae e cls a0 h):Un (frs outer) [] H (upd H' e (.ext (e6 e cls))) s.heap h:=by
 have u:=F.un;have ne:∀b u,H' b=U u->b≠e:=λb u q z=>by subst z;rw[F.new] at q;cases q
 refine#[u.keep,u.slot,λb o q n hx=>?_,u.there,λb xs q=>?_,λb o xs q=>?_,λb ps q=>?_]
 .rw[aW (λz=>by subst z;rw[F.fresh] at q;cases q)];exact u.free b o q n hx
 .have z:=u.tups b xs q;rw[aW (ne b _ z)];exact z
 .have z:=u.frzs b o xs q;rw[aW (ne b _ z)];exact z
 .obtain⟨m,z⟩:=u.tbls b ps q;exact#[m,by rw[aW (ne b _ z)];exact z]
def Fly.hkE (F:Fly P w base outer H H' s ae e cls a0 h):HOk P w (upd H' e (.ext (e6 e cls))) h:=by
 have ne:∀b u,H' b=U u->b≠e:=λb u q z=>by subst z;rw[F.new] at q;cases q
 intro b u q;by_cases hb:b=e
 .subst hb;rw[bK] at q;cases q;obtain⟨o,vs,k1,_⟩:=id F.exc;exact#[F.exc,#[o,k1],λh1 h2 p k=>p.stay k]
 .rw[aW hb] at q;exact(F.hk b u q).stay (λc v _ r=>r) (λc z=>by rw[aW (ne c _ z)];exact z) λc xs z=>by rw[aW (ne c _ z)];exact z
end
noncomputable abbrev Cx.marked (X:Cx) (v:au):Cx:={X with A:=X.A.mark (U v),calm:=ao,xe:=λ_ _=>False}
section
variable {v:au}
def Inv.marked (I:Inv X XL L H s) (v:au):Inv (X.marked v) XL L H s:=
 #[#[I.ok.mod,I.ok.kind,I.ok.glob,I.ok.blt,I.ok.above,I.ok.inj,I.ok.has,I.ok.cab,(fun z=>nomatch z),I.ok.frames,I.ok.stk,I.ok.exf,I.ok.bs,I.ok.bsz,I.ok.noex,I.ok.exfs,I.ok.funs,I.ok.frf],I.os,I.bare,I.base,I.loc,I.cell,I.free,I.freeC,I.pin,I.hok,I.len]
def Inv.unmarked (ok:X.Ok) (I:Inv (X.marked v) XL L H s):Inv X XL L H s:=#[ok,I.os,I.bare,I.base,I.loc,I.cell,I.free,I.freeC,I.pin,I.hok,I.len]
def Oo {M:rj} {n:af} {Q:li->aF->Prop} (I:Inv X XL L H s) (hN:X.N.Nodup) (hj:X.N[j]?=U n) (hk:X.env.kindOf n=U .local)
  (h:∀s',Inv X XL (L.set j B) H s'->Q .unit s'):aM M A (do bindName X.env n .none;unbindBehindTheSuite X.env n pos) Q E s:=by
 obtain⟨m,hn,hl⟩:=id I.loc;have hcls:(X.env.scope.kind==.class || (X.env.scope.kind==.module && X.env.locals != X.env.globals))=ao:=by rw[I.ok.kind];rfl
 have hjσ:j < L.length:=by rw[I.len];exact(gv.mp hj).1
 have cne:=I.cne;refine wpAny_nameGoes_keeps hk hn hcls λh' v hn' hs=>?_;obtain⟨oL,_,_,hoL,_⟩:=id hn;have tracked:HOk X.prog X.w H h':=λb ob e=>by
  refine(I.hok b ob e).stay (λc w' hc q=>(hs.2 c ?_).trans q) (λ_ q=>q) λ_ _ q=>q;rintro rfl;rcases hc with rfl|hc
  .rw[I.free] at e;cases e
  .rw[I.free] at hc;cases hc
 refine h _ #[I.ok,I.os,I.bare,#[λb o e n hb hx=>?_,λb o e n hb hx=>?_,I.base.free,λb o e hx=>?_,I.base.tups,I.base.frzs,I.base.tbls],#[_,hn',λi y v' e1 e2 e3=>?_],λy c e=>?_,I.free,I.freeC,λp hp=>?_,tracked,by simpa using I.len]
 .exact (hs.2 b (qG (qI (qw e) I.ok.above))).trans (I.base.keep b o e n hb hx)
 .obtain⟨sl,e1⟩:=I.base.slot b o e n hb hx;exact#[sl,(hs.2 b (qG (qI (qw e) I.ok.above))).trans e1]
 .obtain⟨o',e1⟩:=I.base.there b o e hx;exact#[o',(hs.2 b (qG (qI (qw e) I.ok.above))).trans e1]
 .by_cases hi:i=j
  .subst hi;rw[iZ hjσ] at e2;cases e2
  .rw[qC (dU hi)] at e2;obtain⟨u',r',q⟩:=hl i y v' e1 e2 e3;refine#[u',r',?_];rcases q with⟨k,e⟩|⟨k,c,e,z⟩
   .refine .inl #[k,?_];have:y≠n:=λe=>hi (Am hN e1 (e▸hj));simp[this,e]
   .exact .inr #[k,c,e,z.sameBut hs (cne y c e)]
 .obtain⟨w',z⟩:=I.cell y c e;exact#[w',z.sameBut hs (cne y c e)]
 .obtain⟨e,n,ne,nf,d⟩:=I.pin p hp;exact#[(hs.2 p.1 ne).trans e,n,ne,nf,d]
end
variable {tk:Tok}
section
open PySem.W Builtin Builtin.ObjectAttr Builtin.Getset_descriptor
structure ExcK (K:aJ) (C:ar):Prop where
 cls:∃cd,clsIn K C=U cd
 ga:findIn K (.ref C) "__getattribute__"=U (U (.builtin "BaseException.__getattribute__"))
 noga:findIn K (.ref C) "__getattr__"=U B
 lk:findIn K (.ref C) "__class__"=U (U (.builtin "object.__class__"))
 gs:specialIn K (.builtin "object.__class__") "__get__"=U (U (.builtin "getset_descriptor.__get__"))
 takes:takesIn K (.builtin "object.__class__")=U ah
 mro:mroIn K C (.type "object")=U ah
 base:subIn K (.ref C) (.type "BaseException")=U ah
section
variable {x:ar} {M:rj}
def sM (p:e6 x (.ref C) h):Looks M h (xP (.ref x)) (.ref C):=by obtain⟨o,vs,h1,h2,_⟩:=p;exact h2▸(Zx h1).andThen .now
def P2 (ac:ExcK K C) (X:K.In h):Looks M h (xaR (.ref x) (.ref C) "__class__") (.bind (.builtin "getset_descriptor.__get__") (.builtin "object.__class__")):=by have L1:=looks_findIn (M:=M) X ac.lk;have L2:Looks M h (xaS (U (.builtin "object.__class__"))) (U (.builtin "getset_descriptor.__get__")):=looks_specialIn X ac.gs;have L3:=looks_takesIn (M:=M) X ac.takes;exact L1.andThen (L2.andThen ((show Looks M h (xaT (U (.builtin "object.__class__")) (U (.builtin "getset_descriptor.__get__"))) (U (.builtin "getset_descriptor.__get__",.builtin "object.__class__")) from L3.andThen .now).andThen (Looks.tag .now)))
def OU {tp:au} (ac:ExcK K C) (X:K.In s.heap) (p:e6 x (.ref C) s.heap)
  (h:R (.ok (.ret (.ref C))) s):hU (aL prog w) A (.call (.builtin "getset_descriptor.__get__") #[[.builtin "object.__class__",.ref x,tp],[]]) R s:=by
 obtain⟨hh,g,dr,t,os⟩:=s;have L0:=sM (M:=aL prog w) p;have L1:=looks_mroIn (M:=aL prog w) X ac.mro;refine Ds KF.slot_gs.plain KF.entry_gs (KF.slot_gs.check _ _ _ _ _ _ _ _ KF.type_class (KF.args_gs _ _ _) ?_);unfold Builtin.«getset_descriptor.__get__» descrGet;rw[dga_obj];refine qA (qE ?_);unfold descrGetter descrCheckInstance descrNameAndClass isInstance;simp only[KF.owner_class]
 repeat lk
 refine#[Zm _ (by nofun),uK KF.entry_class ?_]
 repeat lk
 exact h
def VD {Q:Fin->aF->Prop} (ac:ExcK K C) (X:K.In s.heap) (p:e6 x (.ref C) s.heap) (h:Q (.done (.ret (.ref C))) s) :
  aM (aL prog w) A (Builtin.«object.__getattribute__» #[[.ref x,.str "__class__" tk],[]]) Q E s:=by
 obtain⟨hh,g,dr,t,os⟩:=s;have L0:=sM (M:=aL prog w) p;have L1:=P2 (M:=aL prog w) (x:=x) ac X;refine qA (qE ?_);refine qA (qE ?_);refine qA (L0.at (qA (L1.at ?_)));exact qA (qW (rD (OU ac X p (qE h))))
def Q8 {nameV:au} {Q:li->aF->Prop} (ac:ExcK K C) (X:K.In s.heap) (p:e6 x (.ref C) s.heap) (hq:Q .unit s):aM M A (Zy "BaseException.__getattribute__" #[[.ref x,nameV],[]]) Q E s:=by
 obtain⟨hh,g,dr,t,os⟩:=s;have hk:builtinKind "BaseException.__getattribute__"=U .slot:=by nofun
 have hsplit:splitId "BaseException.__getattribute__"=U ("BaseException","__getattribute__"):=by nofun
 have L0:=sM (M:=M) p;have L1:Looks M hh (isSubtype (.ref C) (.type "BaseException")) ah:=looks_subIn X ac.base;have L2:Looks M hh (isInstance (.ref x) (.type "BaseException")) ah:=L0.andThen L1;have ha:=F.args_bexc_ga (.ref x) nameV;simp only[Zy,hk,hsplit];refine qA (L2.at ?_)
 repeat (first|exact hq|wp_step)
def WU (ac:ExcK K C) (X:K.In s.heap) (p:e6 x (.ref C) s.heap) (h:R (.ok (.ret (.ref C))) s) :
  hU (aL prog w) A (.call (.builtin "BaseException.__getattribute__") #[[.ref x,.str "__class__" tk],[]]) R s:=
 Ds Zz.ga.plain F.entry_bexc_ga (Q8 ac X p (VD ac X p h))
def Sc {Q:ak au->aF->Prop} (ac:ExcK K C) (X:K.In s.heap) (p:e6 x (.ref C) s.heap) (h:Q (U (.ref C)) {s with toks:=s.toks+1}):aM (aL prog w) A (getAttr? (.ref x) "__class__") Q E s:=by obtain⟨hh,g,d,t,os⟩:=s;have L0:=sM (M:=aL prog w) p;have L1:=looks_findIn (M:=aL prog w) X ac.ga;have L2:=looks_findIn (M:=aL prog w) X ac.noga;have hb:=Zz.ga.bind (.ref x);refine qA (wpAny_mkText (qA (x6 (qW (qA (L0.at (qA (L1.at ?_))))))));refine qA (L2.at ?_);refine qA (x6 (qW ?_));show aM _ _ (ZA _ _ _) _ _ _;unfold ZA;rw[hb];refine qA (qE ?_);refine rD (WU ac X p ?_);exact handed_on () (qE h)
def TZ (ac:ExcK K C):KitX K (.ref x) (.ref C) (e6 x (.ref C)) where
 ty:=λ_ _ _ p=>sM p
 it:=λ_ _ X _=>by
  obtain⟨cdD,hcD⟩:=ac.cls;unfold clsIn at hcD;split at hcD
  .rename_i c' d' cd' sl' ho;intro A' Q' E' s' k q;exact qA (Ys (k _ _ (X _ _ ho)) (qE q))
  .cases hcD
 ne:=λh tp dd its n sl X htp=>by
  obtain⟨cdD,hcD⟩:=ac.cls;refine Do.mpr λq=>?_;have e:C=tp:=ZB (i6.mp q);subst e;unfold clsIn at hcD;split at hcD
  .rename_i c' d' cd' sl' ho;have z:=(X _ _ ho).symm.trans htp;cases z
  .cases hcD
 ca:=λX p k=>Sc ac X p k
end
end
section
variable {a c i:Expr} {p:bV}
end
section
variable {a:Expr}
def Tq (h:DE O X a fa):DE O X (.UnaryOp .USub a pos) (b1 BW fa):=⟨λXL s L H Q I=>by
 rintro⟨Tm,Ty,G,Y,d,A,hq,k⟩;obtain⟨x,hx,hq⟩:=oBd hq;refine Mb (thE (h.1 XL s L H (λv H'=>∃G',Step G H G' H'/\Rep O X.K G' v x) I #[Tm,Ty,G,Y,x,A,hx,λv G' H' st r=>#[G',st,r]]) λv s1 v' H1 I1 r1 ζ=>?_);obtain⟨G1,st,rp⟩:=ζ;unfold BW at hq;split at hq
 .cases hq;cases rp.int_inv;obtain⟨t,rfl⟩:=r1;exact xaU #[.int _,H1,I1.tok _,#[_,()],k _ G1 H1 st (.int _)]
 .cases hq⟩
end
noncomputable def u5:V->ak au
 |.ref a=>U (.ref a)
 |.ty n=>U (.type n)
 |_=>B
variable {cv:au}
def GT {c:V} (r:bz c u) (h:u5 c=U cv):u=cv:=by
 cases c<;>cases h
 .exact r
 .exact r
theorem Fp {xs:Z V}:∀{us its:Z au},bq xs us->xs.mapM u5=U its->us=its:=by
 induction xs with
 |nil=>intro _ _ r h;cases r;cases h;rfl
 |cons x xs i=>intro _ _ r h;cases r with|cons r t=>rw[List.mapM_cons] at h;obtain⟨a,ha,h⟩:=oBd h;obtain⟨b,hb,h⟩:=oBd h;cases h;rw[GT r ha,i t hb]
inductive TyX (K:aJ) (H:Hp):V->au->Prop where
 |non:TyX K H .non (.type "NoneType")
 |exc {a C:ar}:H a=U (.ext (e6 a (.ref C)))->ExcK K C->TyX K H (.ref a) (.ref C)
inductive IsiC (K:aJ) (H:Hp) (t:au):V->aR->Prop where
 |one {c:V} {cv:au} {b:aR}:u5 c=U cv->oa K t cv=U b->IsiC K H t c b
 |tup {tp:ar} {xs:Z V} {its:Z au} {b:aR}:H tp=U (.tup xs)->xs.mapM u5=U its->Ni K t its=U b->IsiC K H t (.ref tp) b
def VW (K:aJ):Z V->Hp->VK->Prop:=λvs H Q=>∃x t c b,vs=[x,c]/\TyX K H x t/\IsiC K H t c b/\Q (.bl b) H
def AG:fO X (.builtin "isinstance") (VW X.K):=by
 intro XL s L H xs us Q I r h;obtain⟨x,t,c,b,rfl,ty,ic,q⟩:=h;obtain⟨u,w',rfl,r1,r2⟩:=z9 r;have fin:∀tk,EP X XL L Q (.bool b) {s with toks:=tk}:=λtk=>#[.bl b,H,I.tok tk,rfl,q];have go:∀{Hh:Heap->Prop} {xv:au},u=xv->PySem.W.KitX X.K xv t Hh->Hh s.heap->xv≠.builtin "__main__.__loader__#opaque"->aM (aL X.prog X.w) X.A (call (.builtin "isinstance") [u,w']) (EP X XL L Q) X.xe s:=λ{Hh xv} eu ac p hx=>by
  subst eu;cases ic with
  |one hv hk=>
   have e:=GT r2 hv;subst e;exact kc ac I.kIn p hk hx fin
  | @tup tp ys its _ htp hm hk=>
   cases(r2);obtain⟨hz,its',rv,o,ho,hoc,n,hod⟩:=(I.hok tp _ htp);have e:=Fp rv hm;subst e;obtain⟨oc,odi,oda,osl⟩:=o;simp only at hoc hod;subst hoc hod;exact PySem.W.kia_tup ac I.kIn p ho hk hx fin
 cases ty with
 |non=>exact go r1 Yw iz (fun z=>nomatch z)
 | @exc a C ha ac=>
  obtain⟨p,_⟩:=(I.hok a _ ha);exact go r1 (TZ ac) p (fun z=>nomatch z)
def NP {bmB:Z au} {newId:String} (X:K.In base) (hm:mg x=U (.ref C)) (q:Nj K C bmB newId=ah):ya x C bmB newId mg base:=by
 refine#[hm,?_];unfold Nj at q;split at q
 .rename_i dd0 cd0 sl0 look;split at q
  .rename_i C1 bm1 p0 p1 p2 p3 nw p5 hmro hsl;simp only[Nk,eM,i6] at q;obtain⟨⟨⟨⟨⟨rfl,rfl⟩,nodel⟩,tl⟩,nsok⟩,noin⟩:=q;obtain⟨y1,y2,y3,y4,y5,y6,y7,y8,y9,y10,y11⟩:=cd0;dsimp only at hmro nodel nsok noin;subst hmro nodel;obtain⟨sll⟩:=sl0;simp only at hsl;subst hsl;exact#[bm1,y4,y1,y5,y2,y6,y7,y8,y9,y10,dd0,p0,p1,p2,p3,p5,_,X _ _ look,.of_isNs (PySem.W.isNs_of_in X nsok),PySem.W.nsMap_none_of_in X nsok noin,PySem.W.tail_of_in X tl]
  .cases q
 .cases q
noncomputable def del (G:Hp) (a:ar):Hp:=λb=>if b=a then B else G b
section
variable {f:ar} {E:XK}
 {XL:Z (ar×bo)} {L:St} {H:Hp} {s:aF} {e C t dx:ar}
end
variable {CS:ar}
section
variable {f fI:ar} {E:XK}
 {R:af->Hp->Prop} {x fl:af} {np cpos pos:bV} {e₀:Expr} {fr:FA} {k j:J}
end
section
open PyProof
end
section
open PyProof
end
section
variable {a:Expr}
end
noncomputable def bt (p:ar) (H:Hp):Hp:=λa=>if a=p then B else H a
def nz {p:ar} :bt p H p=B:=qZ ()
def dO {p:ar} (h:a≠p):bt p H a=H a:=xa h
def gl {p:ar} {o:HO} (h:bt p H a=U o):a≠p/\H a=U o:=by
 unfold bt at h;split at h
 .cases h
 .exact#[by assumption,h]
variable {H₁:Hp}
def SR.h0 {s:Slot} (r:SR O K Ty G H s v fp) (h:∀b∈fp,H₁ b=B):SR O K H₁ G H s v fp:=by
 cases r with
 |sh r=>exact .sh r
 |own h1 h2 h3 h4=>exact .own (h _ qf) h2 h3 h4
 |obj c h1 h2 h3 h4 h5 hs=>exact .obj c (h _ qf) h2 h3 h4 h5 hs
 |objd c h1 h2 h3 h4 h5 q1 q2 q3 q4 q5 hs=>exact .objd c (h _ qf) h2 h3 h4 h5 (h _ (qg _ qf)) q2 q3 q4 q5 hs
 |pin a=>exact .pin a
structure Rg (R:Type) where
 rc:Hp->R->HO->Prop
 mono:∀{G G':Hp} {r:R} {o:HO},a9 G G'->rc G r o->rc G' r o
variable {R:Type}
structure Md (R:Type) where
 rg:Rg R
 ac:Hp->Prop
 O:Cn
 i:J
structure RAt {R:Type} (m:Md R) (K:aJ) (Tm Ty G H:Hp) (Y:bj) (L:St) (p:ar) (r:R):Prop where
 at':At m.O K Tm Ty G (bt p H) Y L
 sl:Y[m.i]?=U (U (.pin p))
 here:∃o,H p=U o/\m.rg.rc G r o
structure RStep {R:Type} (rg:Rg R) (p:ar) (r:R) (G H G' H':Hp):Prop where
 st:Step G (bt p H) G' (bt p H')
 here:∃o,H' p=U o/\rg.rc G' r o
variable {KK:bj}
section
variable {m:Md R} {p:ar} {r r1 r2:R}
def RAt.gp (A:RAt m K Tm Ty G H Y L p r):G p=B:=A.at'.gh.free nz
def RAt.gh (A:RAt m K Tm Ty G H Y L p r):a9 G H:=λb o e=>(gl (A.at'.gh b o e)).2
def RAt.h0p (A:RAt m K Tm Ty G H Y L p r):Ty p=B:=A.at'.st.hh.free nz
def RAt.var (A:RAt m K Tm Ty G H Y L p r):L[m.i]?=U (U (.ref p)):=by obtain⟨v,fp,h1,h2⟩:=A.at'.get A.sl;cases h2;exact h1
def RAt.shut (A:RAt m K Tm Ty G H Y L p r) {w:HO} (he:H p=U w):At m.O K Tm (upd Ty p w) G H Y L:=by
 have st:=A.at'.st;refine#[#[λb o e=>?_,st.gg,A.gh,λb o e=>?_],?_]
 .by_cases hb:b=p
  .subst hb;rw[bK] at e;rw[<-e];exact he
  .rw[aW hb] at e;exact(gl (st.hh b o e)).2
 .by_cases hb:b=p
  .subst hb;rw[A.gp,st.gg.free A.gp]
  .rw[aW hb] at e;exact st.out b o e
 .obtain⟨fps,h,ap⟩:=A.at'.env.sl;refine#[A.at'.env.len,fps,λj s e=>?_,ap];obtain⟨v,h1,h2⟩:=h j s e;have hf:=h2.fpt;have ne:∀b∈fps j,b≠p:=λb hb=>by obtain⟨_,_,o,e⟩:=hf b hb;exact(gl e).1
  have h3:=h2.stay (.refl G) (λb hb=>(hf b hb).2.1) (λb hb=>(dO (ne b hb)).symm);exact#[v,h1,h3.h0 λb hb=>by rw[aW (ne b hb)];exact(hf b hb).1]
def RAt.open' (A:RAt m K Tm Ty G H Y L p r) {w:HO} (hw:m.rg.rc G r w) (sm:a9 G G') (ae:At m.O K Tm (upd Ty p w) G' H' KK BT) (hs:KK[m.i]?=Y[m.i]?):RAt m K Tm Ty G' H' KK BT p r:=by
 have st:=ae.st;have hp:H' p=U w:=st.hh _ _ bK;have gp:G' p=B:=(st.out _ _ bK).trans (A.at'.st.gg.free A.gp);have ne0:∀b o,Ty b=U o->b≠p:=λb o e z=>by subst z;rw[A.h0p] at e;cases e
 have neg:∀b o,G' b=U o->b≠p:=λb o e z=>by subst z;rw[gp] at e;cases e
 refine#[#[#[λb o e=>?_,st.gg,λb o e=>?_,λb o e=>st.out b o (by rw[aW (ne0 b o e)];exact e)],?_],hs.trans A.sl,w,hp,m.rg.mono sm hw]
 .rw[dO (ne0 b o e)];exact st.hh b o (by rw[aW (ne0 b o e)];exact e)
 .rw[dO (neg b o e)];exact st.gh b o e
 .obtain⟨fps,h,ap⟩:=ae.env.sl;refine#[ae.env.len,fps,λj s e=>?_,ap];obtain⟨v,h1,h2⟩:=h j s e;have hf:=h2.fpt;have ne:∀b∈fps j,b≠p:=λb hb z=>by have:=(hf b hb).1;rw[z,bK] at this;cases this
  have h3:=h2.stay (.refl G') (λb hb=>(hf b hb).2.1) (λb hb=>dO (ne b hb));exact#[v,h1,h3.h0 λb hb=>by have:=(hf b hb).1;rwa [aW (ne b hb)] at this]
def RAt.full (A:RAt m K Tm Ty G H Y L p r):At m.O K Tm Ty G H Y L:=by
 obtain⟨w,he,_⟩:=A.here;have ae:=A.shut he;have ne0:∀b o,Ty b=U o->b≠p:=λb o e z=>by subst z;rw[A.h0p] at e;cases e
 refine#[#[λb o e=>ae.st.hh b o (by rw[aW (ne0 b o e)];exact e),ae.st.gg,ae.st.gh,A.at'.st.out],?_];obtain⟨fps,h,ap⟩:=ae.env.sl;refine#[ae.env.len,fps,λj s e=>?_,ap];obtain⟨v,h1,h2⟩:=h j s e;exact#[v,h1,h2.h0 λb hb=>by
  have:=(h2.fpt b hb).1;by_cases z:b=p
  .rw[z];exact A.h0p
  .rwa [aW z] at this]
def RAt.pure (A:RAt m K Tm Ty G H Y L p r) (s:Step G H G' H'):RStep m.rg p r G H G' H':=by
 obtain⟨w,he,hw⟩:=A.here;have gp:G' p=B:=(s.out _ _ he).trans A.gp;refine#[#[λb o e=>?_,s.gg,λb o e=>?_,λb o e=>s.out b o (gl e).2],w,s.hh _ _ he,m.rg.mono s.gg hw]
 .rw[dO (gl e).1];exact s.hh b o (gl e).2
 .have:b≠p:=λz=>by subst z;rw[gp] at e;cases e
  rw[dO this];exact s.gh b o e
def RAt.step (A:RAt m K Tm Ty G H Y L p r) (s:RStep m.rg p r1 G H G' H'):RAt m K Tm Ty G' H' Y L p r1:=#[A.at'.step s.st,A.sl,s.here]
def RStep.trans (a:RStep m.rg p r1 G H G1 H1) (b:RStep m.rg p r2 G1 H1 G2 H2):RStep m.rg p r2 G H G2 H2:=#[a.st.trans b.st,b.here]
def RAt.refl (A:RAt m K Tm Ty G H Y L p r):RStep m.rg p r G H G H:=#[.refl A.at'.gh,A.here]
end
abbrev FM (R α:Type):=bj->R->ak (ak (α×R))
abbrev FR (R:Type):=FM R D
abbrev FRt (R:Type):=FM R aR
abbrev FRa (R:Type):=FM R (Z D)
abbrev FRs (R:Type):=bj->R->ak (ak (Fl×bj×R))
variable {γ δ:Type}
section
variable {k k':α->β->Prop} {ac Z':Prop} {x:ak (ak (α×β))}
inductive Okx (k:α->β->Prop) (ac:Prop):ak (ak (α×β))->Prop where
 |ok {a:α} {b:β}:k a b->Okx k ac (U (U (a,b)))
 |ex:ac->Okx k ac (U B)
def Okx.imp (h:Okx k ac x) (f:∀a b,k a b->k' a b) (g:ac->Z'):Okx k' Z' x:=by
 cases h with
 |ok h=>exact .ok (f _ _ h)
 |ex h=>exact .ex (g h)
noncomputable def ob (x:ak (ak (α×β))) (g:α->β->ak (ak γ)):ak (ak γ):=x.bind λo=>match o with
 |none=>U B
 |some y=>g y.1 y.2
def Okx.bind {g:α->β->ak (ak (γ×δ))} {k:γ->δ->Prop} (h:Okx k ac (ob x g)):Okx (λa b=>Okx k ac (g a b)) ac x:=by
 cases x with
 |none=>cases h
 |some o=>
  cases o with
  |none=>cases h with|ex z=>exact .ex z
  |some y=>exact .ok h
end
def rb (f:FM R α) (g:bj->α->R->ak (ak (β×R))):FM R β:=λY r=>ob (f Y r) (g Y)
noncomputable def rP (f:bj->ak α):FM R α:=λY r=>(f Y).map λd=>U (d,r)
def rM (f:FM R α) (g:α->ak β):FM R β:=λY r=>ob (f Y r) λa r=>(g a).map λb=>U (b,r)
inductive TX {R α:Type} (m:Md R) (K:aJ) (f:FM R α) (L:St) (G H:Hp) (k:α->Hp->Hp->Prop):Prop where
 |mk {Tm Ty Y p r}:RAt m K Tm Ty G H Y L p r->Okx (λa r'=>∀G' H',RStep m.rg p r' G H G' H'->k a G' H') (∀r' G' H',RStep m.rg p r' G H G' H'->m.ac H') (f Y r)->TX m K f L G H k
section
variable {m:Md R} {f:FM R α} {g:bj->α->R->ak (ak (β×R))} {e:α->ak β} {F:bj->ak α} {k:β->Hp->Hp->Prop} {k' k₁:α->Hp->Hp->Prop}
def TX.bind (t:TX m K (rb f g) L G H k) (h:∀a G1 H1,a9 G G1->a9 G1 H1->TX m K (λY r=>g Y a r) L G1 H1 k->k' a G1 H1):TX m K f L G H k':=by obtain⟨A,t⟩:=t;exact#[A,t.bind.imp (λa r1 t G1 H1 s=>h a G1 H1 s.st.gg (A.step s).gh #[A.step s,t.imp (λb r2 k G2 H2 s2=>k G2 H2 (s.trans s2)) λz r2 G2 H2 s2=>z r2 G2 H2 (s.trans s2)]) id]
def TX.map (t:TX m K (rM f e) L G H k) (h:∀a b G1 H1,a9 G G1->a9 G1 H1->e a=U b->(∀G2 H2,Step G1 H1 G2 H2->k b G2 H2)->k' a G1 H1):TX m K f L G H k':=by
 obtain⟨A,t⟩:=t;refine#[A,t.bind.imp (λa r1 t G1 H1 s=>?_) id];cases e1:e a with
 |none=>rw[e1] at t;cases t
 |some b=>
  rw[e1] at t;cases t with|ok q=>exact h a b G1 H1 s.st.gg (A.step s).gh e1 λG2 H2 s2=>q G2 H2 (s.trans ((A.step s).pure s2))
def TX.wit {k:α->Hp->Hp->Prop} (t:TX m K f L G H λa G H=>(∃Y r r',f Y r=U (U (a,r')))->k a G H):TX m K f L G H k:=by
 obtain @⟨Tm,Ty,Y,p,r,A,t⟩:=t;refine#[A,?_];generalize e:f Y r=x at t;cases t with
 |ok q=>exact .ok λG' H' s=>q G' H' s #[_,_,_,e]
 |ex z=>exact .ex z
def TX.pure (t:TX m K (rP F) L G H k'):∃Tm Ty Y a,At m.O K Tm Ty G H Y L/\F Y=U a/\∀G' H',Step G H G' H'->k' a G' H':=by
 obtain @⟨Tm,Ty,Y,p,r,A,t⟩:=t;unfold rP at t;cases e:F Y with
 |none=>rw[e] at t;cases t
 |some a=>
  rw[e] at t;cases t with|ok q=>exact#[Tm,Ty,Y,a,A.full,e,λG' H' s=>q G' H' (A.pure s)]
end
noncomputable abbrev TDr (m:Md R) (K:aJ) (f:FR R):TE:=λL H Q=>∃G,TX m K f L G H λd G H=>∀v,Rep m.O K G v d->Q v H
noncomputable abbrev la (m:Md R) (K:aJ) (f:FRt R):TT:=λL H Q=>∃G,TX m K f L G H λd _ H=>Q d H
noncomputable abbrev Qu (m:Md R) (K:aJ) (f:FRa R):TA:=λL H Q=>∃G,TX m K f L G H λd G H=>∀v,Reps m.O K G v d->Q v H
abbrev GY (m:Md R) (K:aJ) (f:FRa R):TE:=λL H Q=>∃G,TX m K f L G H λd G H=>∀q vs,H q=B->Reps m.O K G vs d->Q (.ref q) (upd H q (.lst vs))
abbrev IQ (m:Md R) (K:aJ) (f:FRa R):TI:=λL H Q=>∃G,TX m K f L G H λd G H=>∀ag,Yd m.O K ag G d->Q ag H
structure RE (m:Md R) (X:Cx) (e:Expr) (f:FR R):Prop where
 out:PE X e (TDr m X.K f)
structure RT (m:Md R) (X:Cx) (e:Expr) (f:FRt R):Prop where
 out:PT X e (la m X.K f)
structure RW (m:Md R) (X:Cx) (e:Expr) (f:FRt R):Prop where
 out:PW X e (la m X.K f)
structure RA (m:Md R) (X:Cx) (es:Z Expr) (f:FRa R):Prop where
 out:PA X es (Qu m X.K f)
structure RO (m:Md R) (X:Cx) (e:Expr) (f:FRa R):Prop where
 out:PE X e (GY m X.K f)
structure RI (m:Md R) (X:Cx) (tg e:Expr) (f:FRa R):Prop where
 out:PI X tg e (IQ m X.K f)
section
variable {m:Md R} {a c:Expr} {aZ:Z Expr} {fa fb f:FR R} {p:bV} {fr fi:FRa R} {ft gt:FRt R}
def ax {F:FE} (h:DE m.O X e F):RE m X e (rP F):=⟨h.1.imp λL H Q=>by rintro⟨G,t⟩;obtain⟨Tm,Ty,Y,d,A,e,k⟩:=t.pure;exact#[Tm,Ty,G,Y,d,A,e,λv G' H' s=>k G' H' s v]⟩
def cq {F:FT} (h:DT m.O X e F):RT m X e (rP F):=⟨h.1.imp λL H Q=>by rintro⟨G,t⟩;obtain⟨Tm,Ty,Y,d,A,e,k⟩:=t.pure;exact#[Tm,Ty,G,Y,d,A,e,k]⟩
def aE {F:FA} (h:DA m.O X es F):RA m X es (rP F):=⟨h.1.imp λL H Q=>by rintro⟨G,t⟩;obtain⟨Tm,Ty,Y,d,A,e,k⟩:=t.pure;exact#[Tm,Ty,G,Y,d,A,e,λv G' H' s=>k G' H' s v]⟩
def wc {F:FA} (h:DO m.O X e F):RO m X e (rP F):=⟨h.1.imp λL H Q=>by rintro⟨G,t⟩;obtain⟨Tm,Ty,Y,d,A,e,k⟩:=t.pure;exact#[Tm,Ty,G,Y,d,A,e,λq v G' H' s=>k G' H' s q v]⟩
def vK {F:FA} (h:DI m.O X tg e F):RI m X tg e (rP F):=⟨h.1.imp λL H Q=>by rintro⟨G,t⟩;obtain⟨Tm,Ty,Y,d,A,e,k⟩:=t.pure;exact#[Tm,Ty,G,Y,d,A,e,λv G' H' s=>k G' H' s v]⟩
def r2 (g:D->D->ak D) (fa fb:FR R):FR R:=rb fa λY x r=>rM fb (g x) Y r
def TDr.two {g:D->D->ak D} {q:R2} (hr:fB m.O X.K g q):∀L H Q,TDr m X.K (r2 g fa fb) L H Q->tOp q (TDr m X.K fa) (TDr m X.K fb) L H Q:=λL H Q=>dI λG t=>
 t.bind λx G1 H1 s1 _ t v r1=>#[G1,t.map λy z G2 H2 s2 g2 e k u r2=>hr g2 (r1.mono s2) r2 e Q λw G' H' s=>k G' H' s w]
def xb {op:Mi} {g:D->D->ak D} {q:R2} (ho:OpR X (gK op) q) (hr:fB m.O X.K g q) (ha:RE m X a fa) (hb:RE m X b fb):RE m X (.BinOp a op b pos) (r2 g fa fb):=⟨(FX ho ha.1 hb.1).imp (TDr.two hr)⟩
def zU {g:D->D->ak D} (h:CmpD m.O X op g) (ha:RE m X a fa) (hb:RE m X b fb) (hm:jZ op b=ao):RE m X (.Compare a [op] [b] pos) (r2 g fa fb):=⟨by obtain⟨r,ho,hr⟩:=h.ex;exact(Ab ho ha.1 hb.1 hm).imp (TDr.two hr)⟩
def eG (ha:RE m X a fa) (hb:RE m X b fb) (hs:uV b:=by intro _ _;rfl):RE m X (.Subscript a b pos) (r2 ixD fa fb):=⟨(BG AN ha.1 hb.1 hs).imp (TDr.two Ek)⟩
def fL (ha:RE m X a fa) (hb:RE m X b fb):RE m X (.BinOp a .Add b pos) (r2 bZ fa fb):=xb FV Kp ha hb
def UD (ha:RE m X a fa) (hb:RE m X b fb):RE m X (.BinOp a .Sub b pos) (r2 kt fa fb):=xb Hc (GS λx y z h=>by unfold kt at h;split at h<;>cases h;exact#[_,_,(),(),()]) ha hb
def QW (ha:RE m X a fa) (hb:RE m X b fb):RE m X (.BinOp a .FloorDiv b pos) (r2 o7 fa fb):=xb Ir (pd λx y z h=>by
 unfold o7 at h;split at h
 .split at h<;>cases h;exact#[_,_,(),(),by assumption,()]
 .cases h) ha hb
def GP (ha:RE m X a fa) (hb:RE m X b fb):RE m X (.BinOp a .Mod b pos) (r2 nX fa fb):=xb F4 (pd λx y z h=>by
 unfold nX at h;split at h
 .split at h<;>cases h;exact#[_,_,(),(),by assumption,()]
 .cases h) ha hb
noncomputable def blD:D->ak aR
 |.bl b=>U b
 |_=>B
def la.val :∀L H Q,la m X.K (rM f blD) L H Q->TDr m X.K f L H λx H'=>∃k,x=.bl k/\Q k H':=λL H Q=>dI λG t=>
 t.map λd b G1 H1 _ g1 e k v r=>by unfold blD at e;split at e<;>cases e;exact#[_,r.bl_inv,k G1 H1 (.refl g1)]
def fV {g:D->D->ak D} (h:CmpD m.O X op g) (ha:RE m X a fa) (hb:RE m X b fb) (hm:jZ op b=ao):RT m X (.Compare a [op] [b] pos) (rM (r2 g fa fb) blD):=⟨by obtain⟨r,ho,hr⟩:=h.ex;exact(Hm ho ha.1 hb.1 hm).imp λL H Q q=>TDr.two hr L H _ (la.val L H Q q)⟩
def wQ (h:RE m X e f) (he:∀whole,isTrue e X.env whole=(do let v ←whole;mC e.pos;i4 [v] (truthy v)):=by intro _;rfl):RT m X e (rM f blD):=⟨(sT h.1 he).imp la.val⟩
def By (h:RT m X a ft):RT m X (.UnaryOp .Not a pos) (rM ft λb=>U (!b)):=⟨(xh h.1).imp λL H Q=>dI λG t=>t.map λd b G1 H1 _ g1 e k=>by cases e;exact k G1 H1 (.refl g1)⟩
def RW.rt (h:RW m X e ft):RT m X e ft:=⟨h.1.pt⟩
def A6 (h:RT m X a ft):RW m X (.BoolOp .And [a] pos) ft:=⟨GD h.1⟩
def Et (h:RT m X a ft):RW m X (.BoolOp .Or [a] pos) ft:=⟨yv h.1⟩
def uW (ft:FRt R) (f g:FM R α):FM R α:=rb ft λY b r=>if b=ah then f Y r else g Y r
noncomputable def rT (b:aR):FRt R:=λ_ r=>U (U (b,r))
def TX.now {b:aR} {k:aR->Hp->Hp->Prop} (t:TX m K (rT b) L G H k):k b G H:=by obtain⟨A,t⟩:=t;cases t with|ok q=>exact q G H A.refl
abbrev vq (f g:FRt R):FRt R:=uW f g (rT ao)
abbrev rOr (f g:FRt R):FRt R:=uW f (rT ah) g
def vF (h:RT m X a ft) (h':RW m X (.BoolOp .And (b::aZ) pos) gt):RW m X (.BoolOp .And (a::b::aZ) pos) (vq ft gt):=⟨(Ko h.1 h'.1).imp λL H Q=>dI λG t=>t.bind λc G1 H1 _ _ t=>by
 cases c with
 |true=>exact fz #[G1,t]
 |false=>exact fy (TX.now t)⟩
def Jx (h:RT m X a ft) (h':RW m X (.BoolOp .Or (b::aZ) pos) gt):RW m X (.BoolOp .Or (a::b::aZ) pos) (rOr ft gt):=⟨(yw h.1 h'.1).imp λL H Q=>dI λG t=>t.bind λc G1 H1 _ _ t=>by
 cases c with
 |true=>exact fz (TX.now t)
 |false=>exact fy #[G1,t]⟩
def LL (hc:RT m X c ft) (ha:RE m X a fa) (hb:RE m X b fb):RE m X (.IfExp c a b pos) (uW ft fa fb):=⟨(TR hc.1 ha.1 hb.1).imp λL H Q=>dI λG t=>t.bind λc G1 H1 _ _ t=>by
 cases c with
 |true=>exact fz #[G1,t]
 |false=>exact fy #[G1,t]⟩
def aV (fa:FR R) (fr:FRa R):FRa R:=rb fa λY x r=>rM fr (λl=>U (x::l)) Y r
def aA (ha:RE m X e fa) (hr:RA m X es fr) (hs:aK (e::es) X.env=(ao,eval e X.env)::aK es X.env:=by rfl):RA m X (e::es) (aV fa fr):=⟨(dB ha.1 hr.1 hs).imp λL H Q=>dI λG t=>
 t.bind λx G1 H1 s1 _ t v r1=>#[G1,t.map λl d G2 H2 s2 g2 e k vs r2=>by cases e;exact k G2 H2 (.refl g2) _ (.cons (r1.mono s2) r2)]⟩
noncomputable def szD (l:Z D):ak (Z D):=if l.length<=aH then U l else B
def RO.re (h:RO m X e fr):RE m X e (rM fr λl=>U (.lst l)):=⟨h.1.imp λL H Q=>dI λG t=>t.map λl d G1 H1 _ g1 e k q vs hq r=>by cases e;exact ip g1 r (λw G2 H2 s2=>k G2 H2 s2 w) q hq⟩
def oW (h:RA m X es fr):RO m X (.List es pos) (rM fr szD):=⟨(Jp h.1).imp λL H Q=>dI λG t=>t.map λl d G1 H1 _ g1 e k vs r=>by unfold szD at e;split at e<;>cases e;rename_i hz;exact#[by rw[r.length];exact hz,λq hq=>k G1 H1 (.refl g1) q vs hq r]⟩
def cK {x1} (h:RA m X es fr):RE m X (.Tuple es x1 pos) (rM fr λl=>(szD l).map .tup):=⟨(zB h.1).imp λL H Q=>dI λG t=>t.map λl d G1 H1 _ g1 e k vs r=>by unfold szD at e;split at e<;>cases e;rename_i hz;exact#[by rw[r.length];exact hz,wv g1 r λw G2 H2 s2=>k G2 H2 s2 w]⟩
def lr0:∀(Y:bj) (r:R) ds r',rP ay Y r=U (U (ds,r'))->ds.length=0:=λ_ _ _ _ h=>by cases h;rfl
def nK (hn:∀Y r ds r',fr Y r=U (U (ds,r'))->ds.length=n):∀Y r ds r',aV fa fr Y r=U (U (ds,r'))->ds.length=n+1:=λY r ds r' h=>by
 unfold aV rb rM ob at h;obtain⟨o,_,h⟩:=oBd h;cases o with
 |none=>cases h
 |some y=>
  obtain⟨o,h1,h⟩:=oBd h;cases o with
  |none=>cases h
  |some z=>cases h;rw[qh,hn _ _ _ _ h1]
def lr1 {a:FR R} :∀(Y:bj) r ds r',aV a (rP ay) Y r=U (U (ds,r'))->ds.length=1:=nK lr0
def lr2 {a b:FR R} :∀(Y:bj) r ds r',aV a (aV b (rP ay)) Y r=U (U (ds,r'))->ds.length=2:=nK lr1
def lr3 {a b c:FR R} :∀(Y:bj) r ds r',aV a (aV b (aV c (rP ay))) Y r=U (U (ds,r'))->ds.length=3:=nK lr2
def lr7 {a b c d e g:FR R} :∀(Y:bj) r ds r',aV a (aV b (aV c (aV d (aV e (aV f (aV g (rP ay))))))) Y r=U (U (ds,r'))->ds.length=7:=nK (nK (nK (nK lr3)))
def Ur {k:J} {F:FQ} {c:af} (C:CalI m.O X.prog X.w X.K X.mg X.base c n k F) (hr:Room j X.A) (hk:k+1<=j) (hg:Gl X c) (ha:RA m X (e::es) fr) (hn:∀Y r ds r',fr Y r=U (U (ds,r'))->ds.length=n)
  (hdb:(c==("__debug__":af))=ao:=by decide) (he:aK (e::es) X.env=(ao,eval e X.env)::aK es X.env:=by rfl) (hpl:(bX pos (aK es X.env)).any (·.1)=ao:=by rfl) :
  RE m X (.Call (.Name c p) (e::es) [] pos) (rM fr F):=⟨by
 obtain⟨Ca,f,fd,ps,h0,h1,h2,h3,h4⟩:=C.ex;refine(Lp h1 h3 (hr.mono hk) hg h2 h4 .nil lD ha.1 hdb he hpl).imp λL H Q=>dI λG t=>.wit (t.map λds d G1 H1 _ g1 e k=>?_);rintro⟨Y,r,r',z⟩ vs v1 x dx hx hdx hne;rw[dZ];exact#[x,dx,H1,G1,ds,d,vs,(),(),hx,hdx,hne,g1,v1,hn Y r ds r' z,e,λG' H' s r=>#[(),k G' H' s _ r]]⟩
def xl {k:J} {F:FQ} (C:Cal m.O X.prog X.w X.K X.mg X.base x n k F) (hr:Room j X.A) (hk:k<=j) (hg:Gl X x) (ha:RA m X (e::es) fr) (hn:∀Y r ds r',fr Y r=U (U (ds,r'))->ds.length=n)
  (hdb:(x==("__debug__":af))=ao:=by decide) (he:aK (e::es) X.env=(ao,eval e X.env)::aK es X.env:=by rfl) (hpl:(bX pos (aK es X.env)).any (·.1)=ao:=by rfl) :
  RE m X (.Call (.Name x p) (e::es) [] pos) (rM fr F):=⟨by
 obtain⟨f,fd,ps,h1,h2,h3,h4⟩:=C.ex;refine(nq h1 (hr.mono hk) hg h2 h3 h4 .nil lD ha.1 hdb he hpl).imp λL H Q=>dI λG t=>.wit (t.map λds d G1 H1 _ g1 e k=>?_);rintro⟨Y,r,r',z⟩ vs v1;rw[dZ];exact#[G1,ds,d,g1,v1,hn Y r ds r' z,e,λv G' H' s=>k G' H' s v]⟩
def G6 {id:String} {F:FQ} (hc:BltD m.O X id F) (hg:Gl X x) (hm:X.mg x=B) (hv:lc x=U (.builtin id)) (ha:RA m X (e::es) fr) (hn:x≠"__name__":=by decide) (hdb:(x==("__debug__":af))=ao:=by decide)
  (he:aK (e::es) X.env=(ao,eval e X.env)::aK es X.env:=by rfl) (hpl:(bX pos (aK es X.env)).any (·.1)=ao:=by rfl):RE m X (.Call (.Name x p) (e::es) [] pos) (rM fr F):=⟨by
 obtain⟨r0,h1,h2⟩:=hc.ex;exact(pL h1 hg hm hv ha.1 hn hdb he hpl).imp λL H Q=>dI λG t=>t.map λds d G1 H1 _ g1 e k vs v1=>h2 g1 v1 e _ λv G' H' s=>k G' H' s v⟩
def rBm (g:D->FQ) (fo:FR R) (fr:FRa R):FR R:=rb fo λY d r=>match d with
 |.str _=>rM fr (g d) Y r
 |_=>B
def AC {fo:FR R} {id:String} {g:D->FQ} (slot:Y0 "str" name id) (hty:xP (.builtin id)=pure (.type "method_descriptor")) (hm:MtD m.O X "str" id g) (ho:RE m X o fo) (ha:RA m X (e::es) fr)
  (hbase:i8 o name X.env (eval o X.env)=eval o X.env:=by rfl)
  (hfew:((bX cpos (aK (e::es) X.env)).all (λx=>!x.1) && (kf cpos (kh [] X.env)).all (λx=>x.1.isSome)
   && decide ((e::es).length+([]:Z i9).length+(if ([]:Z i9).isEmpty then 0 else 1)<30))=ah:=by rfl)
  (hline:(apos.endLine==cpos.line)=ah:=by rfl) (hs:aK (e::es) X.env=(ao,eval e X.env)::aK es X.env:=by rfl) (hplain:(bX cpos (aK es X.env)).any (·.1)=ao:=by rfl) :
  RE m X (.Call (.Attribute o name apos) (e::es) [] cpos) (rBm g fo fr):=⟨by
 obtain⟨r0,h1,h2⟩:=hm.ex;refine(sW lx slot hty h1 ho.1 ha.1 hbase hfew hline hs hplain).imp λL H Q=>dI λG t=>t.bind λx G1 H1 _ g1 t v v1=>?_;cases x with
 |str x=>
  cases v1.str_inv;exact#[(),G1,t.map λds z G2 H2 s2 g2 e k vs v2=>h2 g2 (v1.mono s2) v2 e Q λw G3 H3 s3=>k G3 H3 s3 w]
 |_=>
  obtain⟨A,t⟩:=t;cases t⟩
def xk (hg:Gl X "range") (hm:X.mg "range"=B) (h:RA m X [a] fr) (hs:aK [a] X.env=[(ao,eval a X.env)]:=by rfl):RI m X tg (.Call (.Name "range" p) [a] [] pos) (rM fr iw):=⟨(Gh hg hm h.1 hs).imp λL H R=>dI λG t=>t.map λds d G1 H1 _ g1 e k vs rv=>by
 unfold iw at e;split at e
 .split at e<;>cases e;rename_i hz;obtain⟨v,rfl,r1⟩:=rv.one;cases r1.int_inv;exact#[_,(),hz.1,hz.2,k G1 H1 (.refl g1) _ BO]
 .cases e⟩
def Fb:D->D->ak D
 |.lst l,.int i=>U (.lst (et l (U i) B))
 |_,_=>B
def TV (he:RE m X e fa) (hl:RE m X a fb):RE m X (.Subscript e (.Slice (U a) B B p2) pos) (r2 Fb fa fb):=⟨(yo L5 he.1 (Bm hl.1) AD).imp λL H Q=>dI λG t=>
 t.bind λx G1 H1 _ _ t v v1=>#[G1,t.map λy z G2 H2 s2 g2 e k u v2=>by unfold Fb at e;split at e<;>cases e;obtain⟨a,vs,rfl,ha,rv⟩:=(v1.mono s2).lst_inv;exact#[_,v2.int_inv,a,vs,(),.inl (.inl (g2 _ _ ha)),ip g2 (rv.cut _ _) λw G4 H4 s4=>k G4 H4 s4 w]]⟩
def yF:D->D->ak D
 |.str x,.int i=>if x.length<=aH then U (.str (gZ x (U i) B)) else B
 |_,_=>B
def U5 (he:RE m X e fa) (hl:RE m X a fb):RE m X (.Subscript e (.Slice (U a) B B p2) pos) (r2 yF fa fb):=⟨(yo KU he.1 (Bm hl.1) AD).imp λL H Q=>dI λG t=>
 t.bind λx G1 H1 _ _ t v v1=>#[G1,t.map λy z G2 H2 s2 g2 e k u v2=>by
  unfold yF at e;split at e
  .split at e<;>cases e;cases(v1.mono s2).str_inv;exact#[_,v2.int_inv,_,(),by assumption,k G2 H2 (.refl g2) _ (.str _)]
  .cases e]⟩
end
inductive TY {R:Type} (m:Md R) (K:aJ) (g:FRs R) (E:Ends) (L:St) (G H:Hp):Prop where
 |mk {Tm Ty Y p r}:RAt m K Tm Ty G H Y L p r->Okx (λfl w=>∀BT G' H',a9 G G'->RAt m K Tm Ty G' H' w.1 BT p w.2->nQ m.O K E Ty G' H' BT fl) (∀BT G' H' KK r',a9 G G'->RAt m K Tm Ty G' H' KK BT p r'->m.ac H') (g Y r)->TY m K g E L G H
noncomputable abbrev Cu (m:Md R) (K:aJ) (g:FRs R):TS:=λE L H=>∃G,TY m K g E L G H
structure RS (m:Md R) (X:Cx) (st:Stmt) (g:FRs R):Prop where
 out:PS X st (Cu m X.K g)
structure RSs (m:Md R) (X:Cx) (st:Z Stmt) (g:FRs R):Prop where
 out:PSs X st (Cu m X.K g)
def qB (f:FM R α) (g:α->FRs R):FRs R:=λY r=>ob (f Y r) λa r=>g a Y r
noncomputable def eh:FRs R:=λY r=>U (U (.nx,Y,r))
def sw {s:ak Slot} (h:j≠i):(Y.set j s)[i]?=Y[i]?:=qC h
variable {q:ar}
def vP {p:ar} {o:HO} (h:q≠p):bt p (upd H q o)=upd (bt p H) q o:=by
 funext b
 by_cases hb:b=q
 .subst hb;rw[dO h,bK,bK]
 .rw[aW hb];by_cases hp:b=p
  .subst hp;rw[nz,nz]
  .rw[dO hp,dO hp,aW hb]
section
variable {m:Md R} {p:ar} {r:R} {E:Ends} {x:ak (ak (Fl×bj×R))} {f:FM R α} {g:α->FRs R} {k:α->Hp->Hp->Prop}
def Okx.grow (sm:a9 G G1) (t:Okx (λfl (w:bj×R)=>∀BT G' H',a9 G G'->RAt m K Tm Ty G' H' w.1 BT p w.2->nQ m.O K E Ty G' H' BT fl) (∀BT G' H' KK r',a9 G G'->RAt m K Tm Ty G' H' KK BT p r'->m.ac H') x) :
  Okx (λfl (w:bj×R)=>∀BT G' H',a9 G1 G'->RAt m K Tm Ty G' H' w.1 BT p w.2->nQ m.O K E Ty G' H' BT fl) (∀BT G' H' KK r',a9 G1 G'->RAt m K Tm Ty G' H' KK BT p r'->m.ac H') x:=t.imp (λ_ _ k BT G' H' s=>k BT G' H' (sm.trans s)) λk BT G' H' KK r' s=>k BT G' H' KK r' (sm.trans s)
def TY.bind (t:TY m K (qB f g) E L G H) (h:∀a G1 H1,a9 G G1->a9 G1 H1->TY m K (g a) E L G1 H1->k a G1 H1):TX m K f L G H k:=by obtain @⟨Tm,Ty,Y,p,r,A,t⟩:=t;exact#[A,t.bind.imp (λa r1 t G1 H1 s=>h a G1 H1 s.st.gg (A.step s).gh #[A.step s,t.grow s.st.gg]) λz r' G' H' s=>z L G' H' Y r' s.st.gg (A.step s)]
def RAt.set (A:RAt m K Tm Ty G H Y L p r) (hj:j≠m.i) (rv:Rep m.O K G v d):RAt m K Tm Ty G H (Y.set j (U (.sh d))) (L.set j (U v)) p r:=#[A.at'.setSh rv,(sw hj).trans A.sl,A.here]
def RAt.ne (A:RAt m K Tm Ty G H Y L p r) (hq:H q=B):q≠p:=λz=>by subst z;obtain⟨_,e,_⟩:=A.here;rw[e] at hq;cases hq
def RAt.own (A:RAt m K Tm Ty G H Y L p r) (hj:j≠m.i) (hq:H q=B) (rv:Reps m.O K G vs ds):RAt m K Tm Ty G (upd H q (.lst vs)) (Y.set j (U (.own ds))) (L.set j (U (.ref q))) p r:=by have hqp:=A.ne hq;refine#[?_,(sw hj).trans A.sl,by rw[aW hqp.symm];exact A.here];rw[vP hqp];exact A.at'.setOwn (by rw[dO hqp];exact hq) rv
end
section
variable {m:Md R} {a c:Expr} {aZ:Z Expr} {fa fb f:FR R} {p:bV} {fr fi:FRa R} {ft gt:FRt R} {st:Stmt} {g g':FRs R}
def bf (h:RS m X st g):RSs m X [st] g:=⟨lF h.1⟩
def b9:RSs m X [] eh:=⟨ub.imp λE L H=>by rintro⟨G,A,t⟩;cases t with|ok k=>exact k L G H (.refl _) A⟩
def bI (g g':FRs R):FRs R:=λY r=>ob (g Y r) λfl w=>match fl with
 |.nx=>g' w.1 w.2
 |fl=>U (U (fl,w))
def aI (h1:RS m X st g) (h2:RSs m X sts g'):RSs m X (st::sts) (bI g g'):=⟨(kG h1.1 h2.1).imp λE L H=>by
 rintro⟨G,A,t⟩;refine#[G,A,t.bind.imp (λfl w t σ1 G1 H1 sm A1=>?_) id];cases fl with
 |nx=>exact#[G1,A1,t.grow sm]
 |_=>cases t with|ok k=>exact k σ1 G1 H1 sm A1⟩
def eO (f:FR R):FRs R:=qB f λd Y r=>U (U (.rt d,Y,r))
def bJ (h:RE m X e f):RS m X (.Return (U e) pos) (eO f):=⟨(nM h.1).imp λE L H=>dI λG t=>t.bind λd G1 H1 _ _ t v rv=>by obtain⟨A,t⟩:=t;cases t with|ok k=>exact k L G1 H1 (.refl _) A v rv⟩
def Bx (f:FR R):FRs R:=qB f λ_=>eh
def sy (h:RE m X e f) (hs:eD e B pos.line X.env=pure ao:=by rfl):RS m X (.Expr e pos) (Bx f):=⟨(wd h.1 hs).imp λE L H=>dI λG t=>t.bind λd G1 H1 _ _ t v rv=>by obtain⟨A,t⟩:=t;cases t with|ok k=>exact k L G1 H1 (.refl _) A⟩
def dN (j:J) (f:FR R):FRs R:=qB f λd Y r=>U (U (.nx,Y.set j (U (.sh d)),r))
def bD (j:J) (hN:X.N.Nodup) (h:RE m X e f) (hji:(j==m.i)=ao:=by rfl) (hi:X.N[j]?=U x:=by rfl) (hx:Loc X.env.scope x:=by ac_nf) (hs:eD e (U (.Name x pos')) pos.line X.env=pure ao:=by rfl) (hf:X.fn x=ah\/X.env.scope.names.lookup x=U .local:=by ac_nf) :
  RS m X (.Assign [.Name x pos'] e pos) (dN j f):=⟨(l6 hN hi hx h.1 hs hf).imp λE L H=>dI λG t=>t.bind λd G1 H1 _ _ t v rv=>by
 obtain⟨A,t⟩:=t;cases t with|ok k=>exact k _ G1 H1 (.refl _) (A.set (yb hji) rv)⟩
def pV (j:J) (f:FRa R):FRs R:=qB f λd Y r=>U (U (.nx,Y.set j (U (.own d)),r))
def mi (j:J) (hN:X.N.Nodup) (h:RO m X e fr) (hji:(j==m.i)=ao:=by rfl) (hi:X.N[j]?=U x:=by rfl) (hx:Loc X.env.scope x:=by ac_nf) (hs:eD e (U (.Name x pos')) pos.line X.env=pure ao:=by rfl) (hf:X.fn x=ah\/X.env.scope.names.lookup x=U .local:=by ac_nf) :
  RS m X (.Assign [.Name x pos'] e pos) (pV j fr):=⟨(l6 hN hi hx h.1 hs hf).imp λE L H=>dI λG t=>t.bind λd G1 H1 _ _ t q vs hq rv=>by
 obtain⟨A,t⟩:=t;cases t with|ok k=>exact k _ G1 _ (.refl _) (A.own (yb hji) hq rv)⟩
noncomputable def mx (j:J) (g:FRs R):FRs R:=λY r=>match Y[j]? with
 |some (U (.own ds))=>g (Y.set j (U (.sh (.lst ds)))) r
 |_=>B
def mw (j:J) (h:RSs m X sts g):RSs m X sts (mx j g):=⟨h.1.imp λE L H=>by
 rintro⟨G,A,t⟩;unfold mx at t;split at t
 .rename_i ds hi;obtain⟨G',sm,A'⟩:=A.at'.freeze hi;have hji:j≠m.i:=λz=>by subst z;rw[A.sl] at hi;cases hi
  exact#[G',#[A',(sw hji).trans A.sl,A.here.imp λ_ z=>#[z.1,m.rg.mono sm z.2]],t.grow sm]
 .cases t⟩
def qIf (ft:FRt R) (g g':FRs R):FRs R:=qB ft λc=>if c=ah then g else g'
def cb (hc:RT m X c ft) (ha:RSs m X sa g) (hb:RSs m X sb g'):RS m X (.If c sa sb pos) (qIf ft g g'):=⟨(sR hc.1 ha.1 hb.1).imp λE L H=>dI λG t=>t.bind λc G1 H1 _ _ t=>by
 cases c with
 |true=>exact fz #[G1,t]
 |false=>exact fy #[G1,t]⟩
def iK (j:J) (f:FR R):FRs R:=λY r=>match Y[j]? with
 |some (U (.own ds))=>ob (f Y r) λd r=>if ds.length<aH then U (U (.nx,Y.set j (U (.own (ds++[d]))),r)) else B
 |_=>B
def mh (j:J) (h:RE m X e f) (hN:X.N[j]?=U x:=by rfl) (hv:Vis X.env.scope x:=by ac_nf) (hd:(x==("__debug__":af))=ao:=by decide)
  (hcd:(x==("__classdict__":af))=ao:=by decide)
  (hbase:i8 (.Name x vp) "append" X.env (eval (.Name x vp) X.env)=eval (.Name x vp) X.env:=by rfl)
  (hfew:((bX cpos (aK [e] X.env)).all (λx=>!x.1) && (kf cpos (kh [] X.env)).all (λx=>x.1.isSome)
   && decide ([e].length+([]:Z i9).length+(if ([]:Z i9).isEmpty then 0 else 1)<30))=ah:=by rfl)
  (hline:(apos.endLine==cpos.line)=ah:=by rfl) (hs:aK [e] X.env=(ao,eval e X.env)::aK [] X.env:=by rfl) (hplain:(bX cpos (aK [] X.env)).any (·.1)=ao:=by rfl)
  (hsw:eD (.Call (.Attribute (.Name x vp) "append" apos) [e] [] cpos) B pos.line X.env=pure ao:=by rfl) :
  RS m X (.Expr (.Call (.Attribute (.Name x vp) "append" apos) [e] [] cpos) pos) (iK j f):=⟨(wd (sW MQ MD Y2 Bi (dM hN hv hd hcd) (dB h.1 gc hs) hbase hfew hline hs hplain) hsw).imp λE L H=>by
  rintro⟨G,@⟨Tm,Ty,Y,p,r,A,t⟩⟩;unfold iK at t;split at t
  .rename_i ds hi;obtain⟨a,vs,h1,h2,h3,h4,h5⟩:=A.at'.env.own j ds hi;have hji:j≠m.i:=λz=>by subst z;rw[A.sl] at hi;cases hi
   have hap:=(gl h4).1;refine#[.ref a,h1,.inl #[(),vs,.inl (.inl (gl h4).2)],G,A,t.bind.imp (λd r1 t G1 H1 s1 v v1=>?_) λz r' G' H' s=>z L G' H' Y r' s.st.gg (A.step s)];split at t
   .rename_i hz;cases t with|ok k=>
    refine#[a,vs,v,(),(),(gl (s1.st.hh _ _ h4)).2,by rw[h5.length];exact hz,k L G1 _ s1.st.gg #[?_,(sw hji).trans A.sl,by rw[aW hap.symm];exact s1.here]];rw[vP hap];exact(A.step s1).at'.chOwn hi h1 ((h5.mono s1.st.gg).append (.cons v1 .nil))
   .cases t
  .cases t⟩
structure KpG (i:J) (g:FG):Prop where
 out:∀d Y KK,g d Y=U KK->KK[i]?=Y[i]?
structure KpGs (i:J) (g:FGs):Prop where
 out:∀d Y KK,g d Y=U KK->KK[i]?=Y[i]?
def jI (h:(j==i)=ao):KpG i (bp j):=⟨λd Y KK e=>by cases e;exact sw (yb h)⟩
def yi:KpGs i kC:=⟨λd Y KK e=>by unfold kC at e;split at e<;>cases e;rfl⟩
def p6 {g:FG} (h:KpG i g) (h':KpGs i gs):KpGs i (gW g gs):=⟨λd Y KK e=>by
 unfold gW at e;split at e
 .obtain⟨ρ1,h1,e⟩:=oBd e
  first|exact(h'.1 _ _ _ e).trans (h.1 _ _ _ h1)|exact(h.1 _ _ _ e).trans (h'.1 _ _ _ h1)
 .cases e⟩
def Ah (h:KpGs i gs):KpG i (kH n gs):=⟨λd Y KK e=>by
 unfold kH at e;split at e
 .first|exact h.1 _ _ _ e|(split at e;exact h.1 _ _ _ e;cases e)
 .cases e⟩
def RAt.tgt {r:R} {Q:St->Hp->Prop} (A:RAt m K Tm Ty G H Y L q r) (kp:KpG m.i gg) (rv:Rep m.O K G v d) (h:gg d Y=U KK) (k:∀BT,RAt m K Tm Ty G H KK BT q r->Q BT H):TDg m.O K gg v L H Q:=by obtain⟨w,he,hw⟩:=A.here;exact#[_,_,G,Y,d,KK,A.shut he,rv,h,λBT ae=>k BT (A.open' hw (λ_ _ z=>z) ae (kp.1 _ _ _ h))]
def zy (gg:FG) (f:FR R):FRs R:=qB f λd Y r=>(gg d Y).map λKK=>U (.nx,KK,r)
def Li (kp:KpG m.i gg) (h:RE m X e f) (hg:DG m.O X tg gg) (hs:Mg [tg] e pos.line X.env=pure ao:=by rfl) (hw:Mh [tg] e X.env=pure B:=by rfl)
  (h1:(ka [tg] X.env).map (·.2)=[rl tg X.env]:=by rfl):RS m X (.Assign [tg] e pos) (zy gg f):=⟨(Jn h.1 hg.pg hs hw h1).imp λE L H=>dI λG t=>t.bind λd G1 H1 _ _ t v rv=>by
 obtain @⟨Tm,Ty,Y,p,r,A,t⟩:=t;cases e:gg d Y with
 |none=>rw[e] at t;cases t
 |some ρ1=>
  rw[e] at t;cases t with|ok k=>exact A.tgt kp rv e λBT A'=>k BT G1 H1 (.refl _) A'⟩
def jH (g g':FRs R):FRs R:=λY r=>ob (g Y r) λfl w=>match fl with
 |.nx=>g' w.1 w.2
 |.rt d=>U (U (.rt d,w))
 |_=>B
def mj (gg:FG) (body:FRs R):Z D->FRs R
 |[]=>eh
 |x::xs=>λY r=>(gg x Y).bind λρ1=>jH body (mj gg body xs) ρ1 r
def m9 (fi:FRa R) (gg:FG) (body:FRs R):FRs R:=qB fi (mj gg body)
def xo (kp:KpG m.i gg) (hp:um (aL X.prog X.w) X.A X.env X.xe) (hc:X.calm=ah) (hi:RI m X tg iter fi) (hg:DG m.O X tg gg) (hb:RSs m X body g) (hs:∀x,lj iter X.env x=pure x:=by intro _;rfl) :
  RS m X (.For tg iter body [] pos) (m9 fi gg g):=⟨(El hp hc hi.1 hg.pg hb.1 hs).imp λE L H=>dI λG t=>t.bind λxs G1 H1 _ g1 t ag ρ=>by
 obtain @⟨Tm,Ty,Y,q,r,A,t⟩:=t;generalize hK:(λ(fl:Fl) (w:bj×R)=>_)=Kf at t;generalize hZ:(∀BT G' H' KK r',_)=Zf at t;refine#[λn l BT H'=>l=xs.length-n/\n<=xs.length/\∃G' ρ1 r1,a9 G1 G'/\RAt m X.K Tm Ty G' H' ρ1 BT q r1/\Okx Kf Zf (mj gg g (xs.drop n) ρ1 r1),#[xs.length,(),eA _,G1,Y,r,.refl _,A,by rw[h9];exact t],?_];rintro n l BT H' ⟨rfl,hi,G',ρ1,r1,sm,A',hr⟩;by_cases hlt:n<xs.length
 .right
  obtain⟨go,yl⟩:=ρ.go n xs[n] G' H' (by simp[hlt]) sm A'.gh;rw[mO hlt] at hr;unfold mj at hr;cases h2:gg xs[n] ρ1 with
  |none=>rw[h2] at hr;cases hr
  |some ρ2=>
   rw[h2] at hr
   replace hr:Okx Kf Zf (jH g (mj gg g (xs.drop (n+1))) ρ2 r1):=hr
   unfold jH at hr;refine#[go,λσ3 H3=>∃G3 ρ3 r3,a9 G1 G3/\RAt m X.K Tm Ty G3 H3 ρ3 σ3 q r3/\Okx Kf Zf (mj gg g (xs.drop (n+1)) ρ3 r3),λσ3 H3 h=>#[_,by lia,(),hlt,h],λx H2 hy=>?_];obtain⟨G2,s2,v2⟩:=yl x H2 hy;refine(A'.step (A'.pure s2)).tgt kp v2 h2 λσ2 A2=>#[G2,A2,hr.bind.imp (λfl w t σ3 G3 H3 sm3 A3=>?_) λz σ3 G3 H3 ρ3 r3 sm3=>by subst hZ;exact z σ3 G3 H3 ρ3 r3 ((sm.trans s2.gg).trans sm3)];have smm:=(sm.trans s2.gg).trans sm3;cases fl with
   |nx=>exact#[G3,w.1,w.2,smm,A3,t]
   |rt d=>cases t with|ok k=>subst hK;exact k σ3 G3 H3 smm A3
   |_=>cases t
 .left
  have e:n=xs.length:=by lia
  subst e;rw[rQ] at hr;cases hr with|ok k=>subst hK;exact#[ρ.stop G' H' sm A'.gh,k BT G' H' sm A']⟩
def whR (ft:FRt R) (g:FRs R):J->FRs R
 |0=>λ_ _=>B
 |n+1=>qIf ft (jH g (whR ft g n)) eh
def Lf (n:J) (hp:um (aL X.prog X.w) X.A X.env X.xe) (hc:RT m X c ft) (hb:RSs m X body g):RS m X (.While c body [] pos) (whR ft g n):=⟨(Ge hp hc.1 hb.1).imp λE L H=>by
 rintro⟨G,@⟨Tm,Ty,Y,q,r,A,t⟩⟩;refine#[λl BT H'=>∃G',a9 G G'/\∃ρ1 r1,RAt m X.K Tm Ty G' H' ρ1 BT q r1/\Okx _ _ (whR ft g l ρ1 r1),#[n,G,.refl _,Y,r,A,t],?_];rintro l BT H' ⟨G',sm,ρ1,r1,A',hr⟩;cases l with
 |zero=>cases hr
 |succ l=>
  replace hr:Okx _ _ (ob (ft ρ1 r1) λc r=>(if c=ah then jH g (whR ft g l) else eh) ρ1 r):=hr
  refine#[G',A',hr.bind.imp (λb r2 t G1 H1 s1=>?_) λz r' G1 H1 s=>z BT G1 H1 ρ1 r' (sm.trans s.st.gg) (A'.step s)];have sg:=sm.trans s1.st.gg;cases b with
  |false=>cases t with|ok k=>exact fy (k BT G1 H1 sg (A'.step s1))
  |true=>
   replace t:Okx _ _ (jH g (whR ft g l) ρ1 r2):=t
   unfold jH at t;refine fz #[λσ3 H3=>∃G3,a9 G G3/\∃ρ3 r3,RAt m X.K Tm Ty G3 H3 ρ3 σ3 q r3/\Okx _ _ (whR ft g l ρ3 r3),λσ3 H3 h=>#[l,ut _,h],G1,A'.step s1,t.bind.imp (λfl w t σ3 G3 H3 sm3 A3=>?_) λz σ3 G3 H3 ρ3 r3 sm3=>z σ3 G3 H3 ρ3 r3 (sg.trans sm3)];cases fl with
   |nx=>exact#[G3,sg.trans sm3,w.1,w.2,A3,t]
   |rt d=>cases t with|ok k=>exact k σ3 G3 H3 (sg.trans sm3) A3
   |_=>cases t⟩
end
noncomputable def nT (fr:FA):FRs R:=λY _=>(fr Y).map λ_=>B
section
variable {rg:Rg R} {f:ar} {E:XK}
 {i:J} {x:af} {np cpos pos:bV} {e₀:Expr} {aZ:Z Expr} {fr:FA} {Bn newId initId:String} {bmB:Z au}
def kB (Γ:ya x C bmB newId mg base) (FB:Nh Bn newId initId bmB)
  (hg:Gl (cB (CXO P w base) P w K mg base N qual scope f cd A outer mt Ty E) x)
  (ha:DA O (cB (CXO P w base) P w K mg base N qual scope f cd A outer mt Ty E) (e₀::aZ) fr) (hn:∀Y ds,fr Y=U ds->ds.length<=aH)
  (he:aK (e₀::aZ) (bR qual scope mt.heap.objs.size f cd)=(ao,eval e₀ (bR qual scope mt.heap.objs.size f cd))::aK aZ (bR qual scope mt.heap.objs.size f cd):=by rfl)
  (hpl:(bX cpos (aK aZ (bR qual scope mt.heap.objs.size f cd))).any (·.1)=ao:=by rfl) (hdb:(x==("__debug__":af))=ao:=by decide) :
  RS #[rg,E (.ref C) B,O,i] (cB (CXO P w base) P w K mg base N qual scope f cd A outer mt Ty E) (.Raise (U (.Call (.Name x np) (e₀::aZ) [] cpos)) B pos) (nT fr):=⟨by
 intro XL s L H D I hq;obtain⟨G,@⟨Tm,H₀',Y,q,r,A0,t⟩⟩:=hq;unfold nT at t;cases hd:fr Y with
 |none=>rw[hd] at t;cases t
 |some ds=>
 rw[hd] at t;cases t with|ex k=>
 have hh:(cB (CXO P w base) P w K mg base N qual scope f cd A outer mt Ty E).A.handled=B:=I.ok.hd ();obtain⟨tl,Ns,nm,q,bs,hdct,sn,sub,ab,col,dd,k0,k1,k2,k3,k5,mN,hC,hN,hni,T⟩:=Γ.obj;refine Zw (nm:=nm) (q:=q) (N:=Ns) (bs:=bs) (bm:=tl) (hdct:=hdct) (sn:=sn) (sub:=sub) (ab:=ab) (col:=col) (dd:=dd) (k0:=k0) (k1:=k1) (k2:=k2) (k3:=k3) (k5:=k5)
  FB (mN:=mN) (T.hasType FB.hasBase) hh ?_ hni (nZ I hg Γ.bound #[(),?_] hdb)
 .show(bX cpos (aK (e₀::aZ) (bR qual scope mt.heap.objs.size f cd))).any (·.1)=ao;rw[he];show(ao || (bX cpos (aK aZ (bR qual scope mt.heap.objs.size f cd))).any (·.1))=ao;rw[hpl];rfl
 .have key:=ha.out cpos XL s L H (λvs H1=>vs.length<=aH/\E (.ref C) B H1) I #[Tm,H₀',G,Y,ds,A0.full,hd,λvs G' H' st rv=>#[by rw[rv.length];exact hn Y ds hd,k L G' H' Y r st.gg (A0.step (A0.pure st))]];have key':aM (aL P w) (A.deeper (bR qual scope mt.heap.objs.size f cd)) (CI (bX cpos (aK (e₀::aZ) (bR qual scope mt.heap.objs.size f cd)))) _ _ s:=key;show aM (aL P w) (A.deeper (bR qual scope mt.heap.objs.size f cd)) (evalArgs (.ref C) ah (bX cpos (aK (e₀::aZ) (bR qual scope mt.heap.objs.size f cd))) []) _ _ s;rw[he] at key' ⊢;refine MB (fj key' (λvs s₂ h₂=>?_) λ_ _ y=>y);obtain⟨xs,H2,I2,r2,z2,w2⟩:=h₂;have kb:=I2.bk;exact#[(),by rw[<-r2.length];exact z2,kb _ _ hC,hN.keeps kb,T.keeps kb,λh' e hx=>IS I2 hx w2]⟩
end
def m5 (Y:bj):Prop:=∀(i:J) s,Y[i]?=U (U s)->(∃d,s=.sh d)\/∃a,s=.pin a
def EnvRel.of0 (E:EnvRel O K H₁ G H' Y L) (no:m5 Y):EnvRel O K Ty G H Y L:=by
 obtain⟨fps,h,ap⟩:=E.sl;refine#[E.len,λ_=>[],λj s e=>?_,λ_ _ _ _ _ _ _ b hb=>by cases hb];obtain⟨v,h1,h2⟩:=h j s e;rcases no j s e with⟨d,rfl⟩|⟨a,rfl⟩
 .generalize fps j=fp at h2;cases h2 with|sh r=>exact#[v,h1,.sh r]
 .generalize fps j=fp at h2;cases h2 with|pin a=>exact#[_,h1,.pin a]
noncomputable def fvR (fv:Z (ak J)) (Y:bj):bj:=fv.map λo=>o.bind λj=>match Y[j]? with
 |some (U (.sh d))=>U (.sh d)
 |some (U (.pin a))=>U (.pin a)
 |_=>B
def jM (g:FG) (ft:FRt R) (fe:FR R):Z D->bj->R->ak (ak (Z D×R))
 |[],_,r=>U (U ([],r))
 |x::xs,Y,r=>(g x Y).bind λρ1=>ob (ft ρ1 r) λb r=>if b=ah then ob (fe ρ1 r) λd r=>ob (jM g ft fe xs ρ1 r) λl r=>U (U (d::l,r)) else jM g ft fe xs ρ1 r
def nW (fi:FRa R) (g:FG) (ft:FRt R) (fe:FR R) (fv:Z (ak J)):FRa R:=rb fi λY xs r=>if xs.length<=aH then jM g ft fe xs (fvR fv Y) r else B
section
variable {m:Md R} {i2 j2:J} {a c:Expr} {aZ:Z Expr} {fa fb f fe:FR R} {p:bV} {fr fi:FRa R} {ft gt:FRt R}
def Ry {r:R} (A:RAt m K Tm Ty G H Y L q r) (hfv:fv[i2]?=U (U m.i)):RAt {m with i:=i2} K G (bt q H) G H (fvR fv Y) (gF fv L) q r/\m5 (fvR fv Y):=by
 have key:∀(k:J) s,(fvR fv Y)[k]?=U (U s)->∃j,fv[k]?=U (U j)/\Y[j]?=U (U s)/\((∃d,s=.sh d)\/∃a,s=.pin a):=λk s e=>by
  unfold fvR at e;rw[ql] at e;obtain⟨o,ho,e⟩:=oMd e;cases o with
  |none=>cases e
  |some j=>
   simp only[qa] at e;split at e<;>cases e
   .exact#[j,ho,by assumption,.inl #[_,()]]
   .exact#[j,ho,by assumption,.inr #[_,()]]
 have no:m5 (fvR fv Y):=λk s e=>(key k s e).elim λj h=>h.2.2;refine#[#[#[.refl A.at'.gh,by simp[fvR,gF],λ_=>[],λk s e=>?_,λ_ _ _ _ _ _ _ b hb=>by cases hb],?_,A.here],no]
 .obtain⟨j,h1,h2,h3⟩:=key k s e;obtain⟨v,fp,h4,h5⟩:=A.at'.get h2;refine#[v,by unfold gF;rw[ql,h1];simp[h4],?_];rcases h3 with⟨d,rfl⟩|⟨a,rfl⟩
  .cases h5 with|sh r=>exact .sh r
  .cases h5 with|pin a=>exact .pin a
 .unfold fvR;rw[ql,hfv];simp[A.sl]
structure RTs (m:Md R) (X:Cx) (es:Z Expr) (f:FRt R):Prop where
 out:PTs X es (la m X.K f)
def LF:RTs m X [] (rT ah):=⟨Jd.imp λL H Q=>by rintro⟨G,t⟩;exact t.now⟩
def J6 (h:RT m X c ft):RTs m X [c] ft:=⟨LP h.1⟩
def QX (h:m5 Y):m5 (Y.set j (U (.sh d))):=λk s e=>by
 by_cases hk:k=j
 .subst hk;rcases gy k Y.length with q|q
  .rw[iZ q] at e;cases e;exact .inl #[_,()]
  .rw[Dg (by simp;lia)] at e;cases e
 .rw[qC (dU hk)] at e;exact h k s e
structure RB (m:Md R) (X:Cx) (j2:J) (N':Z af) (scope:Scope) (tg:Expr) (ifs:Z Expr) (elt:Expr) (ft:FRt R) (fe:FR R):Prop where
 out:∀(cl:Z (af×ar)) (C:ar) (mt:aF) (Ty:Hp) (fp:Z ar),DG m.O (gG X N' scope cl C mt Ty fp) tg (bp j2)/\RTs m (gG X N' scope cl C mt Ty fp) ifs ft/\RE m (gG X N' scope cl C mt Ty fp) elt fe
def RB.pb (h:RB m X j2 N' scope tg ifs elt ft fe):PB X N' scope tg ifs elt (TDg m.O X.K (bp j2)) (la m X.K ft) (TDr m X.K fe):=λcl C mt Ty fp=>#[(h.1 cl C mt Ty fp).1.pg,(h.1 cl C mt Ty fp).2.1.1,(h.1 cl C mt Ty fp).2.2.1]
def JQ (hj:j2≠i2) (hfv:fv[i2]?=U (U m.i)):∀L H Q,GY m X.K (nW fi (bp j2) ft fe fv) L H Q->tLC (IQ m X.K fi) (TDg m.O X.K (bp j2)) (la {m with i:=i2} X.K ft) (TDr {m with i:=i2} X.K fe) fv L H Q:=λL H Q=>dI λG t=>t.bind λxs G1 H1 _ _ t ag ρ acc hacc=>by
 obtain @⟨Tm,Ty,Y,q,r,A1,t⟩:=t
 replace t:Okx _ _ (if xs.length<=aH then jM (bp j2) ft fe xs (fvR fv Y) r else B):=t
 split at t
 case isFalse=>cases t
 rename_i hz;have hap:=A1.ne hacc;have gacc:G1 acc=B:=A1.gh.free hacc;obtain⟨A0,no0⟩:=Ry A1 hfv;refine#[λn l ys BT H'=>Bzq (l=xs.length-n) (n<=xs.length) (ys.length<=n) (λG' KK r' _=>RAt {m with i:=i2} X.K G1 (bt q H1) G' H' KK BT q r') (λ_ KK _ _=>m5 KK) (λ_ _ _ _=>H' acc=U (.lst ys)) (λG' _ _ _=>G' acc=B) (λG' _ _ done=>Reps m.O X.K G' ys done) (λG' KK r' done=>Okx (λaZ rz=>∀G' H',RStep m.rg q rz G1 H1 G' H'->∀q vs,H' q=B->Reps m.O X.K G' vs (done++aZ)->Q (.ref q) (upd H' q (.lst vs))) (∀r' G' H',RStep m.rg q r' G1 H1 G' H'->m.ac H') (jM (bp j2) ft fe (xs.drop n) KK r')),?_,?_]
 .refine#[xs.length,(),eA _,qx _,G1,fvR fv Y,r,[],#[#[?_,A0.at'.env.of0 no0],A0.sl,by rw[aW hap.symm];exact A1.here],no0,bK,gacc,.nil,by rw[h9];exact t];rw[vP hap];exact Step.newOwn A1.at'.gh (by rw[dO hap];exact hacc)
 .rintro n l ys BT H' ⟨rfl,hi,hyi,G',KK,r',done,A',no',hacc',gacc',ry,hr⟩;refine#[hacc',?_];by_cases hlt:n<xs.length
  .right
   obtain⟨go,yl⟩:=ρ.go n xs[n] G' H' (by simp[hlt]) A'.at'.st.gg A'.gh;refine#[go,λx H2 hy=>?_];obtain⟨G2,s2,v2⟩:=yl x H2 hy;have A2:=A'.step (A'.pure s2);rw[mO hlt] at hr
   replace hr:Okx _ _ (ob (ft (KK.set j2 (U (.sh xs[n]))) r') λb r=>if b=ah then ob (fe (KK.set j2 (U (.sh xs[n]))) r) λd r=>ob (jM (bp j2) ft fe (xs.drop (n+1)) (KK.set j2 (U (.sh xs[n]))) r) λl r=>U (U (d::l,r)) else jM (bp j2) ft fe (xs.drop (n+1)) (KK.set j2 (U (.sh xs[n]))) r):=hr
   generalize hρ:KK.set j2 (U (.sh xs[n]))=ρ1 at hr;have no1:m5 ρ1:=by subst hρ;exact QX no'
   have hb2:bt q H2 acc=U (.lst ys):=by rw[dO hap];exact s2.hh _ _ hacc'
   refine A2.tgt (jI (beq_false_of_ne hj)) v2 (show bp j2 xs[n] KK=U ρ1 by subst hρ;rfl) λσ2 A3=>#[G2,A3,hr.bind.imp (λb r2 t G4 H4 s4=>?_) λz r' G' H' s=>z r' G' H' #[A3.at'.st.trans s.st,s.here]];have hb4:=s4.st.hh _ _ hb2;have hG4:G4 acc=B:=(s4.st.out _ _ hb2).trans ((s2.out _ _ hacc').trans gacc');have A4:=A3.step s4;have rd:=(ry.mono s2.gg).mono s4.st.gg;cases b with
   |false=>exact fy #[xs.length-(n+1),by lia,(),hlt,by lia,G4,ρ1,r2,done,A4,no1,(gl hb4).2,hG4,rd,t]
   |true=>
    rw[qZ ()] at t;refine fz #[G4,A4,t.bind.imp (λd r3 t G5 H5 s5 v v5=>?_) λz r' G' H' s=>z r' G' H' #[A4.at'.st.trans s.st,s.here]];have A5:=A4.step s5;have hb5:=s5.st.hh _ _ hb4;have hG5:G5 acc=B:=(s5.st.out _ _ hb4).trans hG4;refine#[(gl hb5).2,by lia,xs.length-(n+1),by lia,(),hlt,by rw[qk,qY];lia,G5,ρ1,r3,done++[d],#[#[?_,A5.at'.env.of0 no1],A5.sl,by rw[aW hap.symm];exact s5.here],no1,bK,hG5,(rd.mono s5.st.gg).append (.cons v5 .nil),t.bind.imp (λl r t=>by cases t with|ok k=>rw[qy];exact k) id]
    have st5:=A5.at'.st;rw[vP hap];refine#[λb o e=>?_,st5.gg,λb o e=>?_,st5.out]
    .rw[aW (ce e (by rw[dO hap];exact hacc))];exact st5.hh b o e
    .rw[aW (ce e hG5)];exact st5.gh b o e
  .left
   have e:n=xs.length:=by lia
   subst e;rw[rQ] at hr;cases hr with|ok k=>
   rw[dZ] at k;refine#[ρ.stop G' H' A'.at'.st.gg A'.gh,?_];have hf:H'=upd (bt acc H') acc (.lst ys):=by
    funext b
    by_cases hb:b=acc
    .subst hb;rw[bK];exact hacc'
    .rw[aW hb,dO hb]
   rw[hf];have st':=A'.at'.st;refine k G' (bt acc H') #[#[λb o e=>?_,st'.gg,λb o e=>?_,st'.out],by rw[dO hap.symm];exact A'.here] acc ys nz ry
   .have hna:b≠acc:=ce (gl e).2 hacc;rw[dO (gl e).1,dO hna];exact(gl (st'.hh b o e)).2
   .have hna:b≠acc:=ce e gacc';rw[dO (gl (st'.gh b o e)).1,dO hna];exact A'.gh b o e
def Pv (hj:j2≠i2) (hfv:fv[i2]?=U (U m.i)) (hc:X.calm=ah) (S:CompScope X scope) (F:FvOk X N' scope fv) (hi:RI m X tg iter fi) (hb:RB {m with i:=i2} X j2 N' scope tg ifs elt ft fe) (hs:∀x,lj iter X.env x=pure x:=by intro _;rfl) :
  RO m X (.ListComp elt [⟨tg,iter,ifs,0⟩] scope pos) (nW fi (bp j2) ft fe fv):=⟨(EB hc S F hi.1 hb.pb hs).imp (JQ hj hfv)⟩
def RAt.setL {p:ar} {r:R} {E:Ends} (A:RAt m K Tm Ty G H Y L p r) (hj:j≠m.i) (hq:H q=B) (rv:Reps m.O K G vs ds)
  (k:∀BT G' H',a9 G G'->RAt m K Tm Ty G' H' (Y.set j (U (.sh (.lst ds)))) BT p r->nQ m.O K E Ty G' H' BT .nx):E.nx (L.set j (U (.ref q))) (upd H q (.lst vs)):=by
 have s2:=Step.new (o:=.lst vs) A.gh hq;exact k _ _ _ s2.gg ((A.step (A.pure s2)).set hj (.lst bK (rv.mono s2.gg)))
def tH (j:J) (fr:FRa R):FRs R:=qB fr λd Y r=>U (U (.nx,Y.set j (U (.sh (.lst d))),r))
def AH (j:J) (hN:X.N.Nodup) (hji:(j==m.i)=ao) (hj:j2≠i2) (hfv:fv[i2]?=U (U m.i)) (hc:X.calm=ah) (S:CompScope X scope) (F:FvOk X N' scope fv) (hi:RI m X tg iter fi) (hb:RB {m with i:=i2} X j2 N' scope tg ifs elt ft fe)
  (hy:X.N[j]?=U y:=by rfl) (hyl:X.env.scope.names.lookup y=U .local:=by rfl) (hsw:eD (.ListComp elt [⟨tg,iter,ifs,0⟩] scope pos) (U (.Name y py)) spos.line X.env=pure ah:=by rfl) (hs:∀x,lj iter X.env x=pure x:=by intro _;rfl) :
  RS m X (.Assign [.Name y py] (.ListComp elt [⟨tg,iter,ifs,0⟩] scope pos) spos) (tH j (nW fi (bp j2) ft fe fv)):=⟨(zG hN hy hyl hc S F hi.1 hb.pb hsw hs).imp λE L H q=>JQ hj hfv L H _ (q.imp λG t=>t.bind λd G1 H1 _ _ t q vs hq rv=>by obtain⟨A,t⟩:=t;cases t with|ok k=>exact A.setL (yb hji) hq rv k)⟩
def PX (j:J) {ft:FT} {fe:FE} {fi:FA} (hN:X.N.Nodup) (hji:(j==m.i)=ao) (hc:X.calm=ah) (S:CompScope X scope) (F:FvOk X N' scope fv) (hi:DI m.O X tg iter fi) (hb:DB m.O X N' scope tg ifs elt gg ft fe)
  (hy:X.N[j]?=U y:=by rfl) (hyl:X.env.scope.names.lookup y=U .local:=by rfl) (hsw:eD (.ListComp elt [⟨tg,iter,ifs,0⟩] scope pos) (U (.Name y py)) spos.line X.env=pure ah:=by rfl) (hs:∀x,lj iter X.env x=pure x:=by intro _;rfl) :
  RS m X (.Assign [.Name y py] (.ListComp elt [⟨tg,iter,ifs,0⟩] scope pos) spos) (tH j (rP (cG fi gg ft fe fv))):=⟨(zG hN hy hyl hc S F hi.1 hb.pb hsw hs).imp λE L H q=>Cw (hb.1 [] 0 X.mt X.Ty []).1.no L H _ (by obtain⟨G,t⟩:=q;obtain⟨Tm,Ty,Y,d,A,e,k⟩:=TX.pure (t.bind λd G1 H1 _ _ t=>t);refine#[Tm,Ty,G,Y,d,A,e,λq vs G' H' s hq rv=>?_];obtain⟨A,t⟩:=k G' H' s;cases t with|ok k=>exact A.setL (yb hji) hq rv k)⟩
end
variable {rg:Rg R}
section
variable {f:ar} {E:XK}
def aO:gX (CXO P w base) (cB (CXO P w base) P w K mg base N qual scope f cd A outer mt Ty E) E:=by
 rintro XL L H s e s' I ⟨a,cls,a0,ae,H',rfl,hos,hg,F,hE⟩;have noex:∀b:ar,b∉(cB (CXO P w base) P w K mg base N qual scope f cd A outer mt Ty E).ex:=λb z=>ba (show b∈([]:Z ar) from z) (by simp);have hfs:∀b,b∈frs outer->b∈frs (bR qual scope mt.heap.objs.size f cd::outer):=λb hb=>by obtain⟨env,he,hf⟩:=mE.mp hb;exact mE.mpr #[env,qg _ he,hf]
 have old:∀b o,mt.heap.get? b=U o->b∉frs outer->b∉frs (bR qual scope mt.heap.objs.size f cd::outer):=λb o q nb hb=>by
  rcases eC.mp (I.stkSub b hb) with z|z
  .exact ba (qw q) (by rw[z];exact n9 _)
  .exact nb z
 have go:=wpAny_leaves_onW (M:=aL P w) (E:=λe' s''=>CXO P w base outer Ty mt E e' s'') (env:=bR qual scope mt.heap.objs.size f cd) (outer:=outer)
  (Q:=λ_ s2=>∃h',Ng ae outer a cls a0 h'/\s'.heap.UpToSlots h'/\s2={s' with heap:=h'}) I.ok.frames rfl F.fly λh' x y=>#[h',x,y,rfl]
 refine fj go (λ_ s2 z=>?_) λ_ _ z=>z;obtain⟨h',fl,sm,rfl⟩:=z;have F2:Fly P w base outer Ty H' mt ae a cls a0 h':={
  bst:=F.bst
  keep:=λb o q n hb=>F.keep b o (I.base.keep b o q n hb (noex b)) (I.base.free b o q n (noex b)) (old b o q hb)
  slot:=λb o q n hb=>by obtain⟨sl,e1⟩:=I.base.slot b o q n hb (noex b);obtain⟨sl2,e2⟩:=F.slot b _ e1 (I.base.free b o q n (noex b)) (hfs b hb);have nf:=F.nofl b _ e1 (hfs b hb);obtain⟨sl3,e3⟩:=sm b _ e2 nf;exact#[sl3,e3]
  nofl:=λb o q hb=>by obtain⟨_,o2,e2,hnf⟩:=I.ok.funs.mem hb;have z:mt.heap.get? b=U o2:=e2;rw[q] at z;cases z;exact hnf
  free:=λb o q n=>by obtain⟨o',e1⟩:=I.base.there b o q (noex b);exact F.free b o' e1 (I.base.free b o q n (noex b))
  there:=λb o q hb=>by obtain⟨o',e1⟩:=I.base.there b o q (noex b);exact F.there b o' e1 (old b o q hb)
  frf:=λb hb=>I.ok.frf b hb
  tups:=λb xs q=>F.tups b xs (I.base.tups b xs q)
  frzs:=λb o u q=>F.frzs b o u (I.base.frzs b o u q)
  tbls:=λb ps q=>by obtain⟨m,e1⟩:=I.base.tbls b ps q;obtain⟨m2,e2⟩:=F.tbls b _ e1;exact#[m++m2,by rw[<-L'];exact e2]
  hok:=F.hok
  fly:=fl
  new:=F.new}
 exact#[a,cls,a0,ae,H',(),hos.trans I.os,hg,F2,hE]
end
noncomputable def noX:XK:=λ_ _ _=>False
def iV :gX (CXO P w base) X noX:=by rintro XL L H s e s' I ⟨a,cls,a0,ae,H',rfl,hos,hg,F,hE⟩;exact hE.elim
noncomputable def rNo (f:FM R α):FM R α:=λY r=>(f Y r).bind λo=>o.map U
variable {ac:Hp->Prop}
def oT {f:FR R} (h:RE #[rg,noX (.ref C) B,O,i] X e f):RE #[rg,ac,O,i] X e (rNo f):=⟨h.1.imp λL H Q=>dI λG=>by
 rintro @⟨Tm,Ty,Y,p,r,A,t⟩;refine#[#[A.at',A.sl,A.here],?_];unfold rNo at t;cases hf:f Y r with
 |none=>rw[hf] at t;cases t
 |some o=>
  rw[hf] at t;cases o with
  |none=>cases t
  |some y=>cases t with|ok k=>exact .ok k⟩
inductive spR {R:Type} (rg:Rg R) (O:Cn) (K:aJ) (n:J) (F:ar->Z D->R->ak (ak (D×R))) (C:ar) (vs:Z V) (H:Hp) (Q:VK) (E:XK):Prop where
 |mk:∀G q r us ds,vs=.ref q::us->a9 G (bt q H)->(∃o,H q=U o/\rg.rc G r o)->Reps O K G us ds->ds.length=n->Okx (λd r'=>∀G' H',RStep rg q r' G H G' H'->∀v,Rep O K G' v d->Q v H') (∀r' G' H',RStep rg q r' G H G' H'->E (.ref C) B H') (F q ds r)->spR rg O K n F C vs H Q E
def flR (g:FRs R):bj->R->ak (ak (D×R)):=λY r=>ob (g Y r) λfl w=>match fl with
 |.rt d=>U (U (d,w.2))
 |.nx=>U (U (.non,w.2))
 |_=>B
def bH (n:J) (g:FRs R):ar->Z D->R->ak (ak (D×R)):=λq ds=>flR g (U (.pin q)::(ds.map (fun d=>U (Slot.sh d))++bB n B))
def T1 {us:Z V} {r:R} (gh:a9 G (bt q H)) (hq:∃o,H q=U o/\rg.rc G r o) (rv:Reps O K G us ds) (hm:m=N.length-(us.length+1)):RAt #[rg,ac,O,0] K G (bt q H) G H (U (.pin q)::(ds.map (fun d=>U (Slot.sh d))++bB m B)) (eJ N (.ref q::us)) q r:=by
 have ae:=w8 (N:=N.tail) (m:=m) gh rv (by rw[ZC];lia);obtain⟨fps,h,ap⟩:=ae.env.sl;have es:eJ N (.ref q::us)=U (.ref q)::eJ N.tail us:=by
  unfold eJ;rw[qp,qq,qh,ZC]
  congr 3
  lia
 refine#[#[ae.st,by rw[es,qh,qh,ae.env.len],λ|0=>[]|j+1=>fps j,λj s e=>?_,λj k s t hjk e1 e2=>?_],rfl,hq]
 .rw[es];cases j with
  |zero=>cases e;exact#[_,(),.pin q]
  |succ j=>exact h j s e
 .cases j with
  |zero=>intro b hb;cases hb
  |succ j=>
   cases k with
   |zero=>intro b _ hb;cases hb
   |succ k=>exact ap j k s t (λz=>hjk (by rw[z])) e1 e2
def Okx.run {m:Md R} {r:R} {g:FRs R} {Q:VK} {E:Ends} (hE:E.rt=Q/\E.nx=λ_=>Q .non) (A:RAt m K G (bt q H) G H Y L q r) (t:Okx (λd r'=>∀G' H',RStep m.rg q r' G H G' H'->∀v,Rep m.O K G' v d->Q v H') (∀r' G' H',RStep m.rg q r' G H G' H'->m.ac H') (flR g Y r)):Cu m K g E L H:=by
 refine#[G,A,t.bind.imp (λfl w t BT G' H' sm A'=>?_) λz BT G' H' KK r' sm A'=>z r' G' H' #[A'.at'.st,A'.here]];cases fl with
 |rt d=>cases t with|ok k=>intro v rv;rw[hE.1];exact k G' H' #[A'.at'.st,A'.here] v rv
 |nx=>cases t with|ok k=>show E.nx BT H';rw[hE.2];exact k G' H' #[A'.at'.st,A'.here] .non .non
 |_=>cases t
def Fun.okR {st:Stmt} {f:ar} {k:J} {g:FRs R} (F:Fun K x qual st f fd) (S:FnScope N (s0::ps) (aD st))
  (hbody:∀(cdv:au) (A:dh) (outer:Z cD) (s:aF) (H:Hp) (E:XK),Room k (A.deeper (bR qual (aD st) s.heap.objs.size f cdv))->
   RSs #[rg,E (.ref C) B,O,0] (cB (CXO P w base) P w K mg base N qual (aD st) f cdv A outer s H E) (cI st) g):FnOk P w K mg base (CXO P w base) (k+1) f fd (s0::ps) (spR rg O K ps.length (bH (N.length-(ps.length+1)) g) C):=by
 obtain⟨oc,od,kV,doc,pm,an,cdv,ct,osl,rfl,lk,hcd⟩:=F.ex;refine wa lk hcd S (λvs H Q E h=>?_) λA outer s H vs Q E hr h=>?_
 .obtain⟨G,q,r,us,ds,rfl,_,_,rv,hl,_⟩:=h;rw[qh,qh,rv.length,hl]
 .obtain⟨G,q,r,us,ds,rfl,gh,hq,rv,hl,t⟩:=h;exact#[_,(hbody cdv A outer s H E hr).1,t.run #[(),()] (T1 gh hq rv (by rw[rv.length,hl]))]
structure CalR {R:Type} (rg:Rg R) (O:Cn) (P:b7) (w:bU) (K:aJ) (mg:af->ak au) (base:Heap) (C:ar) (x:af) (n k:J) (F:ar->Z D->R->ak (ak (D×R))):Prop where
 ex:∃f fd ps,FnOk P w K mg base (CXO P w base) k f fd ps (spR rg O K n F C)/\mg x=U (.ref f)/\fM K (.ref f)=ah/\eP K fd ps []
def Dfn.calR {st:Stmt} {k:J} {g:FRs R} (F:Dfn K mg x st) (S:FnScope N (s0::ps) (aD st))
  (hb:∀(kV doc pm:au) (an:ak ar) (cdv ct:au) (us:Z au),us.length=(s0::ps).length->gM (eT x x (e9 st) (cI st) (aD st) .none kV doc pm an cdv ct) #[us,[]]=pure ((s0::ps).zip us))
  (hbody:∀(f:ar) (cdv:au) (A:dh) (outer:Z cD) (s:aF) (H:Hp) (E:XK),Room k (A.deeper (bR x (aD st) s.heap.objs.size f cdv))->
   RSs #[rg,E (.ref C) B,O,0] (cB (CXO P w base) P w K mg base N x (aD st) f cdv A outer s H E) (cI st) g):CalR rg O P w K mg base C x ps.length (k+1) (bH (N.length-(ps.length+1)) g):=by
 obtain⟨f,fd,h1,h2⟩:=F.ex;exact#[f,fd,s0::ps,h1.okR S (hbody f),h2,h1.kp,h1.binds hb]
def Dfn.noneR {st:Stmt} {k:J} (F:Dfn K mg x st)
  (hb:∀(kV doc pm:au) (an:ak ar) (cdv ct:au) (us:Z au),us.length=ps.length->gM (eT x x (e9 st) (cI st) (aD st) .none kV doc pm an cdv ct) #[us,[]]=pure (ps.zip us)):CalR rg O P w K mg base C x n k (λ_ _ _=>B):=by
 obtain⟨f,fd,h1,h2⟩:=F.ex;refine#[f,fd,ps,#[λvs H Q E h=>?_,λA outer s H args us vs Q E hr I b v h=>?_],h2,h1.kp,h1.binds hb]
 .obtain⟨_,_,_,_,_,_,_,_,_,_,z⟩:=h;cases z
 .obtain⟨_,_,_,_,_,_,_,_,_,_,z⟩:=h;cases z
inductive spR2 {R:Type} (rg:Rg R) (O:Cn) (K:aJ) (F:ar->D->R->ak (ak (D×R))) (C:ar) (vs:Z V) (H:Hp) (Q:VK) (E:XK):Prop where
 |mk:∀G q r u x,vs=[u,.ref q]->a9 G (bt q H)->(∃o,H q=U o/\rg.rc G r o)->Rep O K G u x->Okx (λd r'=>∀G' H',RStep rg q r' G H G' H'->∀v,Rep O K G' v d->Q v H') (∀r' G' H',RStep rg q r' G H G' H'->E (.ref C) B H') (F q x r)->spR2 rg O K F C vs H Q E
def uf (n:J) (g:FRs R):ar->D->R->ak (ak (D×R)):=λq x=>flR g (U (.sh x)::U (.pin q)::bB n B)
def V7 {u:V} {r:R} (gh:a9 G (bt q H)) (hq:∃o,H q=U o/\rg.rc G r o) (rv:Rep O K G u d) (hm:m=N.length-2):RAt #[rg,ac,O,1] K G (bt q H) G H (U (.sh d)::U (.pin q)::bB m B) (eJ N [u,.ref q]) q r:=by
 have es:eJ N [u,.ref q]=U u::U (.ref q)::bB m B:=by rw[hm];rfl
 refine#[#[.refl gh,by rw[es];simp,λ_=>[],λj s e=>?_,λ_ _ _ _ _ _ _ b hb=>by cases hb],rfl,hq];rw[es]
 match j,e with
 |0,e=>cases e;exact#[_,(),.sh rv]
 |1,e=>cases e;exact#[_,(),.pin q]
 |j+2,e=>
  have e:(bB m (B:ak Slot))[j]?=U (U s):=e;rw[ux] at e;split at e<;>cases e
structure CalR2 {R:Type} (rg:Rg R) (O:Cn) (P:b7) (w:bU) (K:aJ) (mg:af->ak au) (base:Heap) (C:ar) (x:af) (k:J) (F:ar->D->R->ak (ak (D×R))):Prop where
 ex:∃f fd ps,FnOk P w K mg base (CXO P w base) k f fd ps (spR2 rg O K F C)/\mg x=U (.ref f)/\fM K (.ref f)=ah/\eP K fd ps []
def Dfn.calR2 {a b:af} {st:Stmt} {k:J} {g:FRs R} (F:Dfn K mg x st) (S:FnScope N [a,b] (aD st))
  (hb:∀(kV doc pm:au) (an:ak ar) (cdv ct:au) (us:Z au),us.length=[a,b].length->gM (eT x x (e9 st) (cI st) (aD st) .none kV doc pm an cdv ct) #[us,[]]=pure ([a,b].zip us))
  (hbody:∀(f:ar) (cdv:au) (A:dh) (outer:Z cD) (s:aF) (H:Hp) (E:XK),Room k (A.deeper (bR x (aD st) s.heap.objs.size f cdv))->
   RSs #[rg,E (.ref C) B,O,1] (cB (CXO P w base) P w K mg base N x (aD st) f cdv A outer s H E) (cI st) g):CalR2 rg O P w K mg base C x (k+1) (uf (N.length-2) g):=by
 obtain⟨f,fd,h1,h2⟩:=F.ex;refine#[f,fd,[a,b],?_,h2,h1.kp,h1.binds hb];obtain⟨oc,od,kV,doc,pm,an,cdv,ct,osl,rfl,lk,hcd⟩:=h1.ex;refine wa lk hcd S (λvs H Q E h=>?_) λA outer s H vs Q E hr h=>?_
 .obtain⟨G,q,r,u,y,rfl,_⟩:=h;rfl
 .obtain⟨G,q,r,u,y,rfl,gh,hq,rv,t⟩:=h;exact#[_,(hbody f cdv A outer s H E hr).1,t.run #[(),()] (V7 gh hq rv ())]
section
variable {k:J} {E:XK} {c m fl:af} {fr:FRa R} {p q:bV}
def ck (F:ar->Z D->R->ak (ak (D×R))) (i:J) (fr:FRa R):FR R:=rb fr λY ds r=>match Y[i]? with
 |some (U (.pin q))=>F q ds r
 |_=>B
def aY {F:ar->Z D->R->ak (ak (D×R))} (Cl:CalR rg O X.prog X.w X.K X.mg X.base C x n k F) (pa:gX (CXO X.prog X.w X.base) X E) (hr:Room j X.A) (hk:k<=j) (hg:Gl X x) (ha:RA #[rg,E (.ref C) B,O,i] X es fr) (hn:∀Y r ds r',fr Y r=U (U (ds,r'))->ds.length=n)
  (hN:X.N[i]?=U y:=by rfl) (hv:Vis X.env.scope y:=by ac_nf) (hd:(y==("__debug__":af))=ao:=by decide) (hcd:(y==("__classdict__":af))=ao:=by decide)
  (hdb:(x==("__debug__":af))=ao:=by decide) (he:aK (.Name y q::es) X.env=(ao,eval (.Name y q) X.env)::aK es X.env:=by rfl) (hpl:(bX pos (aK es X.env)).any (·.1)=ao:=by rfl) :
  RE #[rg,E (.ref C) B,O,i] X (.Call (.Name x p) (.Name y q::es) [] pos) (ck F i fr):=by
 obtain⟨f',fd,ps,h1,h2,h3,h4⟩:=Cl.ex;refine⟨(nq h1 (hr.mono hk) hg h2 h3 h4 .nil pa (dB (dM hN hv hd hcd) ha.1 he) hdb he hpl).imp λL H Q=>?_⟩;rintro⟨G,@⟨Tm,Ty,Y,p,r,A,t⟩⟩;unfold ck rb at t;refine#[_,A.var,G,.wit #[A,t.bind.imp (λds r1 t G1 H1 s1 z vs v1=>?_) id]];obtain⟨_,_,_,z⟩:=z;simp only[show Y[i]?=_ from A.sl] at t;show spR rg O X.K n F C (.ref p::(vs++[])) H1 Q E;rw[dZ];exact#[G1,p,r1,vs,ds,(),(A.step s1).at'.gh,s1.here,v1,hn _ _ _ _ z,t.imp (λd r2 k G' H' s=>k G' H' (s1.trans s)) λz r' G' H' s=>z r' G' H' (s1.trans s)]
def pf (F:ar->D->R->ak (ak (D×R))) (i:J) (fe:FE):FR R:=rb (rP fe) λY d r=>match Y[i]? with
 |some (U (.pin q))=>F q d r
 |_=>B
def Wy {F:ar->D->R->ak (ak (D×R))} (Cl:CalR2 rg O X.prog X.w X.K X.mg X.base C x k F) (pa:gX (CXO X.prog X.w X.base) X E) (hr:Room j X.A) (hk:k<=j) (hg:Gl X x) (he:DE O X e fe)
  (hN:X.N[i]?=U y:=by rfl) (hv:Vis X.env.scope y:=by ac_nf) (hd:(y==("__debug__":af))=ao:=by decide) (hcd:(y==("__classdict__":af))=ao:=by decide)
  (hdb:(x==("__debug__":af))=ao:=by decide) (h1:aK [e,.Name y q] X.env=(ao,eval e X.env)::aK [.Name y q] X.env:=by rfl) (h2:aK [.Name y q] X.env=(ao,eval (.Name y q) X.env)::aK [] X.env:=by rfl) (hpl:(bX pos (aK [.Name y q] X.env)).any (·.1)=ao:=by rfl) :
  RE #[rg,E (.ref C) B,O,i] X (.Call (.Name x p) [e,.Name y q] [] pos) (pf F i fe):=by
 obtain⟨f,fd,ps,c1,c2,c3,c4⟩:=Cl.ex;refine⟨(nq c1 (hr.mono hk) hg c2 c3 c4 .nil pa (dB (ax (m:=#[rg,E (.ref C) B,O,i]) he).1 (dB (dM hN hv hd hcd) gc h2) h1) hdb h1 hpl).imp λL H Q=>?_⟩;rintro⟨G,@⟨Tm,Ty,Y,p,r,A,t⟩⟩;unfold pf rb at t;refine#[G,A,t.bind.imp (λd r1 t G1 H1 s1 v v1=>#[_,A.var,?_]) id];simp only[show Y[i]?=_ from A.sl] at t;exact#[G1,p,r1,v,d,(),(A.step s1).at'.gh,s1.here,v1,t.imp (λd r2 k G' H' s=>k G' H' (s1.trans s)) λz r' G' H' s=>z r' G' H' (s1.trans s)]
end
noncomputable def rgI:Rg aj:=#[λ_ r o=>o=.lst [.int r],λ_ h=>h]
variable {pc:bV}
section
variable {f:FR aj} {kk:ak af}
def EE {p:ar} {o:HO} :bt p (upd H p o)=bt p H:=by
 funext b
 by_cases hb:b=p
 .subst hb;rw[nz,nz]
 .rw[dO hb,dO hb,aW hb]
noncomputable def Ky:FR aj:=λ_ r=>U (U (.int r,r))
def Kr {kk} (hN:X.N[i]?=U x:=by rfl) (hv:Vis X.env.scope x:=by ac_nf) (hd:(x==("__debug__":af))=ao:=by decide) (hcd:(x==("__classdict__":af))=ao:=by decide)
  (hs:uV (.Constant (.int 0) kk pc):=by intro _ _;rfl):RE #[rgI,ac,O,i] X (.Subscript (.Name x vp) (.Constant (.int 0) kk pc) pos) Ky:=⟨(BG AN (dM hN hv hd hcd) vB hs).imp λL H Q=>by
 rintro⟨G,A,t⟩;cases t with|ok k=>
 obtain⟨_,hp,rfl⟩:=A.here;exact#[_,A.var,.inl #[_,_,_,_,(),(),.inl (.inl hp),(),k G H A.refl _ (.int _)]]⟩
def K7 (f:FR aj):FRs aj:=qB f λd Y _=>match d with
 |.int n=>U (U (.nx,Y,n))
 |_=>B
def WG {kk} (h:RE #[rgI,ac,O,i] X e f) (hN:X.N[i]?=U x:=by rfl) (hv:Vis X.env.scope x:=by ac_nf) (hd:(x==("__debug__":af))=ao:=by decide) (hcd:(x==("__classdict__":af))=ao:=by decide)
  (hs:Mg [.Subscript (.Name x vp) (.Constant (.int 0) kk pc) p2] e pos.line X.env=pure ao:=by rfl) (hw:Mh [.Subscript (.Name x vp) (.Constant (.int 0) kk pc) p2] e X.env=pure B:=by rfl) :
  RS #[rgI,ac,O,i] X (.Assign [.Subscript (.Name x vp) (.Constant (.int 0) kk pc) p2] e pos) (K7 f):=⟨(Jn h.1 (X8 (dM hN hv hd hcd) vB XJ) hs hw).imp λE L H=>dI λG t=>t.bind λd G1 H1 _ _ t v v1=>by
  obtain⟨A,t⟩:=t;cases d with
  |int n=>
   cases t with|ok k=>
   obtain⟨_,hp,rfl⟩:=A.here;cases v1.int_inv;exact#[_,A.var,_,[.int _],0,0,(),(),hp,(),k L G1 _ (.refl _) #[by rw[EE];exact A.at',A.sl,_,bK,()]]
  |_=>cases t⟩
open Classical in
def kT (j:J) (g:FRs R) (Y:bj) (r:R):ak (ak (Fl×bj)):=
 if ∀q,g (Y.set j (U (.pin q))) r=U B then U B else
 if h:∃z:Fl×bj,∃r',∀q,g (Y.set j (U (.pin q))) r=U (U (z.1,z.2.set j (U (.pin q)),r')) then U (U ((choose h).1,(choose h).2.set j B)) else B
def JF {g:FRs R} {r:R} (h:∀q,g (Y.set j (U (.pin q))) r=U B):kT j g Y r=U B:=@if_pos _ (Classical.propDecidable _) h _ _ _
def Jv {g:FRs R} {r r':R} {fl:Fl} (h:∀q,g (Y.set j (U (.pin q))) r=U (U (fl,KK.set j (U (.pin q)),r'))):kT j g Y r=U (U (fl,KK.set j B)):=by unfold kT;rw[xa (λz=>by have:=(z 0).symm.trans (h 0);cases this)];have hz:∃z:Fl×bj,∃r',∀q,g (Y.set j (U (.pin q))) r=U (U (z.1,z.2.set j (U (.pin q)),r')):=#[(fl,KK),r',h];rw[dif_pos hz];obtain⟨r1,hc⟩:=ZD hz;have e1:=qK (qK ((hc 0).symm.trans (h 0)));have e2:(ZE hz).1=fl:=cQ (·.1) e1;have e4:=cQ (λl:bj=>l.set j B) (show(ZE hz).2.set j (U (.pin 0))=KK.set j (U (.pin 0)) from cQ (·.2.1) e1);simp only[Nl] at e4;rw[e2,e4]
def LM {g:FRs R} {r:R} {o:ak (Fl×bj)} (h:kT j g Y r=U o) (q:ar):(o=B/\g (Y.set j (U (.pin q))) r=U B)\/∃(fl:Fl) (KK:bj) (r':R),o=U (fl,KK.set j B)/\g (Y.set j (U (.pin q))) r=U (U (fl,KK.set j (U (.pin q)),r')):=by
 unfold kT at h;split at h
 .rename_i z;cases h;exact .inl #[(),z q]
 .split at h<;>cases h;rename_i hz;obtain⟨r',hc⟩:=ZD hz;exact .inr #[_,_,r',(),hc q]
def pq (j:J) (g:FRs aj):FS:=λY=>match Y[j]? with
 |some (U (.own [.int r]))=>(kT j g Y r).bind id
 |_=>B
def At.drop (A:At O K Tm Ty G H Y L) (j:J):At O K Tm Ty G H (Y.set j B) L:=by
 obtain⟨fps,h,ap⟩:=A.env.sl;have key:∀(k:J) s,(Y.set j B)[k]?=U (U s)->Y[k]?=U (U s):=λk s e=>by
  by_cases hk:j=k
  .subst hk;rcases gy j Y.length with z|z
   .rw[iZ z] at e;cases e
   .rw[Dg (by simp;lia)] at e;cases e
  .rwa [qC hk] at e
 exact#[A.st,by simp[A.env.len],fps,λk s e=>h k s (key k s e),λk l s t hkl e1 e2=>ap k l s t hkl (key _ _ e1) (key _ _ e2)]
def At.reg {r:aj} (A:At O K Tm Ty G H Y L) (hj:Y[j]?=U (U (.own [.int r]))):∃q,RAt #[rgI,ac,O,j] K Tm Ty G H (Y.set j (U (.pin q))) L q r:=by
 obtain⟨fps,h,ap⟩:=A.env.sl;obtain⟨v,h1,h2⟩:=h j _ hj;have lt:j < Y.length:=(gv.mp hj).1;generalize hf:fps j=fp at h2;cases h2 with
 |own q1 q2 q3 q4=>
  rename_i a vs;obtain⟨v,rfl,rv⟩:=q4.one;cases rv.int_inv;have ne0:∀b o,Ty b=U o->b≠a:=λb o e z=>by subst z;rw[q1] at e;cases e
  have neg:∀b o,G b=U o->b≠a:=λb o e z=>by subst z;rw[q2] at e;cases e
  have old:∀(k:J) s,k≠j->(Y.set j (U (.pin a)))[k]?=U (U s)->Y[k]?=U (U s):=λk s hk e=>by rwa [qC (dU hk)] at e
  refine#[a,#[#[λb o e=>by rw[dO (ne0 b o e)];exact A.st.hh b o e,A.st.gg,λb o e=>by rw[dO (neg b o e)];exact A.st.gh b o e,A.st.out],by simp[A.env.len],λk=>if k=j then [] else fps k,λk s e=>?_,λk l s t hkl e1 e2 b hb hb2=>?_],by rw[iZ lt],_,q3,rfl]
  .by_cases hk:k=j
   .subst hk;rw[iZ lt] at e;cases e;show ∃v,_/\SR _ _ _ _ _ _ v (if k=k then [] else fps k);rw[qZ ()];exact#[_,h1,.pin a]
   .show ∃v,_/\SR _ _ _ _ _ _ v (if k=j then [] else fps k);rw[xa hk];obtain⟨v,h3,h4⟩:=h k s (old k s hk e);refine#[v,h3,h4.stay (.refl G) (λb hb=>(h4.fpt b hb).2.1) λb hb=>dO λz=>?_];subst z;exact ap k j s _ hk (old k s hk e) hj b hb (by rw[hf];exact qf)
  .replace hb:b∈(if k=j then [] else fps k):=hb
   replace hb2:b∈(if l=j then [] else fps l):=hb2
   by_cases hk:k=j
   .rw[qZ hk] at hb;cases hb
   .by_cases hl:l=j
    .rw[qZ hl] at hb2;cases hb2
    .rw[xa hk] at hb;rw[xa hl] at hb2;exact ap k l s t hkl (old k s hk e1) (old l t hl e2) b hb hb2
def U8 {g:FRs aj} (h:RSs #[rgI,ac,O,j] X sts g):DSs O X sts (pq j g):=⟨h.1.imp λE L H=>by
 rintro⟨Tm,Ty,G,Y,fl,KK,A,h,k⟩;unfold pq at h;split at h
 .rename_i r hj;obtain⟨q,ae⟩:=A.reg hj;obtain⟨o,h,e⟩:=oBd h;rcases LM h q with⟨rfl,_⟩|⟨fl,ρ1,r',rfl,hq⟩
  .cases e
  .cases e;refine#[G,ae,?_];rw[hq];refine .ok λBT G' H' sm A'=>k BT G' H' sm ?_;have:=A'.full.drop j
   rwa [Nl] at this
 .cases h⟩
def Sh {g:FRs aj} {r r':aj} {fl:Fl} (h1:Y[j]?=U (U (.own [.int r]))) (h2:∀q,g (Y.set j (U (.pin q))) r=U (U (fl,KK.set j (U (.pin q)),r'))):pq j g Y=U (fl,KK.set j B):=by unfold pq;rw[h1];show(kT j g Y r).bind id=_;rw[Jv h2];rfl
end
abbrev Fs:=Z (af×D)
def rcO (O:Cn) (K:aJ) (c:af) (G:Hp) (fs:Fs) (o:HO):Prop:=∃(C dx:ar) (vs:Z (af×V)),O.cls c=U C/\o=.ins C dx vs/\vs.map (·.1)=fs.map (·.1)/\Reps O K G (vs.map (·.2)) (fs.map (·.2))
def Uz {c:af} {fs:Fs} {o:HO} (sm:a9 G G') (h:rcO O K c G fs o):rcO O K c G' fs o:=by obtain⟨C,dx,vs,h1,h2,h3,h4⟩:=h;exact#[C,dx,vs,h1,h2,h3,h4.mono sm]
def rgO (O:Cn) (K:aJ) (c:af):Rg Fs:=#[rcO O K c,Uz]
def lZ (f:af) (v:D):Fs->Fs
 |[]=>[(f,v)]
 |(g,x)::r=>if g=f then (g,v)::r else (g,x)::lZ f v r
theorem I0 {O:Cn} {K:aJ} {G:Hp} {f:af} {v:V} {d:D} (rv:Rep O K G v d):∀{vs:Z (af×V)} {fs:Fs},vs.map (·.1)=fs.map (·.1)->Reps O K G (vs.map (·.2)) (fs.map (·.2))->
  (eF f v vs).map (·.1)=(lZ f d fs).map (·.1)/\Reps O K G ((eF f v vs).map (·.2)) ((lZ f d fs).map (·.2))
 |[],[],_,_=>#[(),.cons rv .nil]
 |(g,x)::r,(g',x')::r',h1,h2=>by
  obtain⟨e1,e2⟩:=ij h1;cases e1;cases h2 with
  |cons q1 q2=>
   unfold eF lZ;by_cases hg:g=f
   .rw[qZ hg,qZ hg];exact#[by simp only[qp];rw[e2],.cons rv q2]
   .rw[xa hg,xa hg];obtain⟨a1,a2⟩:=I0 rv e2 q2;exact#[by simp only[qp];rw[a1],.cons q1 a2]
section
variable {E:XK} {k:J} {f:FR Fs} {p:bV} {c fl m:af}
def sY (fl:af):FR Fs:=λ_ fs=>(fs.lookup fl).map λd=>U (d,fs)
def kL (hc:CF O K c attrs) (hf:fl∈attrs) (hK:X.K=K:=by rfl) (hN:X.N[i]?=U x:=by rfl) (hv:Vis X.env.scope x:=by ac_nf) (hd:(x==("__debug__":af))=ao:=by decide)
  (hcd:(x==("__classdict__":af))=ao:=by decide) (hb:i8 (.Name x vp) fl X.env (eval (.Name x vp) X.env)=eval (.Name x vp) X.env:=by rfl):RE #[rgO O K c,ac,O,i] X (.Attribute (.Name x vp) fl pos) (sY fl):=by
 subst hK;exact⟨(wn (dM hN hv hd hcd) hb).imp λL H Q=>by
 rintro⟨G,A,t⟩;obtain⟨o,ho,C,dx,vs,g1,rfl,g2,g3⟩:=A.here;obtain⟨C',q1,q2,q3⟩:=hc.ex;rw[q1] at g1;cases g1;unfold sY at t;rcases jJ g2 g3 with⟨z1,_⟩|⟨d',v',z1,z2,z3⟩
 .rw[z1] at t;cases t
 .rw[z1] at t;cases t with|ok k=>exact#[_,A.var,_,_,dx,vs,v',rfl,ho,q2,q3 fl hf,z2,k G H A.refl v' z3]⟩
def yz (fl:af) (f:FR Fs):FRs Fs:=qB f λd Y r=>if r.length<1000 then U (U (.nx,Y,lZ fl d r)) else B
def JY (hc:CF O K c attrs) (hf:fl∈attrs) (h:RE #[rgO O K c,ac,O,i] X value f) (hK:X.K=K:=by rfl) (hN:X.N[i]?=U x:=by rfl) (hv:Vis X.env.scope x:=by ac_nf) (hd:(x==("__debug__":af))=ao:=by decide)
  (hcd:(x==("__classdict__":af))=ao:=by decide) (hs:eD value (U (.Attribute (.Name x vp) fl pos')) pos.line X.env=pure ao:=by rfl):RS #[rgO O K c,ac,O,i] X (.Assign [.Attribute (.Name x vp) fl pos'] value pos) (yz fl f):=by
 subst hK;exact⟨(BS (dM hN hv hd hcd) h.1 hs).imp λE L H=>dI λG t=>t.bind λd G1 H1 _ _ t v v1=>by
 obtain⟨A,t⟩:=t
 replace t:Okx _ _ (if _<1000 then _ else B):=t
 split at t
 .rename_i hz;cases t with|ok k=>
  obtain⟨o,ho,C,dx,vs,g1,rfl,g2,g3⟩:=A.here;obtain⟨C',q1,q2,q3⟩:=hc.ex;have g1':=g1;rw[q1] at g1;cases g1;obtain⟨p1,p2⟩:=I0 v1 g2 g3;exact#[_,A.var,_,_,dx,vs,(),ho,q2,q3 fl hf,by rw[show vs.length=_ by simpa using cQ fX g2];exact hz,k L G1 _ (.refl _) #[by rw[EE];exact A.at',A.sl,_,bK,_,dx,_,g1',(),p1,p2]]
 .cases t⟩
structure CalMR (O:Cn) (P:b7) (w:bU) (K:aJ) (mg:af->ak au) (base:Heap) (C:ar) (c m:af) (n k:J) (F:ar->Z D->Fs->ak (ak (D×Fs))):Prop where
 ex:∃Ca f fd ps,O.cls c=U Ca/\Cls K Ca/\Meth K Ca m f/\FnOk P w K mg base (CXO P w base) k f fd ps (spR (rgO O K c) O K n F C)/\eP K fd ps []
noncomputable def fA (m:af) (F:ar->Z D->Fs->ak (ak (D×Fs))) (i:J) (fr:FA):FR Fs:=λY r=>match Y[i]? with
 |some (U (.pin q))=>if r.lookup m=B then (fr Y).bind λx=>F q x r else B
 |_=>B
def K8 {r:Fs} {vs:Z (af×V)} (hz:r.lookup m=B) (g2:vs.map (·.1)=r.map (·.1)) (g3:Reps O K G (vs.map (·.2)) (r.map (·.2))):dY m vs=B:=by
 rcases jJ g2 g3 with⟨_,z2⟩|⟨d',v',z1,_,_⟩
 .exact z2
 .rw[z1] at hz;cases hz
def Jc {F:ar->Z D->Fs->ak (ak (D×Fs))} {r:Fs} {kk:D->Fs->Prop} {ac:Prop} (h:Okx kk ac (fA m F i fr Y r)) (hq:Y[i]?=U (U (.pin q))):r.lookup m=B/\∃ds,fr Y=U ds/\Okx kk ac (F q ds r):=by
 unfold fA at h;rw[hq] at h
 replace h:Okx kk ac (if r.lookup m=B then (fr Y).bind λx=>F q x r else B):=h
 split at h
 .rename_i hz;cases e:fr Y with
  |none=>rw[e] at h;cases h
  |some ds=>rw[e] at h;exact#[hz,ds,(),h]
 .cases h
def dS {F:ar->Z D->Fs->ak (ak (D×Fs))} (Cl:CalMR O X.prog X.w K X.mg X.base C c m 0 k F) (pa:gX (CXO X.prog X.w X.base) X E) (hr:Room j X.A) (hk:k<=j) (hK:X.K=K:=by rfl) (hN:X.N[i]?=U x:=by rfl) (hv:Vis X.env.scope x:=by ac_nf)
  (hd:(x==("__debug__":af))=ao:=by decide) (hcd:(x==("__classdict__":af))=ao:=by decide)
  (ht:eval (.Call (.Attribute (.Name x vp) m apos) [] [] pos) X.env=(do
   let ov ←eval (.Name x vp) X.env
   mC apos.atName
   let (f,first) ←i4 [ov] (rC ov m pl)
   xM pos f first (bX pos (aK [] X.env)) (kf pos (kh [] X.env))):=by rfl) :
  RE #[rgO O K c,E (.ref C) B,O,i] X (.Call (.Attribute (.Name x vp) m apos) [] [] pos) (fA m F i ay):=⟨by
 subst hK;obtain⟨Ca,f,fd,ps,h0,h1,h2,h3,h4⟩:=Cl.ex;refine(EU (dM hN hv hd hcd) h1 h2 h3 (hr.mono hk) h4 .nil pa ht).imp λL H Q=>?_;rintro⟨G,@⟨Tm,Ty,Y,p,r,A,t⟩⟩;obtain⟨hz,ds,hds,t⟩:=Jc t A.sl;cases hds;obtain⟨o,ho,C',dx,vs,g1,rfl,g2,g3⟩:=A.here;have g1':=g1;rw[h0] at g1;cases g1;exact#[_,A.var,p,dx,vs,(),ho,K8 hz g2 g3,G,p,r,[],[],(),A.at'.gh,#[_,ho,_,dx,vs,g1',(),g2,g3],.nil,(),t]⟩
def iU {F:ar->Z D->Fs->ak (ak (D×Fs))} {fa:FA} (Cl:CalMR O X.prog X.w K X.mg X.base C c m n k F) (pa:gX (CXO X.prog X.w X.base) X E) (hr:Room j X.A) (hk:k<=j) (ha:DA O X (e::es) fa) (hn:∀Y ds,fa Y=U ds->ds.length=n)
  (hK:X.K=K:=by rfl) (hN:X.N[i]?=U x:=by rfl) (hv:Vis X.env.scope x:=by ac_nf)
  (hd:(x==("__debug__":af))=ao:=by decide) (hcd:(x==("__classdict__":af))=ao:=by decide)
  (hst:aK (e::es) X.env=(ao,eval e X.env)::aK es X.env:=by rfl) (hpl:(bX pos (aK es X.env)).any (·.1)=ao:=by rfl)
  (ht:eval (.Call (.Attribute (.Name x vp) m apos) (e::es) [] pos) X.env=(do
   let ov ←eval (.Name x vp) X.env
   mC apos.atName
   let (f,first) ←i4 [ov] (rC ov m pl)
   xM pos f first (bX pos (aK (e::es) X.env)) (kf pos (kh [] X.env))):=by rfl) :
  RE #[rgO O K c,E (.ref C) B,O,i] X (.Call (.Attribute (.Name x vp) m apos) (e::es) [] pos) (fA m F i fa):=⟨by
 subst hK;obtain⟨Ca,f,fd,ps,h0,h1,h2,h3,h4⟩:=Cl.ex;refine(VL (dM hN hv hd hcd) h1 h2 h3 (hr.mono hk) h4 .nil pa ha.1 hst hpl ht).imp λL H Q=>?_;rintro⟨G,@⟨Tm,Ty,Y,p,r,A,t⟩⟩;obtain⟨hz,ds,hds,t⟩:=Jc t A.sl;obtain⟨o,ho,C',dx,vs,g1,rfl,g2,g3⟩:=A.here;have g1':=g1;rw[h0] at g1;cases g1;refine#[_,A.var,p,dx,vs,(),ho,K8 hz g2 g3,Tm,Ty,G,Y,ds,A.full,hds,λws G1 H1 s1 v1=>?_];show spR (rgO O X.K c) O X.K n F C (.ref p::(ws++[])) H1 Q E;rw[dZ];have s:=A.pure s1;exact#[G1,p,r,ws,ds,(),(A.step s).at'.gh,s.here,v1,hn Y ds hds,t.imp (λd r2 k G' H' s'=>k G' H' (s.trans s')) λz r' G' H' s'=>z r' G' H' (s.trans s')]⟩
def DfnM.calR {Ca:ar} {st:Stmt} {g:FRs Fs} (Γ:ClsOk O K mg c Ca) (F:DfnM K Ca c m qual st) (S:FnScope N (s0::ps) (aD st))
  (hb:∀(kV doc pm:au) (an:ak ar) (cdv ct:au) (us:Z au),us.length=(s0::ps).length->gM (eT m qual (e9 st) (cI st) (aD st) .none kV doc pm an cdv ct) #[us,[]]=pure ((s0::ps).zip us))
  (hbody:∀(f:ar) (cdv:au) (A:dh) (outer:Z cD) (s:aF) (H:Hp) (E:XK),Room k (A.deeper (bR qual (aD st) s.heap.objs.size f cdv))->
   RSs #[rgO O K c,E (.ref C) B,O,0] (cB (CXO P w base) P w K mg base N qual (aD st) f cdv A outer s H E) (cI st) g):CalMR O P w K mg base C c m ps.length (k+1) (bH (N.length-(ps.length+1)) g):=by
 obtain⟨f,fd,h1,h2,h3⟩:=F.ex;exact#[Ca,f,fd,s0::ps,Γ.cn,Γ.cl,#[h2,h3,h1.kp],h1.okR S (hbody f),h1.binds hb]
end
section
variable {a:Expr}
def kF:FQ
 |[.str x]=>U (.str x)
 |[.int i]=>if i.natAbs.log2<1920 then U (.str (mI i)) else B
 |_=>B
def Qz:fO X (.type "str") (λxs H Q=>(∃i,xs=[.int i]/\i.natAbs.log2<1920/\Q (.str (mI i)) H)\/∃x,xs=[.str x]/\Q (.str x) H):=by
 intro XL s L H xs us Q I r h;rcases h with h|⟨x,rfl,q⟩
 .exact Ug XL s L H xs us Q I r h
 .obtain⟨u,rfl,t,rfl⟩:=fR r;exact PySem.P.str_of_str #[.str _,H,I,#[_,()],q]
def oQ:TyD O X "str" kF:=#[_,Qz,λ{G H vs ds z} gh r h Q k=>by
 unfold kF at h;split at h
 .cases h;obtain⟨v,rfl,r1⟩:=r.one;cases r1.str_inv;exact .inr #[_,(),k _ G H (.refl gh) (.str _)]
 .split at h
  .cases h;obtain⟨v,rfl,r1⟩:=r.one;cases r1.int_inv;exact .inl #[_,(),by assumption,k _ G H (.refl gh) (.str _)]
  .cases h
 .cases h]
def AB (i j:aj):Prop:=i.natAbs.log2<4000/\j.natAbs.log2<4000
def AB.ok {i j:aj} (h:AB i j):Mj i j:=by
 have e:∀k:aj,k.natAbs.log2<4000->Dy k<=4000:=λk hk=>by unfold Dy;split<;>lia
 have h1:=e i h.1;have h2:=e j h.2;have hb:¬((Dy i:aj)+(Dy j:aj) > bitsLine):=by
  have:(8000:aj)<=bitsLine:=by decide
  lia
 unfold Mj xaV;rw[qQ hb];simp
noncomputable def wI:D->D->ak D
 |.int i,.int j=>if i.natAbs.log2<4000/\j.natAbs.log2<4000 then U (.int (i*j)) else B
 |_,_=>B
def Qt:OpR X (gK .Mult) (rI AB λi j=>.int (i*j)):=opI λ_ _ _ _ _ _ _ hc q=>mul_int q hc.ok
def SW (ha:DE O X a fa) (hb:DE O X b fb):DE O X (.BinOp a .Mult b pos) (b2 wI fa fb):=nS Qt (pd λx y z h=>by
 unfold wI at h;split at h
 .split at h<;>cases h;exact#[_,_,(),(),by assumption,()]
 .cases h) ha hb
end
section
variable {c:Expr}
noncomputable def inT (x y:D):ak aR:=(pdD x).bind λp=>(pdD y).bind λq=>match q with
 |.tuple l=>if eE p=ah/\gz l=ah then U (l.any λz=>eU z p) else B
 |_=>B
def whL (ft:FT) (g:FS):J->FS
 |0,_=>B
 |n+1,Y=>(ft Y).bind λb=>if b=ah then (g Y).bind λr=>match r.1 with
   |.nx=>whL ft g n r.2
   |.rt d=>U (.rt d,r.2)
   |_=>B
  else U (.nx,Y)
def IF (n:J) (hp:um (aL X.prog X.w) X.A X.env X.xe) (hc:DT O X c ft) (hb:DSs O X body g):DS O X (.While c body [] pos) (whL ft g n):=⟨(Ge hp hc.1 hb.1).imp λE L H=>by
 rintro⟨Tm,Ty,G,Y,fl,KK,A,h,k⟩;refine#[λm BT H'=>∃G' ρ1,a9 G G'/\At O X.K Tm Ty G' H' ρ1 BT/\whL ft g m ρ1=U (fl,KK),#[n,G,Y,.refl _,A,h],?_];rintro m BT H' ⟨G',ρ1,sm,A',hr⟩;cases m with
 |zero=>cases hr
 |succ m=>
  obtain⟨b,hb,hr⟩:=oBd hr;refine#[Tm,Ty,G',ρ1,b,A',hb,λG1 H1 s1=>?_];cases b with
  |false=>
   rw[xa qu] at hr;cases hr;exact fy (k BT G1 H1 (sm.trans s1.gg) (A'.step s1))
  |true=>
   rw[qZ ()] at hr;obtain⟨⟨fl2,ρ2⟩,h2,hr⟩:=oBd hr;refine fz #[λσ3 H3=>fl2=.nx/\∃G3,a9 G G3/\At O X.K Tm Ty G3 H3 ρ2 σ3,λσ3 H3 #[hfl,G3,sm3,A3]=>?_,Tm,Ty,G1,ρ1,fl2,ρ2,A'.step s1,h2,λσ3 G3 H3 sm3 A3=>?_]
   .subst hfl;exact#[m,ut _,G3,ρ2,sm3,A3,hr]
   .have smm:=(sm.trans s1.gg).trans sm3;cases fl2 with
    |nx=>exact#[(),G3,smm,A3]
    |rt d=>cases hr;exact k σ3 G3 H3 smm A3
    |_=>cases hr⟩
end
def vz:D->FQ
 |.str x,[.str y]=>U (.bl (ly x y))
 |_,_=>B
def T5:MtD O X "str" "str.startswith" vz:=by
 refine#[#[λv vs H Q=>∃x y,v=.str x/\vs=[.str y]/\Q (.bl (ly x y)) H,?_,?_],?_]
 .intro XL s L H x xs v us Q I rx rs h;obtain⟨z,y,rfl,rfl,q⟩:=h;obtain⟨t,rfl⟩:=rx;obtain⟨u,rfl,ru⟩:=fR rs;obtain⟨t2,rfl⟩:=ru;exact call_gives ZF (ox _ _ _) PySem.F.entry_str_startswith (PySem.F.args_str_startswith_2 _ _) (gives_str_startswith z y t t2) ⟨.bl _,H,I,(),q⟩
 .intro G H v x vs ds z gh r1 r2 h Q k;unfold vz at h;split at h
  .cases h;cases r1.str_inv;obtain⟨v,rfl,r3⟩:=r2.one;cases r3.str_inv;exact#[_,_,(),(),k _ G H (.refl gh) (.bl _)]
  .cases h
 .intro G H v x ds z gh r h;unfold vz at h;split at h
  .cases r.str_inv;exact ()
  .cases h
noncomputable def vo (n:J) (c:af) (g:FS):Z D->ak Fs:=λds=>(g (U (.obj c [])::ds.map (fun d=>U (Slot.sh d))++bB n B)).bind λr=>match r.1 with
 |.nx=>match r.2[0]? with
  |some (U (Slot.obj c' fs))=>if c'=c then U fs else B
  |_=>B
 |_=>B
inductive spIR (O:Cn) (K:aJ) (C:ar) (c:af) (n:J) (F:Z D->ak Fs) (vs:Z V) (H:Hp) (Q:VK) (_e3:XK):Prop where
 |mk:∀x dx H1 G ds fs us,vs=.ref x::us->H=upd (upd H1 dx (.own x)) x (.ins C dx [])->H1 x=B->H1 dx=B->dx≠x->a9 G H1->Reps O K G us ds->ds.length=n->F ds=U fs->(∀G' H',Step G H1 G' (bt x H')->(∃o,H' x=U o/\(rgO O K c).rc G' fs o)->Q .non H')->spIR O K C c n F vs H Q _e3
section
variable {c:af}
def Fun.okIR {st:Stmt} {f:ar} {k:J} (F:Fun K x qual st f fd) (S:FnScope N (s0::ps) (aD st)) (hC:O.cls c=U C)
  (hbody:∀(y:ar) (cdv:au) (A:dh) (outer:Z cD) (s:aF) (H:Hp) (E:XK),Room k (A.deeper (bR qual (aD st) s.heap.objs.size f cdv))->
   DSs (O.mk1 y) (cB CX0 P w K mg base N qual (aD st) f cdv A outer s H E).nox (cI st) g):FnOk P w K mg base CX0 (k+1) f fd (s0::ps) (spIR O K C c ps.length (vo (N.length-(ps.length+1)) c g)):=by
 refine F.ok S (λvs H Q E h=>?_) (fun cdv A outer s H vs Q E hr h=>?_)
 .obtain⟨y,dx,H1,G,ds,d,us,rfl,_,_,_,_,_,r,hl,_⟩:=h;rw[qh,r.length,hl,qh]
 .obtain⟨y,dx,H1,G,ds,fs0,us,rfl,rfl,hx,hdx,hne,gh,r,hl,hd,k⟩:=h;refine#[_,(hbody y cdv A outer s _ E hr).1,?_];obtain⟨⟨fl,KK⟩,hg,hd⟩:=oBd hd;have s1:=Step.newOwn (o:=.own y) gh hdx;have hx1:(upd H1 dx (.own y)) y=B:=by rw[aW (dU hne)];exact hx
  have s2:=s1.trans (Step.newOwn (o:=.ins C dx []) s1.gh hx1);have hlen:us.length=ds.length:=r.length;have A0:At (O.mk1 y) K G H1 G (upd (upd H1 dx (.own y)) y (.ins C dx [])) (U (.obj c [])::ds.map (fun d=>U (Slot.sh d))++bB (N.length-(ps.length+1)) B) (eJ N (.ref y::us)):=by
   refine#[s2,by simp[eJ,hlen,hl],λi=>if i=0 then [y] else [],λi t e=>?_,λi j t u hij e1 e2 b hb=>?_]
   .cases i with
    |zero=>
     cases e;exact#[.ref y,(),.obj hC hx (gh.free hx) bK () .nil ()]
    |succ i=>
     have e:(ds.map (fun d=>U (Slot.sh d))++bB (N.length-(ps.length+1)) B)[i]?=U (U t):=e;by_cases hi:i<ds.length
     .rw[qD (by simpa using hi),ql] at e;obtain⟨d',hd',e⟩:=oMd e;cases e;obtain⟨v,hv,rv⟩:=r.get hd';refine#[v,?_,.sh (rv.to1 y)];show((us.map U)++_)[i]?=U (U v);rw[qD (by rw[qe,hlen];exact hi),ql,hv];rfl
     .rw[qN (by simpa using hi),ux] at e;split at e<;>cases e
   .have hb:b∈(if i=0 then [y] else []):=hb;show b∉(if j=0 then [y] else []);by_cases hi:i=0
    .subst hi;rw[xa (dU hij)];exactλz=>by cases z
    .rw[xa hi] at hb;cases hb
  refine#[G,H1,G,_,fl,KK,A0,hg,λBT G' H' sm A'=>?_];cases fl with
  |nx=>
   simp only at hd;split at hd
   .rename_i c' fs hs;split at hd
    .rename_i hcc;cases hd;subst hcc;obtain⟨v,fp,h1,h2⟩:=A'.get hs;cases h2 with
     |obj g1 g2 g3 g4 g5 g6 g7=>
      cases g7;refine k G' H' #[λb o e=>?_,A'.st.gg,λb o e=>?_,A'.st.out] #[_,g4,_,_,_,g1,(),g5,g6.of1]
      .rw[dO (ce e hx)];exact A'.st.hh b o e
      .rw[dO (ce e g3)];exact A'.gh b o e
    .cases hd
   .cases hd
  |rt d'=>cases hd
  |ow d'=>cases hd
  |nw d'=>cases hd
  |od d'=>cases hd
  |bk=>cases hd
  |ct=>cases hd
structure CalIR (O:Cn) (P:b7) (w:bU) (K:aJ) (mg:af->ak au) (base:Heap) (c:af) (n k:J) (F:Z D->ak Fs):Prop where
 ex:∃C f fd ps,O.cls c=U C/\Mk K C f/\mg c=U (.ref C)/\FnOk P w K mg base CX0 k f fd ps (spIR O K C c n F)/\eP K fd ps []
def DfnM.calIR {st:Stmt} {k:J} (Γ:ClsOk O K mg c C) (F:DfnM K C c "__init__" qual st) (S:FnScope N (s0::ps) (aD st))
  (hb:∀(kV doc pm:au) (an:ak ar) (cdv ct:au) (us:Z au),us.length=(s0::ps).length->gM (eT "__init__" qual (e9 st) (cI st) (aD st) .none kV doc pm an cdv ct) #[us,[]]=pure ((s0::ps).zip us))
  (hbody:∀(f y:ar) (cdv:au) (A:dh) (outer:Z cD) (s:aF) (H:Hp) (E:XK),Room k (A.deeper (bR qual (aD st) s.heap.objs.size f cdv))->
   DSs (O.mk1 y) (cB CX0 P w K mg base N qual (aD st) f cdv A outer s H E).nox (cI st) g):CalIR O P w K mg base c ps.length (k+1) (vo (N.length-(ps.length+1)) c g):=by
 obtain⟨f,fd,h1,h2,h3⟩:=F.ex;exact#[C,f,fd,s0::ps,Γ.cn,#[Γ.makes,h2,h3,Γ.kp],Γ.mgC,h1.okIR S Γ.cn (hbody f),h1.binds hb]
end
abbrev FZ:=bj->ak (ak (Fl×bj))
inductive TDz (ac:Hp->Prop) (O:Cn) (K:aJ) (g:FZ) (E:Ends) (L:St) (H:Hp):Prop where
 |mk {Tm Ty G Y:_}:At O K Tm Ty G H Y L->Okx (λfl KK=>∀BT G' H',a9 G G'->At O K Tm Ty G' H' KK BT->nQ O K E Ty G' H' BT fl) (∀BT G' H' KK,a9 G G'->At O K Tm Ty G' H' KK BT->ac H') (g Y)->TDz ac O K g E L H
structure DZ (ac:Hp->Prop) (O:Cn) (X:Cx) (st:Stmt) (g:FZ):Prop where
 out:PS X st (TDz ac O X.K g)
structure DZs (ac:Hp->Prop) (O:Cn) (X:Cx) (st:Z Stmt) (g:FZ):Prop where
 out:PSs X st (TDz ac O X.K g)
noncomputable def u0:FZ:=λY=>U (U (.nx,Y))
def pO (g g':FZ):FZ:=λY=>ob (g Y) λfl ρ1=>match fl with
 |.nx=>g' ρ1
 |fl=>U (U (fl,ρ1))
noncomputable def pP (ft:FT) (g g':FZ):FZ:=λY=>(ft Y).bind λc=>if c=ah then g Y else g' Y
noncomputable def Fx (fr:FA):FZ:=λY=>(fr Y).map λ_=>B
section
variable {c:Expr} {st:Stmt} {f:FS} {g g':FZ}
def UX:DZs ac O X [] u0:=⟨ub.imp λE L H=>by rintro⟨A,t⟩;cases t with|ok k=>exact k L _ H (.refl _) A⟩
def R7 (h:DZ ac O X st g):DZs ac O X [st] g:=⟨lF h.1⟩
def Wz (h1:DZ ac O X st g) (h2:DZs ac O X sts g'):DZs ac O X (st::sts) (pO g g'):=⟨(kG h1.1 h2.1).imp λE L H=>by
 rintro⟨A,t⟩;refine#[A,t.bind.imp (λfl w t σ1 G1 H1 sm A1=>?_) id];cases fl with
 |nx=>exact#[A1,t.imp (λfl w k BT G' H' s=>k BT G' H' (sm.trans s)) λz BT G' H' KK s=>z BT G' H' KK (sm.trans s)]
 |_=>cases t with|ok k=>exact k σ1 G1 H1 sm A1⟩
def Xx (hc:DT O X c ft) (ha:DZs ac O X sa g) (hb:DZs ac O X sb g'):DZ ac O X (.If c sa sb pos) (pP ft g g'):=⟨(sR hc.1 ha.1 hb.1).imp λE L H=>by
 rintro @⟨Tm,Ty,G,Y,A,t⟩;unfold pP at t;cases hx:ft Y with
 |none=>rw[hx] at t;cases t
 |some x=>
  rw[hx] at t;refine#[_,_,_,_,x,A,hx,λG1 H1 s1=>?_];have t:=t.imp (λfl w k BT G' H' s=>k BT G' H' (s1.gg.trans s)) λz BT G' H' KK s=>z BT G' H' KK (s1.gg.trans s);cases x with
  |true=>exact fz #[A.step s1,t]
  |false=>exact fy #[A.step s1,t]⟩
variable {p:bV} {aZ:Z Stmt} {gx:FRs Fs}
def At.setPin (A:At O K Tm Ty G H Y L) (i:J) (a:ar):At O K Tm Ty G H (Y.set i (U (.pin a))) (L.set i (U (.ref a))):=
 A.put (.inl ()) (λb o e _=>e) (.pin a) (λb hb=>by cases hb) (.refl _) A.gh (λ_ _ _ _=>rfl) (λb hb=>by cases hb)
def sK (j:J) (F:Z D->ak Fs) (fr:FA) (g:FRs Fs):FZ:=λY=>(fr Y).bind λds=>(F ds).bind λfs=>if j < Y.length then kT j g Y fs else B
def Wa {k jj:J} {F:Z D->ak Fs} (C:CalIR O X.prog X.w X.K X.mg X.base cl n k F) (hr:Room jj X.A) (hk:k+1<=jj) (hg:Gl X cl) (ha:DA O X (e::es) fr) (hn:∀Y ds,fr Y=U ds->ds.length=n) (hN:X.N.Nodup) (h:RSs #[rgO O X.K cl,ac,O,j] X aZ gx)
  (hdb:(cl==("__debug__":af))=ao:=by decide) (he:aK (e::es) X.env=(ao,eval e X.env)::aK es X.env:=by rfl) (hpl:(bX pos (aK es X.env)).any (·.1)=ao:=by rfl)
  (hi:X.N[j]?=U y:=by rfl) (hx:Loc X.env.scope y:=by ac_nf) (hs:eD (.Call (.Name cl p) (e::es) [] pos) (U (.Name y py)) spos.line X.env=pure ao:=by rfl) (hf:X.fn y=ah\/X.env.scope.names.lookup y=U .local:=by ac_nf) :
  DZs ac O X (.Assign [.Name y py] (.Call (.Name cl p) (e::es) [] pos) spos::aZ) (sK j F fr gx):=⟨by
 obtain⟨Ca,f,fd,ps,h0,h1,h2,h3,h4⟩:=C.ex;refine(kG (l6 hN hi hx (Lp h1 h3 (hr.mono hk) hg h2 h4 .nil lD ha.1 hdb he hpl) hs hf) h.1).imp λE L H=>?_;rintro @⟨Tm,Ty,G,Y,A,t⟩;unfold sK at t;cases hds:fr Y with
 |none=>rw[hds] at t;cases t
 |some ds=>
 rw[hds] at t;cases hfs:F ds with
 |none=>rw[qa,hfs] at t;cases t
 |some fs=>
 rw[qa,hfs,qa] at t;split at t
 .rename_i hj;refine#[Tm,Ty,G,Y,ds,A,hds,λvs G1 H1 s1 r1 x dx hx hdx hne=>?_];rw[dZ];refine#[x,dx,H1,G1,ds,fs,vs,(),(),hx,hdx,hne,s1.gh,r1,hn Y ds hds,hfs,λG' H' st ho=>#[(),?_]];have sm0:=s1.gg.trans st.gg;refine#[G',#[((A.step s1).step st).setPin j x,by rw[iZ hj],ho],?_];cases ho:kT j gx Y fs with
  |none=>rw[ho] at t;cases t
  |some o=>
  rw[ho] at t;rcases LM ho x with⟨rfl,hq⟩|⟨fl,ρ1,r',rfl,hq⟩<;>rw[hq]
  .cases t with|ex k=>exact .ex λBT G2 H2 ρ2 r2 sm A'=>k BT G2 H2 ρ2 (sm0.trans sm) A'.full
  .cases t with|ok k=>
   refine .ok λBT G2 H2 sm A'=>k BT G2 H2 (sm0.trans sm) ?_;have:=A'.full.drop j
   rwa [Nl] at this
 .cases t⟩
end
section
variable {f:ar} {E:XK}
 {x:af} {np cpos pos:bV} {e₀:Expr} {aZ:Z Expr} {fr:FA} {Bn newId initId:String} {bmB:Z au}
def Wu (Γ:ya x C bmB newId mg base) (FB:Nh Bn newId initId bmB)
  (hg:Gl (cB (CXO P w base) P w K mg base N qual scope f cd A outer mt Ty E) x)
  (ha:DA O (cB (CXO P w base) P w K mg base N qual scope f cd A outer mt Ty E) (e₀::aZ) fr) (hn:∀Y ds,fr Y=U ds->ds.length<=aH)
  (he:aK (e₀::aZ) (bR qual scope mt.heap.objs.size f cd)=(ao,eval e₀ (bR qual scope mt.heap.objs.size f cd))::aK aZ (bR qual scope mt.heap.objs.size f cd):=by rfl)
  (hpl:(bX cpos (aK aZ (bR qual scope mt.heap.objs.size f cd))).any (·.1)=ao:=by rfl) (hdb:(x==("__debug__":af))=ao:=by decide) :
  DZ (E (.ref C) B) O (cB (CXO P w base) P w K mg base N qual scope f cd A outer mt Ty E) (.Raise (U (.Call (.Name x np) (e₀::aZ) [] cpos)) B pos) (Fx fr):=⟨by
 intro XL s L H D I hq;obtain @⟨Tm,H₀',G,Y,A0,t⟩:=hq;unfold Fx at t;cases hd:fr Y with
 |none=>rw[hd] at t;cases t
 |some ds=>
 rw[hd] at t;cases t with|ex k=>
 refine(SG (λ_ z=>z) Γ FB hg ha hn he hpl hdb).1 XL s L H D I #[Tm,H₀',G,Y,_,Y,A0,show yG "" fr Y=U (.rt (.ty ""),Y) by unfold yG;rw[hd];rfl,λBT G' H' sm A'=>#[λ_=>k BT G' H' Y sm A',λz=>ba () z]]⟩
inductive spZ (O:Cn) (K:aJ) (m:J) (F:Z D->ak (ak D)) (C:ar) (vs:Z V) (H:Hp) (Q:VK) (E:XK):Prop where
 |mk:∀G ds o,a9 G H->Reps O K G vs ds->ds.length=m->F ds=U o->(o=B->∀G' H',Step G H G' H'->E (.ref C) B H')->(∀d,o=U d->∀v G' H',Step G H G' H'->Rep O K G' v d->Q v H')->spZ O K m F C vs H Q E
noncomputable def ny (n:J) (g:FZ):Z D->ak (ak D):=λds=>(g (ds.map (fun d=>U (Slot.sh d))++bB n B)).bind λo=>match o with
 |none=>U B
 |some z=>match z.1 with
  |.rt d=>U (U d)
  |.nx=>U (U .non)
  |_=>B
def Fun.okZ {st:Stmt} {k:J} {g:FZ} (F:Fun K x qual st f fd) (S:FnScope N ps (aD st))
  (hbody:∀(cdv:au) (A:dh) (outer:Z cD) (s:aF) (H:Hp) (E:XK),Room k (A.deeper (bR qual (aD st) s.heap.objs.size f cdv))->
   DZs (E (.ref C) B) O (cB (CXO P w base) P w K mg base N qual (aD st) f cdv A outer s H E) (cI st) g) :
  FnOk P w K mg base (CXO P w base) (k+1) f fd ps (spZ O K ps.length (ny (N.length-ps.length) g) C):=by
 obtain⟨oc,od,kV,doc,pm,an,cdv,ct,osl,rfl,lk,hcd⟩:=F.ex;refine wa lk hcd S (λvs H Q E h=>?_) λA outer s H vs Q E hr h=>?_
 .obtain⟨G,ds,d,_,r,hl,_⟩:=h;rw[r.length,hl]
 .obtain⟨G,ds,o,gh,r,hl,hd,kx,kn⟩:=h;refine#[_,(hbody cdv A outer s H E hr).1,?_];refine#[w8 gh r (m:=N.length-ps.length) (by rw[r.length,hl]),?_];obtain⟨z,hg,hd⟩:=oBd hd;rw[hg];cases z with
  |none=>
   cases hd;exact .ex λBT G' H' KK sm A'=>kx () G' H' A'.st
  |some z=>
   obtain⟨fl,KK⟩:=z;refine .ok λBT G' H' sm A'=>?_;cases fl with
   |rt d'=>cases hd;exactλv rv=>kn _ () v G' H' A'.st rv
   |nx=>cases hd;exact kn _ () .non G' H' A'.st .non
   |_=>cases hd
structure CalZ (O:Cn) (P:b7) (w:bU) (K:aJ) (mg:af->ak au) (base:Heap) (C:ar) (x:af) (m k:J) (F:Z D->ak (ak D)):Prop where
 ex:∃f fd ps,FnOk P w K mg base (CXO P w base) k f fd ps (spZ O K m F C)/\mg x=U (.ref f)/\fM K (.ref f)=ah/\eP K fd ps []
def Dfn.calZ {st:Stmt} {k:J} {g:FZ} (F:Dfn K mg x st) (S:FnScope N ps (aD st))
  (hb:∀(kV doc pm:au) (an:ak ar) (cdv ct:au) (us:Z au),us.length=ps.length->gM (eT x x (e9 st) (cI st) (aD st) .none kV doc pm an cdv ct) #[us,[]]=pure (ps.zip us))
  (hbody:∀(f:ar) (cdv:au) (A:dh) (outer:Z cD) (s:aF) (H:Hp) (E:XK),Room k (A.deeper (bR x (aD st) s.heap.objs.size f cdv))->
   DZs (E (.ref C) B) O (cB (CXO P w base) P w K mg base N x (aD st) f cdv A outer s H E) (cI st) g):CalZ O P w K mg base C x ps.length (k+1) (ny (N.length-ps.length) g):=by
 obtain⟨f,fd,h1,h2⟩:=F.ex;exact#[f,fd,ps,h1.okZ S (hbody f),h2,h1.kp,h1.binds hb]
end
def Hq (K:aJ) (sp:Sp) (cv:au) (i j l:J) (t:TA):TS:=λD L H=>t L H λvs H1=>∃(Q:VK) (E:XK),sp vs H1 Q E/\(∀v H2,Q v H2->D.nx (L.set l (U v)) H2) /\
 ∀cls H2,E cls B H2->Nm K cls cv=U ah/\∀a,H2 a=B->D.nx (((L.set j (U (.ref a))).set i (U (.ref a))).set j B) (upd H2 a (.ext (e6 a cls)))
section
variable {k l:J} {f:ar} {fx cx n z:af} {p cp np hp pz:bV} {t:TA}
def W8 (F:FnOk X.prog X.w X.K X.mg X.base (CXO X.prog X.w X.base) k f fd ps sp) (hr:Room k X.A) (hx0:∀e s,¬X.xe e s) (hst:X.stack=X.env::X.outer) (hfr:X.env.frame=U X.env.locals)
  (hg:Gl X fx) (hm:X.mg fx=U (.ref f)) (hk:fM X.K (.ref f)=ah) (hb:eP X.K fd ps []) (ha:PA X (e::es) t) (hgc:Gl X cx) (hmc:X.mg cx=U cv)
  (hN:X.N.Nodup) (hi:X.N[i]?=U y) (hy:X.env.kindOf y=U .local) (hj:X.N[j]?=U n) (hn:X.env.kindOf n=U .local) (hij:i≠j) (hl:X.N[l]?=U z) (hz:X.env.kindOf z=U .local)
  (hdb:(fx==("__debug__":af))=ao:=by decide) (hdc:(cx==("__debug__":af))=ao:=by decide) (hdn:(n==("__debug__":af))=ao:=by decide) (hdd:(n==("__classdict__":af))=ao:=by decide)
  (he:aK (e::es) X.env=(ao,eval e X.env)::aK es X.env:=by rfl) (hpl:(bX p2 (aK es X.env)).any (·.1)=ao:=by rfl)
  (hs1:eD (.Call (.Name fx p) (e::es) [] p2) (U (.Name z pz)) p3.line X.env=pure ao:=by rfl) (hs2:eD (.Name n np) (U (.Name y py)) ap.line X.env=pure ao:=by rfl) :
  PS X (.Try [.Assign [.Name z pz] (.Call (.Name fx p) (e::es) [] p2) p3] [.ExceptHandler (U (.Name cx cp)) (U n) [.Assign [.Name y py] (.Name n np) ap] hp] [] [] pos) (Hq X.K sp cv i j l t):=by
 intro XL s L H D I h;refine wpAny_Try_except ?_;refine Me (Yp ?_ hs1);refine xL (nZ I hg hm ?_ hdb);refine CV I.ok.mod.kin hk (fj (ha p2 XL s L H _ I h) (λus s1 q=>?_) λx s1 z=>(hx0 x s1 z).elim) he hpl;obtain⟨vs,H1,I1,r1,Q,E,hsp,hnx,hex⟩:=q;refine#[I1.kIn,?_];have r2:bq (vs++[]) (us++[]):=by rw[dZ,dZ];exact r1
 have hlen:(us++[]).length=ps.length:=by rw[dZ,<-r1.length];exact F.len _ _ _ _ hsp
 refine rD (rE (F.run X.A X.stack s1 H1 #[us,[]] us vs Q E hr I1.env0 (by have:=hb s1 us I1.kIn hlen;rwa [dZ] at this) r1 hsp) λr s' hq=>?_);cases r with
 |ok fl=>
  cases fl with
  |ret u=>
   obtain⟨v,H',I',rv,q⟩:=I1.after hq;exact w9 I' hN hl (.inl hz) rv (λs2 I2=>uk (uk #[_,H',I2,hnx v H' q])) (.inr hz)
  |next=>exact gw hq
  |brk=>exact gw hq
  |cont=>exact gw hq
 |error x=>
  obtain⟨a,cls,a0,ae,H2,rfl,hos,hgens,F1,hE⟩:=hq;obtain⟨hxm,hnx2⟩:=hex cls H2 hE;have invOf:∀{h':Heap} {tk:J},Fly X.prog X.w X.base X.stack H1 H2 s1 ae a cls a0 h'->Inv X XL L H2 {s' with heap:=h',toks:=tk}:=λ{h' tk} F'=>I1.call' hos F'.un F'.hk hgens (λb z=>ba z (by simp));have invE:∀{h':Heap} {tk:J},Fly X.prog X.w X.base X.stack H1 H2 s1 ae a cls a0 h'->Inv X XL L (upd H2 a (.ext (e6 a cls))) {s' with heap:=h',toks:=tk}:=λ{h' tk} F'=>I1.call' hos F'.unE F'.hkE hgens (λb z=>ba z (by simp));have F1s:=F1.fly;rw[hst] at F1s;refine wpAny_looks_onW (by rw[I.ok.frames,hst]) hfr F1s λh₄ hheld₄ hsm₄=>?_;refine wpAny_landsW hheld₄ λh₅ hfl₅ hsm₅'=>?_;have F5:Fly X.prog X.w X.base X.stack H1 H2 s1 ae a cls a0 h₅:=F1.on (hsm₄.trans hsm₅') (by rw[hst];exact hfl₅);have I5:=(invOf (tk:=s'.toks) F5).marked (.ref a);refine wpAny_handleBy_cons (codeAny_handlers_test (nZ I5 hgc hmc ?_ hdc)) (by intro q;cases q);obtain⟨oe,ws,hoe,hoec,hoed⟩:=F5.exc;have LT:PySem.W.Looks (aL X.prog X.w) h₅ (xP (.ref a)) cls:=hoec▸(Zx hoe).andThen .now;refine(PySem.W.exm_one I5.kIn LT hxm).here ?_;refine codeAny_handlers_suite_as ?_;refine lands_againW hfl₅ λh₆ hfl₆ hsm₆=>?_;have F6:Fly X.prog X.w X.base X.stack H1 H2 s1 ae a cls a0 h₆:=F5.on hsm₆ (by rw[hst];exact hfl₆);have I6:=invE (tk:=s'.toks) F6;refine w9 I6 hN hj (.inl hn) (show bz (.ref a) (.ref a) from ()) (λs7 I7=>?_) (.inr hn);have I7m:=I7.marked (.ref a);have asg:PSs (X.marked (.ref a)) [.Assign [.Name y py] (.Name n np) ap] (ph (Ag j) (pG i)):=lF (l6 (X:=X.marked (.ref a)) hN hi (.inl hy) (dM (X:=X.marked (.ref a)) hj (.inl hn) hdn hdd) hs2 (.inr hy));have jl:j < L.length:=by rw[I1.len];exact(gv.mp hj).1
  refine fj (asg XL s7 _ _ {nx:=λBT H'=>BT=(L.set j (U (.ref a))).set i (U (.ref a))/\H'=upd H2 a (.ext (e6 a cls)),rt:=λ_ _=>False} I7m #[.ref a,by rw[iZ jl],rfl,rfl]) (λfl s8 q=>?_) λ_ _ z=>z.elim;cases fl with
  |next=>
   obtain⟨BT,H',I8,rfl,rfl⟩:=q;refine Oo (I8.unmarked I.ok) hN hj hn λs9 I9=>?_;exact#[_,_,I9,hnx2 a F1.new]
  |brk=>obtain⟨_,_,_,z⟩:=q;exact z.elim
  |cont=>obtain⟨_,_,_,z⟩:=q;exact z.elim
  |ret u=>obtain⟨_,_,_,_,_,z⟩:=q;exact z.elim
end
def nD:D->D->ak D
 |.str x,.str y=>U (.bl (!inS x y))
 |_,_=>B
def Ll :CmpD O X .NotIn nD:=#[_,Xf,λ{G H v u x y z} gh r1 r2 h Q k=>by unfold nD at h;split at h<;>cases h;cases r1.str_inv;cases r2.str_inv;exact#[_,_,(),(),k _ G H (.refl gh) (.bl _)]]
noncomputable def itN (b:aR):String:=if b then "list_iterator" else "tuple_iterator"
def Sqn (h:Heap) (l:ar) (xs:Z au):Prop:=∃o n,h.get? l=U o/\o.data=.seq xs.toArray n
def Izr (b:aR) (h:Heap) (i l:ar) (k:J):Prop:=∃o,h.get? i=U o/\o.cls=.type (itN b)/\o.data=.fields [.ref l,.int k 0].toArray
def Sqn.at {xs:Z au} (z:Sqn h l xs) (k:∀o,h.get? l=U o->h'.get? l=U o):Sqn h' l xs:=by obtain⟨o,n,h1,h2⟩:=z;exact#[o,n,k o h1,h2]
def Izr.at {b:aR} {i:ar} (z:Izr b h i l n) (k:∀o,h.get? i=U o->h'.get? i=U o):Izr b h' i l n:=by obtain⟨o,h1,h2⟩:=z;exact#[o,k o h1,h2]
noncomputable def nxB (b:aR):Builtin:=if b then Builtin.«list_iterator.__next__» else Builtin.«tuple_iterator.__next__»
def E1 {b:aR} {i:ar} (hi:Izr b s.heap i l n)
  (h:aM (aL P w) A.in1 (nxB b #[[.ref i],[]]) (λfin s'=>∃v,fin=.done (.ret v)/\Q v s') E s):aM (aL P w) A (Nn (.ref i)) Q E s:=by
 obtain⟨o,ho,hc,hd⟩:=hi;cases b with
 |true=>exact qA (C5 #[o,ho,hc] ZG (C6 ZG #[o,ho,hc] entry_listiter_next (fj h (λfin s' ⟨v,e,q⟩=>#[v,e,qE q]) λ_ _ e=>e) (args_listiter_next _)))
 |false=>exact qA (C5 #[o,ho,hc] ZH (C6 ZH #[o,ho,hc] F.entry_tuple_iterator_next (fj h (λfin s' ⟨v,e,q⟩=>#[v,e,qE q]) λ_ _ e=>e) (F.args_tuple_iterator_next_1 _)))
def TM {b:aR} {i:ar} {xs:Z au} {x:au} (hi:Izr b s.heap i l n) (hl:Sqn s.heap l xs) (hx:xs[n]?=U x)
  (q:∀h',Izr b h' i l (n+1)->iY i s.heap h'->Q x {s with heap:=h'}):aM (aL P w) A (Nn (.ref i)) Q E s:=by
 refine E1 hi ?_;obtain⟨o,ho,hc,hd⟩:=hi;obtain⟨u,m,hu,hv⟩:=hl;have fin:aM (aL P w) A.in1 (do setField (.ref i) 1 (rA ((n:aj)+1));ret x) (λfin s'=>∃v,fin=.done (.ret v)/\Q v s') E s:=qA (ZI ho hd (by simp) (qE #[x,rfl,q _ #[_,Mz _ ho (Obj.isFreed_of_fields (ZJ hd _)),(Obj.cls_mapFields ..).trans hc,by rw[ZJ hd];simp[rA]] (Dt ..)]))
 cases b
 all_goals
  show aM _ _ (field (.ref i) 0 >>= _) _ _ s;refine qA (ki ho hd () ?_);refine qA (ki ho hd () ?_);refine qA (mU hu hv ?_);simp only[Mr,ZK,hx];exact fin
def U9 {b:aR} {i:ar} {xs:Z au} (hh:A.handled=B) (hi:Izr b s.heap i l n) (hl:Sqn s.heap l xs) (hx:xs[n]?=B)
  (q:∀h' e,Heap.ExtBut i s.heap h'->(∃o,h'.get? e=U o/\o.cls=.type "StopIteration")->E (.ref e) {s with heap:=h'}):aM (aL P w) A (Nn (.ref i)) Q E s:=by
 refine E1 hi ?_;obtain⟨o,ho,hc,hd⟩:=hi;obtain⟨u,m,hu,hv⟩:=hl;cases b
 all_goals
  show aM _ _ (field (.ref i) 0 >>= _) _ _ s;refine qA (ki ho hd () ?_);refine qA (ki ho hd () ?_);refine qA (mU hu hv ?_);simp only[Mr,ZK,hx];refine qA (Na (qA (ZI ho hd (by simp) ?_)));refine qA ?_;simp only[newExc,newTuple];refine qA (rG ?_ (by size_fits));refine qA (Dw (by first|rfl|(simp only[firstArgMember];rfl)) ?_);refine rG ?_ (by size_fits);simp only[raiseNew];refine qA (wpAny_handled ?_);rw[show A.in1.handled=B from hh];refine qA (qE (wpAny_throw ?_));exact q _ _ (((Dt ..).extBut.push _).push _) #[_,qJ _ rfl,rfl]
variable {ti to:ar}
section
variable {b:aR} {z i j k:ar} {xs ys:Z au}
def ZKp (z to i j:ar) (h h':Heap):Prop:=∀c o,c≠z->c≠to->c≠i->c≠j->h.get? c=U o->h'.get? c=U o
end
abbrev Iza (h:Heap) (i:ar) (x:af) (t:Tok) (n:J):Prop:=h.IsStrIter i "str_ascii_iterator" x t n
def u3 {i:ar} {t:Tok} (z:Iza h i x t n) (k:∀o,h.get? i=U o->h'.get? i=U o):Iza h' i x t n:=by obtain⟨o,ho,r⟩:=z;exact#[o,k o ho,r]
section
variable {t:Tok} {z i j:ar} {ys:Z au}
structure Zsa (x:af) (t:Tok) (z ti to i j l:ar) (n:J) (h:Heap):Prop where
 z:mW h z ti to .none
 ti:jB h ti (.ref i) (.ref j)
 to:∃u v,jB h to u v
 i:Iza h i x t n
 j:Izr ah h j l n
def Zsa.at {h h':Heap} (q:Zsa x t z ti to i j l n h) (kp:∀c∈[z,ti,to,i,j],∀o,h.get? c=U o->h'.get? c=U o):Zsa x t z ti to i j l n h':=by obtain⟨u,v,h3⟩:=q.to;exact#[kp z (by simp) _ q.z,kp ti (by simp) _ q.ti,#[u,v,kp to (by simp) _ h3],u3 q.i λo e=>kp i (by simp) o e,q.j.at λo e=>kp j (by simp) o e]
def UM (hh:A.handled=B) (D:No z ti to i j l l) (q:Zsa x t z ti to i j l n s.heap) (hy:Sqn s.heap l ys)
  (gi:∀c u y h' tk,x.cps[n]?=U c->ys[n]?=U y->mW h' z ti to (rA s.heap.objs.size)->jB h' to (.str ⟨#[c]⟩ u) y->Iza h' i x t (n+1)->Izr ah h' j l (n+1)->jB h' s.heap.objs.size (.str ⟨#[c]⟩ u) y->ZKp z to i j s.heap h'->Q (.ref s.heap.objs.size) {s with heap:=h',toks:=tk})
  (ge:∀h' e tk,(x.cps[n]?=B\/ys[n]?=B)->ZKp z to i j s.heap h'->(∃o,h'.get? e=U o/\o.cls=.type "StopIteration")->E (.ref e) {s with heap:=h',toks:=tk}) :
  aM (aL P w) A (Builtin.«zip.__next__» ⟨[.ref z],[]⟩) (λfin s'=>∃v,fin=.done (.ret v)/\Q v s') E s:=by
 obtain⟨qz,qt,⟨u,v,qo⟩,qi,qj⟩:=q;show aM _ _ (field (.ref z) 2 >>= _) _ _ _;refine qA (ki qz () () ?_);refine qA (ki qz () () (qA (mU qt () ?_)));refine qA ?_;refine qA (ki qz () () (qE ?_));rw[qZ (by rfl)];refine qA (Na (qA (ki qz () () (qA (Dz qz (by simp) λh1 z1 s1=>?_)))))
 replace z1:mW h1 z ti to .ellipsis:=z1
 have e1:=s1.extBut;have i1:Iza h1 i x t n:=u3 qi λo e=>e1 _ _ D.i1z e;have o1:jB h1 to u v:=e1 _ _ D.TOz qo;have stop:∀(h2:Heap) (e:ar) (tk:J),mW h2 z ti to .ellipsis->(x.cps[n]?=B\/ys[n]?=B)->ZKp z to i j s.heap h2->(∃o,h2.get? e=U o/\o.cls=.type "StopIteration")->
   aM (aL P w) A (setField (.ref z) 0 .none) (λ_ s'=>E (.ref e) s') E {s with heap:=h2,toks:=tk}:=λh2 e tk z2 no kp #[o,ho,hc]=>by
  have ne:e≠z:=λy=>by subst y;rw[z2] at ho;cases ho;simp at hc
  exact Dz z2 (by simp) λh3 _ s3=>ge h3 e tk no (λc o' c1 c2 c3 c4 y=>s3.extBut _ _ c1 (kp c o' c1 c2 c3 c4 y)) #[o,s3.extBut _ _ ne ho,hc]
 refine qA ?_;simp only[List.zipIdx_cons,List.zipIdx_nil,YV,List.forIn_nil];refine qA (qA (wpAny_onRaise ?_));cases cx:x.cps[n]? with
 |none=>
  exact qA (wpAny_nextOf_ascii_end hh i1 cx λh2 e s2 he=>stop h2 e s.toks (s2 _ _ D.i1z.symm z1) (.inl cx) (λd o c1 _ c3 _ y=>s2 _ _ c3 (e1 _ _ c1 y)) he)
 |some c=>
  refine qA (wpAny_nextOf_ascii_item i1 cx λh2 i2 s2=>qE ?_);have e2:=s2.extBut;have o2:jB h2 to u v:=e2 _ _ D.TOi1 o1;refine qA (mU o2 () (qA (ZL o2 λh3 o3 s3=>?_)))
  replace o3:jB h3 to (.str ⟨#[c]⟩ s.toks) v:=o3
  have e3:=s3.extBut;refine qA (wpAny_letGo (qE (qA (qA (wpAny_onRaise ?_)))));have j3:Izr ah h3 j l n:=qj.at λo e=>e3 _ _ D.TOi2.symm (e2 _ _ D.i12.symm (e1 _ _ D.i2z e));have y3:Sqn h3 l ys:=hy.at λo e=>e3 _ _ D.l2TO (e2 _ _ D.l2i1 (e1 _ _ D.l2z e));have z3:mW h3 z ti to .ellipsis:=e3 _ _ D.TOz.symm (e2 _ _ D.i1z.symm z1);have k3:ZKp z to i j s.heap h3:=λd o c1 c2 c3 c4 y=>e3 _ _ c2 (e2 _ _ c3 (e1 _ _ c1 y));cases cy:ys[n]? with
  |none=>exact qA (U9 hh j3 y3 cy λh4 e s4 he=>stop h4 e (s.toks+1) (s4 _ _ D.i2z.symm z3) (.inr cy) (λd o c1 c2 c3 c4 y=>s4 _ _ c4 (k3 d o c1 c2 c3 c4 y)) he)
  |some y=>
   refine qA (TM j3 y3 cy λh4 j4 s4=>qE ?_);have e4:=s4.extBut;have o4:jB h4 to (.str ⟨#[c]⟩ s.toks) v:=e4 _ _ D.TOi2 o3;refine qA (mU o4 () (qA (ZL o4 λh5 o5 s5=>?_)))
   replace o5:jB h5 to (.str ⟨#[c]⟩ s.toks) y:=o5
   have e5:=s5.extBut;refine qA (wpAny_letGo (qE (qE (qA (mU o5 () (qA (wpAny_newTuple ?_)))))));have sz:h5.objs.size=s.heap.objs.size:=by rw[s5.1,s4.1,s3.1,s2.1,s1.1]
   have z5:mW h5 z ti to .ellipsis:=e5 _ _ D.TOz.symm (e4 _ _ D.i2z.symm z3);have lz:h5.objs.size≠z:=xF (qw z5);refine qA ?_;have z6:mW (h5.push {cls:=.type "tuple",data:=.seq [.str ⟨#[c]⟩ s.toks,y].toArray}) z ti to .ellipsis:=qv _ z5;refine qA (Dz z6 (by simp) λh7 z7 s7=>Dz z7 (by simp) λh8 z8 s8=>qE #[_,rfl,?_]);have up:∀c o,c≠z->h5.get? c=U o->h8.get? c=U o:=λc o c1 e=>s8.extBut _ _ c1 (s7.extBut _ _ c1 (qv _ e));have p8:jB h8 h5.objs.size (.str ⟨#[c]⟩ s.toks) y:=s8.extBut _ _ lz (s7.extBut _ _ lz (qJ _ ()))
   replace z8:mW h8 z ti to (rA h5.objs.size):=z8
   rw[sz] at z8 p8 ⊢;exact gi c s.toks y h8 (s.toks+1) cx cy z8 (up _ _ D.TOz o5) (u3 i2 λo e=>up _ _ D.i1z (e5 _ _ D.TOi1.symm (e4 _ _ D.i12 (e3 _ _ D.TOi1.symm e)))) (j4.at λo e=>up _ _ D.i2z (e5 _ _ D.TOi2.symm e)) p8
    λc o c1 c2 c3 c4 e=>up c o c1 (e5 _ _ c2 (e4 _ _ c4 (k3 c o c1 c2 c3 c4 e)))
def LN {Q:ak au->aF->Prop} (hh:A.handled=B) (D:No z ti to i j l l) (q:Zsa x t z ti to i j l n s.heap) (hy:Sqn s.heap l ys)
  (gi:∀c u y h' tk,x.cps[n]?=U c->ys[n]?=U y->mW h' z ti to (rA s.heap.objs.size)->jB h' to (.str ⟨#[c]⟩ u) y->Iza h' i x t (n+1)->Izr ah h' j l (n+1)->jB h' s.heap.objs.size (.str ⟨#[c]⟩ u) y->ZKp z to i j s.heap h'->Q (U (.ref s.heap.objs.size)) {s with heap:=h',toks:=tk})
  (ge:∀h' tk,(x.cps[n]?=B\/ys[n]?=B)->ZKp z to i j s.heap h'->Q B {s with heap:=h',toks:=tk}):aM (aL P w) A (CJ (.ref z)) Q E s:=by
 have hT:s.TypeIs (.ref z) "zip":=#[_,q.z,()];refine qA (x6 (C5 hT ZM (C6 ZM hT F.entry_zip_next (UM hh D q hy
  (λc u y h' tk a1 a2 a3 a4 a5 a6 a7 a8=>qE (gi c u y h' tk a1 a2 a3 a4 a5 a6 a7 a8)) (λh' e tk no kp he=>?_)) (F.args_zip_next_1 _))))
 obtain⟨o,ho,hc⟩:=he;exact qA (M' #[o,ho,hc] isSubtype_stop (qE (ge _ tk no kp)))
end
noncomputable abbrev ya1 (h:Heap) (x:af) (t:Tok):Heap:=h.push {cls:=.type "str_ascii_iterator",data:=.fields [.str x t,.int 0 0].toArray}
abbrev ya2 (h:Heap) (x:af) (t:Tok) (l:ar):Heap:=(ya1 h x t).push {cls:=.type "list_iterator",data:=.fields [.ref l,.int 0 0].toArray}
abbrev ya4 (h:Heap) (x:af) (t:Tok) (l:ar):Heap:=((ya2 h x t l).push {cls:=.type "tuple",data:=.seq [.ref h.objs.size,.ref (ya1 h x t).objs.size].toArray}).push {cls:=.type "tuple",data:=.seq [.none,.none].toArray}
abbrev ya5 (h:Heap) (x:af) (t:Tok) (l:ar):Heap:=(ya4 h x t l).push {cls:=.type "zip",data:=.fields [.none,.bool ao,.bool ao,.ref (ya2 h x t l).objs.size,.ref ((ya2 h x t l).push {cls:=.type "tuple",data:=.seq [.ref h.objs.size,.ref (ya1 h x t).objs.size].toArray}).objs.size].toArray}
set_option maxHeartbeats 4000000 in
def SA (x:af) (t:Tok) (l:ar) (ys:Z au) (hx:x.cps.all (· < 128)=ah):Meets (Builtin.«zip.__new__» #[[.type "zip",.str x t,.ref l],[]]) (λ_ R s=>s.heap.IsList l ys.toArray /\
  R (.ok (.ret (.ref (ya4 s.heap x t l).objs.size))) {s with heap:=ya5 s.heap x t l}):=.of_wp λprog w A R s h=>by
 obtain⟨hp,g,d,tk,os⟩:=s;obtain⟨q2,h⟩:=h;have hsub:=sub_zip;have l2:Heap.IsList (Shared.heap #[hp.push {cls:=.type "str_ascii_iterator",data:=.fields [.str x t,.int 0 0].toArray},g,d,tk,os]) l ys.toArray:=xaW q2 _
 wp_walk using YY hx,xS l2
 exact#[_,(),h]
section
variable {t:Tok} {ys:Z au}
def SS (q1:x.cps.all (· < 128)=ah) (q2:s.heap.IsList l ys.toArray)
  (h:∀h',Zsa x t (s.heap.objs.size+4) (s.heap.objs.size+2) (s.heap.objs.size+3) s.heap.objs.size (s.heap.objs.size+1) l 0 h'->(∀c o,s.heap.get? c=U o->h'.get? c=U o)->Q (.ref (s.heap.objs.size+4)) {s with heap:=h'}) :
  aM (aL P w) A (call (.type "zip") [.str x t,.ref l]) Q E s:=by
 refine callType_new F.called_zip .(a) (F.typeCall_zip_2 _ _) (F.newCall_zip_2 _ _) (λobj=>F.args_object_init_3 obj _ _) F.entry_zip_new (SA x t l ys q1) #[q2,?_];have up:∀{h:Heap} {o:bo} {c:ar} {u:bo},h.get? c=U u->(h.push o).get? c=U u:=λe=>qv _ e;have g5:(ya5 s.heap x t l).get? (ya4 s.heap x t l).objs.size=U _:=qJ _ ();have g4:(ya5 s.heap x t l).get? _=U _:=up (qJ _ ());have g3:(ya5 s.heap x t l).get? _=U _:=up (up (qJ _ ()));have g2:(ya5 s.heap x t l).get? _=U _:=up (up (up (qJ _ ())));have g1:(ya5 s.heap x t l).get? s.heap.objs.size=U _:=up (up (up (up (qJ _ ()))));refine#[#[_,g5,()],?_];have z4:(ya4 s.heap x t l).objs.size=s.heap.objs.size+4:=by simp only[i7]
 rw[z4];refine h _ #[?_,?_,#[.none,.none,?_],#[_,g1,(),()],?_] λc o x=>up (up (up (up (up x))))
 .simpa only[i7] using g5
 .simpa only[i7] using g3
 .simpa only[i7] using g4
 .exact#[_,by simpa only[i7] using g2,rfl,rfl]
end
def ym (K:aJ) (x:af) (l:ar):It:=
 #[λi H=>∃ys c y,SqL K H l ys/\x.cps[i]?=U c/\ys[i]?=U y,λi H v H'=>∃T c y,v=.ref T/\H T=B/\H'=upd H T (.tup [.str ⟨#[c]⟩,y])/\x.cps[i]?=U c/\∀ys,SqL K H l ys->ys[i]?=U y,
  λi H=>∃ys,SqL K H l ys/\(x.cps.size<=i\/ys.length<=i)]
variable {elts:Z Expr}
def QH {k1:J} {z i j:ar} {t:Tok} (D:No z ti to i j l l) :
  Turn P w K (.Tuple elts k1 pos) (ym K x l) [z,ti,to,i,j] z (λn h=>Zsa x t z ti to i j l n h) where
 mem:=by simp
 obj:=λn h q c hc=>by
  obtain⟨hz,hi,⟨u,v,ho⟩,⟨o1,g1,_,d1⟩,⟨o2,g2,_,d2⟩⟩:=q;simp only[qO,qM,or_false] at hc;rcases hc with rfl|rfl|rfl|rfl|rfl
  .exact#[_,hz,λv z=>by cases z]
  .exact#[_,hi,λv z=>by cases z]
  .exact#[_,ho,λv z=>by cases z]
  .exact#[o1,g1,λv z=>by rw[d1] at z;cases z]
  .exact#[o2,g2,λv z=>by rw[d2] at z;cases z]
 keep:=λn h h' q k=>q.at k
 item:=by
  intro X hP hw hK hc n XL s L H E I hf st hg;subst hP hw hK;obtain⟨ys,c0,y,hr,hx,hy⟩:=hg;obtain⟨jts,rw',p',_⟩:=I.list hr;obtain⟨u',hu',ru'⟩:=rw'.get hy;have sq:Sqn s.heap l jts:=by obtain⟨o,h1,_,n,h2⟩:=p'.isList;exact#[o,n,h1,h2]
  have lt:∀c∈[z,ti,to,i,j],c<s.heap.objs.size:=λc hc=>by
   obtain⟨hz,hi,⟨_,_,ho⟩,⟨_,q1,_⟩,⟨_,q2,_⟩⟩:=st;simp only[qO,qM,or_false] at hc;rcases hc with rfl|rfl|rfl|rfl|rfl
   .exact qw hz
   .exact qw hi
   .exact qw ho
   .exact qw q1
   .exact qw q2
  refine LN (I.ok.hd hc) D st sq (λca ua a' h' tk e1 e2 hz' hTO' h1' h2' hT hk=>?_) λh' tk no _=>?_
  rotate_left
  .rcases no with no|no
   .rw[hx] at no;cases no
   .rw[hu'] at no;cases no
  rw[hx] at e1;rw[hu'] at e2;cases e1;cases e2;refine#[_,(),wpAny_letOwnedTupleGo_zip hz' λh3 hz3 hs3=>?_];have hs3':iY z h' h3:=hs3;have kk:∀c o,c∉[z,ti,to,i,j]->s.heap.get? c=U o->h3.get? c=U o:=λc o hc q=>by simp only[qO,qM,or_false,oF] at hc;exact(hs3'.2 c hc.1).trans (hk c o hc.1 hc.2.2.1 hc.2.2.2.1 hc.2.2.2.2 q)
  have hTz:s.heap.objs.size≠z:=xF (lt z (by simp));have hT2:h3.get? s.heap.objs.size=U {cls:=.type "tuple",data:=.seq [.str ⟨#[c0]⟩ ua,u'].toArray}:=(hs3'.2 _ hTz).trans hT;have nH:H s.heap.objs.size=B:=I.fresh;have ne:∀c o,H c=U o->c∉[z,ti,to,i,j]:=λc o q hc=>by rw[(hf c hc).1] at q;cases q
  have I1:Inv X XL L (upd H s.heap.objs.size (.tup [.str ⟨#[c0]⟩,y])) {s with heap:=h3}:=by
   refine I.step (λc hc=>?_) (λc o _ _ hc q _=>kk c o hc q) (λc o _ _ hc q _=>#[o.slots,kk c o hc q]) (λc o _ q n=>?_)
    (λc o hc q=>#[o,kk c o hc q]) (λc ws q=>?_) (λc o ws q=>?_) (λc ps q=>#[#[],?_]) (λm hm=>?_) (λc v q=>?_) I.bare
   .obtain⟨_,e1,_,e3,e4,e5⟩:=hf c hc;exact#[e3,e1,e4,e5]
   .rw[aW (qG (qw q))];exact n
   .rw[aW (ce q nH)];exact q
   .rw[aW (ce q nH)];exact q
   .rw[aW (ce q nH),q];simp
   .obtain⟨o,es,ep,q,r⟩:=hm;refine#[o,es,ep,kk _ o (λhc=>?_) q,r];exact(hf _ hc).2.1 ()
   .by_cases hb:c=s.heap.objs.size
    .subst hb;rw[bK] at q;cases q;exact#[by show 2<=aH;decide,[.str ⟨#[c0]⟩ ua,u'],.cons #[ua,()] (.cons ru' .nil),#[_,hT2,(),_,()]]
    .rw[aW hb] at q;refine(I.hok c v q).stay (λc' v' hc r=>?_) (λc r=>by rw[aW (ce r nH)];exact r) λc ys r=>by rw[aW (ce r nH)];exact r
     rcases hc with e|e
     .rw[e] at r ⊢;exact kk c v' (ne c _ q) r
     .exact kk c' v' (ne c' _ e) r
  refine#[.ref s.heap.objs.size,_,I1.tok tk,(),#[_,c0,y,(),nH,(),hx,λws hw=>by rw[I.list_inj hw hr];exact hy],
   #[hz3,(hs3'.2 ti D.TIz).trans (hk ti _ D.TIz D.TITO D.TIi1 D.TIi2 st.ti),#[_,u',(hs3'.2 to D.TOz).trans hTO'],u3 h1' λo q=>(hs3'.2 i D.i1z).trans q,h2'.at λo q=>(hs3'.2 j D.i2z).trans q],λc hc=>?_]
  rw[aW (qG (lt c hc))];exact(hf c hc).1
 done:=by
  intro X hP hw hK hc n XL s L H E I hf st hg;subst hP hw hK;obtain⟨ys,hr,he⟩:=hg;obtain⟨jts,rw',p',_⟩:=I.list hr;have sq:Sqn s.heap l jts:=by obtain⟨o,h1,_,n,h2⟩:=p'.isList;exact#[o,n,h1,h2]
  have l2:=rw'.length;refine LN (I.ok.hd hc) D st sq (λca ua a' h' tk e1 e2 _ _ _ _ _ _=>?_) λh' tk _ hk=>#[(),?_]
  .have y1:=(ig.mp e1).1;have y2:=(gv.mp e2).1;exact ba he .(b)
  have ne:∀c o,H c=U o->c∉[z,ti,to,i,j]:=λc o q hc=>by rw[(hf c hc).1] at q;cases q
  have kk:∀c o,c∉[z,ti,to,i,j]->s.heap.get? c=U o->h'.get? c=U o:=λc o hc q=>by simp only[qO,qM,or_false,oF] at hc;exact hk c o hc.1 hc.2.2.1 hc.2.2.2.1 hc.2.2.2.2 q
  refine Inv.tok (s:={s with heap:=h'}) ?_ tk;refine I.step (d':=s.drawn) (ch:=[z,ti,to,i,j]) (λc hc=>?_) (λc o _ _ hc q _=>kk c o hc q) (λc o _ _ hc q _=>#[o.slots,kk c o hc q]) (λ_ _ _ _ n=>n)
   (λc o hc q=>#[o,kk c o hc q]) (λ_ _ e=>e) (λ_ _ _ e=>e) (λc ps e=>#[#[],by rw[e];simp]) (λm hm=>?_) (λc v q=>?_) I.bare
  .obtain⟨_,e1,_,e3,e4,e5⟩:=hf c hc;exact#[e3,e1,e4,e5]
  .obtain⟨o,es,ep,q,r⟩:=hm;exact#[o,es,ep,kk _ o (λhc=>(hf _ hc).2.1 ()) q,r]
  .refine(I.hok c v q).stay (λc' v' hc r=>?_) (λ_ r=>r) λ_ _ r=>r;rcases hc with e|e
   .rw[e] at r ⊢;exact kk c v' (ne c _ q) r
   .exact kk c' v' (ne c' _ e) r
 self:=λA i s Q E st h=>ZN st.1 h
def Vm (K:aJ) (ta:TA):TI:=λL H R=>ta L H λvs H1=>∃x l,vs=[.str x,.ref l]/\x.cps.all (· < 128)=ah/\(∃ys,SqL K H1 l ys)/\R (ym K x l) H1
def Ss {a:Expr} {ta:TA} {p:bV} {k1:J} (hg:Gl X "zip") (hm:X.mg "zip"=B) (ha:PA X [a,b] ta) (hs:aK [a,b] X.env=(ao,eval a X.env)::aK [b] X.env:=by rfl) (hpl:(bX pos (aK [b] X.env)).any (·.1)=ao:=by rfl) :
  PI X (.Tuple elts k1 tpos) (.Call (.Name "zip" p) [a,b] [] pos) (Vm X.K ta):=by
 intro XL s L H R I h;refine Call_ (pX I hg hm xaX (CK (thA (ha pos XL s L H _ I h) λus s1 vs H1 I1 r1 q1=>?_) hs hpl));obtain⟨x,m,e,hx,⟨ys,hr⟩,q⟩:=q1;subst e;cases r1 with
 |cons r2 r3=>
 obtain⟨u,rfl,r4⟩:=fR r3;obtain⟨t,rfl⟩:=r2;cases r4;obtain⟨jts,rw',pm,_⟩:=I1.list hr;have lm:m<s1.heap.objs.size:=by obtain⟨o,h1,_⟩:=pm.isList;exact qw h1
 have nA:∀{x y:J},x≠y->@Ne ar x y:=λh=>h;have lm':@LT.lt J _ m s1.heap.objs.size:=lm;refine SS hx pm.isList λh' hz hk=>?_;have I2:Inv X XL L H1 {s1 with heap:=h'}:=I1.kept hk;refine ZN hz.z ?_;refine#[s1.heap.objs.size+4,[s1.heap.objs.size+4,s1.heap.objs.size+2,s1.heap.objs.size+3,s1.heap.objs.size,s1.heap.objs.size+1],_,_,H1,(),I2,QH #[nA .(b),nA .(b),nA .(b),nA .(b),nA .(b),nA .(b),nA .(b),nA .(b),nA .(b),nA .(b),nA .(b),nA .(b),nA .(b),nA .(b),nA .(b),nA .(b),nA .(b),nA .(b)],hz,λc hc=>?_,q];have le:s1.heap.objs.size<=c:=by
  simp only[qO,qM,or_false] at hc;rcases hc with rfl|rfl|rfl|rfl|rfl
  .exact iB _ _
  .exact iB _ _
  .exact iB _ _
  .exact qx _
  .exact iB _ _
 exact I1.fpOk le (I1.hok.fresh le)
section
variable {a:Expr} {g:FE} {p:bV}
def SQ {b:ar} {us:Z V} {es:Z D} (h':SqL K G b us) (r':Reps O K G us es):Yd O K (ym K x b) G (((x.cps.toList.map fun c=>D.str ⟨#[c]⟩).zip es).map λz=>D.tup [z.1,z.2]):=by
 refine#[λi d G2 H2 hd g1 g2=>?_,λG2 H2 g1 g2=>#[us,g2.seq (g1.seq h'),?_]]
 .rw[ql] at hd;obtain⟨⟨d1,d2⟩,hz,rfl⟩:=oMd hd;obtain⟨hd1,hd2⟩:=Y3.mp hz;rw[ql] at hd1;obtain⟨c,hc,e1⟩:=oMd hd1;have e1:D.str ⟨#[c]⟩=d1:=e1;subst e1;have hc':x.cps[i]?=U c:=by rw[<-qL];exact hc
  obtain⟨u,hu,ru⟩:=r'.get hd2;refine#[#[us,c,u,g2.seq (g1.seq h'),hc',hu],λv H3 ζ=>?_];obtain⟨T,c2,y',e0,hT,e1,e2,e3⟩:=ζ;subst e0;rw[hc'] at e2;cases e2;have q2:=e3 us (g2.seq (g1.seq h'));rw[hu] at q2;cases q2;subst e1;have s:=Step.new (o:=.tup [.str ⟨#[c]⟩,u]) g2 hT;exact#[_,s,.tup bK (.cons (.str _) (.cons ((ru.mono g1).mono s.gg) .nil))]
 .rw[qe,Np,qe,r'.length,hG];rcases Nq x.cps.size es.length with z|z
  .exact .inl (by rw[uG z];exact qx _)
  .exact .inr (by rw[DC z];exact qx _)
noncomputable def AZ (x y:D):ak (Z D):=match x,y with
 |.str x,.lst m=>if x.cps.all (· < 128)=ah then U (((x.cps.toList.map fun c=>D.str ⟨#[c]⟩).zip m).map λz=>D.tup [z.1,z.2]) else B
 |_,_=>B
def yu (f g:FE):FA:=λY=>(f Y).bind λx=>(g Y).bind λy=>AZ x y
def Ye {k1:J} (hg:Gl X "zip") (hm:X.mg "zip"=B) (h:DE O X a f) (h':DE O X b g) (hs:aK [a,b] X.env=(ao,eval a X.env)::aK [b] X.env:=by rfl) (hs1:aK ([b]:Z Expr) X.env=(ao,eval b X.env)::aK [] X.env:=by rfl) (hpl:(bX pos (aK [b] X.env)).any (·.1)=ao:=by rfl) :
  DI O X (.Tuple elts k1 tpos) (.Call (.Name "zip" p) [a,b] [] pos) (yu f g):=⟨(Ss hg hm (dB h.1 (dB h'.1 gc hs1) hs) hs hpl).imp λL H R=>by
 rintro⟨Tm,Ty,G,Y,ds,A,h,k⟩;obtain⟨x,hx,h⟩:=oBd h;obtain⟨y,hy,h⟩:=oBd h;refine#[Tm,Ty,G,Y,x,A,hx,λv G1 H1 s1 r1=>#[Tm,Ty,G1,Y,y,A.step s1,hy,λu G2 H2 s2 r2=>?_]];unfold AZ at h;split at h
 .split at h
  .rename_i hz;cases h;cases r1.str_inv;obtain⟨b,us,rfl,hb,ru⟩:=r2.lst_inv;exact#[_,b,(),hz,#[us,.inl (.inl (s2.gh _ _ hb))],k _ G2 H2 (s1.trans s2) (SQ (.inl (.inl hb)) ru)]
  .cases h
 .cases h⟩
end
namespace Law
def sS (Fr:Z D->ak (ak D)) (Fs:FQ):FQ:=λds=>match ds with
 |[t,.bl b]=>(Fr [t]).bind λo=>match o with
  |none=>U (.bl (!b))
  |some d=>if b=ah then (Fs [d]).bind λx=>match x,t with
    |.str a,.str c=>U (.bl (decide (a=c)))
    |_,_=>B
   else U (.bl ao)
 |_=>B
end Law
section
variable {ks:Z af}
structure DPs (O:Cn) (X:Cx) (pos:bV) (keys:Z (ak Expr)) (values:Z Expr) (ks:Z af) (fr:FA):Prop where
 ex:∃trs,PPs X pos keys values trs/\∀L H Q,(∃Tm Ty G Y ds,At O X.K Tm Ty G H Y L/\fr Y=U ds/\∀vs G' H',Step G H G' H'->Reps O X.K G' vs ds->Q ((ks.map V.str).zip vs) H')->wG trs L H Q
 len:∀Y ds,fr Y=U ds->ds.length=ks.length
def vS:DPs O X pos [] [] [] ay:=#[#[[],J9,λL H Q ζ=>by obtain⟨Tm,Ty,G,Y,ds,A,h,k⟩:=ζ;cases h;exact k [] G H (.refl A.gh) .nil],λY ds h=>by cases h;rfl]
def gk {j kp} (h:DE O X e f) (r:DPs O X pos keys values ks fr):DPs O X pos (U (.Constant (.str x) j kp)::keys) (e::values) (x::ks) (av f fr):=by
 obtain⟨trs,h1,h2⟩:=r.ex;refine#[#[_,GZ J5 h.1 h1,λL H Q ζ=>?_],λY ds h=>?_]
 .obtain⟨Tm,Ty,G,Y,ds,A,h,k⟩:=ζ;unfold av at h;obtain⟨d,hd,h⟩:=oBd h;obtain⟨r,hr,rfl⟩:=oMd h;exact#[Tm,Ty,G,Y,d,A,hd,λv G1 H1 s1 r1=>h2 _ _ _ #[Tm,Ty,G1,Y,r,A.step s1,hr,λvs G' H' s2 r2=>k (v::vs) G' H' (s1.trans s2) (.cons (r1.mono s2.gg) r2)]]
 .unfold av at h;obtain⟨d,hd,h⟩:=oBd h;obtain⟨l,hr,rfl⟩:=oMd h;simp[r.len Y l hr]
noncomputable def gJ (ks:Z af) (ds:Z α):Z (Key×α):=(ks.map cC).zip ds
theorem EQ:∀(more acc:Z (Key×V)),(more.map (·.1)).Nodup->(∀k∈more.map (·.1),k∉acc.map (·.1))->iL acc more=acc++more
 |[],acc,_,_=>by simp[iL]
 |(k,v)::r,acc,nd,ap=>by
  have h0:dy acc k v=acc++[(k,v)]:=by unfold dy;rw[xa];intro h;obtain⟨kv,h1,h2⟩:=List.any_eq_true.mp h;exact ap k (by simp) (dH.mpr #[kv,h1,km h2])
  have ih:=EQ r (acc++[(k,v)]) (om.mp nd).2 (λk' hk' hm=>?_)
  .show iL (dy acc k v) r=_;rw[h0,ih,qy];rfl
  .rw[gA] at hm;rcases fW.mp hm with hm|hm
   .exact ap k' (by simp[hk']) hm
   .have:k'=k:=by simpa using hm
    exact(om.mp nd).1 (this▸hk')
def t8 (ks:Z af) (fr:FA):FE:=λY=>(fr Y).map λds=>.dk (gJ ks ds)
theorem xp {α β:Type}:∀{l:Z α} {m:Z β},l.length=m.length->(l.zip m).map (·.1)=l
 |[],[],_=>rfl
 |[],_::_,h=>by simp at h
 |_::_,[],h=>by simp at h
 |x::l,y::m,h=>by simp[xp (by simpa using h)]
theorem zE {α β:Type}:∀{l:Z α} {m:Z β},l.length=m.length->(l.zip m).map (·.2)=m
 |[],[],_=>rfl
 |[],_::_,h=>by simp at h
 |_::_,[],h=>by simp at h
 |x::l,y::m,h=>by simp[zE (by simpa using h)]
theorem Ei:∀(ks:Z af) (vs:Z V),(ks.map V.str).zip vs=(gJ ks vs).map λkv=>(kV kv.1,kv.2)
 |[],_=>rfl
 |_::_,[]=>rfl
 |k::ks,v::vs=>by exact cQ (λz=>(V.str k,v)::z) (Ei ks vs)
def wP (h:DPs O X pos keys values ks fr) (nd:ks.Nodup) (h0:ks≠[]) (h15:ks.length<=15) (hall:keys.all (·.isSome)=ah:=by rfl) (hl:keys.length=values.length:=by rfl) (hk:keys.length=ks.length:=by rfl):DE O X (.Dict keys values pos) (t8 ks fr):=by
 obtain⟨trs,h1,h2⟩:=h.ex;refine⟨(HE h1 hall hl (λz=>by rw[z] at hk;exact h0 (YZ.mp hk.symm)) (by rw[hk];exact h15)).imp λL H Q=>?_⟩;rintro⟨Tm,Ty,G,Y,d,A,hd,k⟩ p hp;obtain⟨ds,hds,rfl⟩:=oMd hd;have s0:=Step.newOwn (o:=.dK []) A.gh hp;refine h2 _ _ _ #[Tm,Ty,G,Y,ds,A.step s0,hds,λvs G2 H2 s1 r1=>?_];have hp2:H2 p=U (.dK []):=s1.hh _ _ bK;have gp2:G2 p=B:=(s1.out _ _ bK).trans (A.gh.free hp);have s12:=s0.trans s1;have back:Step G H G2 (λb=>if b=p then B else H2 b):=by
  refine#[λb o e=>?_,s12.gg,λb o e=>?_,s12.out]
  .show(if b=p then B else H2 b)=U o;rw[xa (ce e hp)];exact s12.hh b o e
  .show(if b=p then B else H2 b)=U o;rw[xa (ce e gp2)];exact s12.gh b o e
 have hlen:(ks.map (cC:af->Key)).length=vs.length:=by rw[qe,r1.length,h.len Y ds hds]
 have hlen2:(ks.map (cC:af->Key)).length=ds.length:=by rw[qe,h.len Y ds hds]
 refine#[hp2,gJ ks vs,Ei ks vs,?_,?_]
 .unfold gJ;rw[Np];rw[qe];lia
 .have e1:iL [] (gJ ks vs)=gJ ks vs:=by have:=EQ (gJ ks vs) [] (by unfold gJ;rw[xp hlen];exact rY _ (λa b h z=>h (my z)) nd) (λ_ _ h=>by cases h);simpa using this
  rw[e1];have s3:=Step.new (o:=.dK (gJ ks vs)) back.gh (qZ ());have hf:upd (λb=>if b=p then B else H2 b) p (.dK (gJ ks vs))=upd H2 p (.dK (gJ ks vs)):=by
   funext b
   by_cases hb:b=p
   .subst hb;rw[bK,bK]
   .rw[aW hb,aW hb];exact xa hb
  rw[<-hf];refine k _ _ _ (back.trans s3) (.dk (us:=gJ ks vs) bK ?_ ?_)
  .unfold gJ;rw[xp hlen,xp hlen2]
  .unfold gJ;rw[zE hlen,zE hlen2];exact r1.mono s3.gg
end
section
variable {a c:Expr}
def Ai:FQ
 |[.str x]=>if x.length<=640 then (DD x).map D.int else B
 |_=>B
def Ph:fO X (.type "int") (λxs H Q=>∃(x:af) (n:aj),xs=[.str x]/\DD x=U n/\x.length<=640/\Q (.int n) H):=by intro XL s L H xs us Q I r h;obtain⟨x,n,rfl,hn,hl,q⟩:=h;obtain⟨u,rfl,t,rfl⟩:=fR r;exact xaY hn hl #[.int n,H,I.tok _,#[_,()],q]
def vw:TyD O X "int" Ai:=#[_,Ph,λ{G H vs ds z} gh r h Q k=>by
 unfold Ai at h;split at h
 .split at h
  .obtain⟨n,hn,rfl⟩:=oMd h;obtain⟨v,rfl,r1⟩:=r.one;cases r1.str_inv;exact#[_,n,(),hn,by assumption,k _ G H (.refl gh) (.int _)]
  .cases h
 .cases h]
def uX (x y:D):ak D:=(inT x y).map λb=>D.bl (!b)
def RH (hu:X.A.units+66<c5):OpR X (dP .NotIn) (λx y H Q=>∃G d e b,a9 G H/\Rep O X.K G x d/\Rep O X.K G y e/\inT d e=U b/\Q (.bl (!b)) H):=by
 intro XL s L H x y v u Q I rx ry h;obtain⟨G,d,e,b,gh,r1,r2,hb,q⟩:=h;obtain⟨p,hp,hb⟩:=oBd hb;obtain⟨t,ht,hb⟩:=oBd hb;split at hb
 .split at hb
  .rename_i l hz;cases hb;obtain⟨as,a1⟩:=r1.reads I gh rx hp;obtain⟨bs,a2⟩:=r2.reads I gh ry ht;obtain⟨c1,c2⟩:=BC hz.1;have:=C2 (lv l) p.depth;exact SeqAt.notIn_tuple_reads a2 a1 hz.2 c1 .(b) #[.bl _,H,I,(),q]
  .cases hb
 .cases hb
def OG (hu:X.A.units+66<c5):CmpD O X .NotIn uX:=#[_,RH hu,λ{G H v u x y z} gh r1 r2 h Q k=>by obtain⟨b,hb,rfl⟩:=oMd h;exact#[G,x,y,b,gh,r1,r2,hb,k _ G H (.refl gh) (.bl _)]]
def zL (l:Z α):∀is:Z J,(is.filterMap (l[·]?)).length<=is.length:=λis=>List.length_filterMap_le _ _
end
def N3 (us:Z au):us=(db us.length).map λi=>us.getD i .none:=by
 apply List.ext_getElem
 .simp
 .intro i h1 h2;simp[List.getD_eq_getElem?_getD,uL h1]
def bn {F:au->au->au->ak ar->au->au->oh} (h:∀a b c d e f (v:J->au),gM (F a b c d e f) #[(db ps.length).map v,[]]=pure (ps.zip ((db ps.length).map v))) (a b c:au) (d:ak ar) (e f:au) (us:Z au) (hl:us.length=ps.length) :
  gM (F a b c d e f) #[us,[]]=pure (ps.zip us):=by
 have:=h a b c d e f λi=>us.getD i .none;rw[<-hl,<-N3 us] at this;exact this
section
open PyProof
end
variable {CT CH CR' CP CY:ar}
namespace Law
abbrev kW (l:Z D):ak D:=(szD l).map .tup
noncomputable abbrev yD (l:Z D):ak D:=U (.lst l)
abbrev FQ':=ar->Z D->aj->ak (ak (D×aj))
abbrev FW':=ar->Z D->Fs->ak (ak (D×Fs))
noncomputable def top (i:J):Stmt:=xaZ.main.body.getD i (.Pass #[0,0,0,0])
noncomputable def Fa:Z af:=["benches","steps","jobs","setups","links","stocks","horizon","bench_by_name","step_by_name","setup_by_names","job_by_step"]
noncomputable def GQ:Z af:=["words","place","counted"]
noncomputable def Gam (C_Shop C_TreeWords:ar):Cn:=#[λc=>if c="Shop" then U C_Shop else if c="TreeWords" then U C_TreeWords else B,B]
structure RefTK (K:aJ) (mg:af->ak au) (CT CS CH CR' CP CG CM CY:ar):Prop where
 mT:mg "NoTree"=U (.ref CT)
 mS:mg "ShopError"=U (.ref CS)
 mH:mg "NoShop"=U (.ref CH)
 mR:mg "NoRow"=U (.ref CR')
 mP:mg "NoPlan"=U (.ref CP)
 mG:mg "Gone"=U (.ref CG)
 mM:mg "NoName"=U (.ref CM)
 mY:mg "NoSay"=U (.ref CY)
 exm:Nm K (.ref CT) (.ref CS)=U ah
 k0:oa K (.type "NoneType") (.ref CT)=U ao
 k2:oa K (.ref CT) (.type "ValueError")=U ah
 k3:Ni K (.ref CT) [.ref CH,.ref CR',.ref CP,.ref CG,.ref CM,.ref CY]=U ao
 exk:ExcK K CT
variable {CG CM:ar}
def UK (CT:ar):Sp:=λvs H Q _=>(∃a,vs=[.ref a]/\H a=U (.ext (e6 a (.ref CT)))/\∀q t,H q=B->Q (.bl ah) (upd H q (.tup t)))\/(vs=[.non]/\Q (.bl ao) H)
def RQ:FnScope ["_law_error"] ["_law_error"] (aD (top 88)):=bi
set_option maxHeartbeats 4000000 in
def QZ {f:ar} (h1:Fun K "_law_is_no_tree" "_law_is_no_tree" (top 88) f fd) (R:RefTK K mg CT CS CH CR' CP CG CM CY) (zi:mg "isinstance"=B) (zv:mg "ValueError"=B):FnOk P w K mg base CX0 1 f fd ["_law_error"] (UK CT):=by
 refine Fun.ok (k:=0) h1 RQ (λvs H Q E h=>?_) (fun cdv A outer s H vs Q E hr h=>?_)
 .rcases h with⟨a,rfl,_⟩|⟨rfl,_⟩<;>rfl
 .refine#[_,kG (sR (PW.pt (yw (xh (sT (pL AG () zi (by rfl) (dB (dM (i:=0) () (.inl ())) (dB (kN (v:=.ref CT) () R.mT ()) gc)))))
    (yv (xh (sT (pL AG () zi (by rfl) (dB (dM (i:=0) () (.inl ())) (dB (E8 (v:=.ty "ValueError") () zv (by rfl) ()) gc)))))))) (lF (nM GV)) ub)
   (lF (nM (Ia (pL AG () zi (by rfl) (dB (dM (i:=0) () (.inl ())) (dB (zB (dB (kN (v:=.ref CH) () R.mH ()) (dB (kN (v:=.ref CR') () R.mR ()) (dB (kN (v:=.ref CP) () R.mP ()) (dB (kN (v:=.ref CG) () R.mG ()) (dB (kN (v:=.ref CM) () R.mM ()) (dB (kN (v:=.ref CY) () R.mY ()) gc))))))) gc)))))),?_]
  rcases h with⟨a,rfl,hA,k⟩|⟨rfl,k⟩
  .have ty:TyX K H (.ref a) (.ref CT):=.exc hA R.exk;refine#[.ref a,(),.ref a,.ref CT,.ref CT,ah,(),ty,.one () (by unfold oa;rw[qZ (beq_self_eq_true _)]),ah,rfl,?_];refine#[.ref a,(),.ref a,.ref CT,.ty "ValueError",ah,(),ty,.one () R.k2,ah,(),?_];refine#[.ref a,(),by show 6<=aH;decide,λp hp=>?_];have ne:a≠p:=λz=>by subst z;rw[hA] at hp;cases hp
   refine#[.ref a,.ref CT,.ref p,ao,(),.exc (by rw[aW ne];exact hA) R.exk,.tup bK () R.k3,ao,(),?_];exact k p _ hp
  .refine#[.non,(),.non,.type "NoneType",.ref CT,ao,(),.non,.one () R.k0,ao,(),?_];exact k
def vE:FnScope ["_law_thing","_law_writes","_law_error","_law_found","e"] ["_law_thing","_law_writes"] (aD (top 99)):=bi
set_option maxHeartbeats 4000000 in
def We {Fr:Z D->ak (ak D)} {Fs:FQ} {kr ks k:J} (F:Dfn K mg "_law_right" (top 99)) (FN:Dfn K mg "_law_is_no_tree" (top 88)) (R:RefTK K mg CT CS CH CR' CP CG CM CY) (zi:mg "isinstance"=B) (zv:mg "ValueError"=B)
  (c:CalZ O P w K mg base CT "read_tree" 1 kr Fr) (cs:Cal O P w K mg base "show_tree" 1 ks Fs) (hkr:kr<=k) (hks:ks<=k) (hk1:1<=k):Cal O P w K mg base "_law_right" 2 (k+1) (sS Fr Fs):=by
 obtain⟨f,fd,h1,h2⟩:=F.ex;obtain⟨fo,fdo,o1,o2⟩:=FN.ex;obtain⟨f2,fd2,ps2,g1,g2,g3,g4⟩:=c.ex;obtain⟨f3,fd3,ps3,s1,s2,s3,s4⟩:=cs.ex;refine#[f,fd,["_law_thing","_law_writes"],Fun.ok (k:=k) h1 vE (λvs H Q E h=>?_) (fun cdv A outer s H vs Q E hr h=>?_),h2,h1.kp,h1.binds .(d)]
 .obtain⟨G,ds,d,_,r,hl,_⟩:=h;rw[r.length,hl];rfl
 .obtain⟨G,ds,d,gh,r,hl,hd,k⟩:=h;obtain⟨v0,v1,d0,d1,rfl,rfl,r0,r1⟩:∃v0 v1 d0 d1,vs=[v0,v1]/\ds=[d0,d1]/\Rep O K G v0 d0/\Rep O K G v1 d1:=by
   obtain _|⟨a,_|⟨b,_|_⟩⟩:=r<;>cases hl;exact#[_,_,_,_,rfl,rfl,a,b]
  unfold sS at hd;split at hd
  case h_2=>cases hd
  rename_i t b e0;obtain⟨rfl,e1⟩:=ij e0;obtain⟨rfl,_⟩:=ij e1;cases r1;obtain⟨o,hF,hd⟩:=oBd hd;refine#[_,kG (l6 (i:=2) vE.nd () (.inl ()) zW) (kG (l6 (i:=3) vE.nd () (.inl ()) zW) (kG (W8 (i:=2) (j:=4) (l:=3) g1 (hr.mono hkr) (λ_ _ z=>z) () () () g2 g3 g4 (dB (dM (i:=0) () (.inl ())) gc) () R.mS vE.nd () () () () .(a) () ())
   (kG (sR (sT (dM (i:=1) () (.inl ()))) (lF (nM (F0 (S' (Ru (dM (i:=2) () (.inl ())))) (D' (Ab Kx (nq s1 (hr.mono hks) () s2 s3 s4 .nil lD (dB (dM (i:=3) () (.inl ())) gc)) (dM (i:=0) () (.inl ())) (aS _)))))) ub)
   (lF (nM (nq (QZ o1 R zi zv) (hr.mono hk1) () o2 o1.kp (o1.binds .(d)) .nil lD (dB (dM (i:=2) () (.inl ())) gc))))))),?_]
  show Hq K (spZ O K 1 Fr CT) (.ref CS) 2 4 3 (FJ (Ag 0) Cg) _ [U v0,U (.bl b),U .non,U .non,B] H;refine#[v0,(),?_];cases o with
  |none=>
   cases hd;refine#[λ_ _=>False,λcls _ H2=>cls=.ref CT/\∃G2,Step G H G2 H2,#[G,[d0],_,gh,.cons r0 .nil,(),hF,λ_ G' H' st=>#[(),G',st],λ_ z=>nomatch z],λ_ _ z=>z.elim,?_];rintro cls H2 ⟨rfl,G2,st⟩;refine#[R.exm,λa ha=>?_];have st3:=st.trans (Step.newOwn (o:=.ext (e6 a (.ref CT))) st.gh ha);refine#[.bl b,(),b,(),?_];cases b with
   |true=>exact fz #[.ref a,(),ao,(),fy (k _ G2 _ st3 (.bl ao))]
   |false=>
    refine fy #[.ref a,(),.inl #[a,(),bK,λq tt hq=>?_]];exact k _ G2 _ (st3.trans (Step.newOwn st3.gh hq)) (.bl ah)
  |some x=>
   refine#[λv H2=>∃G2,Step G H G2 H2/\Rep O K G2 v x,λ_ _ _=>False,#[G,[d0],_,gh,.cons r0 .nil,(),hF,(fun z=>nomatch z),λy z v G' H' st rv=>by cases z;exact#[G',st,rv]],?_,λ_ _ z=>z.elim];rintro v H2 ⟨G2,st,rv⟩;refine#[.bl b,(),b,(),?_];cases b with
   |true=>
    replace hd:((Fs [x]).bind λy=>match y,d0 with
     |.str a,.str c=>U (D.bl (decide (a=c)))
     |_,_=>B)=U d:=hd
    obtain⟨y,hs,hd⟩:=oBd hd;split at hd
    .rename_i a c _ _;cases hd;cases r0.str_inv;refine fz #[.non,(),ah,(),fz #[v,(),#[G2,[x],_,st.gh,.cons rv .nil,(),hs,λu G3 H3 st3 ru=>?_]]];cases ru.str_inv;refine#[_,(),(),?_];have e:decide (V.str a=V.str c)=decide (a=c):=by
      by_cases z:a=c
      .rw[z,qV (),qV ()]
      .rw[qQ z,qQ (λq=>z (V.str.inj q))]
     rw[e];exact k _ G3 _ (st.trans st3) (.bl _)
    .cases hd
   |false=>
    cases hd;exact fy #[.non,(),.inr #[(),k _ G2 H2 st (.bl ao)]]
abbrev me (CT:ar) (mg:af->ak au) (base:Heap):Prop:=ya "NoTree" CT [.type "ValueError",.type "Exception",.type "BaseException",.type "object"] "ValueError.__new__" mg base
structure XRt (K:aJ) (mg:af->ak au) (base:Heap) (CT CS CH CR' CP CG CM CY:ar):Prop where
 OT:me CT mg base
 no:Dfn K mg "_law_is_no_tree" (top 88)
 R:RefTK K mg CT CS CH CR' CP CG CM CY
end Law
set_option maxHeartbeats 4000000
variable {C_Shop C_TreeWords:ar} {sn ys:Z af} {br:Z (aj×aj)} {S:ak Slot} {ae:FS}
namespace Law
def Q1:FnScope ["leaf"] ["leaf"] (aD (top 28)):=bi
def RU:FnScope ["tree"] ["tree"] (aD (top 29)):=bi
def vt:FnScope ["tree","words","row","end"] ["tree"] (aD (top 30)):=bi
def PJ:FnScope ["thing"] ["thing"] (aD (top 14)):=bi
def Xu:FnScope ["things"] ["things"] (aD (top 22)):=bi
def Ua:FnScope ["self"] ["self"] (aD (cZ (top 32) 1)):=bi
def Ti:FnScope ["self"] ["self"] (aD (cZ (top 32) 8)):=bi
def EK:FnScope ["self","word"] ["self"] (aD (cZ (top 32) 2)):=bi
def Ld:FnScope ["self","asked","word"] ["self","asked"] (aD (cZ (top 32) 3)):=bi
def D4:FnScope ["self","word"] ["self"] (aD (cZ (top 32) 4)):=bi
def Uh:FnScope ["word"] ["word"] (aD (top 15)):=bi
def vI:FnScope ["numeral","number","sign"] ["numeral"] (aD (top 16)):=bi
def Ew:FnScope ["self","most_figures","word"] ["self","most_figures"] (aD (cZ (top 32) 6)):=bi
def G7:FnScope ["self","word"] ["self"] (aD (cZ (top 32) 7)):=bi
def Ce:FnScope ["words","word","step"] ["words"] (aD (top 33)):=bi
def D8:FnScope ["self","names"] ["self"] (aD (cZ (top 32) 5)):=bi
def yq:FnScope ["words","l","r"] ["words"] (aD (top 35)):=bi
def yQ:FnScope ["words","ends","benches"] ["words"] (aD (top 36)):=bi
def tu:FnScope ["words","depth","word","choice","side","one"] ["words","depth"] (aD (top 34)):=bi
def l':FnScope ["words","depth","word","choice","side_tree","job","ends","stock","t"] ["words","depth"] (aD (top 37)):=bi
def Ep:FnScope ["words","depth","rows"] ["words","depth"] (aD (top 39)):=bi
def Jo:FnScope ["words","depth","tree"] ["words","depth"] (aD (top 38)):=bi
def N5:FnScope ["_law_word"] ["_law_word"] (aD (top 91)):=bi
def WA:FnScope ["_law_word","_law_most"] ["_law_word","_law_most"] (aD (top 92)):=bi
def T4:FnScope ["_law_kind","_law_word"] ["_law_kind","_law_word"] (aD (top 93)):=bi
def zH:FnScope ["_law_words","_law_at","_law_forms","_law_form","_law_some"] ["_law_words","_law_at","_law_forms"] (aD (top 94)):=bi
def vh:FnScope ["_law_words","_law_at","_law_unlike","_law_after","_law_some"] ["_law_words","_law_at","_law_unlike"] (aD (top 96)):=bi
def Bc:FnScope ["_law_words","_law_at","_law_choices","_law_after"] ["_law_words","_law_at"] (aD (top 97)):=bi
def pA:FnScope ["_law_words","_law_at","_law_choices"] ["_law_words","_law_at"] (aD (top 98)):=bi
def Fg:FnScope ["_law_words","_law_at","_law_after"] ["_law_words","_law_at"] (aD (top 95)):=bi
def Gu:FnScope ["_law_left_here","_law_many","_law_found"] ["_law_left_here","_law_many"] (aD (top 76)):=bi
def XI:FnScope ["thing"] ["thing"] (aD (top 72)):=bi
def ON:FnScope ["self"] ["self"] (aD (cZ (top 73) 9)):=bi
def X5:FnScope ["self"] ["self"] (aD (cZ (top 73) 7)):=bi
def NO:FnScope ["self"] ["self"] (aD (cZ (top 73) 8)):=bi
def sr:FnScope ["_law_left_here","_law_shop_here","_law_names","_law_step","_law_way","_law_benches_here"] ["_law_left_here","_law_shop_here"] (aD (top 83)):=bi
def Kq:FnScope ["_law_left_here","_law_shop_here","_law_low"] ["_law_left_here","_law_shop_here"] (aD (top 84)):=bi
def Og:FnScope ["self"] ["self"] (aD (cZ (top 73) 3)):=bi
def O5:FnScope ["self"] ["self"] (aD (cZ (top 73) 6)):=bi
def ky:FnScope ["_law_left_here","_law_shop_here","_law_names","_law_way","_law_low","_law_high","_law_benches_here","_law_t"] ["_law_left_here","_law_shop_here"] (aD (top 85)):=bi
def tj:FnScope ["_law_left_here","_law_shop_here","_law_deep","_law_names","_law_way","_law_choice_here","_law_one"] ["_law_left_here","_law_shop_here","_law_deep"] (aD (top 86)):=bi
def vT:FnScope ["_law_left_here","_law_shop_here","_law_deep","_law_rows","_law_choice_here","_law_one"] ["_law_left_here","_law_shop_here","_law_deep"] (aD (top 87)):=bi
def wX:FnScope ["_law_script","_law_k","_law_cell","_law_mixed"] ["_law_script","_law_k"] (aD (top 75)):=bi
def oI:FnScope ["_law_left_here","_law_pad","_law_horizon","_law_benches_here","_law_k","_law_breaks","_law_begin"] ["_law_left_here","_law_pad","_law_horizon"] (aD (top 77)):=bi
def tE:FnScope ["_law_left_here","_law_pad","_law_benches_here","_law_horizon","_law_steps_here","_law_k","_law_at","_law_ways"] ["_law_left_here","_law_pad","_law_benches_here","_law_horizon"] (aD (top 78)):=bi
def vN:FnScope ["_law_left_here","_law_names","_law_horizon","_law_at","_law_other","_law_links_here"] ["_law_left_here","_law_names","_law_horizon"] (aD (top 79)):=bi
def VS:FnScope ["thing"] ["thing"] (aD (top 13)):=bi
def Vy:FnScope ["thing","least","most"] ["thing","least","most"] (aD (top 18)):=bi
def TQ:FnScope ["thing","many"] ["thing","many"] (aD (top 20)):=bi
def RJ:FnScope ["row","horizon"] ["row","horizon"] (aD (top 52)):=bi
def U7:FnScope ["thing","least","most"] ["thing","least","most"] (aD (top 19)):=bi
def Ue:FnScope ["breaks","horizon"] ["breaks","horizon"] (aD (top 53)):=bi
def Rb:FnScope ["row","horizon"] ["row","horizon"] (aD (top 54)):=bi
def TJ:FnScope ["benches","horizon"] ["benches","horizon"] (aD (top 55)):=bi
def Ya:FnScope ["thing","names"] ["thing","names"] (aD (top 21)):=bi
def Qp:FnScope ["row","bench_names","horizon"] ["row","bench_names","horizon"] (aD (top 56)):=bi
def UT:FnScope ["ways","bench_names","horizon"] ["ways","bench_names","horizon"] (aD (top 57)):=bi
def V':FnScope ["row","bench_names","horizon"] ["row","bench_names","horizon"] (aD (top 58)):=bi
def UE:FnScope ["steps","bench_names","horizon"] ["steps","bench_names","horizon"] (aD (top 59)):=bi
def XQ:FnScope ["row","step_names","horizon"] ["row","step_names","horizon"] (aD (top 60)):=bi
def zD:FnScope ["jobs","step_names","horizon","members","row"] ["jobs","step_names","horizon"] (aD (top 61)):=bi
def Re:FnScope ["row","bench_names","horizon"] ["row","bench_names","horizon"] (aD (top 62)):=bi
def VM:FnScope ["setups","bench_names","horizon"] ["setups","bench_names","horizon"] (aD (top 63)):=bi
def WP:FnScope ["row","step_names","horizon"] ["row","step_names","horizon"] (aD (top 64)):=bi
def QK:FnScope ["links","step_names","horizon"] ["links","step_names","horizon"] (aD (top 65)):=bi
def VO:FnScope ["row","step_names"] ["row","step_names"] (aD (top 66)):=bi
def Sv:FnScope ["rows","step_names"] ["rows","step_names"] (aD (top 67)):=bi
def Sd:FnScope ["row","step_names"] ["row","step_names"] (aD (top 68)):=bi
def Qe:FnScope ["stocks","step_names"] ["stocks","step_names"] (aD (top 69)):=bi
def Cs:FnScope ["benches","steps","jobs","setups","links","stocks","horizon","bench_names","step_names"] ["benches","steps","jobs","setups","links","stocks","horizon"] (aD (top 70)):=bi
def vM:FnScope ["self","benches","steps","jobs","setups","links","stocks","horizon","part","row","step"] ["self","benches","steps","jobs","setups","links","stocks","horizon"] (aD (cZ (top 73) 0)):=bi
def sF:FnScope ["_law_left_here","_law_names","_law_room","_law_first","_law_takes","_law_puts"] ["_law_left_here","_law_names"] (aD (top 81)):=bi
def pK:FnScope ["_law_left_here","_law_names","_law_horizon","_law_many","_law_some","_law_early","_law_jobs_here"] ["_law_left_here","_law_names","_law_horizon"] (aD (top 80)):=bi
def jP:FnScope ["_law_left_here","_law_horizon","_law_pad","_law_benches_here","_law_steps_here","_law_names","_law_setups","_law_bench","_law_breaks","_law_links_here"] ["_law_left_here"] (aD (top 82)):=bi
def QR:FnScope ["tree"] ["tree"] (aD (top 31)):=bi
def ug:FnScope ["_law_text","_law_left_here","_law_words","_law_at","_law_way","_law_odd"] ["_law_text","_law_left_here"] (aD (top 90)):=bi
def Qo:FnScope ["self","words"] ["self","words"] (aD (cZ (top 32) 0)):=bi
def Wf:FnScope ["self"] ["self"] (aD (cZ (top 32) 9)):=bi
def BH:FnScope ["text","words","tree"] ["text"] (aD (top 40)):=bi
def gP:FnScope ["_law_number","_law_some"] ["_law_number"] (aD (top 89)):=bi
def lL:FnScope ["_law_script","_law_k","_law_left_here","_law_shop_here","_law_text","_law_turn","_law_some","_law_thing"] ["_law_script"] (aD (top 100)):=bi
noncomputable def tkI (mg:af->ak au) (x:af):Tok:=match mg x with|some (.int _ t)=>t|_=>0
def tkI_of {n:aj} {t:Tok} (X:K.In h) (G:h.Ns dD mg) (a:ii K dD x=U (U (.int n t))):mg x=U (.int n (tkI mg x)):=by have q:=gN X G a;rw[q];unfold tkI;rw[q]
noncomputable def tkS (mg:af->ak au) (x:af):Tok:=match mg x with|some (.str _ t)=>t|_=>0
def tkS_of {t:Tok} (X:K.In h) (G:h.Ns dD mg) (a:ii K dD x=U (U (.str y t))):mg x=U (.str y (tkS mg x)):=by have q:=gN X G a;rw[q];unfold tkS;rw[q]
structure Vd (K:aJ) (mg:af->ak au) (C_Shop C_TreeWords:ar):Prop where
 z_ValueError:mg "ValueError"=B
 z_all:mg "all"=B
 z_bool:mg "bool"=B
 z_dict:mg "dict"=B
 z_int:mg "int"=B
 z_isinstance:mg "isinstance"=B
 z_len:mg "len"=B
 z_list:mg "list"=B
 z_min:mg "min"=B
 z_range:mg "range"=B
 z_set:mg "set"=B
 z_str:mg "str"=B
 z_tuple:mg "tuple"=B
 z_zip:mg "zip"=B
 k_FIGURES:mg "FIGURES"=U (.str "0123456789" (tkS mg "FIGURES"))
 k_LONGEST_NAME:mg "LONGEST_NAME"=U (.int 8 (tkI mg "LONGEST_NAME"))
 k_MOMENT_FIGURES:mg "MOMENT_FIGURES"=U (.int 7 (tkI mg "MOMENT_FIGURES"))
 k_MOST_AMOUNT:mg "MOST_AMOUNT"=U (.int 1000000 (tkI mg "MOST_AMOUNT"))
 k_MOST_BENCHES:mg "MOST_BENCHES"=U (.int 8 (tkI mg "MOST_BENCHES"))
 k_MOST_BREAKS:mg "MOST_BREAKS"=U (.int 10 (tkI mg "MOST_BREAKS"))
 k_MOST_COUNTED:mg "MOST_COUNTED"=U (.int 3000 (tkI mg "MOST_COUNTED"))
 k_MOST_HORIZON:mg "MOST_HORIZON"=U (.int 1000000 (tkI mg "MOST_HORIZON"))
 k_MOST_JOBS:mg "MOST_JOBS"=U (.int 40 (tkI mg "MOST_JOBS"))
 k_MOST_LINKS:mg "MOST_LINKS"=U (.int 100 (tkI mg "MOST_LINKS"))
 k_MOST_SETUPS:mg "MOST_SETUPS"=U (.int 100 (tkI mg "MOST_SETUPS"))
 k_MOST_STEPS:mg "MOST_STEPS"=U (.int 40 (tkI mg "MOST_STEPS"))
 k_MOST_STOCKS:mg "MOST_STOCKS"=U (.int 6 (tkI mg "MOST_STOCKS"))
 k_MOST_WAYS:mg "MOST_WAYS"=U (.int 4 (tkI mg "MOST_WAYS"))
 k_MOST_WITHIN:mg "MOST_WITHIN"=U (.int 40 (tkI mg "MOST_WITHIN"))
 k_START_FIGURES:mg "START_FIGURES"=U (.int 40 (tkI mg "START_FIGURES"))
 d0:Dfn K mg "words_of_leaf" (top 28)
 d1:Dfn K mg "words_within" (top 29)
 d2:Dfn K mg "words_of_tree" (top 30)
 d3:Dfn K mg "is_name" (top 14)
 d4:Dfn K mg "are_unlike" (top 22)
 d5:DfnM K C_TreeWords "TreeWords" "ahead_of_all" "TreeWords.ahead_of_all" (cZ (top 32) 1)
 d6:DfnM K C_TreeWords "TreeWords" "count_one" "TreeWords.count_one" (cZ (top 32) 8)
 d7:DfnM K C_TreeWords "TreeWords" "take" "TreeWords.take" (cZ (top 32) 2)
 d8:DfnM K C_TreeWords "TreeWords" "take_just" "TreeWords.take_just" (cZ (top 32) 3)
 d9:DfnM K C_TreeWords "TreeWords" "take_name" "TreeWords.take_name" (cZ (top 32) 4)
 d10:Dfn K mg "is_numeral" (top 15)
 d11:Dfn K mg "number_of" (top 16)
 d12:DfnM K C_TreeWords "TreeWords" "take_number" "TreeWords.take_number" (cZ (top 32) 6)
 d13:DfnM K C_TreeWords "TreeWords" "take_start" "TreeWords.take_start" (cZ (top 32) 7)
 d14:Dfn K mg "read_choice" (top 33)
 d15:DfnM K C_TreeWords "TreeWords" "take_names" "TreeWords.take_names" (cZ (top 32) 5)
 d16:Dfn K mg "read_ends" (top 35)
 d17:Dfn K mg "read_stretch" (top 36)
 d18:Dfn K mg "read_part" (top 34)
 d19:Dfn K mg "read_end" (top 37)
 d20:Dfn K mg "read_next_tree" (top 39)
 d21:Dfn K mg "read_within" (top 38)
 d22:Dfn K mg "_law_is_name" (top 91)
 d23:Dfn K mg "_law_is_number" (top 92)
 d24:Dfn K mg "_law_fits" (top 93)
 d25:Dfn K mg "_law_part" (top 94)
 d26:Dfn K mg "_law_names_from" (top 96)
 d27:Dfn K mg "_law_end_from" (top 97)
 d28:Dfn K mg "_law_tree_from" (top 98)
 d29:Dfn K mg "_law_within" (top 95)
 d30:Dfn K mg "_law_pick" (top 76)
 d31:Dfn K mg "fresh" (top 72)
 d32:DfnM K C_Shop "Shop" "step_names" "Shop.step_names" (cZ (top 73) 9)
 d33:DfnM K C_Shop "Shop" "last_moment" "Shop.last_moment" (cZ (top 73) 7)
 d34:DfnM K C_Shop "Shop" "bench_names" "Shop.bench_names" (cZ (top 73) 8)
 d35:Dfn K mg "_law_choice" (top 83)
 d36:Dfn K mg "_law_stretch" (top 84)
 d37:DfnM K C_Shop "Shop" "job_rows" "Shop.job_rows" (cZ (top 73) 3)
 d38:DfnM K C_Shop "Shop" "stock_rows" "Shop.stock_rows" (cZ (top 73) 6)
 d39:Dfn K mg "_law_leaf" (top 85)
 d40:Dfn K mg "_law_row" (top 86)
 d41:Dfn K mg "_law_tree" (top 87)
 d42:Dfn K mg "_law_left" (top 75)
 d43:Dfn K mg "_law_benches" (top 77)
 d44:Dfn K mg "_law_steps" (top 78)
 d45:Dfn K mg "_law_links" (top 79)
 d46:Dfn K mg "is_whole" (top 13)
 d47:Dfn K mg "is_within" (top 18)
 d48:Dfn K mg "is_tuple" (top 20)
 d49:Dfn K mg "is_break" (top 52)
 d50:Dfn K mg "is_list" (top 19)
 d51:Dfn K mg "are_breaks" (top 53)
 d52:Dfn K mg "is_bench" (top 54)
 d53:Dfn K mg "are_benches" (top 55)
 d54:Dfn K mg "is_one_of" (top 21)
 d55:Dfn K mg "is_way" (top 56)
 d56:Dfn K mg "are_ways" (top 57)
 d57:Dfn K mg "is_step" (top 58)
 d58:Dfn K mg "are_steps" (top 59)
 d59:Dfn K mg "is_job" (top 60)
 d60:Dfn K mg "are_jobs" (top 61)
 d61:Dfn K mg "is_setup" (top 62)
 d62:Dfn K mg "are_setups" (top 63)
 d63:Dfn K mg "is_link" (top 64)
 d64:Dfn K mg "are_links" (top 65)
 d65:Dfn K mg "is_amount" (top 66)
 d66:Dfn K mg "are_amounts" (top 67)
 d67:Dfn K mg "is_stock" (top 68)
 d68:Dfn K mg "are_stocks" (top 69)
 d69:Dfn K mg "first_bad_part" (top 70)
 d70:DfnM K C_Shop "Shop" "__init__" "Shop.__init__" (cZ (top 73) 0)
 d71:Dfn K mg "_law_stocks" (top 81)
 d72:Dfn K mg "_law_jobs" (top 80)
 d73:Dfn K mg "_law_shop" (top 82)
 d74:Dfn K mg "show_tree" (top 31)
 d75:Dfn K mg "_law_spoilt" (top 90)
 d76:DfnM K C_TreeWords "TreeWords" "__init__" "TreeWords.__init__" (cZ (top 32) 0)
 d77:DfnM K C_TreeWords "TreeWords" "is_behind_all" "TreeWords.is_behind_all" (cZ (top 32) 9)
 d78:Dfn K mg "read_tree" (top 40)
 d79:Dfn K mg "_law_right" (top 99)
 d80:Dfn K mg "_law_none" (top 89)
structure Vw (K:aJ) (mg:af->ak au) (C_Shop C_TreeWords:ar):Prop extends Vd K mg C_Shop C_TreeWords where
 O_Shop:ClsOk .(h) K mg "Shop" C_Shop
 cf_Shop:CF .(h) K "Shop" Fa
 O_TreeWords:ClsOk .(h) K mg "TreeWords" C_TreeWords
 cf_TreeWords:CF .(h) K "TreeWords" GQ
abbrev CC (x:af) (n k:J) (F:FQ):Prop:=∀{P:b7} {w:bU} {K:aJ} {mg:af->ak au} {base:Heap} {C_Shop C_TreeWords:ar},Vw K mg C_Shop C_TreeWords->Cal .(h) P w K mg base x n k F
abbrev CM (c m:af) (n k:J) (F:FQ):Prop:=∀{P:b7} {w:bU} {K:aJ} {mg:af->ak au} {base:Heap} {C_Shop C_TreeWords:ar},Vw K mg C_Shop C_TreeWords->CalM .(h) P w K mg base c m n k F
abbrev CRi (x:af) (n k:J) (F:FQ'):Prop:=∀{P:b7} {w:bU} {K:aJ} {mg:af->ak au} {base:Heap} {C_Shop C_TreeWords:ar} {CT:ar},Vw K mg C_Shop C_TreeWords->CalR rgI .(h) P w K mg base CT x n k F
abbrev CMr (m:af) (n k:J) (F:FW'):Prop:=∀{P:b7} {w:bU} {K:aJ} {mg:af->ak au} {base:Heap} {C_Shop C_TreeWords:ar} {CT:ar},Vw K mg C_Shop C_TreeWords->CalMR .(h) P w K mg base CT "TreeWords" m n k F
abbrev CMx (m:af) (n k:J) (F:FW'):Prop:=∀{P:b7} {w:bU} {K:aJ} {mg:af->ak au} {base:Heap} {C_Shop C_TreeWords:ar} {CT:ar},Vw K mg C_Shop C_TreeWords->me CT mg base->CalMR .(h) P w K mg base CT "TreeWords" m n k F
abbrev CRx (x:af) (n k:J) (F:FW'):Prop:=∀{P:b7} {w:bU} {K:aJ} {mg:af->ak au} {base:Heap} {C_Shop C_TreeWords:ar} {CT:ar},Vw K mg C_Shop C_TreeWords->me CT mg base->CalR (rgO .(h) K "TreeWords") .(h) P w K mg base CT x n k F
abbrev CCw (y:af) (a:J) (x:af) (n j:J) (F:(FQ)->FQ):Prop:=∀{P:b7} {w:bU} {K:aJ} {mg:af->ak au} {base:Heap} {C_Shop C_TreeWords:ar},Vw K mg C_Shop C_TreeWords->∀{k:J} {W:FQ},Cal .(h) P w K mg base y a k W->12<=k->Cal .(h) P w K mg base x n (k+j) (F W)
abbrev CRw (y:af) (a:J) (x:af) (n j:J) (F:FQ'->FQ'):Prop:=∀{P:b7} {w:bU} {K:aJ} {mg:af->ak au} {base:Heap} {C_Shop C_TreeWords:ar} {CT:ar},Vw K mg C_Shop C_TreeWords->∀{k:J} {W:FQ'},CalR rgI .(h) P w K mg base CT y a k W->12<=k->CalR rgI .(h) P w K mg base CT x n (k+j) (F W)
abbrev CXw (x:af) (j:J) (F:FW'->FW'):Prop:=∀{P:b7} {w:bU} {K:aJ} {mg:af->ak au} {base:Heap} {C_Shop C_TreeWords:ar} {CT:ar},Vw K mg C_Shop C_TreeWords->me CT mg base->∀{k:J} {W:FW'},CalR (rgO .(h) K "TreeWords") .(h) P w K mg base CT "read_within" 1 k W->12<=k->CalR (rgO .(h) K "TreeWords") .(h) P w K mg base CT x 1 (k+j) (F W)
def E7:{g:FS // CC "words_of_leaf" 1 1 (aN 0 g)}:=#[_,λV=>
 V.d0.cal (k:=0) Q1 .(d) λf cdv A outer s H E hr=>
  (aU (bS (bc bF (aT (ai 0) aw) aB (aS _)) (aQ (aX (bx (DO.de (bM (al aB aq))) (aT (ai 0) aw)))) bW) (aU (bS (bc bF (aT (ai 0) aw) aB (aS _)) (aQ (aX (bx (DO.de (bM (al aB (al (f9 oQ () V.z_str (by rfl) (al (aT (ai 0) aw) aq)) (al (f9 oQ () V.z_str (by rfl) (al (aT (ai 0) aw) aq)) aq))))) (aT (ai 0) aw)))) bW) (aQ (aX (DO.de (cM () (CompScope.of rfl rfl) (FvOk.of (N':=["part"]) (fv:=[B]) ()) (cr (ai 0)) ⟨λ_ _ _ _ _=>#[(bO 0 (show(["part"]:Z af).Nodup by nofun)),cN,(f9 oQ () V.z_str (by rfl) (al (ai 0) aq))]⟩))))))]
def Cr:FQ:=aN 0 (E7.rec λg _=>g)
def Qi:CC "words_of_leaf" 1 1 Cr:=E7.2
def Ey:{g:(FQ)->FS // CCw "words_of_tree" 1 "words_within" 1 1 λW=>aN 0 (g W)}:=#[_,λV k W cW hk=>
 V.d1.cal (k:=k+0) RU .(d) λf cdv A outer s H E hr=>
  (aQ (aX (bx (bx (DO.de (bM (al aB aq))) (dz cW hr .(b) () (al (ai 0) aq) ln1)) (DO.de (bM (al aB aq))))))]
def tG (W:FQ):FQ:=aN 0 (Ey.rec (λg _=>g) W)
def Bb:CCw "words_of_tree" 1 "words_within" 1 1 tG:=Ey.2
def HK:{g:(FQ)->FS // CCw "words_of_tree" 1 "words_of_tree" 1 2 λW=>aN 3 (g W)}:=#[_,λV k W cW hk=>
 V.d2.cal (k:=k+1) vt .(d) λf cdv A outer s H E hr=>
  (aU (BE 1 vt.nd (bM aq)) (aU (pM mX () (cr (aT (ai 0) aw)) (bO 2 vt.nd) (aQ (bS (bc bF (aT (ai 2) aw) aB (aS _)) (aQ (tz 1 (bx (bx (bx (DO.de (bM (al aB aq))) (DO.de (cM () (CompScope.of rfl rfl) (FvOk.of (N':=["part"]) (fv:=[B]) ()) (cr (aT (ai 2) aw)) ⟨λ_ _ _ _ _=>#[(bO 0 (show(["part"]:Z af).Nodup by nofun)),cN,(f9 oQ () V.z_str (by rfl) (al (ai 0) aq))]⟩))) (DO.de (bM (al (f9 oQ () V.z_str (by rfl) (al (aT (ai 2) aw) aq)) aq)))) (dz (Bb V cW hk) hr .(b) () (al (aT (ai 2) aw) aq) ln1)))) (aQ (tz 1 (f9 WS () V.z_list (by rfl) (al (ai 2) aq))))))) (aU (Os 1 aB) (aU (cX 3 vt.nd (aT (ai 0) aw)) (aU (bS (bc bF (aT (ai 3) aw) aB (aS _)) (aQ (tz 1 (bx (bx (bx (DO.de (bM (al aB aq))) (DO.de (cM () (CompScope.of rfl rfl) (FvOk.of (N':=["part"]) (fv:=[B]) ()) (cr (aT (ai 3) aw)) ⟨λ_ _ _ _ _=>#[(bO 0 (show(["part"]:Z af).Nodup by nofun)),cN,(f9 oQ () V.z_str (by rfl) (al (ai 0) aq))]⟩))) (dz (Bb V cW hk) hr .(b) () (al (aT (ai 3) aw) aq) ln1)) (dz (Bb V cW hk) hr .(b) () (al (aT (ai 3) aw) aq) ln1)))) (aQ (tz 1 (dz (Qi V) hr .(b) () (al (ai 3) aq) ln1)))) (EC 1 (aQ (aX (ai 1)))))))))]
def BU (W:FQ):FQ:=aN 3 (HK.rec (λg _=>g) W)
def Xg:CCw "words_of_tree" 1 "words_of_tree" 1 2 BU:=HK.2
def tS:J->FQ
 |0=>λ_=>B
 |n+1=>BU (tS n)
def Xa:FQ:=tS 30
def Ov (V:Vw K mg C_Shop C_TreeWords):Cal .(h) P w K mg base "words_of_tree" 1 72 Xa:=by
 have h:∀n,Cal .(h) P w K mg base "words_of_tree" 1 (12+2*n) (tS n):=λn=>by
  induction n with
  |zero=>exact Dfn.none (ps:=["tree"]) V.d2 .(d)
  |succ n ih=>exact Xg V ih (iB _ _)
 exact h 30
def J':{g:FS // CC "is_name" 1 1 (aN 0 g)}:=#[_,λV=>
 V.d3.cal (k:=0) PJ .(d) λf cdv A outer s H E hr=>
  (aU (bS (DW.dt (cH (bQ (bP (bw kz () V.z_isinstance (by rfl) (al (ai 0) (al (kI () V.z_str (by rfl)) aq))))) (dq (bQ (IK iy iy aw (bw b6 rfl V.z_len (by rfl) (al (ai 0) aq)) (eX () V.k_LONGEST_NAME)))))) (aQ (aX c7)) bW) (aQ (aX (bw (gV ()) () V.z_all (by rfl) (al (DO.de (cM () (CompScope.of rfl rfl) (FvOk.of (N':=["sign"]) (fv:=[B]) ()) (tJ (ai 0)) ⟨λ_ _ _ _ _=>#[(bO 0 (show(["sign"]:Z af).Nodup by nofun)),cN,(wK iy iy aB (ai 0) aB)]⟩)) aq)))))]
def vO:FQ:=aN 0 (J'.rec λg _=>g)
def jR:CC "is_name" 1 1 vO:=J'.2
def oZ:{g:FS // CC "are_unlike" 1 1 (aN 0 g)}:=#[_,λV=>
 V.d4.cal (k:=0) Xu .(d) λf cdv A outer s H E hr=>
  (aQ (aX (gE bF (JU () (iq hr) () V.z_len () V.z_set (ai 0)) (bw b6 rfl V.z_len (by rfl) (al (ai 0) aq)) (aS _))))]
def il:FQ:=aN 0 (oZ.rec λg _=>g)
def jY:CC "are_unlike" 1 1 il:=oZ.2
def yt:{g:FRs Fs // CMr "ahead_of_all" 0 1 (bH 0 g)}:=#[_,λV=>
 DfnM.calR (k:=0) V.O_TreeWords V.d5 Ua .(d) λf cdv A outer s H E hr=>
  (bf (bJ (LL (fV iT (kL V.cf_TreeWords (.tail _ (.head _))) (G6 b6 () V.z_len (by rfl) (aA (kL V.cf_TreeWords (.head _)) (aE aq))) (aS _)) (eG (kL V.cf_TreeWords (.head _)) (kL V.cf_TreeWords (.tail _ (.head _)))) (ax aB))))]
def tV:FW':=bH 0 (yt.rec λg _=>g)
def vY:CMr "ahead_of_all" 0 1 tV:=yt.2
def BD:{g:FRs Fs // CMx "count_one" 0 1 (bH 0 g)}:=#[_,λV OT=>
 DfnM.calR (k:=0) V.O_TreeWords V.d6 Ti .(d) λf cdv A outer s H E hr=>
  (aI (JY V.cf_TreeWords (.tail _ (.tail _ (.head _))) (fL (kL V.cf_TreeWords (.tail _ (.tail _ (.head _)))) (ax aw))) (bf (cb (fV pi (kL V.cf_TreeWords (.tail _ (.tail _ (.head _)))) (ax (eX () V.k_MOST_COUNTED)) (aS _)) (bf (kB OT lA () (al aB aq) (fun Y ds h=>by rw[ln1 Y ds h];decide))) b9)))]
def Av:FW':=bH 0 (BD.rec λg _=>g)
def KI:CMx "count_one" 0 1 Av:=BD.2
def zx:{g:FRs Fs // CMr "take" 0 2 (bH 1 g)}:=#[_,λV=>
 DfnM.calR (k:=1) V.O_TreeWords V.d7 EK .(d) λf cdv A outer s H E hr=>
  (aI (bD 1 EK.nd (dS (vY V) aO hr .(a))) (aI (JY V.cf_TreeWords (.tail _ (.head _)) (fL (kL V.cf_TreeWords (.tail _ (.head _))) (ax aw))) (bf (bJ (ax (ai 1))))))]
def vU:FW':=bH 1 (zx.rec λg _=>g)
def o6:CMr "take" 0 2 vU:=zx.2
def B5:{g:FRs Fs // CMx "take_just" 1 3 (bH 1 g)}:=#[_,λV OT=>
 DfnM.calR (k:=2) V.O_TreeWords V.d8 Ld .(d) λf cdv A outer s H E hr=>
  (aI (bD 2 Ld.nd (dS (o6 V) aO hr .(a))) (aI (cb (cq (bc (Wl (iq hr)) (ai 2) (ai 1) (by rfl))) (bf (kB OT lA () (al aB aq) (fun Y ds h=>by rw[ln1 Y ds h];decide))) b9) (bf (bJ (ax (ai 2))))))]
def wL:FW':=bH 1 (B5.rec λg _=>g)
def nY:CMx "take_just" 1 3 wL:=B5.2
def yN:{g:FRs Fs // CMx "take_name" 0 3 (bH 1 g)}:=#[_,λV OT=>
 DfnM.calR (k:=2) V.O_TreeWords V.d9 D4 .(d) λf cdv A outer s H E hr=>
  (aI (bD 1 D4.nd (dS (o6 V) aO hr .(a))) (aI (cb (cq (bQ (bP (dC (jR V) hr (al (ai 1) aq) ln1)))) (bf (kB OT lA () (al aB aq) (fun Y ds h=>by rw[ln1 Y ds h];decide))) b9) (bf (bJ (ax (ai 1))))))]
def Cv:FW':=bH 1 (yN.rec λg _=>g)
def kO:CMx "take_name" 0 3 Cv:=yN.2
def Hi:{g:FS // CC "is_numeral" 1 1 (aN 0 g)}:=#[_,λV=>
 V.d10.cal (k:=0) Uh .(d) λf cdv A outer s H E hr=>
  (aU (bS (DW.dt (cH (bc bF (ai 0) aB (aS _)) (dq (DW.dt (jV (bc bF (aT (ai 0) aw) aB (aS _)) (kP (bc jG (ai 0) aB (aS _)))))))) (aQ (aX c7)) bW) (aQ (aX (bw (gV ()) () V.z_all (by rfl) (al (DO.de (cM () (CompScope.of rfl rfl) (FvOk.of (N':=["sign"]) (fv:=[B]) ()) (tJ (ai 0)) ⟨λ_ _ _ _ _=>#[(bO 0 (show(["sign"]:Z af).Nodup by nofun)),cN,(gE Op (ai 0) (Hj () V.k_FIGURES) (by rfl))]⟩)) aq)))))]
def Gx:FQ:=aN 0 (Hi.rec λg _=>g)
def Ib:CC "is_numeral" 1 1 Gx:=Hi.2
def IE:{g:FS // CC "number_of" 1 1 (aN 2 g)}:=#[_,λV=>
 V.d11.cal (k:=0) vI .(d) λf cdv A outer s H E hr=>
  (aU (cX 1 vI.nd aw) (aU (pM mX () (tJ (ai 0)) (bO 2 vI.nd) (aQ (cX 1 vI.nd (bx (oM (ai 1) aw) (kU lx Zv PySem.F.type_str_index VJ (Hj () V.k_FIGURES) (al (ai 2) aq)))))) (aQ (aX (ai 1)))))]
def yW:FQ:=aN 2 (IE.rec λg _=>g)
def IY:CC "number_of" 1 1 yW:=IE.2
def B7:{g:FRs Fs // CMx "take_number" 1 3 (bH 1 g)}:=#[_,λV OT=>
 DfnM.calR (k:=2) V.O_TreeWords V.d12 Ew .(d) λf cdv A outer s H E hr=>
  (aI (bD 2 Ew.nd (dS (o6 V) aO hr .(a))) (aI (cb (cq (DW.dt (cH (bc pi (bw b6 () V.z_len (by rfl) (al (ai 2) aq)) (ai 1) (aS _)) (dq (bQ (bP (dC (Ib V) hr (al (ai 2) aq) ln1))))))) (bf (kB OT lA () (al aB aq) (fun Y ds h=>by rw[ln1 Y ds h];decide))) b9) (bf (bJ (ax (dC (IY V) hr (al (ai 2) aq) ln1))))))]
def su:FW':=bH 1 (B7.rec λg _=>g)
def vj:CMx "take_number" 1 3 su:=B7.2
def B1:{g:FRs Fs // CMx "take_start" 0 4 (bH 1 g)}:=#[_,λV OT=>
 DfnM.calR (k:=3) V.O_TreeWords V.d13 G7 .(d) λf cdv A outer s H E hr=>
  (aI (cb (By (wQ (AC ZF PySem.F.type_str_startswith T5 (dS (vY V) aO hr .(a)) (aA (ax aB) (aE aq))))) (bf (bJ (iU (vj V OT) aO hr .(a) (al (eX () V.k_START_FIGURES) aq) ln1))) b9) (aI (bD 1 G7.nd (U5 (dS (o6 V) aO hr .(a)) (ax aw))) (aI (cb (cq (DW.dt (cH (bc pi (bw b6 rfl V.z_len (by rfl) (al (ai 1) aq)) (eX () V.k_START_FIGURES) (aS _)) (cH (bQ (bP (dC (Ib V) hr (al (ai 1) aq) ln1))) (dq (bc bF (ai 1) aB (aS _))))))) (bf (kB OT lA () (al aB aq) (fun Y ds h=>by rw[ln1 Y ds h];decide))) b9) (bf (bJ (ax (Tq (dC (IY V) hr (al (ai 1) aq) ln1))))))))]
def AF:FW':=bH 1 (B1.rec λg _=>g)
def W9:CMx "take_start" 0 4 AF:=B1.2
def BK:{g:FRs Fs // CRx "read_choice" 0 5 (bH 2 g)}:=#[_,λV OT=>
 V.d14.calR (k:=4) Ce .(d) λf cdv A outer s H E hr=>
  (aI (bD 1 Ce.nd (iU (nY V OT) aO hr .(a) (al (DO.de (bM (al aB (al aB (al aB (al aB aq)))))) aq) ln1)) (aI (bD 2 Ce.nd (dS (kO V OT) aO hr .(a))) (aI (cb (cq (bc bF (ai 1) aB (aS _))) (bf (bJ (ax (fD (al (ai 1) (al (ai 2) aq)))))) b9) (aI (cb (cq (bc bF (ai 1) aB (aS _))) (bf (bJ (cK (aA (ax (ai 1)) (aA (ax (ai 2)) (aA (dS (W9 V OT) aO hr .(a)) (aE aq))))))) b9) (bf (bJ (cK (aA (ax (ai 1)) (aA (ax (ai 2)) (aA (dS (kO V OT) aO hr .(a)) (aE aq)))))))))))]
def zK:FW':=bH 2 (BK.rec λg _=>g)
def Gb:CRx "read_choice" 0 5 zK:=BK.2
def xq:{g:FRs Fs // CMx "take_names" 0 4 (bH 1 g)}:=#[_,λV OT=>
 DfnM.calR (k:=3) V.O_TreeWords V.d15 D8 .(d) λf cdv A outer s H E hr=>
  (aI (mi 1 D8.nd (oW (aA (dS (kO V OT) aO hr .(a)) (aE aq)))) (aI (Lf 100000 yc (wQ (xl (jR V) hr .(a) () (aA (dS (vY V) aO hr .(a)) (aE aq)) lr1)) (bf (mh 1 (dS (o6 V) aO hr .(a))))) (mw 1 (bf (bJ (ax (ai 1)))))))]
def wF:FW':=bH 1 (xq.rec λg _=>g)
def Ix:CMx "take_names" 0 4 wF:=xq.2
def yI:{g:FRs Fs // CRx "read_ends" 0 4 (bH 2 g)}:=#[_,λV OT=>
 V.d16.calR (k:=3) yq .(d) λf cdv A outer s H E hr=>
  (aI (bD 1 yq.nd (iU (vj V OT) aO hr .(a) (al (eX () V.k_MOMENT_FIGURES) aq) ln1)) (aI (bD 2 yq.nd (iU (vj V OT) aO hr .(a) (al (eX () V.k_MOMENT_FIGURES) aq) ln1)) (aI (cb (cq (bc kX (ai 1) (ai 2) (aS _))) (bf (kB OT lA () (al aB aq) (fun Y ds h=>by rw[ln1 Y ds h];decide))) b9) (bf (bJ (ax (fD (al (ai 1) (al (ai 2) aq)))))))))]
def zI:FW':=bH 2 (yI.rec λg _=>g)
def Hk:CRx "read_ends" 0 4 zI:=yI.2
def zM:{g:FRs Fs // CRx "read_stretch" 0 5 (bH 2 g)}:=#[_,λV OT=>
 V.d17.calR (k:=4) yQ .(d) λf cdv A outer s H E hr=>
  (aI (bD 1 yQ.nd (aY (Hk V OT) aO hr .(a) () (aE aq) lr0)) (aI (bD 2 yQ.nd (dS (Ix V OT) aO hr .(a))) (aI (cb (cq (bQ (bP (dC (jY V) hr (al (ai 2) aq) ln1)))) (bf (kB OT lA () (al aB aq) (fun Y ds h=>by rw[ln1 Y ds h];decide))) b9) (bf (bJ (ax (fD (al aB (al (ai 2) (al (aT (ai 1) aw) (al (aT (ai 1) aw) aq)))))))))))]
def yO:FW':=bH 2 (zM.rec λg _=>g)
def Us:CRx "read_stretch" 0 5 yO:=zM.2
def t9:{g:FW'->FRs Fs // CXw "read_part" 1 λW=>bH 4 (g W)}:=#[_,λV OT k W cW hk=>
 V.d18.calR (k:=k+0) tu .(d) λf cdv A outer s H E hr=>
  (aI (sy (dS (KI V OT) aO hr .(b))) (aI (bD 2 tu.nd (iU (nY V OT) aO hr .(b) (al (DO.de (bM (al aB (al aB (al aB (al aB aq)))))) aq) ln1)) (aI (cb (cq (bc bF (ai 2) aB (aS _))) (aI (bD 3 tu.nd (aY (Gb V OT) aO hr .(b) () (aE aq) lr0)) (aI (bD 4 tu.nd (LL (fV bF (iU (nY V OT) aO hr .(b) (al (DO.de (bM (al aB (al aB aq)))) aq) ln1) (ax aB) (aS _)) (ax aw) (ax aw))) (bf (bJ (cK (aA (ax (ai 2)) (aA (ax (ai 3)) (aA (ax (ai 4)) (aA (aY cW aO hr .(b) () (aA (ax (ai 1)) (aE aq)) lr1) (aE aq)))))))))) b9) (aI (cb (cq (bc bF (ai 2) aB (aS _))) (bf (bJ (cK (aA (ax (ai 2)) (aA (dS (kO V OT) aO hr .(b)) (aE aq)))))) b9) (aI (bD 5 tu.nd (dS (kO V OT) aO hr .(b))) (bf (bJ (cK (aA (ax (ai 2)) (aA (ax (ai 5)) (aA (dS (kO V OT) aO hr .(b)) (aE aq))))))))))))]
def nE (W:FW'):FW':=bH 4 (t9.rec (λg _=>g) W)
def SK:CXw "read_part" 1 nE:=t9.2
def m6:{g:FW'->FRs Fs // CXw "read_end" 1 λW=>bH 7 (g W)}:=#[_,λV OT k W cW hk=>
 V.d19.calR (k:=k+0) l' .(d) λf cdv A outer s H E hr=>
  (aI (sy (dS (KI V OT) aO hr .(b))) (aI (bD 2 l'.nd (iU (nY V OT) aO hr .(b) (al (DO.de (bM (al aB (al aB (al aB (al aB (al aB (al aB (al aB aq))))))))) aq) ln1)) (aI (cb (cq (bc bF (ai 2) aB (aS _))) (aI (bD 3 l'.nd (aY (Gb V OT) aO hr .(b) () (aE aq) lr0)) (aI (bD 4 l'.nd (aY cW aO hr .(b) () (aA (ax (ai 1)) (aE aq)) lr1)) (bf (bJ (cK (aA (ax (ai 2)) (aA (ax (ai 3)) (aA (ax (ai 4)) (aA (aY cW aO hr .(b) () (aA (ax (ai 1)) (aE aq)) lr1) (aE aq)))))))))) b9) (aI (cb (cq (bc bF (ai 2) aB (aS _))) (bf (bJ (cK (aA (ax (ai 2)) (aA (dS (kO V OT) aO hr .(b)) (aE aq)))))) b9) (aI (cb (cq (bc bF (ai 2) aB (aS _))) (bf (bJ (cK (aA (ax (ai 2)) (aA (dS (Ix V OT) aO hr .(b)) (aE aq)))))) b9) (aI (cb (cq (bc bF (ai 2) aB (aS _))) (bf (bJ (aY (Us V OT) aO hr .(b) () (aE aq) lr0))) b9) (aI (cb (cq (bc bF (ai 2) aB (aS _))) (aI (bD 5 l'.nd (dS (kO V OT) aO hr .(b))) (aI (bD 6 l'.nd (aY (Hk V OT) aO hr .(b) () (aE aq) lr0)) (bf (bJ (ax (fD (al (ai 2) (al (ai 5) (al (aT (ai 6) aw) (al (aT (ai 6) aw) aq)))))))))) b9) (aI (cb (cq (bc bF (ai 2) aB (aS _))) (aI (bD 7 l'.nd (dS (kO V OT) aO hr .(b))) (aI (bD 8 l'.nd (iU (vj V OT) aO hr .(b) (al (eX () V.k_MOMENT_FIGURES) aq) ln1)) (bf (bJ (cK (aA (ax (ai 2)) (aA (ax (ai 7)) (aA (ax (ai 8)) (aA (iU (nY V OT) aO hr .(b) (al (DO.de (bM (al aB (al aB aq)))) aq) ln1) (aE aq)))))))))) b9) (bf (bJ (ax (fD (al (ai 2) aq)))))))))))))]
def mm (W:FW'):FW':=bH 7 (m6.rec (λg _=>g) W)
def T9:CXw "read_end" 1 mm:=m6.2
def vc:{g:FW'->FRs Fs // CXw "read_next_tree" 2 λW=>bH 1 (g W)}:=#[_,λV OT k W cW hk=>
 V.d20.calR (k:=k+1) Ep .(d) λf cdv A outer s H E hr=>
  (aI (cb (cq (bc pi (ai 1) (eX () V.k_MOST_WITHIN) (aS _))) (bf (kB OT lA () (al aB aq) (fun Y ds h=>by rw[ln1 Y ds h];decide))) b9) (aI (mi 2 Ep.nd (wc (bM aq))) (aI (Lf 100000 yc (fV jG (dS (vY V) aO hr .(b)) (ax aB) (aS _)) (bf (mh 2 (aY (SK V OT cW hk) aO hr .(b) () (aA (ax (ai 1)) (aE aq)) lr1)))) (aI (sy (dS (o6 V) aO hr .(b))) (mw 2 (bf (bJ (cK (aA (ax (ai 2)) (aA (aY (T9 V OT cW hk) aO hr .(b) () (aA (ax (ai 1)) (aE aq)) lr1) (aE aq)))))))))))]
def oU (W:FW'):FW':=bH 1 (vc.rec (λg _=>g) W)
def GN:CXw "read_next_tree" 2 oU:=vc.2
def xd:{g:FW'->FRs Fs // CXw "read_within" 3 λW=>bH 1 (g W)}:=#[_,λV OT k W cW hk=>
 V.d21.calR (k:=k+2) Jo .(d) λf cdv A outer s H E hr=>
  (aI (sy (iU (nY V OT) aO hr .(b) (al (DO.de (bM (al aB aq))) aq) ln1)) (aI (bD 2 Jo.nd (aY (GN V OT cW hk) aO hr .(b) () (aA (ax (bx (ai 1) aw)) (aE aq)) lr1)) (aI (sy (iU (nY V OT) aO hr .(b) (al (DO.de (bM (al aB aq))) aq) ln1)) (bf (bJ (ax (ai 2)))))))]
def sU (W:FW'):FW':=bH 1 (xd.rec (λg _=>g) W)
def P':CXw "read_within" 3 sU:=xd.2
def vL:J->FW'
 |0=>λ_ _ _=>B
 |n+1=>sU (vL n)
def Gj:FW':=vL 30
def Xv (V:Vw K mg C_Shop C_TreeWords) (OT:me CT mg base):CalR (rgO .(h) K "TreeWords") .(h) P w K mg base CT "read_within" 1 102 Gj:=by
 have h:∀n,CalR (rgO .(h) K "TreeWords") .(h) P w K mg base CT "read_within" 1 (12+3*n) (vL n):=λn=>by
  induction n with
  |zero=>exact Dfn.noneR (ps:=["words","depth"]) V.d21 .(d)
  |succ n ih=>exact P' V OT ih (iB _ _)
 exact h 30
def Bj:FW':=oU Gj
def Tw (V:Vw K mg C_Shop C_TreeWords) (OT:me CT mg base):CalR (rgO .(h) K "TreeWords") .(h) P w K mg base CT "read_next_tree" 1 104 Bj:=GN V OT (Xv V OT) .(a)
def Gv:{g:FS // CC "_law_is_name" 1 1 (aN 0 g)}:=#[_,λV=>
 V.d22.cal (k:=0) N5 .(d) λf cdv A outer s H E hr=>
  (aQ (aX (eZ (wK iy iy aw (bw b6 rfl V.z_len (by rfl) (al (ai 0) aq)) aw) (fK (gE (IJ (nh hr)) (DO.de (cM () (CompScope.of rfl rfl) (FvOk.of (N':=["_law_sign"]) (fv:=[B]) ()) (tJ (ai 0)) ⟨fun _ _ _ _ _=>⟨(bO 0 (show(["_law_sign"]:Z af).Nodup by nofun)),(zF (bc Ll (ai 0) aB (by rfl))),(ai 0)⟩⟩)) (DO.de (bM aq)) (aS _))))))]
def wu:FQ:=aN 0 (Gv.rec λg _=>g)
def Eo:CC "_law_is_name" 1 1 wu:=Gv.2
def IN:{g:FS // CC "_law_is_number" 2 1 (aN 0 g)}:=#[_,λV=>
 V.d23.cal (k:=0) WA .(d) λf cdv A outer s H E hr=>
  (aU (bS (DW.dt (cH (bQ (IK iy iy aw (bw b6 rfl V.z_len (by rfl) (al (ai 0) aq)) (ai 1))) (dq (bc (sk (nh hr)) (DO.de (cM () (CompScope.of rfl rfl) (FvOk.of (N':=["_law_sign"]) (fv:=[B]) ()) (tJ (ai 0)) ⟨fun _ _ _ _ _=>⟨(bO 0 (show(["_law_sign"]:Z af).Nodup by nofun)),(zF (bc Ll (ai 0) aB (by rfl))),(ai 0)⟩⟩)) (DO.de (bM aq)) (aS _))))) (aQ (aX c7)) bW) (aQ (aX (Gs (gE bF (ai 0) aB (aS _)) (fK (gE jG (aT (ai 0) aw) aB (aS _)))))))]
def tR:FQ:=aN 0 (IN.rec λg _=>g)
def Bz:CC "_law_is_number" 2 1 tR:=IN.2
def vg:{g:FS // CC "_law_fits" 2 2 (aN 0 g)}:=#[_,λV=>
 V.d24.cal (k:=1) T4 .(d) λf cdv A outer s H E hr=>
  (aU (bS (bc bF (ai 0) aB (aS _)) (aQ (aX (dC (Eo V) hr (al (ai 1) aq) ln1))) bW) (aU (bS (bc bF (ai 0) aB (aS _)) (aQ (aX (dC (Bz V) hr (al (ai 1) (al aw aq)) ln2))) bW) (aU (bS (bc bF (ai 0) aB (aS _)) (aQ (aX (Gs (gE bF (ai 1) aB (aS _)) (fK (gE bF (ai 1) aB (aS _)))))) bW) (aU (bS (bc bF (e8 (ai 1) fC (eL aw)) aB (aS _)) (aQ (aX (eZ (gE jG (ai 1) aB (aS _)) (fK (dC (Bz V) hr (al (e8 (ai 1) (eL aw) fC) (al aw aq)) ln2))))) bW) (aQ (aX (dC (Bz V) hr (al (ai 1) (al aw aq)) ln2)))))))]
def ng:FQ:=aN 0 (vg.rec λg _=>g)
def Uj:CC "_law_fits" 2 2 ng:=vg.2
def lJ:{g:FS // CC "_law_part" 3 3 (aN 2 g)}:=#[_,λV=>
 V.d25.cal (k:=2) zH .(d) λf cdv A outer s H E hr=>
  (aU (bS (DW.dt (cH (bc kX (ai 1) (bw b6 rfl V.z_len (by rfl) (al (ai 0) aq)) (aS _)) (dq (bc (Va (iq hr)) (aT (ai 0) (ai 1)) (ai 2) (by rfl))))) (aQ (aX eK)) bW) (aU (cX 3 zH.nd (Yb (iq hr) (ai 2) (aT (ai 0) (ai 1)))) (aU (cX 4 zH.nd (e8 (ai 0) (eL (bx (ai 1) aw)) (eL (bx (bx (ai 1) aw) (bw b6 () V.z_len (by rfl) (al (ai 3) aq)))))) (aU (bS (DW.dt (cH (bc iT (bw b6 () V.z_len (by rfl) (al (ai 4) aq)) (bw b6 () V.z_len (by rfl) (al (ai 3) aq)) (aS _)) (dq (bc (LD (iq hr)) c7 (DO.de (cM () (CompScope.of rfl rfl) (FvOk.of (N':=["_law_kind","_law_word"]) (fv:=[B,B]) ()) (Ye () V.z_zip (ai 3) (ai 4)) ⟨λ_ _ _ _ _=>#[(v8 (n:=2) () (lW (bO 0 (show(["_law_kind","_law_word"]:Z af).Nodup by nofun)) (lW (bO 1 (show(["_law_kind","_law_word"]:Z af).Nodup by nofun)) wY))),cN,(dC (Uj V) hr (al (ai 0) (al (ai 1) aq)) ln2)]⟩)) (by rfl))))) (aQ (aX eK)) bW) (aU (bS (DW.dt (jV (bc bF (aT (ai 0) (ai 1)) aB (aS _)) (kP (bc kX (f9 vw () V.z_int (by rfl) (al (aT (ai 4) aw) aq)) (f9 vw () V.z_int (by rfl) (al (aT (ai 4) aw) aq)) (aS _))))) (aQ (aX eK)) bW) (aQ (aX (bx (bx (ai 1) aw) (bw b6 () V.z_len (by rfl) (al (ai 3) aq))))))))))]
def iF:FQ:=aN 2 (lJ.rec λg _=>g)
def sL:CC "_law_part" 3 3 iF:=lJ.2
def Bl:{g:FS // CC "_law_names_from" 3 2 (aN 2 g)}:=#[_,λV=>
 V.d26.cal (k:=1) vh .(d) λf cdv A outer s H E hr=>
  (aU (cX 3 vh.nd (ai 1)) (aU (IF 2000 mX (DW.dt (jV (bc iT (ai 3) (bw b6 rfl V.z_len (by rfl) (al (ai 0) aq)) (aS _)) (kP (bc jG (aT (ai 0) (ai 3)) aB (aS _))))) (aQ (cX 3 vh.nd (bx (ai 3) aw)))) (aU (cX 4 vh.nd (e8 (ai 0) (eL (ai 1)) (eL (ai 3)))) (aU (bS (DW.dt (cH (bc (IJ (nh hr)) (ai 4) (DO.de (bM aq)) (aS _)) (dq (bc (sk (nh hr)) (DO.de (cM () (CompScope.of rfl rfl) (FvOk.of (N':=["_law_word"]) (fv:=[B]) ()) (cr (ai 4)) ⟨λ_ _ _ _ _=>#[(bO 0 (show(["_law_word"]:Z af).Nodup by nofun)),(zF (bQ (bP (dC (Eo V) hr (al (ai 0) aq) ln1)))),(ai 0)]⟩)) (DO.de (bM aq)) (aS _))))) (aQ (aX eK)) bW) (aU (bS (DW.dt (jV (bP (ai 2)) (kP (bc iT (JU () (iq hr) () V.z_len () V.z_set (ai 4)) (bw b6 () V.z_len (by rfl) (al (ai 4) aq)) (aS _))))) (aQ (aX eK)) bW) (aQ (aX (ai 3))))))))]
def tq:FQ:=aN 2 (Bl.rec λg _=>g)
def HU:CC "_law_names_from" 3 2 tq:=Bl.2
def l5:{g:(FQ)->FS // CCw "_law_within" 2 "_law_end_from" 2 1 λW=>aN 2 (g W)}:=#[_,λV k W cW hk=>
 V.d27.cal (k:=k+0) Bc .(d) λf cdv A outer s H E hr=>
  (aU (cX 2 Bc.nd (wP (gk aB (gk aB (gk aB (gk aB vS)))) (by nofun) (by simp) .(a))) (aU (bS (bc kX (ai 1) (bw b6 rfl V.z_len (by rfl) (al (ai 0) aq)) (aS _)) (aQ (aX eK)) bW) (aU (bS (bc bF (aT (ai 0) (ai 1)) aB (aS _)) (aQ (aX (dz cW hr .(b) () (al (ai 0) (al (dz cW hr .(b) () (al (ai 0) (al (dz (sL V) hr .(b) () (al (ai 0) (al (bx (ai 1) aw) (al (ai 2) aq))) ln3) aq)) ln2) aq)) ln2))) bW) (aU (bS (bc bF (aT (ai 0) (ai 1)) aB (aS _)) (aQ (aX (dz (HU V) hr .(b) () (al (ai 0) (al (bx (ai 1) aw) (al c7 aq))) ln3))) bW) (aU (bS (bc bF (aT (ai 0) (ai 1)) aB (aS _)) (aU (cX 3 Bc.nd (dz (sL V) hr .(b) () (al (ai 0) (al (ai 1) (al (N1 aB aB) aq))) ln3)) (aU (bS (DW.dt (cH (bc vD (ai 3) eK (aS _)) (dq (bc kX (f9 vw () V.z_int (by rfl) (al (aT (ai 0) (bx (ai 1) aw)) aq)) (f9 vw () V.z_int (by rfl) (al (aT (ai 0) (bx (ai 1) aw)) aq)) (aS _))))) (aQ (aX eK)) bW) (aQ (aX (dz (HU V) hr .(b) () (al (ai 0) (al (ai 3) (al c7 aq))) ln3))))) bW) (aQ (aX (dz (sL V) hr .(b) () (al (ai 0) (al (ai 1) (al (wP (gk aB (gk aB (gk aB (gk aB vS)))) (by nofun) (by simp) .(a)) aq))) ln3))))))))]
def kQ (W:FQ):FQ:=aN 2 (l5.rec (λg _=>g) W)
def Oc:CCw "_law_within" 2 "_law_end_from" 2 1 kQ:=l5.2
def vQ:{g:(FQ)->FS // CCw "_law_within" 2 "_law_tree_from" 2 2 λW=>aN 1 (g W)}:=#[_,λV k W cW hk=>
 V.d28.cal (k:=k+1) pA .(d) λf cdv A outer s H E hr=>
  (aU (cX 2 pA.nd (wP (gk aB (gk aB (gk aB (gk aB vS)))) (by nofun) (by simp) .(a))) (aU (IF 2000 mX (DW.dt (jV (bc we (ai 1) eK (aS _)) (jV (bc iT (ai 1) (bw b6 rfl V.z_len (by rfl) (al (ai 0) aq)) (aS _)) (kP (bc jG (aT (ai 0) (ai 1)) aB (aS _)))))) (aQ (bS (bc bF (aT (ai 0) (ai 1)) aB (aS _)) (aU (cX 1 pA.nd (dz (sL V) hr .(b) () (al (ai 0) (al (bx (ai 1) aw) (al (ai 2) aq))) ln3)) (aU (bS (DW.dt (jV (bc we (ai 1) eK (aS _)) (kP (DW.dt (cH (bc kX (ai 1) (bw b6 rfl V.z_len (by rfl) (al (ai 0) aq)) (aS _)) (dq (bc (OG (iq hr)) (aT (ai 0) (ai 1)) (fD (al aB (al aB aq))) (by rfl)))))))) (aQ (cX 1 pA.nd eK)) bW) (aQ (bS (bc we (ai 1) eK (aS _)) (aQ (cX 1 pA.nd (dz cW hr .(b) () (al (ai 0) (al (bx (ai 1) aw) aq)) ln2))) bW)))) (aQ (cX 1 pA.nd (dz (sL V) hr .(b) () (al (ai 0) (al (ai 1) (al (wP (gk aB (gk aB (gk aB vS))) (by nofun) (by simp) .(a)) aq))) ln3)))))) (aU (bS (bc vD (ai 1) eK (aS _)) (aQ (aX eK)) bW) (aQ (aX (dz (Oc V cW hk) hr .(b) () (al (ai 0) (al (bx (ai 1) aw) aq)) ln2))))))]
def oV (W:FQ):FQ:=aN 1 (vQ.rec (λg _=>g) W)
def J1:CCw "_law_within" 2 "_law_tree_from" 2 2 oV:=vQ.2
def kS:{g:(FQ)->FS // CCw "_law_within" 2 "_law_within" 2 3 λW=>aN 1 (g W)}:=#[_,λV k W cW hk=>
 V.d29.cal (k:=k+2) Fg .(d) λf cdv A outer s H E hr=>
  (aU (bS (DW.dt (cH (bc vD (ai 1) eK (aS _)) (cH (bc kX (ai 1) (bw b6 rfl V.z_len (by rfl) (al (ai 0) aq)) (aS _)) (dq (bc jG (aT (ai 0) (ai 1)) aB (aS _)))))) (aQ (aX eK)) bW) (aU (cX 2 Fg.nd (dz (J1 V cW hk) hr .(b) () (al (ai 0) (al (bx (ai 1) aw) aq)) ln2)) (aU (bS (DW.dt (cH (bc vD (ai 2) eK (aS _)) (cH (bc kX (ai 2) (bw b6 rfl V.z_len (by rfl) (al (ai 0) aq)) (aS _)) (dq (bc jG (aT (ai 0) (ai 2)) aB (aS _)))))) (aQ (aX eK)) bW) (aQ (aX (bx (ai 2) aw))))))]
def jW (W:FQ):FQ:=aN 1 (kS.rec (λg _=>g) W)
def WJ:CCw "_law_within" 2 "_law_within" 2 3 jW:=kS.2
def vm:J->FQ
 |0=>λ_=>B
 |n+1=>jW (vm n)
def EH:FQ:=vm 30
def On (V:Vw K mg C_Shop C_TreeWords):Cal .(h) P w K mg base "_law_within" 2 102 EH:=by
 have h:∀n,Cal .(h) P w K mg base "_law_within" 2 (12+3*n) (vm n):=λn=>by
  induction n with
  |zero=>exact Dfn.none (ps:=["_law_words","_law_at"]) V.d29 .(d)
  |succ n ih=>exact WJ V ih (iB _ _)
 exact h 30
def oO:FQ:=oV EH
def Uv (V:Vw K mg C_Shop C_TreeWords):Cal .(h) P w K mg base "_law_tree_from" 2 104 oO:=J1 V (On V) .(a)
def yH:{g:FRs aj // CRi "_law_pick" 1 1 (bH 1 g)}:=#[_,λV=>
 V.d30.calR (k:=0) Gu .(d) λf cdv A outer s H E hr=>
  (aI (bD 2 Gu.nd (GP Kr (ax (ai 1)))) (aI (WG (QW Kr (ax (ai 1)))) (bf (bJ (ax (ai 2))))))]
def c9:FQ':=bH 1 (yH.rec λg _=>g)
def bG:CRi "_law_pick" 1 1 c9:=yH.2
def jK (lO:FQ):FQ:=aN 0
  (bu (sIf (toB (cF e7 (av (vSh 0) (av (vC (.ty "list")) ay)))) (cP (bE (cG (itF (vSh 0)) (bp 0) tT (cF lO (av (vSh 0) ay)) [B]))) dQ) (bu (sIf (toB (cF e7 (av (vSh 0) (av (vC (.ty "tuple")) ay)))) (cP (cF Be (av (bE (cG (itF (vSh 0)) (bp 0) tT (cF lO (av (vSh 0) ay)) [B])) ay))) dQ) (cP (vSh 0))))
def jE:J->FQ
 |0=>λ_=>B
 |n+1=>jK (jE n)
def lO:FQ:=jE 8
def SJ (V:Vw K mg C_Shop C_TreeWords) {k:J} {lO:FQ} (iH:Cal .(h) P w K mg base "fresh" 1 k lO):Cal .(h) P w K mg base "fresh" 1 (k+1) (jK lO):=
 V.d31.cal (k:=k) XI .(d) λf cdv A outer s H E hr=>
  (aU (bS (bP (bw kz () V.z_isinstance (by rfl) (al (ai 0) (al (kI () V.z_list (by rfl)) aq)))) (aQ (aX (DO.de (cM () (CompScope.of rfl rfl) (FvOk.of (N':=["part"]) (fv:=[B]) ()) (cr (ai 0)) ⟨fun _ _ _ _ _=>⟨(bO 0 (show(["part"]:Z af).Nodup by nofun)),cN,(dz iH hr (qx _) () (al (ai 0) aq) ln1)⟩⟩)))) bW) (aU (bS (bP (bw kz () V.z_isinstance (by rfl) (al (ai 0) (al (kI () V.z_tuple (by rfl)) aq)))) (aQ (aX (f9 Oy () V.z_tuple (by rfl) (al (DO.de (cM () (CompScope.of rfl rfl) (FvOk.of (N':=["part"]) (fv:=[B]) ()) (cr (ai 0)) ⟨fun _ _ _ _ _=>⟨(bO 0 (show(["part"]:Z af).Nodup by nofun)),cN,(dz iH hr (qx _) () (al (ai 0) aq) ln1)⟩⟩)) aq)))) bW) (aQ (aX (ai 0)))))
def iH (V:Vw K mg C_Shop C_TreeWords):Cal .(h) P w K mg base "fresh" 1 8 lO:=by
 have h:∀n,Cal .(h) P w K mg base "fresh" 1 n (jE n):=λn=>by
  induction n with
  |zero=>exact Dfn.none (ps:=["thing"]) V.d31 .(d)
  |succ n ih=>exact SJ V ih
 exact h 8
def Gq:{g:FS // CM "Shop" "step_names" 1 1 (aN 0 g)}:=#[_,λV=>
 DfnM.cal (k:=0) V.O_Shop V.d32 ON .(d) λf cdv A outer s H E hr=>
  (aQ (aX (DO.de (cM () (CompScope.of rfl rfl) (FvOk.of (N':=["row"]) (fv:=[B]) rfl) (cr (so V.cf_Shop (.tail _ (.head _)) (ai 0))) ⟨λ_ _ _ _ _=>#[(bO 0 (show(["row"]:Z af).Nodup by nofun)),cN,(aT (ai 0) aw)]⟩))))]
def Bs:FQ:=aN 0 (Gq.rec λg _=>g)
def Bk:CM "Shop" "step_names" 1 1 Bs:=Gq.2
def EL:{g:FS // CM "Shop" "last_moment" 1 1 (aN 0 g)}:=#[_,λV=>
 DfnM.cal (k:=0) V.O_Shop V.d33 X5 .(d) λf cdv A outer s H E hr=>
  (aQ (aX (so V.cf_Shop (.tail _ (.tail _ (.tail _ (.tail _ (.tail _ (.tail _ (.head _))))))) (ai 0))))]
def wq:FQ:=aN 0 (EL.rec λg _=>g)
def vV:CM "Shop" "last_moment" 1 1 wq:=EL.2
def Kh:{g:FS // CM "Shop" "bench_names" 1 1 (aN 0 g)}:=#[_,λV=>
 DfnM.cal (k:=0) V.O_Shop V.d34 NO .(d) λf cdv A outer s H E hr=>
  (aQ (aX (DO.de (cM () (CompScope.of rfl rfl) (FvOk.of (N':=["row"]) (fv:=[B]) rfl) (cr (so V.cf_Shop (.head _) (ai 0))) ⟨λ_ _ _ _ _=>#[(bO 0 (show(["row"]:Z af).Nodup by nofun)),cN,(aT (ai 0) aw)]⟩))))]
def Co:FQ:=aN 0 (Kh.rec λg _=>g)
def KS:CM "Shop" "bench_names" 1 1 Co:=Kh.2
def Ex:{g:FRs aj // CRi "_law_choice" 1 2 (bH 4 g)}:=#[_,λV=>
 V.d35.calR (k:=1) sr .(d) λf cdv A outer s H E hr=>
  (aI (bD 2 sr.nd (ax (gH (Bk V) hr .(a) (ai 1)))) (aI (bD 3 sr.nd (eG (ax (ai 2)) (aY (bG V) aO hr .(a) () (aA (ax (bw b6 () V.z_len (by rfl) (al (ai 2) aq))) (aE aq)) lr1))) (aI (bD 4 sr.nd .(f)) (aI (cb (cq (bc bF (ai 4) aw (aS _))) (bf (bJ (cK (aA (ax aB) (aA (ax (ai 3)) (aA (aY (bG V) aO hr .(a) () (aA (ax (bx (gH (vV V) hr .(a) (ai 1)) aw)) (aE aq)) lr1) (aE aq))))))) b9) (aI (cb (cq (bc bF (ai 4) aw (aS _))) (aI (bD 5 sr.nd (ax (gH (KS V) hr .(a) (ai 1)))) (bf (bJ (cK (aA (ax aB) (aA (ax (ai 3)) (aA (eG (ax (ai 5)) (aY (bG V) aO hr .(a) () (aA (ax (bw b6 () V.z_len (by rfl) (al (ai 5) aq))) (aE aq)) lr1)) (aE aq)))))))) b9) (aI (cb (cq (bc bF (ai 4) aw (aS _))) (bf (bJ (cK (aA (ax aB) (aA (ax (ai 3)) (aA (eG (ax (ai 2)) (aY (bG V) aO hr .(a) () (aA (ax (bw b6 () V.z_len (by rfl) (al (ai 2) aq))) (aE aq)) lr1)) (aE aq))))))) b9) (bf (bJ (ax (fD (al aB (al (ai 3) aq))))))))))))]
def JV:FQ':=bH 4 (Ex.rec λg _=>g)
def HG:CRi "_law_choice" 1 2 JV:=Ex.2
def Ic:{g:FRs aj // CRi "_law_stretch" 1 2 (bH 1 g)}:=#[_,λV=>
 V.d36.calR (k:=1) Kq .(d) λf cdv A outer s H E hr=>
  (aI (bD 2 Kq.nd (aY (bG V) aO hr .(a) () (aA (ax (gH (vV V) hr .(a) (ai 1))) (aE aq)) lr1)) (bf (bJ (cK (aA (ax (ai 2)) (aA (fL (ax (bx (ai 2) aw)) (aY (bG V) aO hr .(a) () (aA (ax (lI (gH (vV V) hr .(a) (ai 1)) (ai 2))) (aE aq)) lr1)) (aE aq)))))))]
def HP:FQ':=bH 1 (Ic.rec λg _=>g)
def HD:CRi "_law_stretch" 1 2 HP:=Ic.2
def IR:{g:FS // CM "Shop" "job_rows" 1 9 (aN 0 g)}:=#[_,λV=>
 DfnM.cal (k:=8) V.O_Shop V.d37 Og .(d) λf cdv A outer s H E hr=>
  (aQ (aX (dC (iH V) hr (al (so V.cf_Shop (.tail _ (.tail _ (.head _))) (ai 0)) aq) ln1)))]
def wb:FQ:=aN 0 (IR.rec λg _=>g)
def B2:CM "Shop" "job_rows" 1 9 wb:=IR.2
def Hw:{g:FS // CM "Shop" "stock_rows" 1 9 (aN 0 g)}:=#[_,λV=>
 DfnM.cal (k:=8) V.O_Shop V.d38 O5 .(d) λf cdv A outer s H E hr=>
  (aQ (aX (dC (iH V) hr (al (so V.cf_Shop (.tail _ (.tail _ (.tail _ (.tail _ (.tail _ (.head _)))))) (ai 0)) aq) ln1)))]
def BR:FQ:=aN 0 (Hw.rec λg _=>g)
def Gp:CM "Shop" "stock_rows" 1 9 BR:=Hw.2
def FC:{g:FRs aj // CRi "_law_leaf" 1 10 (bH 6 g)}:=#[_,λV=>
 V.d39.calR (k:=9) ky .(d) λf cdv A outer s H E hr=>
  (aI (bD 2 ky.nd (ax (gH (Bk V) hr .(a) (ai 1)))) (aI (bD 3 ky.nd .(f)) (aI (cb (cq (bc bF (ai 3) aw (aS _))) (bf (bJ (cK (aA (ax aB) (aA (RO.re (Pv (i2:=2) .(a) () () (CompScope.of rfl rfl) (FvOk.of (N':=["_law_k","_law_names","_law_left_here"]) (fv:=[B,U 2,U 0]) ()) (xk () V.z_range (aA (fL (ax aw) .(f)) (aE aq))) ⟨λ_ _ _ _ _=>#[(bO 0 (show(["_law_k","_law_names","_law_left_here"]:Z af).Nodup by nofun)),LF,(eG (ax (ai 1)) (oT (C:=0) (aY (bG V) iV hr .(a) () (aA (ax (bw b6 rfl V.z_len (by rfl) (al (ai 1) aq))) (aE aq)) lr1)))]⟩)) (aE aq)))))) b9) (aI (cb (cq (bc bF (ai 3) aw (aS _))) (aI (Li (Ah (p6 (jI ()) (p6 (jI ()) yi))) (aY (HD V) aO hr .(a) () (aA (ax (ai 1)) (aE aq)) lr1) (v8 (n:=2) () (lW (bO 4 ky.nd) (lW (bO 5 ky.nd) wY)))) (aI (bD 6 ky.nd (ax (gH (KS V) hr .(a) (ai 1)))) (bf (bJ (cK (aA (ax aB) (aA (TV (ax (ai 6)) (aY (bG V) aO hr .(a) () (aA (ax (bw b6 () V.z_len (by rfl) (al (ai 6) aq))) (aE aq)) lr1)) (aA (ax (ai 4)) (aA (ax (ai 5)) (aE aq)))))))))) b9) (aI (cb (cq (DW.dt (jV (bc bF (ai 3) aw (aS _)) (kP (bc (sk (nh hr)) (gH (B2 V) hr .(a) (ai 1)) (DO.de (bM aq)) (aS _)))))) (aI (Li (Ah (p6 (jI ()) (p6 (jI ()) yi))) (aY (HD V) aO hr .(a) () (aA (ax (ai 1)) (aE aq)) lr1) (v8 (n:=2) () (lW (bO 4 ky.nd) (lW (bO 5 ky.nd) wY)))) (bf (bJ (cK (aA (ax aB) (aA (eG (eG (ax (gH (B2 V) hr .(a) (ai 1))) (aY (bG V) aO hr .(a) () (aA (ax (bw b6 () V.z_len (by rfl) (al (gH (B2 V) hr .(a) (ai 1)) aq))) (aE aq)) lr1)) (ax aw)) (aA (ax (ai 4)) (aA (ax (ai 5)) (aE aq))))))))) b9) (aI (cb (cq (DW.dt (jV (bc bF (ai 3) aw (aS _)) (kP (bc (sk (nh hr)) (gH (Gp V) hr .(a) (ai 1)) (DO.de (bM aq)) (aS _)))))) (aI (bD 7 ky.nd (aY (bG V) aO hr .(a) () (aA (ax (bx (gH (vV V) hr .(a) (ai 1)) aw)) (aE aq)) lr1)) (bf (bJ (cK (aA (ax aB) (aA (ax (aT (aT (gH (Gp V) hr .(a) (ai 1)) aw) aw)) (aA (ax (ai 7)) (aA (eG (ax (DO.de (bM (al aB (al aB aq))))) .(f)) (aE aq))))))))) b9) (aI (cb (cq (bc bF (ai 3) aw (aS _))) (bf (bJ (ax (fD (al aB aq))))) b9) (bf (bJ (cK (aA (ax aB) (aA (eG (ax (ai 2)) (aY (bG V) aO hr .(a) () (aA (ax (bw b6 () V.z_len (by rfl) (al (ai 2) aq))) (aE aq)) lr1)) (aE aq)))))))))))))]
def CA:FQ':=bH 6 (FC.rec λg _=>g)
def Uo:CRi "_law_leaf" 1 10 CA:=FC.2
def D1:{g:FQ'->FRs aj // CRw "_law_tree" 2 "_law_row" 2 1 λW=>bH 4 (g W)}:=#[_,λV k W cW hk=>
 V.d40.calR (k:=k+0) tj .(d) λf cdv A outer s H E hr=>
  (aI (bD 3 tj.nd (ax (gH (Bk V) hr .(b) (ai 1)))) (aI (bD 4 tj.nd (aY (bG V) aO hr .(b) () (aA (ax aw) (aE aq)) lr1)) (aI (cb (cq (DW.dt (jV (bc bF (ai 4) aw (aS _)) (kP (bc pi (ai 2) aw (aS _)))))) (aI (bD 5 tj.nd (aY (HG V) aO hr .(b) () (aA (ax (ai 1)) (aE aq)) lr1)) (bf (bJ (cK (aA (ax aB) (aA (ax (ai 5)) (aA (aY (bG V) aO hr .(b) () (aA (ax aw) (aE aq)) lr1) (aA (aY cW aO hr .(b) () (aA (ax (ai 1)) (aA (ax (lI (ai 2) aw)) (aE aq))) lr2) (aE aq))))))))) b9) (aI (cb (cq (bc bF (ai 4) aw (aS _))) (bf (bJ (cK (aA (ax aB) (aA (eG (ax (ai 3)) (aY (bG V) aO hr .(b) () (aA (ax (bw b6 () V.z_len (by rfl) (al (ai 3) aq))) (aE aq)) lr1)) (aE aq)))))) b9) (aI (bD 6 tj.nd (eG (ax (ai 3)) (aY (bG V) aO hr .(b) () (aA (ax (bw b6 () V.z_len (by rfl) (al (ai 3) aq))) (aE aq)) lr1))) (bf (bJ (cK (aA (ax (aT (DO.de (bM (al aB (al aB aq)))) (ww (ai 4) aw))) (aA (ax (ai 6)) (aA (eG (ax (ai 3)) (aY (bG V) aO hr .(b) () (aA (ax (bw b6 () V.z_len (by rfl) (al (ai 3) aq))) (aE aq)) lr1)) (aE aq))))))))))))]
def Im (W:FQ'):FQ':=bH 4 (D1.rec (λg _=>g) W)
def Yf:CRw "_law_tree" 2 "_law_row" 2 1 Im:=D1.2
def K5:{g:FQ'->FRs aj // CRw "_law_tree" 2 "_law_tree" 2 2 λW=>bH 3 (g W)}:=#[_,λV k W cW hk=>
 V.d41.calR (k:=k+1) vT .(d) λf cdv A outer s H E hr=>
  (aI (AH (i2:=1) 3 vT.nd () .(a) () () (CompScope.of rfl rfl) (FvOk.of (N':=["_law_k","_law_left_here","_law_shop_here","_law_deep"]) (fv:=[B,U 0,U 1,U 2]) ()) (xk () V.z_range (aA (aY (bG V) aO hr .(b) () (aA (ax aw) (aE aq)) lr1) (aE aq))) ⟨λ_ _ _ _ _=>#[(bO 0 (show(["_law_k","_law_left_here","_law_shop_here","_law_deep"]:Z af).Nodup by nofun)),LF,(oT (aY (Yf V cW hk) iV hr .(b) () (aA (ax (ai 2)) (aA (ax (ai 3)) (aE aq))) lr2))]⟩) (aI (cb (RW.rt (vF (cq (bc pi (ai 2) aw (aS _))) (A6 (fV bF (aY (bG V) aO hr .(b) () (aA (ax aw) (aE aq)) lr1) (ax aw) (aS _))))) (aI (bD 4 vT.nd (aY (HG V) aO hr .(b) () (aA (ax (ai 1)) (aE aq)) lr1)) (aI (bD 5 vT.nd (aY cW aO hr .(b) () (aA (ax (ai 1)) (aA (ax (lI (ai 2) aw)) (aE aq))) lr2)) (bf (bJ (cK (aA (ax (ai 3)) (aA (cK (aA (ax aB) (aA (ax (ai 4)) (aA (ax (ai 5)) (aA (aY cW aO hr .(b) () (aA (ax (ai 1)) (aA (ax (lI (ai 2) aw)) (aE aq))) lr2) (aE aq)))))) (aE aq)))))))) b9) (bf (bJ (cK (aA (ax (ai 3)) (aA (aY (Uo V) aO hr .(b) () (aA (ax (ai 1)) (aE aq)) lr1) (aE aq))))))))]
def zR (W:FQ'):FQ':=bH 3 (K5.rec (λg _=>g) W)
def Rn:CRw "_law_tree" 2 "_law_tree" 2 2 zR:=K5.2
def pE:J->FQ'
 |0=>λ_ _ _=>B
 |n+1=>zR (pE n)
def zT:FQ':=pE 8
def UN (V:Vw K mg C_Shop C_TreeWords):CalR rgI .(h) P w K mg base CT "_law_tree" 2 28 zT:=by
 have h:∀n,CalR rgI .(h) P w K mg base CT "_law_tree" 2 (12+2*n) (pE n):=λn=>by
  induction n with
  |zero=>exact Dfn.noneR (ps:=["_law_left_here","_law_shop_here","_law_deep"]) V.d41 .(d)
  |succ n ih=>exact Rn V ih (iB _ _)
 exact h 8
def E4:{g:FS // ∀{P:b7} {w:bU} {K:aJ} {mg:af->ak au} {base:Heap} {C_Shop C_TreeWords:ar},Vw K mg C_Shop C_TreeWords->CalO .(h) P w K mg base "_law_left" 2 1 (pU 2 g)}:=#[_,λV=>
 V.d42.calO (k:=0) wX .(d) λf cdv A outer s H E hr=>
  (aU (cX 2 wX.nd aw) (aU (bS (bc iT (ai 1) (bw b6 rfl V.z_len (by rfl) (al (ai 0) aq)) (aS _)) (aQ (cX 2 wX.nd (aT (ai 0) (ai 1)))) bW) (aU (bS (bc kX (ai 2) (sx aw aw) (aS _)) (aQ (Hr (bM (al (ww (ai 2) (SW (sx aw aw) (sx aw aw))) aq)))) bW) (aU (cX 3 wX.nd (bx (ww (bx (bx (ai 2) (oM (oM aw (ai 1)) (ai 1))) (oM aw (bw b6 rfl V.z_len (by rfl) (al (ai 0) aq)))) aw) aw)) (aQ (Hr (bM (al (Xk (sx (bx (oM (ai 3) aw) aw) aw) aw) aq))))))))]
def tL:Z D->ak (Z D):=pU 2 (E4.rec λg _=>g)
def Sw:∀{P:b7} {w:bU} {K:aJ} {mg:af->ak au} {base:Heap} {C_Shop C_TreeWords:ar},Vw K mg C_Shop C_TreeWords->CalO .(h) P w K mg base "_law_left" 2 1 tL:=E4.2
def IP:{g:FRs aj // CRi "_law_benches" 2 2 (bH 4 g)}:=#[_,λV=>
 V.d43.calR (k:=1) oI .(d) λf cdv A outer s H E hr=>
  (aI (mi 3 oI.nd (wc (bM aq))) (aI (xo (jI ()) yc () (xk () V.z_range (aA (fL (ax aw) .(f)) (aE aq))) (bO 4 oI.nd) (aI (bD 5 oI.nd (ax (DO.de (bM aq)))) (aI (cb (fV bF .(f) (ax aw) (aS _)) (aI (bD 6 oI.nd (aY (bG V) aO hr .(a) () (aA (ax (ai 2)) (aE aq)) lr1)) (bf (bD 5 oI.nd (RO.re (oW (aA (cK (aA (ax (ai 6)) (aA (fL (ax (bx (ai 6) aw)) (aY (bG V) aO hr .(a) () (aA (ax (lI (ai 2) (ai 6))) (aE aq)) lr1)) (aE aq)))) (aE aq))))))) b9) (bf (mh 3 (ax (fD (al (bx (aT aB (ai 4)) (ai 1)) (al (ai 5) aq))))))))) (mw 3 (bf (bJ (ax (ai 3)))))))]
def xx:FQ':=bH 4 (IP.rec λg _=>g)
def Ra:CRi "_law_benches" 2 2 xx:=IP.2
def GA:{g:FRs aj // CRi "_law_steps" 3 2 (bH 4 g)}:=#[_,λV=>
 V.d44.calR (k:=1) tE .(d) λf cdv A outer s H E hr=>
  (aI (mi 4 tE.nd (wc (bM aq))) (aI (xo (jI ()) yc () (xk () V.z_range (aA (fL (ax aw) .(f)) (aE aq))) (bO 5 tE.nd) (aI (bD 6 tE.nd (aY (bG V) aO hr .(a) () (aA (ax (bw b6 () V.z_len (by rfl) (al (ai 2) aq))) (aE aq)) lr1)) (aI (mi 7 tE.nd (oW (aA (cK (aA (ax (aT (aT (ai 2) (ai 6)) aw)) (aA (fL (ax aw) (aY (bG V) aO hr .(a) () (aA (ax (bw (u6 ()) () V.z_min (by rfl) (al aw (al (ai 3) aq)))) (aE aq)) lr1)) (aE aq)))) (aE aq)))) (aI (cb (RW.rt (vF (cq (bc bF (bw b6 () V.z_len (by rfl) (al (ai 2) aq)) aw (aS _))) (vF (fV bF .(f) (ax aw) (aS _)) (A6 (cq (bc iT (ai 5) aw (aS _))))))) (bf (mh 7 (cK (aA (ax (aT (aT (ai 2) (lI aw (ai 6))) aw)) (aA (fL (ax aw) (aY (bG V) aO hr .(a) () (aA (ax (bw (u6 ()) () V.z_min (by rfl) (al aw (al (ai 3) aq)))) (aE aq)) lr1)) (aE aq)))))) b9) (mw 7 (bf (mh 4 (cK (aA (ax (bx (ai 1) (aT aB (ai 5)))) (aA (eG (ax aB) .(f)) (aA (ax (ai 7)) (aE aq)))))))))))) (mw 4 (bf (bJ (ax (ai 4)))))))]
def wj:FQ':=bH 4 (GA.rec λg _=>g)
def UO:CRi "_law_steps" 3 2 wj:=GA.2
def IL:{g:FRs aj // CRi "_law_links" 2 2 (bH 3 g)}:=#[_,λV=>
 V.d45.calR (k:=1) vN .(d) λf cdv A outer s H E hr=>
  (aI (cb (RW.rt (Jx (cq (bc iT (bw b6 rfl V.z_len (by rfl) (al (ai 1) aq)) aw (aS _))) (Et (fV jG .(f) (ax aw) (aS _))))) (bf (bJ (ax (DO.de (bM aq))))) b9) (aI (bD 3 vN.nd (aY (bG V) aO hr .(a) () (aA (ax (bw b6 rfl V.z_len (by rfl) (al (ai 1) aq))) (aE aq)) lr1)) (aI (bD 4 vN.nd (GP (fL (ax (bx (ai 3) aw)) (aY (bG V) aO hr .(a) () (aA (ax (lI (bw b6 rfl V.z_len (by rfl) (al (ai 1) aq)) aw)) (aE aq)) lr1)) (ax (bw b6 rfl V.z_len (by rfl) (al (ai 1) aq))))) (aI (mi 5 vN.nd (oW (aA (cK (aA (ax (aT (ai 1) (ai 3))) (aA (ax (aT (ai 1) (ai 4))) (aA (aY (bG V) aO hr .(a) () (aA (ax (bw (u6 ()) () V.z_min (by rfl) (al aw (al (bx (ai 2) aw) aq)))) (aE aq)) lr1) (aE aq))))) (aE aq)))) (aI (cb (fV bF .(f) (ax aw) (aS _)) (bf (mh 5 (ax (fD (al (aT (ai 1) (ai 4)) (al (aT (ai 1) (ai 3)) (al aw aq))))))) b9) (mw 5 (bf (bJ (ax (ai 5))))))))))]
def uS:FQ':=bH 3 (IL.rec λg _=>g)
def PU:CRi "_law_links" 2 2 uS:=IL.2
def Ax:{g:FS // CC "is_whole" 1 1 (aN 0 g)}:=#[_,λV=>
 V.d46.cal (k:=0) VS .(d) λf cdv A outer s H E hr=>
  (aQ (aX (eZ (bw kz () V.z_isinstance (by rfl) (al (ai 0) (al (kI () V.z_int (by rfl)) aq))) (fK (TF (bw kz () V.z_isinstance (by rfl) (al (ai 0) (al (kI () V.z_bool (by rfl)) aq))))))))]
def yS:FQ:=aN 0 (Ax.rec λg _=>g)
def Wo:CC "is_whole" 1 1 yS:=Ax.2
def zw:{g:FS // CC "is_within" 3 2 (aN 0 g)}:=#[_,λV=>
 V.d47.cal (k:=1) Vy .(d) λf cdv A outer s H E hr=>
  (aQ (aX (eZ (dC (Wo V) hr (al (ai 0) aq) ln1) (fK (wK iy iy (ai 1) (ai 0) (ai 2))))))]
def AW:FQ:=aN 0 (zw.rec λg _=>g)
def iP:CC "is_within" 3 2 AW:=zw.2
def Cb:{g:FS // CC "is_tuple" 2 1 (aN 0 g)}:=#[_,λV=>
 V.d48.cal (k:=0) TQ .(d) λf cdv A outer s H E hr=>
  (aQ (aX (eZ (bw kz () V.z_isinstance (by rfl) (al (ai 0) (al (kI () V.z_tuple (by rfl)) aq))) (fK (gE bF (bw b6 rfl V.z_len (by rfl) (al (ai 0) aq)) (ai 1) (aS _))))))]
def nC:FQ:=aN 0 (Cb.rec λg _=>g)
def kE:CC "is_tuple" 2 1 nC:=Cb.2
def Ck:{g:FS // CC "is_break" 2 3 (aN 0 g)}:=#[_,λV=>
 V.d49.cal (k:=2) RJ .(d) λf cdv A outer s H E hr=>
  (aU (bS (DW.dt (cH (bQ (bP (dC (kE V) hr (al (ai 0) (al aw aq)) ln2))) (cH (bQ (bP (dC (iP V) hr (al (aT (ai 0) aw) (al aw (al (ai 1) aq))) ln3))) (dq (bQ (bP (dC (iP V) hr (al (aT (ai 0) aw) (al aw (al (ai 1) aq))) ln3))))))) (aQ (aX c7)) bW) (aQ (aX (gE iT (aT (ai 0) aw) (aT (ai 0) aw) (aS _)))))]
def Ad:FQ:=aN 0 (Ck.rec λg _=>g)
def W6:CC "is_break" 2 3 Ad:=Ck.2
def zS:{g:FS // CC "is_list" 3 1 (aN 0 g)}:=#[_,λV=>
 V.d50.cal (k:=0) U7 .(d) λf cdv A outer s H E hr=>
  (aQ (aX (eZ (bw kz () V.z_isinstance (by rfl) (al (ai 0) (al (kI () V.z_list (by rfl)) aq))) (fK (wK iy iy (ai 1) (bw b6 rfl V.z_len (by rfl) (al (ai 0) aq)) (ai 2))))))]
def zX:FQ:=aN 0 (zS.rec λg _=>g)
def jT:CC "is_list" 3 1 zX:=zS.2
def HA:{g:FS // CC "are_breaks" 2 4 (aN 0 g)}:=#[_,λV=>
 V.d51.cal (k:=3) Ue .(d) λf cdv A outer s H E hr=>
  (aU (bS (DW.dt (cH (bQ (bP (dC (jT V) hr (al (ai 0) (al aw (al (eX () V.k_MOST_BREAKS) aq))) ln3))) (dq (bQ (bP (bw (gV ()) () V.z_all (by rfl) (al (DO.de (cM () (CompScope.of rfl rfl) (FvOk.of (N':=["row","horizon"]) (fv:=[B,U 1]) ()) (cr (ai 0)) ⟨λ_ _ _ _ _=>#[(bO 0 (show(["row","horizon"]:Z af).Nodup by nofun)),cN,(dC (W6 V) hr (al (ai 0) (al (ai 1) aq)) ln2)]⟩)) aq))))))) (aQ (aX c7)) bW) (aQ (aX (bw (gV ()) () V.z_all (by rfl) (al (DO.de (cM () (CompScope.of rfl rfl) (FvOk.of (N':=["place","breaks"]) (fv:=[B,U 0]) ()) (WD () V.z_range (al aw (al (bw b6 rfl V.z_len (by rfl) (al (ai 0) aq)) aq))) ⟨λ_ _ _ _ _=>#[(bO 0 (show(["place","breaks"]:Z af).Nodup by nofun)),cN,(gE iT (aT (aT (ai 1) (lI (ai 0) aw)) aw) (aT (aT (ai 1) (ai 0)) aw) (aS _))]⟩)) aq)))))]
def GJ:FQ:=aN 0 (HA.rec λg _=>g)
def S2:CC "are_breaks" 2 4 GJ:=HA.2
def A7:{g:FS // CC "is_bench" 2 5 (aN 0 g)}:=#[_,λV=>
 V.d52.cal (k:=4) Rb .(d) λf cdv A outer s H E hr=>
  (aQ (aX (eZ (dC (kE V) hr (al (ai 0) (al aw aq)) ln2) (eZ (dC (jR V) hr (al (aT (ai 0) aw) aq) ln1) (fK (dC (S2 V) hr (al (aT (ai 0) aw) (al (ai 1) aq)) ln2))))))]
def zZ:FQ:=aN 0 (A7.rec λg _=>g)
def Wb:CC "is_bench" 2 5 zZ:=A7.2
def Hg:{g:FS // CC "are_benches" 2 6 (aN 0 g)}:=#[_,λV=>
 V.d53.cal (k:=5) TJ .(d) λf cdv A outer s H E hr=>
  (aU (bS (DW.dt (cH (bQ (bP (dC (jT V) hr (al (ai 0) (al aw (al (eX () V.k_MOST_BENCHES) aq))) ln3))) (dq (bQ (bP (bw (gV ()) () V.z_all (by rfl) (al (DO.de (cM () (CompScope.of rfl rfl) (FvOk.of (N':=["row","horizon"]) (fv:=[B,U 1]) ()) (cr (ai 0)) ⟨λ_ _ _ _ _=>#[(bO 0 (show(["row","horizon"]:Z af).Nodup by nofun)),cN,(dC (Wb V) hr (al (ai 0) (al (ai 1) aq)) ln2)]⟩)) aq))))))) (aQ (aX c7)) bW) (aQ (aX (dC (jY V) hr (al (DO.de (cM () (CompScope.of rfl rfl) (FvOk.of (N':=["row"]) (fv:=[B]) rfl) (cr (ai 0)) ⟨fun _ _ _ _ _=>⟨(bO 0 (show(["row"]:Z af).Nodup by nofun)),cN,(aT (ai 0) aw)⟩⟩)) aq) ln1))))]
def La:FQ:=aN 0 (Hg.rec λg _=>g)
def WX:CC "are_benches" 2 6 La:=Hg.2
def Cd:{g:FS // CC "is_one_of" 2 2 (aN 0 g)}:=#[_,λV=>
 V.d54.cal (k:=1) Ya .(d) λf cdv A outer s H E hr=>
  (aQ (aX (eZ (dC (jR V) hr (al (ai 0) aq) ln1) (fK (gE (LD (iq hr)) (ai 0) (ai 1) (by rfl))))))]
def Ch:FQ:=aN 0 (Cd.rec λg _=>g)
def pW:CC "is_one_of" 2 2 Ch:=Cd.2
def Al:{g:FS // CC "is_way" 3 3 (aN 0 g)}:=#[_,λV=>
 V.d55.cal (k:=2) Qp .(d) λf cdv A outer s H E hr=>
  (aQ (aX (eZ (dC (kE V) hr (al (ai 0) (al aw aq)) ln2) (eZ (dC (pW V) hr (al (aT (ai 0) aw) (al (ai 1) aq)) ln2) (fK (dC (iP V) hr (al (aT (ai 0) aw) (al aw (al (ai 2) aq))) ln3))))))]
def yK:FQ:=aN 0 (Al.rec λg _=>g)
def Sf:CC "is_way" 3 3 yK:=Al.2
def Iz:{g:FS // CC "are_ways" 3 4 (aN 0 g)}:=#[_,λV=>
 V.d56.cal (k:=3) UT .(d) λf cdv A outer s H E hr=>
  (aU (bS (DW.dt (cH (bQ (bP (dC (jT V) hr (al (ai 0) (al aw (al (eX () V.k_MOST_WAYS) aq))) ln3))) (dq (bQ (bP (bw (gV ()) () V.z_all (by rfl) (al (DO.de (cM () (CompScope.of rfl rfl) (FvOk.of (N':=["row","bench_names","horizon"]) (fv:=[B,U 1,U 2]) ()) (cr (ai 0)) ⟨λ_ _ _ _ _=>#[(bO 0 (show(["row","bench_names","horizon"]:Z af).Nodup by nofun)),cN,(dC (Sf V) hr (al (ai 0) (al (ai 1) (al (ai 2) aq))) ln3)]⟩)) aq))))))) (aQ (aX c7)) bW) (aQ (aX (dC (jY V) hr (al (DO.de (cM () (CompScope.of rfl rfl) (FvOk.of (N':=["row"]) (fv:=[B]) rfl) (cr (ai 0)) ⟨fun _ _ _ _ _=>⟨(bO 0 (show(["row"]:Z af).Nodup by nofun)),cN,(aT (ai 0) aw)⟩⟩)) aq) ln1))))]
def Jl:FQ:=aN 0 (Iz.rec λg _=>g)
def N6:CC "are_ways" 3 4 Jl:=Iz.2
def yJ:{g:FS // CC "is_step" 3 5 (aN 0 g)}:=#[_,λV=>
 V.d57.cal (k:=4) V' .(d) λf cdv A outer s H E hr=>
  (aU (bS (DW.dt (cH (bQ (bP (dC (kE V) hr (al (ai 0) (al aw aq)) ln2))) (cH (bQ (bP (dC (jR V) hr (al (aT (ai 0) aw) aq) ln1))) (dq (bQ (bP (dC (jR V) hr (al (aT (ai 0) aw) aq) ln1))))))) (aQ (aX c7)) bW) (aQ (aX (dC (N6 V) hr (al (aT (ai 0) aw) (al (ai 1) (al (ai 2) aq))) ln3))))]
def Cc:FQ:=aN 0 (yJ.rec λg _=>g)
def UJ:CC "is_step" 3 5 Cc:=yJ.2
def Kc:{g:FS // CC "are_steps" 3 6 (aN 0 g)}:=#[_,λV=>
 V.d58.cal (k:=5) UE .(d) λf cdv A outer s H E hr=>
  (aU (bS (DW.dt (cH (bQ (bP (dC (jT V) hr (al (ai 0) (al aw (al (eX () V.k_MOST_STEPS) aq))) ln3))) (dq (bQ (bP (bw (gV ()) () V.z_all (by rfl) (al (DO.de (cM () (CompScope.of rfl rfl) (FvOk.of (N':=["row","bench_names","horizon"]) (fv:=[B,U 1,U 2]) ()) (cr (ai 0)) ⟨λ_ _ _ _ _=>#[(bO 0 (show(["row","bench_names","horizon"]:Z af).Nodup by nofun)),cN,(dC (UJ V) hr (al (ai 0) (al (ai 1) (al (ai 2) aq))) ln3)]⟩)) aq))))))) (aQ (aX c7)) bW) (aQ (aX (dC (jY V) hr (al (DO.de (cM () (CompScope.of rfl rfl) (FvOk.of (N':=["row"]) (fv:=[B]) rfl) (cr (ai 0)) ⟨fun _ _ _ _ _=>⟨(bO 0 (show(["row"]:Z af).Nodup by nofun)),cN,(aT (ai 0) aw)⟩⟩)) aq) ln1))))]
def KA:FQ:=aN 0 (Kc.rec λg _=>g)
def UI:CC "are_steps" 3 6 KA:=Kc.2
def Jq:{g:FS // CC "is_job" 3 3 (aN 0 g)}:=#[_,λV=>
 V.d59.cal (k:=2) XQ .(d) λf cdv A outer s H E hr=>
  (aU (bS (DW.dt (cH (bQ (bP (dC (kE V) hr (al (ai 0) (al aw aq)) ln2))) (cH (bQ (bP (dC (jR V) hr (al (aT (ai 0) aw) aq) ln1))) (dq (bQ (bP (bw kz () V.z_isinstance (by rfl) (al (aT (ai 0) aw) (al (kI () V.z_bool (by rfl)) aq))))))))) (aQ (aX c7)) bW) (aU (bS (DW.dt (cH (bQ (bP (dC (iP V) hr (al (aT (ai 0) aw) (al aw (al (ai 2) aq))) ln3))) (dq (bQ (bP (dC (iP V) hr (al (aT (ai 0) aw) (al aw (al (ai 2) aq))) ln3)))))) (aQ (aX c7)) bW) (aQ (aX (eZ (dC (jT V) hr (al (aT (ai 0) aw) (al aw (al (bw b6 rfl V.z_len (by rfl) (al (ai 1) aq)) aq))) ln3) (fK (bw (gV ()) () V.z_all (by rfl) (al (DO.de (cM () (CompScope.of rfl rfl) (FvOk.of (N':=["name","step_names"]) (fv:=[B,U 1]) ()) (cr (aT (ai 0) aw)) ⟨λ_ _ _ _ _=>#[(bO 0 (show(["name","step_names"]:Z af).Nodup by nofun)),cN,(dC (pW V) hr (al (ai 0) (al (ai 1) aq)) ln2)]⟩)) aq))))))))]
def Jw:FQ:=aN 0 (Jq.rec λg _=>g)
def Q7:CC "is_job" 3 3 Jw:=Jq.2
def FY:{g:FS // CC "are_jobs" 3 4 (aN 2 g)}:=#[_,λV=>
 V.d60.cal (k:=3) zD .(d) λf cdv A outer s H E hr=>
  (aU (bS (DW.dt (cH (bQ (bP (dC (jT V) hr (al (ai 0) (al aw (al (eX () V.k_MOST_JOBS) aq))) ln3))) (dq (bQ (bP (bw (gV ()) () V.z_all (by rfl) (al (DO.de (cM () (CompScope.of rfl rfl) (FvOk.of (N':=["row","step_names","horizon"]) (fv:=[B,U 1,U 2]) ()) (cr (ai 0)) ⟨λ_ _ _ _ _=>#[(bO 0 (show(["row","step_names","horizon"]:Z af).Nodup by nofun)),cN,(dC (Q7 V) hr (al (ai 0) (al (ai 1) (al (ai 2) aq))) ln3)]⟩)) aq))))))) (aQ (aX c7)) bW) (aU (BE 3 zD.nd (bM aq)) (aU (pM mX () (cr (ai 0)) (bO 4 zD.nd) (aQ (tz 3 (aT (ai 4) aw)))) (EC 3 (aQ (aX (eZ (dC (jY V) hr (al (DO.de (cM () (CompScope.of rfl rfl) (FvOk.of (N':=["row"]) (fv:=[B]) rfl) (cr (ai 0)) ⟨fun _ _ _ _ _=>⟨(bO 0 (show(["row"]:Z af).Nodup by nofun)),cN,(aT (ai 0) aw)⟩⟩)) aq) ln1) (fK (dC (jY V) hr (al (ai 3) aq) ln1)))))))))]
def EI:FQ:=aN 2 (FY.rec λg _=>g)
def Oj:CC "are_jobs" 3 4 EI:=FY.2
def Bf:{g:FS // CC "is_setup" 3 3 (aN 0 g)}:=#[_,λV=>
 V.d61.cal (k:=2) Re .(d) λf cdv A outer s H E hr=>
  (aU (bS (DW.dt (cH (bQ (bP (dC (kE V) hr (al (ai 0) (al aw aq)) ln2))) (dq (bQ (bP (dC (pW V) hr (al (aT (ai 0) aw) (al (ai 1) aq)) ln2)))))) (aQ (aX c7)) bW) (aQ (aX (eZ (dC (jR V) hr (al (aT (ai 0) aw) aq) ln1) (eZ (dC (jR V) hr (al (aT (ai 0) aw) aq) ln1) (fK (dC (iP V) hr (al (aT (ai 0) aw) (al aw (al (ai 2) aq))) ln3)))))))]
def AK:FQ:=aN 0 (Bf.rec λg _=>g)
def N9:CC "is_setup" 3 3 AK:=Bf.2
def Jr:{g:FS // CC "are_setups" 3 4 (aN 0 g)}:=#[_,λV=>
 V.d62.cal (k:=3) VM .(d) λf cdv A outer s H E hr=>
  (aU (bS (DW.dt (cH (bQ (bP (dC (jT V) hr (al (ai 0) (al aw (al (eX () V.k_MOST_SETUPS) aq))) ln3))) (dq (bQ (bP (bw (gV ()) () V.z_all (by rfl) (al (DO.de (cM () (CompScope.of rfl rfl) (FvOk.of (N':=["row","bench_names","horizon"]) (fv:=[B,U 1,U 2]) ()) (cr (ai 0)) ⟨λ_ _ _ _ _=>#[(bO 0 (show(["row","bench_names","horizon"]:Z af).Nodup by nofun)),cN,(dC (N9 V) hr (al (ai 0) (al (ai 1) (al (ai 2) aq))) ln3)]⟩)) aq))))))) (aQ (aX c7)) bW) (aQ (aX (dC (jY V) hr (al (DO.de (cM () (CompScope.of rfl rfl) (FvOk.of (N':=["row"]) (fv:=[B]) rfl) (cr (ai 0)) ⟨λ_ _ _ _ _=>#[(bO 0 (show(["row"]:Z af).Nodup by nofun)),cN,(e8 (ai 0) fC (eL aw))]⟩)) aq) ln1))))]
def Eh:FQ:=aN 0 (Jr.rec λg _=>g)
def OZ:CC "are_setups" 3 4 Eh:=Jr.2
def BQ:{g:FS // CC "is_link" 3 3 (aN 0 g)}:=#[_,λV=>
 V.d63.cal (k:=2) WP .(d) λf cdv A outer s H E hr=>
  (aU (bS (DW.dt (cH (bQ (bP (dC (kE V) hr (al (ai 0) (al aw aq)) ln2))) (cH (bQ (bP (dC (pW V) hr (al (aT (ai 0) aw) (al (ai 1) aq)) ln2))) (dq (bQ (bP (dC (pW V) hr (al (aT (ai 0) aw) (al (ai 1) aq)) ln2))))))) (aQ (aX c7)) bW) (aQ (aX (eZ (gE (sk (nh hr)) (aT (ai 0) aw) (aT (ai 0) aw) (aS _)) (fK (dC (iP V) hr (al (aT (ai 0) aw) (al aw (al (ai 2) aq))) ln3))))))]
def AS:FQ:=aN 0 (BQ.rec λg _=>g)
def Wn:CC "is_link" 3 3 AS:=BQ.2
def FK:{g:FS // CC "are_links" 3 4 (aN 0 g)}:=#[_,λV=>
 V.d64.cal (k:=3) QK .(d) λf cdv A outer s H E hr=>
  (aU (bS (DW.dt (cH (bQ (bP (dC (jT V) hr (al (ai 0) (al aw (al (eX () V.k_MOST_LINKS) aq))) ln3))) (dq (bQ (bP (bw (gV ()) () V.z_all (by rfl) (al (DO.de (cM () (CompScope.of rfl rfl) (FvOk.of (N':=["row","step_names","horizon"]) (fv:=[B,U 1,U 2]) ()) (cr (ai 0)) ⟨λ_ _ _ _ _=>#[(bO 0 (show(["row","step_names","horizon"]:Z af).Nodup by nofun)),cN,(dC (Wn V) hr (al (ai 0) (al (ai 1) (al (ai 2) aq))) ln3)]⟩)) aq))))))) (aQ (aX c7)) bW) (aQ (aX (dC (jY V) hr (al (DO.de (cM () (CompScope.of rfl rfl) (FvOk.of (N':=["row"]) (fv:=[B]) rfl) (cr (ai 0)) ⟨λ_ _ _ _ _=>#[(bO 0 (show(["row"]:Z af).Nodup by nofun)),cN,(e8 (ai 0) fC (eL aw))]⟩)) aq) ln1))))]
def IM:FQ:=aN 0 (FK.rec λg _=>g)
def Xm:CC "are_links" 3 4 IM:=FK.2
def B4:{g:FS // CC "is_amount" 2 3 (aN 0 g)}:=#[_,λV=>
 V.d65.cal (k:=2) VO .(d) λf cdv A outer s H E hr=>
  (aQ (aX (eZ (dC (kE V) hr (al (ai 0) (al aw aq)) ln2) (eZ (dC (pW V) hr (al (aT (ai 0) aw) (al (ai 1) aq)) ln2) (fK (dC (iP V) hr (al (aT (ai 0) aw) (al aw (al (eX () V.k_MOST_AMOUNT) aq))) ln3))))))]
def yx:FQ:=aN 0 (B4.rec λg _=>g)
def PZ:CC "is_amount" 2 3 yx:=B4.2
def G9:{g:FS // CC "are_amounts" 2 4 (aN 0 g)}:=#[_,λV=>
 V.d66.cal (k:=3) Sv .(d) λf cdv A outer s H E hr=>
  (aU (bS (DW.dt (cH (bQ (bP (dC (jT V) hr (al (ai 0) (al aw (al (bw b6 rfl V.z_len (by rfl) (al (ai 1) aq)) aq))) ln3))) (dq (bQ (bP (bw (gV ()) () V.z_all (by rfl) (al (DO.de (cM () (CompScope.of rfl rfl) (FvOk.of (N':=["row","step_names"]) (fv:=[B,U 1]) ()) (cr (ai 0)) ⟨λ_ _ _ _ _=>#[(bO 0 (show(["row","step_names"]:Z af).Nodup by nofun)),cN,(dC (PZ V) hr (al (ai 0) (al (ai 1) aq)) ln2)]⟩)) aq))))))) (aQ (aX c7)) bW) (aQ (aX (dC (jY V) hr (al (DO.de (cM () (CompScope.of rfl rfl) (FvOk.of (N':=["row"]) (fv:=[B]) rfl) (cr (ai 0)) ⟨fun _ _ _ _ _=>⟨(bO 0 (show(["row"]:Z af).Nodup by nofun)),cN,(aT (ai 0) aw)⟩⟩)) aq) ln1))))]
def Lq:FQ:=aN 0 (G9.rec λg _=>g)
def GO:CC "are_amounts" 2 4 Lq:=G9.2
def AR:{g:FS // CC "is_stock" 2 5 (aN 0 g)}:=#[_,λV=>
 V.d67.cal (k:=4) Sd .(d) λf cdv A outer s H E hr=>
  (aU (bS (DW.dt (cH (bQ (bP (dC (kE V) hr (al (ai 0) (al aw aq)) ln2))) (dq (bQ (bP (dC (jR V) hr (al (aT (ai 0) aw) aq) ln1)))))) (aQ (aX c7)) bW) (aU (bS (DW.dt (cH (bQ (bP (dC (iP V) hr (al (aT (ai 0) aw) (al aw (al (eX () V.k_MOST_AMOUNT) aq))) ln3))) (dq (bQ (bP (dC (iP V) hr (al (aT (ai 0) aw) (al aw (al (aT (ai 0) aw) aq))) ln3)))))) (aQ (aX c7)) bW) (aQ (aX (eZ (dC (GO V) hr (al (aT (ai 0) aw) (al (ai 1) aq)) ln2) (fK (dC (GO V) hr (al (aT (ai 0) aw) (al (ai 1) aq)) ln2)))))))]
def B6:FQ:=aN 0 (AR.rec λg _=>g)
def Oz:CC "is_stock" 2 5 B6:=AR.2
def Fu:{g:FS // CC "are_stocks" 2 6 (aN 0 g)}:=#[_,λV=>
 V.d68.cal (k:=5) Qe .(d) λf cdv A outer s H E hr=>
  (aU (bS (DW.dt (cH (bQ (bP (dC (jT V) hr (al (ai 0) (al aw (al (eX () V.k_MOST_STOCKS) aq))) ln3))) (dq (bQ (bP (bw (gV ()) () V.z_all (by rfl) (al (DO.de (cM () (CompScope.of rfl rfl) (FvOk.of (N':=["row","step_names"]) (fv:=[B,U 1]) ()) (cr (ai 0)) ⟨λ_ _ _ _ _=>#[(bO 0 (show(["row","step_names"]:Z af).Nodup by nofun)),cN,(dC (Oz V) hr (al (ai 0) (al (ai 1) aq)) ln2)]⟩)) aq))))))) (aQ (aX c7)) bW) (aQ (aX (dC (jY V) hr (al (DO.de (cM () (CompScope.of rfl rfl) (FvOk.of (N':=["row"]) (fv:=[B]) rfl) (cr (ai 0)) ⟨fun _ _ _ _ _=>⟨(bO 0 (show(["row"]:Z af).Nodup by nofun)),cN,(aT (ai 0) aw)⟩⟩)) aq) ln1))))]
def EF:FQ:=aN 0 (Fu.rec λg _=>g)
def OL:CC "are_stocks" 2 6 EF:=Fu.2
def DR:{g:FS // CC "first_bad_part" 7 7 (aN 2 g)}:=#[_,λV=>
 V.d69.cal (k:=6) Cs .(d) λf cdv A outer s H E hr=>
  (aU (bS (bQ (bP (dC (iP V) hr (al (ai 6) (al aw (al (eX () V.k_MOST_HORIZON) aq))) ln3))) (aQ (aX aB)) bW) (aU (bS (bQ (bP (dC (WX V) hr (al (ai 0) (al (ai 6) aq)) ln2))) (aQ (aX aB)) bW) (aU (KL 7 Cs.nd () (CompScope.of rfl rfl) (FvOk.of (N':=["row"]) (fv:=[B]) rfl) (cr (ai 0)) ⟨λ_ _ _ _ _=>#[(bO 0 (show(["row"]:Z af).Nodup by nofun)),cN,(aT (ai 0) aw)]⟩) (aU (bS (bQ (bP (dC (UI V) hr (al (ai 1) (al (ai 7) (al (ai 6) aq))) ln3))) (aQ (aX aB)) bW) (aU (KL 8 Cs.nd () (CompScope.of rfl rfl) (FvOk.of (N':=["row"]) (fv:=[B]) rfl) (cr (ai 1)) ⟨λ_ _ _ _ _=>#[(bO 0 (show(["row"]:Z af).Nodup by nofun)),cN,(aT (ai 0) aw)]⟩) (aU (bS (bQ (bP (dC (Oj V) hr (al (ai 2) (al (ai 8) (al (ai 6) aq))) ln3))) (aQ (aX aB)) bW) (aU (bS (bQ (bP (dC (OZ V) hr (al (ai 3) (al (ai 7) (al (ai 6) aq))) ln3))) (aQ (aX aB)) bW) (aU (bS (bQ (bP (dC (Xm V) hr (al (ai 4) (al (ai 8) (al (ai 6) aq))) ln3))) (aQ (aX aB)) bW) (aU (bS (bQ (bP (dC (OL V) hr (al (ai 5) (al (ai 8) aq)) ln2))) (aQ (aX aB)) bW) (aQ (aX eK)))))))))))]
def EY:FQ:=aN 2 (DR.rec λg _=>g)
def Pp:CC "first_bad_part" 7 7 EY:=DR.2
def Hd:{g:FS // ∀{P:b7} {w:bU} {K:aJ} {mg:af->ak au} {base:Heap} {C_Shop C_TreeWords:ar},Vw K mg C_Shop C_TreeWords->CalI .(h) P w K mg base "Shop" 7 9 (pw 3 "Shop" g)}:=#[_,λV=>
 DfnM.calI (k:=8) V.O_Shop V.d70 vM .(d) λf y cdv A outer s H E hr=>
  (aU (cX 8 vM.nd (dz ((Pp V).re y) hr .(a) () (al (ai 1) (al (ai 2) (al (ai 3) (al (ai 4) (al (ai 5) (al (ai 6) (al (ai 7) aq))))))) ln7)) (aU (bS (bc we (ai 8) eK (aS _)) (aQ Xq) bW) (aU (gO 0 (V.cf_Shop.re y) (.head _) (dz ((iH V).re y) hr .(a) () (al (ai 1) aq) ln1)) (aU (gO 0 (V.cf_Shop.re y) (.tail _ (.head _)) (dz ((iH V).re y) hr .(a) () (al (ai 2) aq) ln1)) (aU (gO 0 (V.cf_Shop.re y) (.tail _ (.tail _ (.head _))) (dz ((iH V).re y) hr .(a) () (al (ai 3) aq) ln1)) (aU (gO 0 (V.cf_Shop.re y) (.tail _ (.tail _ (.tail _ (.head _)))) (dz ((iH V).re y) hr .(a) () (al (ai 4) aq) ln1)) (aU (gO 0 (V.cf_Shop.re y) (.tail _ (.tail _ (.tail _ (.tail _ (.head _))))) (dz ((iH V).re y) hr .(a) () (al (ai 5) aq) ln1)) (aU (gO 0 (V.cf_Shop.re y) (.tail _ (.tail _ (.tail _ (.tail _ (.tail _ (.head _)))))) (dz ((iH V).re y) hr .(a) () (al (ai 6) aq) ln1)) (aU (gO 0 (V.cf_Shop.re y) (.tail _ (.tail _ (.tail _ (.tail _ (.tail _ (.tail _ (.head _))))))) (ai 7)) (aU (gO 0 (V.cf_Shop.re y) (.tail _ (.tail _ (.tail _ (.tail _ (.tail _ (.tail _ (.tail _ (.head _)))))))) (f9 (J4 () (iq hr)) () V.z_dict (by rfl) (al (DO.de (cM () (CompScope.of rfl rfl) (FvOk.of (N':=["row"]) (fv:=[B]) rfl) (cr (wf 0 (V.cf_Shop.re y) (.head _))) ⟨λ_ _ _ _ _=>#[(bO 0 (show(["row"]:Z af).Nodup by nofun)),cN,(fD (al (aT (ai 0) aw) (al (ai 0) aq)))]⟩)) aq))) (aU (gO 0 (V.cf_Shop.re y) (.tail _ (.tail _ (.tail _ (.tail _ (.tail _ (.tail _ (.tail _ (.tail _ (.head _))))))))) (f9 (J4 () (iq hr)) () V.z_dict (by rfl) (al (DO.de (cM () (CompScope.of rfl rfl) (FvOk.of (N':=["row"]) (fv:=[B]) rfl) (cr (wf 0 (V.cf_Shop.re y) (.tail _ (.head _)))) ⟨λ_ _ _ _ _=>#[(bO 0 (show(["row"]:Z af).Nodup by nofun)),cN,(fD (al (aT (ai 0) aw) (al (ai 0) aq)))]⟩)) aq))) (aU (gO 0 (V.cf_Shop.re y) (.tail _ (.tail _ (.tail _ (.tail _ (.tail _ (.tail _ (.tail _ (.tail _ (.tail _ (.head _)))))))))) (f9 (Pd () (iq hr)) () V.z_dict (by rfl) (al (DO.de (cM () (CompScope.of rfl rfl) (FvOk.of (N':=["row"]) (fv:=[B]) rfl) (cr (wf 0 (V.cf_Shop.re y) (.tail _ (.tail _ (.tail _ (.head _)))))) ⟨λ_ _ _ _ _=>#[(bO 0 (show(["row"]:Z af).Nodup by nofun)),cN,(fD (al (e8 (ai 0) fC (eL aw)) (al (aT (ai 0) aw) aq)))]⟩)) aq))) (aU (Sg 0 (V.cf_Shop.re y) (.tail _ (.tail _ (.tail _ (.tail _ (.tail _ (.tail _ (.tail _ (.tail _ (.tail _ (.tail _ (.head _)))))))))))) (aQ (pM mX () (cr (wf 0 (V.cf_Shop.re y) (.tail _ (.tail _ (.head _))))) (bO 9 vM.nd) (aQ (pM mX () (cr (aT (ai 9) aw)) (bO 10 vM.nd) (aQ (Sn 0 (iq hr) (V.cf_Shop.re y) (.tail _ (.tail _ (.tail _ (.tail _ (.tail _ (.tail _ (.tail _ (.tail _ (.tail _ (.tail _ (.head _))))))))))) (ai 10) (ai 9))))))))))))))))))))]
def AV:FQ:=pw 3 "Shop" (Hd.rec λg _=>g)
def Xs:∀{P:b7} {w:bU} {K:aJ} {mg:af->ak au} {base:Heap} {C_Shop C_TreeWords:ar},Vw K mg C_Shop C_TreeWords->CalI .(h) P w K mg base "Shop" 7 9 AV:=Hd.2
def LU:{g:FRs aj // CRi "_law_stocks" 1 2 (bH 4 g)}:=#[_,λV=>
 V.d71.calR (k:=1) sF .(d) λf cdv A outer s H E hr=>
  (aI (cb (fV bF .(f) (ax aw) (aS _)) (bf (bJ (ax (DO.de (bM aq))))) b9) (aI (bD 2 sF.nd .(f)) (aI (bD 3 sF.nd (aY (bG V) aO hr .(a) () (aA (ax (bx (ai 2) aw)) (aE aq)) lr1)) (aI (AH (i2:=1) 4 sF.nd () .(a) () () (CompScope.of rfl rfl) (FvOk.of (N':=["_law_name","_law_left_here"]) (fv:=[B,U 0]) ()) (vK (cr (ai 1))) ⟨λ_ _ _ _ _=>#[(bO 0 (show(["_law_name","_law_left_here"]:Z af).Nodup by nofun)),(J6 (fV bF (oT (C:=0) (aY (bG V) iV hr .(a) () (aA (ax aw) (aE aq)) lr1)) (ax aw) (aS _))),(cK (aA (ax (ai 0)) (aA (fL (ax aw) (oT (C:=0) (aY (bG V) iV hr .(a) () (aA (ax aw) (aE aq)) lr1))) (aE aq))))]⟩) (aI (AH (i2:=1) 5 sF.nd () .(a) () () (CompScope.of rfl rfl) (FvOk.of (N':=["_law_name","_law_left_here"]) (fv:=[B,U 0]) ()) (vK (cr (ai 1))) ⟨λ_ _ _ _ _=>#[(bO 0 (show(["_law_name","_law_left_here"]:Z af).Nodup by nofun)),(J6 (fV bF (oT (C:=0) (aY (bG V) iV hr .(a) () (aA (ax aw) (aE aq)) lr1)) (ax aw) (aS _))),(cK (aA (ax (ai 0)) (aA (fL (ax aw) (oT (C:=0) (aY (bG V) iV hr .(a) () (aA (ax aw) (aE aq)) lr1))) (aE aq))))]⟩) (bf (bJ (ax (DO.de (bM (al (fD (al aB (al (ai 3) (al (ai 2) (al (ai 4) (al (ai 5) aq)))))) aq)))))))))))]
def xz:FQ':=bH 4 (LU.rec λg _=>g)
def QF:CRi "_law_stocks" 1 2 xz:=LU.2
def JD:{g:FRs aj // CRi "_law_jobs" 2 2 (bH 4 g)}:=#[_,λV=>
 V.d72.calR (k:=1) pK .(d) λf cdv A outer s H E hr=>
  (aI (cb (fV bF .(f) (ax aw) (aS _)) (bf (bJ (ax (DO.de (bM aq))))) b9) (aI (bD 3 pK.nd (fL (ax aw) (aY (bG V) aO hr .(a) () (aA (ax (bw b6 rfl V.z_len (by rfl) (al (ai 1) aq))) (aE aq)) lr1))) (aI (bD 4 pK.nd (ax (e8 (ai 1) fC (eL (ai 3))))) (aI (cb (fV bF .(f) (ax aw) (aS _)) (bf (bD 4 pK.nd (ax (Wp (ai 4))))) b9) (aI (bD 5 pK.nd (eG (ax (DO.de (bM (al aw (al aw (al aw aq)))))) .(f))) (aI (mi 6 pK.nd (oW (aA (cK (aA (ax aB) (aA (ax (ai 5)) (aA (UD (ax (ai 2)) (eG (ax (DO.de (bM (al aw (al aw (al aw aq)))))) .(f))) (aA (zU bF .(f) (ax aw) (aS _)) (aA (ax (ai 4)) (aE aq))))))) (aE aq)))) (aI (cb (RW.rt (vF (cq (bc iT (ai 3) (bw b6 rfl V.z_len (by rfl) (al (ai 1) aq)) (aS _))) (A6 (fV bF .(f) (ax aw) (aS _))))) (bf (mh 6 (cK (aA (ax aB) (aA (ax aw) (aA (ax (ai 2)) (aA (zU bF .(f) (ax aw) (aS _)) (aA (ax (e8 (ai 1) (eL (ai 3)) fC)) (aE aq))))))))) b9) (mw 6 (bf (bJ (ax (ai 6))))))))))))]
def xf:FQ':=bH 4 (JD.rec λg _=>g)
def TC:CRi "_law_jobs" 2 2 xf:=JD.2
def KR:{g:FRs aj // CRi "_law_shop" 0 11 (bH 9 g)}:=#[_,λV=>
 V.d73.calR (k:=10) jP .(d) λf cdv A outer s H E hr=>
  (aI (bD 1 jP.nd (fL (ax aw) .(f))) (aI (bD 2 jP.nd (eG (ax (DO.de (bM (al aB (al aB (al aB (al aB aq))))))) .(f))) (aI (bD 3 jP.nd (aY (Ra V) aO hr .(a) () (aA (ax (ai 2)) (aA (ax (ai 1)) (aE aq))) lr2)) (aI (bD 4 jP.nd (aY (UO V) aO hr .(a) () (aA (ax (ai 2)) (aA (ax (ai 3)) (aA (ax (ai 1)) (aE aq)))) lr3)) (aI (PX 5 jP.nd () () (CompScope.of rfl rfl) (FvOk.of (N':=["_law_step"]) (fv:=[B]) ()) (cr (ai 4)) ⟨λ_ _ _ _ _=>#[(bO 0 (show(["_law_step"]:Z af).Nodup by nofun)),cN,(aT (ai 0) aw)]⟩) (aI (mi 6 jP.nd (wc (bM aq))) (aI (xo (Ah (p6 (jI ()) (p6 (jI ()) yi))) yc () (vK (cr (ai 3))) (v8 (n:=2) () (lW (bO 7 jP.nd) (lW (bO 8 jP.nd) wY))) (bf (cb (fV bF .(f) (ax aw) (aS _)) (bf (mh 6 (cK (aA (ax (ai 7)) (aA (ax aB) (aA (eG (ax aB) .(f)) (aA (fL (ax aw) .(f)) (aE aq)))))))) b9))) (aI (bD 9 jP.nd (aY (PU V) aO hr .(a) () (aA (ax (ai 5)) (aA (ax (ai 1)) (aE aq))) lr2)) (mw 6 (bf (bJ (Ur (Xs V) hr .(a) () (aA (ax (ai 3)) (aA (ax (ai 4)) (aA (aY (TC V) aO hr .(a) () (aA (ax (ai 5)) (aA (ax (ai 1)) (aE aq))) lr2) (aA (ax (ai 6)) (aA (ax (ai 9)) (aA (aY (QF V) aO hr .(a) () (aA (ax (ai 5)) (aE aq)) lr1) (aA (ax (ai 1)) (aE aq)))))))) lr7))))))))))))]
def tU:FQ':=bH 9 (KR.rec λg _=>g)
def Um:CRi "_law_shop" 0 11 tU:=KR.2
def JM:{g:FS // CC "show_tree" 1 73 (aN 0 g)}:=#[_,λV=>
 V.d74.cal (k:=72) QR .(d) λf cdv A outer s H E hr=>
  (aQ (aX (kU lx rZ sd nL aB (al (dC (Ov V) hr (al (ai 0) aq) ln1) aq))))]
def kK:FQ:=aN 0 (JM.rec λg _=>g)
def Go:CC "show_tree" 1 73 kK:=JM.2
def IU:{g:FRs aj // ∀{P:b7} {w:bU} {K:aJ} {mg:af->ak au} {base:Heap} {C_Shop C_TreeWords:ar} {CT:ar},Vw K mg C_Shop C_TreeWords->CalR2 rgI .(h) P w K mg base CT "_law_spoilt" 2 (uf 4 g)}:=#[_,λV=>
 V.d75.calR2 (k:=1) ug .(d) λf cdv A outer s H E hr=>
  (aI (bD 2 ug.nd (ax (kU lx uM Nr zP (ai 0) (al aB aq)))) (aI (bD 3 ug.nd (aY (bG V) aO hr .(a) () (aA (ax (bw b6 () V.z_len (by rfl) (al (ai 2) aq))) (aE aq)) lr1)) (aI (bD 4 ug.nd .(f)) (aI (bD 5 ug.nd (eG (ax (DO.de (bM (al aB (al aB (al aB (al aB (al aB (al aB (al aB (al aB (al aB (al aB (al aB (al aB aq))))))))))))))) .(f))) (aI (cb (cq (bc bF (ai 4) aw (aS _))) (bf (bJ (ax (kU lx rZ sd nL aB (al (bx (e8 (ai 2) fC (eL (ai 3))) (e8 (ai 2) (eL (bx (ai 3) aw)) fC)) aq))))) b9) (aI (cb (cq (bc bF (ai 4) aw (aS _))) (bf (bJ (ax (kU lx rZ sd nL aB (al (bx (bx (e8 (ai 2) fC (eL (ai 3))) (DO.de (bM (al (aT (ai 2) (ai 3)) aq)))) (e8 (ai 2) (eL (ai 3)) fC)) aq))))) b9) (aI (cb (cq (bc bF (ai 4) aw (aS _))) (bf (bJ (ax (kU lx rZ sd nL aB (al (bx (bx (e8 (ai 2) fC (eL (ai 3))) (DO.de (bM (al (ai 5) aq)))) (e8 (ai 2) (eL (bx (ai 3) aw)) fC)) aq))))) b9) (aI (cb (cq (bc bF (ai 4) aw (aS _))) (bf (bJ (ax (kU lx rZ sd nL aB (al (bx (bx (e8 (ai 2) fC (eL (ai 3))) (DO.de (bM (al (ai 5) aq)))) (e8 (ai 2) (eL (ai 3)) fC)) aq))))) b9) (aI (cb (cq (bc bF (ai 4) aw (aS _))) (bf (bJ (eG (ax (DO.de (bM (al (bx (ai 0) aB) (al (bx aB (ai 0)) (al (bx (ai 0) aB) (al (bx (ai 0) aB) (al (bx aB (ai 0)) (al (bx (ai 0) aB) aq))))))))) .(f)))) b9) (bf (bJ (AC rZ sd nL (ax aB) (aA (fL (fL (ax (e8 (ai 2) fC (eL (ai 3)))) (RO.re (oW (aA (eG (ax (DO.de (bM (al aB (al aB (al aB (al aB (al aB (al aB aq))))))))) .(f)) (aE aq))))) (ax (e8 (ai 2) (eL (bx (ai 3) aw)) fC))) (aE aq))))))))))))))]
def tW:(ar->D->aj->ak (ak (D×aj))):=uf 4 (IU.rec λg _=>g)
def R8:∀{P:b7} {w:bU} {K:aJ} {mg:af->ak au} {base:Heap} {C_Shop C_TreeWords:ar} {CT:ar},Vw K mg C_Shop C_TreeWords->CalR2 rgI .(h) P w K mg base CT "_law_spoilt" 2 tW:=IU.2
def LV:{g:FS // ∀{P:b7} {w:bU} {K:aJ} {mg:af->ak au} {base:Heap} {C_Shop C_TreeWords:ar},Vw K mg C_Shop C_TreeWords->CalIR .(h) P w K mg base "TreeWords" 1 1 (vo 0 "TreeWords" g)}:=#[_,λV=>
 DfnM.calIR (k:=0) V.O_TreeWords V.d76 Qo .(d) λf y cdv A outer s H E hr=>
  (aU (gO 0 (V.cf_TreeWords.re y) (.head _) (ai 1)) (aU (gO 0 (V.cf_TreeWords.re y) (.tail _ (.head _)) aw) (aQ (gO 0 (V.cf_TreeWords.re y) (.tail _ (.tail _ (.head _))) aw))))]
def HJ:Z D->ak Fs:=vo 0 "TreeWords" (LV.rec λg _=>g)
def R4:∀{P:b7} {w:bU} {K:aJ} {mg:af->ak au} {base:Heap} {C_Shop C_TreeWords:ar},Vw K mg C_Shop C_TreeWords->CalIR .(h) P w K mg base "TreeWords" 1 1 HJ:=LV.2
def yV:{g:FRs Fs // CMr "is_behind_all" 0 1 (bH 0 g)}:=#[_,λV=>
 DfnM.calR (k:=0) V.O_TreeWords V.d77 Wf .(d) λf cdv A outer s H E hr=>
  (bf (bJ (zU bF (kL V.cf_TreeWords (.tail _ (.head _))) (G6 b6 () V.z_len (by rfl) (aA (kL V.cf_TreeWords (.head _)) (aE aq))) (aS _))))]
def yM:FW':=bH 0 (yV.rec λg _=>g)
def Qb:CMr "is_behind_all" 0 1 yM:=yV.2
def tK:{g:FZ // ∀{P:b7} {w:bU} {K:aJ} {mg:af->ak au} {base:Heap} {C_Shop C_TreeWords:ar} {CT:ar},Vw K mg C_Shop C_TreeWords->me CT mg base->CalZ .(h) P w K mg base CT "read_tree" 1 105 (ny 2 g)}:=#[_,λV OT=>
 V.d78.calZ (k:=104) BH .(d) λf cdv A outer s H E hr=>
  (Wz (Xx (bQ (bP (bw kz () V.z_isinstance (by rfl) (al (ai 0) (al (kI () V.z_str (by rfl)) aq))))) (R7 (Wu OT lA () (al aB aq) (λY ds h=>by rw[ln1 Y ds h];decide))) UX) (Wa (j:=1) (R4 V) hr .(a) () (al (kU lx uM Nr zP (ai 0) (al aB aq)) aq) ln1 BH.nd (aI (bD 2 BH.nd (aY (Tw V OT) aO hr .(a) () (aA (ax aw) (aE aq)) lr1)) (aI (cb (By (wQ (dS (Qb V) aO hr .(a)))) (bf (kB OT lA () (al aB aq) (fun Y ds h=>by rw[ln1 Y ds h];decide))) b9) (bf (bJ (ax (ai 2))))))))]
def gU:Z D->ak (ak D):=ny 2 (tK.rec λg _=>g)
def QS:∀{P:b7} {w:bU} {K:aJ} {mg:af->ak au} {base:Heap} {C_Shop C_TreeWords:ar} {CT:ar},Vw K mg C_Shop C_TreeWords->me CT mg base->CalZ .(h) P w K mg base CT "read_tree" 1 105 gU:=tK.2
def fH:FQ:=sS gU kK
def wC {CG CM:ar} (V:Vw K mg C_Shop C_TreeWords) (XR:XRt K mg base CT CS CH CR' CP CG CM CY):Cal .(h) P w K mg base "_law_right" 2 106 fH:=
 We V.d79 XR.no XR.R V.z_isinstance V.z_ValueError (QS V XR.OT) (Go V) .(a) .(a) .(a)
def Kk:{g:FS // CC "_law_none" 1 1 (aN 1 g)}:=#[_,λV=>
 V.d80.cal (k:=0) gP .(d) λf cdv A outer s H E hr=>
  (aU (cX 1 gP.nd (DO.de (bM (al aB (al aB (al aB (al aB (al aB (al aB (al aB (al aB (al aB (al aB aq))))))))))))) (aU (cX 1 gP.nd (bx (ai 1) (DO.de (bM (al aB (al aB (al aB (al aB aq)))))))) (aU (cX 1 gP.nd (bx (ai 1) (DO.de (bM (al aB (al aB (al aB (al aB (al aB (al aB aq)))))))))) (aU (cX 1 gP.nd (bx (ai 1) (DO.de (bM (al aB (al aB (al aB (al aB (al aB aq))))))))) (aU (cX 1 gP.nd (bx (ai 1) (DO.de (bM (al aB (al aB (al aB (al aB aq)))))))) (aU (cX 1 gP.nd (bx (ai 1) (DO.de (bM (al aB (al aB (al aB (al aB aq)))))))) (aU (cX 1 gP.nd (bx (ai 1) (DO.de (bM (al aB (al aB (al aB aq))))))) (aU (cX 1 gP.nd (bx (ai 1) (DO.de (bM (al aB (al aB (al aB aq))))))) (aU (cX 1 gP.nd (bx (ai 1) (DO.de (bM (al aB (al aB aq)))))) (aU (cX 1 gP.nd (bx (ai 1) (DO.de (bM (al aB (al aB (al aB (al aB aq)))))))) (aU (cX 1 gP.nd (bx (ai 1) (DO.de (bM (al aB (al aB aq)))))) (aU (cX 1 gP.nd (bx (ai 1) (DO.de (bM (al aB (al (bx (bx aB (oM aB aw)) aB) aq)))))) (aQ (aX (aT (ai 1) (ww (ai 0) (bw b6 rfl V.z_len (by rfl) (al (ai 1) aq))))))))))))))))))]
def sH:FQ:=aN 1 (Kk.rec λg _=>g)
def Py:CC "_law_none" 1 1 sH:=Kk.2
abbrev zwa:FRs aj:=bI (dN 6 (rBm jD (pf tW 2 (vSh 4)) (aV (rP (vC (.str " "))) (rP ay)))) (qIf (rP (cL (toB (cF fH (av (mF kJ (vC (.str " ")) (av (vSh 6) ay)) (av (b2 eqD (cF oO (av (vSh 6) (av (vC (.int 0)) ay))) (cF cu (av (vSh 6) ay))) ay)))))) (eO (rP (vC (.bl ao)))) eh)
abbrev zwb:FRs aj:=bI (qIf (rOr (rP (cL (toB (cF fH (av (vSh 7) (av (vC (.bl ao)) ay)))))) (rM (rM (rM (aV (rM (aV (ck c9 2 (aV (rP (b2 nI (vC (.int 10)) (vC (.int 6)))) (rP ay))) (rP ay)) sH) (aV (rP (vC (.bl ao))) (rP ay))) fH) blD) fun b=>U (!b))) (eO (rP (vC (.bl ao)))) eh) (qIf (rP (cL (toB (cF fH (av (vSh 4) (av (vC (.bl ah)) ay)))))) (eO (rP (vC (.bl ao)))) eh)
abbrev zwc:FRs aj:=m9 (rP (itF (vSh 3))) (kH 2 (gW (bp 7) (gW (bp 8) kC))) (qIf (rM (r2 eqD (ck c9 0 (aV (rP (vC (.int 3))) (rP ay))) (rP (vC (.int 1)))) blD) (iK 6 (rM (aV (rP (vSh 7)) (aV (rP (vC (.str "k"))) (aV (r2 ixD (rP (vC (.str "km"))) (ck c9 0 (aV (rP (vC (.int 2))) (rP ay)))) (aV (r2 bZ (rP (vC (.int 1))) (ck c9 0 (aV (rP (vC (.int 2))) (rP ay)))) (rP ay))))) kW)) eh)
abbrev zwd:FRs aj:=bI (dN 3 (ck tU 2 (rP ay))) (bI (dN 4 (rM (aV (ck zT 2 (aV (rP (vSh 3)) (aV (rP (vC (.int 2))) (rP ay)))) (rP ay)) kK)) (bI (m9 (rP (itR iw (av (vC (.int 4)) ay))) (bp 5) zwa) (bI (dN 7 (r2 ixD (rP (bE (szF (av (vC .non) (av (vC (.bl ah)) (av (vC (.int 7)) (av (bE (szF (av (vC (.str "; moved")) ay))) (av (fE (szF (av (vC (.str "; moved")) ay))) (av (vC (.dk [])) (av (fE (szF (av (bE (szF ay)) (av (fE (szF (av (vC (.str "moved")) ay))) ay)))) ay)))))))))) (ck c9 2 (aV (rP (vC (.int 7))) (rP ay))))) zwb)))
abbrev Jf:FS:=
  (bu (fS (itR iw (av (cF tM (av (vC (.int 12)) (av (b2 bZ (cF cu (av (vSh 0) ay)) (vC (.int 1))) ay))) ay)) (bp 1) (bu (nN 2 (cFO tL (av (vSh 0) (av (vSh 1) ay)))) (pq 2 zwd))) (cP (vC (.bl ah))))
def D7:FQ:=aN 7 Jf
def Xz {CG CM:ar} (V:Vw K mg C_Shop C_TreeWords) (XR:XRt K mg base CT CS CH CR' CP CG CM CY) (f:ar) (cdv:au) (A:dh) (outer:Z cD) (s:aF) (H:Hp) (E:XK) (hr:Room 106 (A.deeper (bR "law" (aD (top 100)) s.heap.objs.size f cdv))):DSs .(h) (cB CX0 P w K mg base ["_law_script","_law_k","_law_left_here","_law_shop_here","_law_text","_law_turn","_law_some","_law_thing"] "law" (aD (top 100)) f cdv A outer s H E).nox (cI (top 100)) Jf:=
  (aU (pM mX () (Fe () V.z_range (al (bw (u6 ()) () V.z_min (by rfl) (al aw (al (bx (bw b6 rfl V.z_len (by rfl) (al (ai 0) aq)) aw) aq))) aq)) (bO 1 lL.nd) (aU (BE 2 lL.nd (Sq (Sw V) hr .(a) () (al (ai 0) (al (ai 1) aq)) ln2)) (U8 (ac:=noX (.ref CT) B) (aI (bD 3 lL.nd (aY (Um V) iV hr .(a) () (aE aq) lr0)) (aI (bD 4 lL.nd (xl (Go V) hr .(a) () (aA (aY (UN V) iV hr .(a) () (aA (ax (ai 3)) (aA (ax aw) (aE aq))) lr2) (aE aq)) lr1)) (aI (xo (jI ()) mX () (vK (Fe () V.z_range (al aw aq))) (bO 5 lL.nd) (aI (bD 6 lL.nd (AC uM Nr zP (Wy (R8 V) iV hr .(a) () (ai 4)) (aA (ax aB) (aE aq)))) (bf (cb (cq (bQ (bP (dC (wC V XR) hr (al (kU lx rZ sd nL aB (al (ai 6) aq)) (al (gE bF (dC (Uv V) hr (al (ai 6) (al aw aq)) ln2) (bw b6 () V.z_len (by rfl) (al (ai 6) aq)) (aS _)) aq)) ln2)))) (bf (bJ (ax c7))) b9)))) (aI (bD 7 lL.nd (eG (ax (DO.de (bM (al eK (al c7 (al aw (al (DO.de (bM (al aB aq))) (al (fD (al aB aq)) (al VI (al (fD (al (DO.de (bM aq)) (al (fD (al aB aq)) aq))) aq)))))))))) (aY (bG V) iV hr .(a) () (aA (ax aw) (aE aq)) lr1))) (aI (cb (RW.rt (Jx (cq (bQ (bP (dC (wC V XR) hr (al (ai 7) (al c7 aq)) ln2)))) (Et (By (wQ (xl (wC V XR) hr .(a) () (aA (xl (Py V) hr .(a) () (aA (aY (bG V) iV hr .(a) () (aA (ax (sx aw aw)) (aE aq)) lr1) (aE aq)) lr1) (aA (ax c7) (aE aq))) lr2)))))) (bf (bJ (ax c7))) b9) (bf (cb (cq (bQ (bP (dC (wC V XR) hr (al (ai 4) (al c7 aq)) ln2)))) (bf (bJ (ax c7))) b9)))))))))) (aQ (aX c7)))
def i2:fU "int" "int"=U ah:=rfl
def i3:fU "int" "bool"=U ao:=rfl
def i5:fU "bool" "bool"=U ah:=rfl
def j1:fU "str" "str"=U ah:=rfl
def k1:fU "list" "list"=U ah:=rfl
def k2:fU "tuple" "list"=U ao:=rfl
def k3:fU "tuple" "tuple"=U ah:=rfl
def k4:fU "str" "list"=U ao:=rfl
def k5:fU "str" "tuple"=U ao:=rfl
def k6:fU "int" "list"=U ao:=rfl
def k7:fU "int" "tuple"=U ao:=rfl
def k8:fU "bool" "list"=U ao:=rfl
def k9:fU "bool" "tuple"=U ao:=rfl
def k10:fU "NoneType" "list"=U ao:=rfl
def k11:fU "NoneType" "tuple"=U ao:=rfl
def sz2:(1+1<=aH)=True:=by simp[aH]
def sz3:(1+1+1<=aH)=True:=by simp[aH]
section
variable {x0 x1 x2 x3 x4:D} {r:Z D}
def kD (l:Z α) (n:J):atI l (n:aj)=l[n]?:=by
 unfold atI ixN;rw[qZ .(b)];by_cases h:n<l.length
 .rw[qZ .(b)];simp
 .rw[xa .(b)];simp;lia
def eV:ixD (.tup (x0::r)) (.int 0)=U x0:=kD _ 0
def gn:ixD (.tup (x0::x1::r)) (.int 1)=U x1:=kD _ 1
def lM:ixD (.tup (x0::x1::x2::r)) (.int 2)=U x2:=kD _ 2
def nR:ixD (.tup (x0::x1::x2::x3::r)) (.int 3)=U x3:=kD _ 3
def tN:ixD (.tup (x0::x1::x2::x3::x4::r)) (.int 4)=U x4:=kD _ 4
end
theorem Ar {fe:FE} {r:bj} {f:D->D}:∀{xs:Z D} {a:ak Slot},(∀x∈xs,fe (oS x::r)=U (f x))->fP (bp 0) tT fe xs (a::r)=U (xs.map f)
 |[],_,_=>rfl
 |x::xs,a,h=>by have h1:=h x qf;have ih:=Ar (xs:=xs) (a:=oS x) λy hy=>h y (qg _ hy);simp only[fP,bp,ko,qa,tT,dc,h1,ih,qd,qp]
theorem KM:∀{l:Z D},(∀x∈l,x=.bl ah)->∃bs:Z aR,md l=U bs/\bs.all id=ah
 |[],_=>#[[],(),()]
 |x::r,h=>by obtain⟨bs,h1,h2⟩:=KM (l:=r) λy hy=>h y (qg _ hy);have hx:=h x qf;subst hx;exact#[ah::bs,by simp[md,h1],by simpa using h2]
def oJ {r:bj} {a:ak Slot} {xs:Z D} (h1:fi Y=U xs) (h2:xs.length<=aH) (h3:gu fv Y=a::r) (h:∀x∈xs,fe (oS x::r)=U (.bl ah)) :
  cF nF (av (bE (cG fi (bp 0) tT fe fv)) ay) Y=U (.bl ah):=by
 have c:=Ar (a:=a) (f:=λ_=>.bl ah) h;obtain⟨bs,e1,e2⟩:=KM (l:=xs.map λ_=>D.bl ah) (by simp);simp only[cF,av,ay,bE,cG,h1,qa,qZ h2,h3,c,qd,nF,e1];simpa using e2
def m8 {r:bj} {a:ak Slot} {xs:Z D} {f:D->D} (h1:fi Y=U xs) (h2:xs.length<=aH) (h3:gu fv Y=a::r) (h:∀x∈xs,fe (oS x::r)=U (f x)) :
  bE (cG fi (bp 0) tT fe fv) Y=U (.lst (xs.map f)):=by
 simp only[bE,cG,h1,qa,qZ h2,h3,Ar (a:=a) h,qd]
def wW {body:FS} {xs:Z D} (I:J->bj->Prop) (h0:I 0 Y) (hs:∀i x Y,xs[i]?=U x->I i Y->∃ρ1 ρ2,gg x Y=U ρ1/\body ρ1=U (.nx,ρ2)/\I (i+1) ρ2) :
  ∃KK,fF gg body xs Y=U (.nx,KK)/\I xs.length KK:=by
 have key:∀(ys:Z D) (k:J) (Y:bj),xs.drop k=ys->I k Y->∃KK,fF gg body ys Y=U (.nx,KK)/\I (k+ys.length) KK:=by
  intro ys
  induction ys with
  |nil=>intro k Y _ hk;exact#[Y,(),hk]
  |cons y r ih=>
   intro k Y hd hk;have hy:xs[k]?=U y:=by
    have:(xs.drop k)[0]?=U y:=by rw[hd];rfl
    simpa using this
   obtain⟨ρ1,ρ2,h1,h2,h3⟩:=hs k y Y hy hk;have hd':xs.drop (k+1)=r:=by rw[<-yd,hd];rfl
   obtain⟨KK,h4,h5⟩:=ih (k+1) ρ2 hd' h3;refine#[KK,?_,by rw[qh];rwa [show k+1+r.length=k+(r.length+1) by lia] at h5];simp only[fF,h1,qa,h2,h4]
 obtain⟨KK,h1,h2⟩:=key xs 0 Y () h0;exact#[KK,h1,by rwa [uN] at h2]
def Fy:(2:aj) ^ 62=4611686018427387904:=by nofun
def Ve {i j:aj} (h:0<=i/\i<=1000000/\0<=j/\j<=1000000):pQ [.int i,.int j]=U ((db (j-i).toNat).map λk:J=>D.int (i+k)):=by unfold pQ;rw[Fy];exact qZ #[by lia,by lia,by lia,by lia]
def EX {j:aj} (h:0<=j/\j<=1000000):iw [.int j]=U ((db j.toNat).map λi:J=>D.int (0+i)):=by unfold iw;rw[Fy];exact qZ #[by lia,by lia]
def GX {g:Z D->ak (Z D)} {r:Z D} (h1:fr Y=U ds) (h2:g ds=U r):itR g fr Y=U r:=by unfold itR;rw[h1];exact h2
def bh {g:D->D->ak D} {x y:D} (h1:fa Y=U x) (h2:fb Y=U y) (h3:g x y=U z):b2 g fa fb Y=U z:=by unfold b2;rw[h1,qa,h2,qa];exact h3
def cE {g:FQ} (h1:fr Y=U ds) (h2:g ds=U z):cF g fr Y=U z:=by unfold cF;rw[h1];exact h2
def bL (h1:f Y=U d) (h2:fr Y=U ds):av f fr Y=U (d::ds):=by unfold av;rw[h1,qa,h2];rfl
def ci :ay Y=U []:=rfl
def p9 (h:g (ds.map (fun d=>U (Slot.sh d))++bB n B)=U (.rt d,KK)):aN n g ds=U d:=by unfold aN;rw[h];rfl
def dR (Y:bj) (e:ds.map (fun d=>U (Slot.sh d))++bB n B=Y) (h:g Y=U (.rt d,KK)):aN n g ds=U d:=by subst e;exact p9 h
def cS (h:f Y=U d):cP f Y=U (.rt d,Y):=by unfold cP;rw[h];rfl
def cz {b:aR} (h:f Y=U (.bl b)):toB f Y=U b:=by unfold toB;rw[h];rfl
def nP {A:FE} {X E:FS} (hA:A Y=U (.bl ah)):bu (sIf (cL (toB A)) X dQ) E Y=E Y:=by simp only[bu,sIf,cL,cz hA,qd,qa,iC,qr,dE,dQ]
def sJ {A ae:FE} {X E:FS} (hA:A Y=U (.bl ah)) (hB:ae Y=U (.bl ah)):bu (sIf (orT (cL (toB A)) (cL (toB ae))) X dQ) E Y=E Y:=by simp only[bu,sIf,orT,cL,cz hA,cz hB,qd,qa,iC,qr,dE,dQ]
def S8 {A ae C:FE} {X E:FS} (hA:A Y=U (.bl ah)) (hB:ae Y=U (.bl ah)) (hC:C Y=U (.bl ah)):bu (sIf (orT (cL (toB A)) (orT (cL (toB ae)) (cL (toB C)))) X dQ) E Y=E Y:=by simp only[bu,sIf,orT,cL,cz hA,cz hB,cz hC,qd,qa,iC,qr,dE,dQ]
def J7 {A ae:FE} (hA:A Y=U (.bl ah)) (hB:ae Y=U (.bl ah)):fQ A ae Y=U (.bl ah):=by simp only[fQ,hA,hB,qa]
def mo (h:f Y=U d):bu (c6 i f) g Y=g (Y.set i (oS d)):=by simp only[bu,c6,h,qd,qa]
def SE (i:aj):yS [.int i]=U (.bl ah):=by simp only[yS,Ax,aN,cP,fQ,Kj,cF,av,ay,vSh,vC,e7,tyD,qp,qR,qq,qU,bB,qb,qa,qd,rW,i2,i3]
def iW (i a b:aj) (h:a<=i/\i<=b):AW [.int i,.int a,.int b]=U (.bl ah):=by simp only[AW,zw,SE,aN,cP,fQ,cF,av,ay,vSh,chD,leD,qp,qR,qq,qU,bB,qb,qc,qa,qd,qV h.1,qV h.2]
def jF (l:Z D) (a b:aj) (h:a<=l.length/\(l.length:aj)<=b):zX [.lst l,.int a,.int b]=U (.bl ah):=by simp only[zX,zS,aN,cP,fQ,cF,av,ay,vSh,vC,chD,e7,tyD,cu,leD,qp,qR,qq,qU,bB,qb,qc,qa,qd,k1,qV h.1,qV h.2]
def wz (l:Z D) (n:aj) (h:(l.length:aj)=n):nC [.tup l,.int n]=U (.bl ah):=by simp only[nC,Cb,aN,cP,fQ,cF,av,ay,vSh,vC,b2,e7,tyD,cu,eqD,eqS,qp,qR,qq,qU,bB,qb,qc,qa,qd,k3,qV h]
section
variable {a b c e:D}
def xn:nC [.tup [a,b],.int 2]=U (.bl ah):=wz _ _ ()
def IH:nC [.tup [a,b,c],.int 3]=U (.bl ah):=wz _ _ ()
def W5:nC [.tup [a,b,c,d],.int 4]=U (.bl ah):=wz _ _ ()
def Gy:nC [.tup [a,b,c,d,e],.int 5]=U (.bl ah):=wz _ _ ()
end
noncomputable def dIv (p:aj×aj):D:=.tup [.int p.1,.int p.2]
def UA (p:aj×aj) (h:aj) (h1:0<=p.1) (h2:p.1<p.2) (h3:p.2<=h):Ad [dIv p,.int h]=U (.bl ah):=by simp only[Ad,Ck,dIv,aN,bu,sIf,cP,dQ,orT,cL,toB,cF,av,ay,vSh,vC,b2,ltD,eV,gn,qp,qR,qq,qU,bB,qb,qc,qa,qd,dE,iC,qr,xn,iW p.1 0 h #[h1,by lia],iW p.2 0 h #[by lia,h3],qV h2]
def az (c:J):aR:=!ltS ⟨#[c]⟩ "a" && !ltS "z" ⟨#[c]⟩
def Oq (h:az c=ah):c<=122:=by
 have z:("z":af)=⟨#[122]⟩:=by nofun
 unfold az ltS at h;rw[z] at h;simp only[eM,Nk,ZO] at h;have h2:=h.2;rcases gy 122 c with q|q
 .exact ba (show([122]:Z J) < [c] from ZP q) h2
 .exact q
def Eu (c:J) (r:bj):chD leD leD (vC (.str "a")) (vSh 0) (vC (.str "z")) (oS (.str ⟨#[c]⟩)::r)=U (.bl (az c)):=by simp only[chD,vC,vSh,qb,qa,leD,az];cases ltS ⟨#[c]⟩ "a"<;>simp
def aG (x:af):aR:=decide (1<=x.length) && decide (x.length<=8) && x.cps.toList.all az
def Ls (h:aG x=ah):1<=x.length/\x.length<=8:=by unfold aG at h;simp only[eM,rR] at h;exact h.1
def wH (h:aG x=ah):∀c∈x.cps.toList,az c=ah:=by unfold aG at h;simp only[eM,ie] at h;exact h.2
def mr (h:aG x=ah):vO [.str x]=U (.bl ah):=by
 obtain⟨h1,h2⟩:=Ls h;have hz:x.length<=aH:=by unfold aH;lia
 have hl:(x.cps.toList.map fun c=>D.str ⟨#[c]⟩).length<=aH:=by simpa[iA] using hz
 have e1:decide ((1:aj)<=(x.length:J))=ah:=qV .(b);have e2:decide (((x.length:J):aj)<=8)=ah:=qV .(b);have ha:=oJ (fi:=itS (vSh 0)) (fe:=chD leD leD (vC (.str "a")) (vSh 0) (vC (.str "z"))) (fv:=[B]) (Y:=[oS (.str x)]) (r:=[]) (a:=B) (xs:=x.cps.toList.map λc=>D.str ⟨#[c]⟩)
  (by simp[itS,vSh,Bv]) hl () (λy hy=>by obtain⟨c,hc,rfl⟩:=dH.mp hy;rw[Eu,wH h c hc])
 refine p9 (KK:=[oS (.str x)]) ((sJ ?_ ?_).trans (cS ha))
 .rfl
 .show chD leD leD (vC (.int 1)) (cF cu (av (vSh 0) ay)) (vC (.int 8)) [oS (.str x)]=_;simp only[cF,av,ay,vSh,vC,chD,cu,leD,qb,qa,qd,qZ hz,e1,e2]
def v6 (h:aG x=ah):f8 x=ah:=by unfold f8;rw[Nt];intro c hc;have:=Oq (wH h c (by simpa using hc));exact qV .(b)
theorem tX:∀(ns:Z af),ff (ns.map D.str)=U (ns.map kq)
 |[]=>by simp[ff]
 |x::r=>by simp[ff,pdD,tX r]
theorem HX:∀{ns:Z af},(∀x∈ns,aG x=ah)->gz (ns.map kq)=ah
 |[],_=>by simp[gz]
 |x::r,h=>by simp only[qp,gz,fu,v6 (h x qf),xY];exact HX λy hy=>h y (qg _ hy)
theorem wA (x:af):∀(ns:Z af),((ns.map kq).any λz=>eU z (.str x))=decide (x∈ns)
 |[]=>by simp
 |y::r=>by
  have ih:=wA x r;rw[qp,rL,ih];simp only[eU];by_cases e:y=x
  .subst e;simp
  .have:x≠y:=λz=>e z.symm;simp[e,this]
def NM (hx:aG x=ah) (hn:∀y∈ns,aG y=ah):tP (.str x) (.lst (ns.map D.str))=U (.bl (decide (x∈ns))):=by
 have sh:eE (.str x)=ah:=by simp[eE,fu,v6 hx,iD]
 simp only[tP,inX,pdD,tX,qd,qa,sh,HX hn,ye,dc,wA]
def pJ (hx:x∈ns) (hn:∀y∈ns,aG y=ah):Ch [.str x,.lst (ns.map D.str)]=U (.bl ah):=by simp only[Ch,Cd,aN,cP,fQ,cF,av,ay,vSh,b2,qp,qR,qq,qU,bB,qb,qc,qa,qd,mr (hn x hx),NM (hn x hx) hn,qV hx]
def A8 [eS κ] {l:Z κ} (h:l.Nodup):ST.dd l=l:=by
 have key:∀(l a:Z κ),(a++l).Nodup->l.foldl (λa k=>if k∈a then a else a++[k]) a=a++l:=by
  intro l
  induction l with
  |nil=>intro a _;simp
  |cons x r ih=>
   intro a hn;have hx:x∉a:=by intro z;rw[Nu] at hn;exact hn.2.2 x z x qf ()
   rw[kj,xa hx,ih (a++[x]) (by simpa using hn)];simp
 simpa[ST.dd] using key l [] (by simpa using h)
theorem px:∀(ns:Z af),im (ns.map D.str)=U (ns.map cC)
 |[]=>by simp[im]
 |x::r=>by simp[im,jQ,px r]
def m4 (h:ns.Nodup) (hl:ns.length<=300):il [.lst (ns.map D.str)]=U (.bl ah):=by have hd:(ns.map (cC:af->Key)).Nodup:=rY _ (λa b hab z=>hab (my z)) h;simp only[il,oZ,aN,cP,cF,av,ay,vSh,b1,b2,cu,eqD,eqS,qp,qR,qq,qU,bB,qb,qa,qd,lX,qe,qZ hl,px,A8 hd];simp
theorem FO:∀(ts:Z (Z af)),pF (ts.map λt=>.tup (t.map D.str))=U (ts.map λt=>t.map cC)
 |[]=>by simp[pF]
 |t::r=>by simp[pF,px,FO r]
def Hz {ts:Z (Z af)} (h:ts.Nodup) (hl:ts.length<=300):il [.lst (ts.map λt=>.tup (t.map D.str))]=U (.bl ah):=by
 have inj:∀a b:Z af,a.map (cC:af->Key)=b.map cC->a=b:=λa b z=>(ZQ (λx y q=>my q)).mp z;have hd:(ts.map λt=>t.map (cC:af->Key)).Nodup:=rY _ (λa b hab z=>hab (inj a b z)) h;cases ts with
 |nil=>simp only[il,oZ,aN,cP,cF,av,ay,vSh,b1,b2,cu,eqD,eqS,qp,qR,qq,qU,bB,qb,qa,qd,qm,lX,im,ST.dd];simp
 |cons t r=>
  have e:im ((t::r).map λt=>D.tup (t.map D.str))=B:=by simp[im,jQ]
  simp only[il,oZ,aN,cP,b2,b1,vSh,qp,qR,qq,qU,bB,qb,qa,lX,cF,av,ay,cu,qd];rw[qZ (by simpa using hl)];have e':=e;rw[qp] at e';rw[e'];have t':=FO (t::r);rw[qp] at t';rw[t'];rw[qd,A8 hd];simp[eqD,eqS]
structure BenchT where
 nm:af
 br:Z (aj×aj)
structure StepT where
 nm:af
 kd:af
 ws:Z (af×aj)
structure JobT where
 nm:af
 ea:aj
 du:aj
 od:aR
 ms:Z af
structure SetT where
 b:af
 p:af
 q:af
 n:aj
structure LinkT where
 a:af
 b:af
 g:aj
structure StockT where
 nm:af
 lo:aj
 hi:aj
 tk:Z (af×aj)
 pt:Z (af×aj)
noncomputable def dW (w:af×aj):D:=.tup [.str w.1,.int w.2]
def dj (b:BenchT):D:=.tup [.str b.nm,.lst (b.br.map dIv)]
def dL (s:StepT):D:=.tup [.str s.nm,.str s.kd,.lst (s.ws.map dW)]
noncomputable def bC (j:JobT):D:=.tup [.str j.nm,.int j.ea,.int j.du,.bl j.od,.lst (j.ms.map D.str)]
noncomputable def er (u:SetT):D:=.tup [.str u.b,.str u.p,.str u.q,.int u.n]
noncomputable def eN (l:LinkT):D:=.tup [.str l.a,.str l.b,.int l.g]
def eQ (k:StockT):D:=.tup [.str k.nm,.int k.lo,.int k.hi,.lst (k.tk.map dW),.lst (k.pt.map dW)]
structure GoodB (h:aj) (b:BenchT):Prop where
 nm:aG b.nm=ah
 len:b.br.length<=10
 iv:∀p∈b.br,0<=p.1/\p.1<p.2/\p.2<=h
 gap:∀(i:J) p q,b.br[i]?=U p->b.br[i+1]?=U q->p.2<q.1
structure GoodS (bn:Z af) (h:aj) (s:StepT):Prop where
 nm:aG s.nm=ah
 kd:aG s.kd=ah
 l1:1<=s.ws.length
 l4:s.ws.length<=4
 ws:∀w∈s.ws,w.1∈bn/\1<=w.2/\w.2<=h
 nd:(s.ws.map (·.1)).Nodup
structure GoodJ (sn:Z af) (h:aj) (j:JobT):Prop where
 nm:aG j.nm=ah
 ea:0<=j.ea/\j.ea<=h
 du:0<=j.du/\j.du<=h
 l1:1<=j.ms.length
 ln:j.ms.length<=sn.length
 ms:∀m∈j.ms,m∈sn
structure GoodU (bn:Z af) (h:aj) (u:SetT):Prop where
 b:u.b∈bn
 p:aG u.p=ah
 q:aG u.q=ah
 n:1<=u.n/\u.n<=h
structure GoodL (sn:Z af) (h:aj) (l:LinkT):Prop where
 a:l.a∈sn
 b:l.b∈sn
 ne:l.a≠l.b
 g:0<=l.g/\l.g<=h
structure GoodA (sn:Z af) (am:Z (af×aj)):Prop where
 ln:am.length<=sn.length
 ws:∀w∈am,w.1∈sn/\1<=w.2/\w.2<=1000000
 nd:(am.map (·.1)).Nodup
structure GoodK (sn:Z af) (k:StockT):Prop where
 nm:aG k.nm=ah
 lo:0<=k.lo/\k.lo<=k.hi
 hi:0<=k.hi/\k.hi<=1000000
 tk:GoodA sn k.tk
 pt:GoodA sn k.pt
structure Good (bs:Z BenchT) (ss:Z StepT) (js:Z JobT) (us:Z SetT) (ls:Z LinkT) (ks:Z StockT) (hz:aj):Prop where
 hh:1<=hz/\hz<=1000000
 bl:1<=bs.length/\bs.length<=8
 b:∀x∈bs,GoodB hz x
 bn:(bs.map (·.nm)).Nodup
 sl:1<=ss.length/\ss.length<=40
 s:∀x∈ss,GoodS (bs.map (·.nm)) hz x
 sn:(ss.map (·.nm)).Nodup
 jl:js.length<=40
 j:∀x∈js,GoodJ (ss.map (·.nm)) hz x
 jn:(js.map (·.nm)).Nodup
 jm:(js.flatMap (·.ms)).Nodup
 ul:us.length<=100
 u:∀x∈us,GoodU (bs.map (·.nm)) hz x
 un:(us.map λu=>[u.b,u.p,u.q]).Nodup
 ll:ls.length<=100
 l:∀x∈ls,GoodL (ss.map (·.nm)) hz x
 ln:(ls.map λl=>[l.a,l.b]).Nodup
 kl:ks.length<=6
 k:∀x∈ks,GoodK (ss.map (·.nm)) x
 kn:(ks.map (·.nm)).Nodup
def ixL (l:Z D) (n:J):ixD (.lst l) (.int (n:aj))=l[n]?:=kD l n
def szN {k:J} (h:n<=k) (hk:k<=1000):n<=aH:=by unfold aH;lia
variable {ss:Z StepT}
section
variable {h:aj} {bn:Z af}
def O9 (len:br.length<=10) (gap:∀(i:J) p q,br[i]?=U p->br[i+1]?=U q->p.2<q.1) :
  cF nF (av (bE (cG (itR pQ (av (vC (.int 1)) (av (cF cu (av (vSh 0) ay)) ay))) (bp 0) tT (b2 ltD (b2 ixD (b2 ixD (vSh 1) (b2 kt (vSh 0) (vC (.int 1)))) (vC (.int 1))) (b2 ixD (b2 ixD (vSh 1) (vSh 0)) (vC (.int 0)))) [B,U 0])) ay) [oS (.lst (br.map dIv)),oS (.int h)]=U (.bl ah):=by
 have e0:itR pQ (av (vC (.int 1)) (av (cF cu (av (vSh 0) ay)) ay)) [oS (.lst (br.map dIv)),oS (.int h)]=U ((db (((br.map dIv).length:aj)-1).toNat).map λk:J=>D.int (1+k)):=by exact GX () (Ve (i:=1) (j:=((br.map dIv).length:J)) (by rw[qe];lia))
 refine oJ (r:=[oS (.lst (br.map dIv))]) (a:=B) e0 ?_ () λx hx=>?_
 .simp only[qe,qX];exact szN (k:=10) .(b) .(a)
 .obtain⟨k,hk,rfl⟩:=dH.mp hx;rw[fg,qe] at hk;have hk1:k<br.length:=by lia
  have hk2:k+1<br.length:=by lia
  have e1:br[k]?=U br[k]:=by simp[hk1]
  have e2:br[k+1]?=U br[k+1]:=by simp[hk2]
  have g:=gap k _ _ e1 e2;have a1:ixD (.lst (br.map dIv)) (.int (1+(k:aj)-1))=U (dIv br[k]):=by
   have:(1+(k:aj)-1)=((k:J):aj):=by lia
   rw[this,ixL,ql,e1];rfl
  have a2:ixD (.lst (br.map dIv)) (.int (1+(k:aj)))=U (dIv br[k+1]):=by
   have:(1+(k:aj))=((k+1:J):aj):=by lia
   rw[this,ixL,ql,e2];rfl
  simp only[vSh,vC,b2,ltD,kt,qb,qc,qa,a1,a2];simp only[dIv,eV,gn,qa,qV g]
def Vg (len:br.length<=10) (iv:∀p∈br,0<=p.1/\p.1<p.2/\p.2<=h) (gap:∀(i:J) p q,br[i]?=U p->br[i+1]?=U q->p.2<q.1) :
  GJ [.lst (br.map dIv),.int h]=U (.bl ah):=by
 refine dR [oS (.lst (br.map dIv)),oS (.int h)] () ((sJ ?_ (oJ (r:=[oS (.int h)]) (a:=B) (xs:=br.map dIv) () (by rw[qe];exact szN len .(a)) () λx hx=>?_)).trans (cS (O9 len gap)))
 .exact jF _ 0 10 #[by lia,by rw[qe];lia]
 .obtain⟨p,hp,rfl⟩:=dH.mp hx;obtain⟨h1,h2,h3⟩:=iv p hp;exact UA p h h1 h2 h3
def S4 {b:BenchT} (g:GoodB h b):zZ [dj b,.int h]=U (.bl ah):=by simp only[zZ,A7,dj,aN,cP,fQ,cF,av,ay,vSh,vC,b2,eV,gn,qp,qR,qq,qU,bB,qb,qc,qa,qd,xn,mr g.nm,Vg g.len g.iv g.gap]
def vf {f:α->D} {nm:α->af} {xs:Z α} (hf:∀x,∃r,f x=.tup (.str (nm x)::r)) (h1:vSh i Y=U (.lst (xs.map f))) (h2:xs.length<=aH) (h3:gu fv Y=[B]) :
  bE (cG (itF (vSh i)) (bp 0) tT (b2 ixD (vSh 0) (vC (.int 0))) fv) Y=U (.lst ((xs.map nm).map D.str)):=by
 have hc:=m8 (fi:=itF (vSh i)) (fe:=b2 ixD (vSh 0) (vC (.int 0))) (fv:=fv) (Y:=Y) (r:=[]) (a:=B) (xs:=xs.map f) (f:=λd=>match d with|.tup (x::_)=>x|_=>.non) (by unfold itF;rw[h1];rfl) (by rw[qe];exact h2) h3 (λx hx=>by obtain⟨y,_,rfl⟩:=dH.mp hx;obtain⟨r,e⟩:=hf y;simp only[b2,vSh,vC,qb,qa,e,eV])
 rw[hc]
 congr 2
 rw[jC,jC];refine Nv λx _=>?_;obtain⟨r,e⟩:=hf x;simp[e]
def nc {f:α->D} {nm:α->β} {k:β->D} {xs:Z α} {A e1 e2:FE} {fw:Z (ak J)} {X:FS} {r r2:bj} (l:xs.length<=1000)
  (hA:A (((D.lst (xs.map f)::ds).map (fun d=>U (Slot.sh d)))++bB 0 B)=U (.bl ah)) (q1:gu fv (((D.lst (xs.map f)::ds).map (fun d=>U (Slot.sh d)))++bB 0 B)=B::r) (q2:gu fw (((D.lst (xs.map f)::ds).map (fun d=>U (Slot.sh d)))++bB 0 B)=B::r2)
  (h1:∀x∈xs,e1 (oS (f x)::r)=U (.bl ah)) (hu:il [.lst ((xs.map nm).map k)]=U (.bl ah)) (h2:∀x,e2 (oS (f x)::r2)=U (k (nm x))) :
  aN 0 (bu (sIf (orT (cL (toB A)) (cL (toB (cF nF (av (bE (cG (itF (vSh 0)) (bp 0) tT e1 fv)) ay))))) X dQ) (cP (cF il (av (bE (cG (itF (vSh 0)) (bp 0) tT e2 fw)) ay)))) (.lst (xs.map f)::ds)=U (.bl ah):=by
 have z:(xs.map f).length<=aH:=by rw[qe];exact szN l .(a)
 have c:∀{e:FE} {r:bj} {g:α->D},(∀x∈xs,e (oS (f x)::r)=U (g x))->∀a,fP (bp 0) tT e (xs.map f) (a::r)=U (xs.map g):=λ{e r g} h=>by
  clear hA q1 q2 h1 h2 hu z l
  induction xs with
  |nil=>intro a;rfl
  |cons x t ih=>
   intro a;simp only[qp,fP,bp,ko,qa,tT,dc,h x qf,ih λy hy=>h y (qg _ hy),qd]
 refine p9 ((sJ hA (oJ (xs:=xs.map f) () z q1 λy hy=>?_)).trans (cS (cE (bL (d:=.lst ((xs.map nm).map k)) ?_ ci) hu)))
 .obtain⟨x,hx,rfl⟩:=dH.mp hy;exact h1 x hx
 .show(cG _ _ _ _ _ _).map D.lst=_;have e:itF (vSh 0) (((D.lst (xs.map f)::ds).map (fun d=>U (Slot.sh d)))++bB 0 B)=U (xs.map f):=rfl;simp only[cG,e,qa,qZ z,q2,c (λx _=>h2 x) B,qd,jC,ZR]
def WW {bs:Z BenchT} (l1:1<=bs.length) (l8:bs.length<=8) (g:∀x∈bs,GoodB h x) (nd:(bs.map (·.nm)).Nodup):La [.lst (bs.map dj),.int h]=U (.bl ah):=
 nc .(b) (jF _ 1 8 (by rw[qe];lia)) () () (λx hx=>S4 (g x hx)) (m4 nd (by rw[qe];lia)) λx=>rfl
def Tn {w:af×aj} (hb:∀y∈bn,aG y=ah) (g:w.1∈bn/\1<=w.2/\w.2<=h):yK [dW w,.lst (bn.map D.str),.int h]=U (.bl ah):=by simp only[yK,Al,dW,aN,cP,fQ,cF,av,ay,vSh,vC,b2,eV,gn,qp,qR,qq,qU,bB,qb,qc,qa,qd,xn,pJ g.1 hb,iW w.2 1 h g.2]
def Qy {ws:Z (af×aj)} (hb:∀y∈bn,aG y=ah) (l1:1<=ws.length) (l4:ws.length<=4) (g:∀w∈ws,w.1∈bn/\1<=w.2/\w.2<=h) (nd:(ws.map (·.1)).Nodup):Jl [.lst (ws.map dW),.lst (bn.map D.str),.int h]=U (.bl ah):=
 nc .(b) (jF _ 1 4 (by rw[qe];lia)) () () (λx hx=>Tn hb (g x hx)) (m4 nd (by rw[qe];lia)) λx=>rfl
def UV {s:StepT} (hb:∀y∈bn,aG y=ah) (g:GoodS bn h s):Cc [dL s,.lst (bn.map D.str),.int h]=U (.bl ah):=by simp only[Cc,yJ,dL,aN,bu,sIf,cP,dQ,orT,cL,toB,cF,av,ay,vSh,vC,b2,eV,gn,lM,qp,qR,qq,qU,bB,qb,qc,qa,qd,dE,iC,qr,IH,mr g.nm,mr g.kd,Qy hb g.l1 g.l4 g.ws g.nd]
def UY (hb:∀y∈bn,aG y=ah) (l1:1<=ss.length) (l4:ss.length<=40) (g:∀s∈ss,GoodS bn h s) (nd:(ss.map (·.nm)).Nodup):KA [.lst (ss.map dL),.lst (bn.map D.str),.int h]=U (.bl ah):=
 nc .(b) (jF _ 1 40 (by rw[qe];lia)) () () (λx hx=>UV hb (g x hx)) (m4 nd (by rw[qe];lia)) λx=>rfl
end
def Vj (a b:af):neA (.str a) (.str b)=U (.bl (!decide (a=b))):=rfl
def R0 {a b c:D} :lb B (U 3) (.tup [a,b,c,d])=U (.tup [a,b,c]):=rfl
theorem Au {α β:Type} {f:α->Z β} {m:J}:∀{l:Z α},(∀x∈l,(f x).length<=m)->(l.flatMap f).length<=l.length*m
 |[],_=>by simp
 |x::r,h=>by have h1:=h x qf;have h2:=Au (l:=r) λy hy=>h y (qg _ hy);rw[List.flatMap_cons,qk,qh,ME];lia
variable {ls:Z LinkT} {ks:Z StockT}
section
variable {h:aj} {bn:Z af}
def OV {j:JobT} (hs:∀y∈sn,aG y=ah) (hl:sn.length<=40) (g:GoodJ sn h j):Jw [bC j,.lst (sn.map D.str),.int h]=U (.bl ah):=by
 refine dR [oS (bC j),oS (.lst (sn.map D.str)),oS (.int h)] () ((S8 ?_ ?_ ?_).trans ((sJ ?_ ?_).trans (cS (J7 ?_ (oJ (r:=[oS (.lst (sn.map D.str))]) (a:=B) (xs:=j.ms.map D.str) ?_ ?_ () λx hx=>?_)))))
 .exact Gy
 .simp only[bC,cF,av,ay,vSh,vC,b2,eV,qb,qa,qd,mr g.nm]
 .simp only[bC,cF,av,ay,vSh,vC,b2,e7,tyD,nR,qb,qa,qd,i5]
 .simp only[bC,cF,av,ay,vSh,vC,b2,gn,qb,qc,qa,qd,iW _ 0 h g.ea]
 .simp only[bC,cF,av,ay,vSh,vC,b2,lM,qb,qc,qa,qd,iW _ 0 h g.du]
 .simp only[bC,cF,av,ay,vSh,vC,b2,cu,tN,qb,qc,qa,qd];exact jF _ _ _ #[by rw[qe];have:=g.l1;lia,by rw[qe,qe];have:=g.ln;lia]
 .simp only[bC,vSh,vC,b2,itF,sV,tN,qb,qa]
 .rw[qe];exact szN (qP g.ln hl) .(a)
 .obtain⟨m,hm,rfl⟩:=dH.mp hx;simp only[cF,av,ay,vSh,qb,qc,qa,qd,pJ (g.ms m hm) hs]
def OA {js:Z JobT} {H:ak Slot} (hl:js.length<=40) (g:∀j∈js,j.ms.length<=40) :
  ∃z,fF (bp 4) (iS 3 (b2 ixD (vSh 4) (vC (.int 4)))) (js.map bC) [oS (.lst (js.map bC)),S,H,U (.own []),B]=U (.nx,[oS (.lst (js.map bC)),S,H,U (.own ((js.flatMap (·.ms)).map D.str)),z]):=by
 obtain⟨KK,h1,z,h2⟩:=wW (gg:=bp 4) (body:=iS 3 (b2 ixD (vSh 4) (vC (.int 4)))) (xs:=js.map bC) (Y:=[oS (.lst (js.map bC)),S,H,U (.own []),B])
  (λi Y=>∃z,Y=[oS (.lst (js.map bC)),S,H,U (.own (((js.take i).flatMap (·.ms)).map D.str)),z]) #[B,by simp] (λi x Y hx hI=>by
   obtain⟨z,rfl⟩:=hI;rw[ql] at hx;obtain⟨j,hj,rfl⟩:=oMd hx;have hm:j∈js:=qS hj;have t1:((js.take i).flatMap (·.ms)).length<=(js.take i).length*40:=Au λy hy=>g y (uI hy);have t2:(js.take i).length<=40:=by rw[qH];lia
   have t3:=g j hm;have tk:js.take (i+1)=js.take i++[j]:=by rw[se,hj];rfl
   have sz:(((js.take i).flatMap (·.ms)).map D.str).length+(j.ms.map D.str).length<=aH:=by rw[qe,qe];unfold aH;lia
   refine#[_,[oS (.lst (js.map bC)),S,H,U (.own (((js.take (i+1)).flatMap (·.ms)).map D.str)),oS (bC j)],(),?_,_,()];have e:b2 ixD (vSh 4) (vC (.int 4)) [oS (.lst (js.map bC)),S,H,U (.own (((js.take i).flatMap (·.ms)).map D.str)),oS (bC j)]=U (.lst (j.ms.map D.str)):=by simp only[bC,vSh,vC,b2,tN,qb,qc,qa]
   simp only[iS,ko,DF,qb,qc,e,qa,qZ sz,tk];simp)
 refine#[z,?_];rw[h1,h2,qe,oG]
def S1 {js:Z JobT} (hs:∀y∈sn,aG y=ah) (hl:sn.length<=40) (l4:js.length<=40) (g:∀j∈js,GoodJ sn h j) (nd:(js.map (·.nm)).Nodup) (nm:(js.flatMap (·.ms)).Nodup) (ml:(js.flatMap (·.ms)).length<=300):EI [.lst (js.map bC),.lst (sn.map D.str),.int h]=U (.bl ah):=by
 obtain⟨z,hz⟩:=OA (js:=js) (S:=oS (.lst (sn.map D.str))) (H:=oS (.int h)) l4 λj hj=>qP (g j hj).ln hl;refine dR [oS (.lst (js.map bC)),oS (.lst (sn.map D.str)),oS (.int h),B,B] (KK:=[oS (.lst (js.map bC)),oS (.lst (sn.map D.str)),oS (.int h),oS (.lst ((js.flatMap (·.ms)).map D.str)),z]) () ((sJ ?_ (oJ (r:=[oS (.lst (sn.map D.str)),oS (.int h)]) (a:=B) (xs:=js.map bC) () (by rw[qe];exact szN l4 .(a)) () λx hx=>?_)).trans ?_)
 .exact jF _ 0 40 #[by lia,by rw[qe];lia]
 .obtain⟨p,hp,rfl⟩:=dH.mp hx;simp only[cF,av,ay,vSh,qb,qc,qa,qd,OV hs hl (g p hp)]
 .have nn:=vf (i:=0) (fv:=[B]) (Y:=[oS (.lst (js.map bC)),oS (.lst (sn.map D.str)),oS (.int h),oS (.lst ((js.flatMap (·.ms)).map D.str)),z]) (f:=bC) (nm:=(·.nm)) (xs:=js) (λx=>#[_,()]) () (szN l4 .(a)) ();have u1:cF il (av (bE (cG (itF (vSh 0)) (bp 0) tT (b2 ixD (vSh 0) (vC (.int 0))) [B])) ay) [oS (.lst (js.map bC)),oS (.lst (sn.map D.str)),oS (.int h),oS (.lst ((js.flatMap (·.ms)).map D.str)),z]=U (.bl ah):=
   cE (bL nn ci) (m4 nd (by rw[qe];lia))
  have u2:cF il (av (vSh 3) ay) [oS (.lst (js.map bC)),oS (.lst (sn.map D.str)),oS (.int h),oS (.lst ((js.flatMap (·.ms)).map D.str)),z]=U (.bl ah):=
   cE (bL () ci) (m4 nm ml)
  have r:=cS (J7 u1 u2);have z0:(0<=aH)=True:=by simp
  simp only[bu,nN,szF,ay,qa,qd,qm,z0,dc,ko,DF,fS,itF,vSh,qb,sV];rw[hz];simp only[qa,pe,qb,qc,ko,DF];exact r
def O7 {u:SetT} (hb:∀y∈bn,aG y=ah) (g:GoodU bn h u):AK [er u,.lst (bn.map D.str),.int h]=U (.bl ah):=by simp only[AK,Bf,er,aN,bu,sIf,cP,dQ,fQ,orT,cL,toB,cF,av,ay,vSh,vC,b2,eV,gn,lM,nR,qp,qR,qq,qU,bB,qb,qc,qa,qd,dE,iC,qr,W5,pJ g.b hb,mr g.p,mr g.q,iW _ 1 h g.n]
def Vo {us:Z SetT} (hb:∀y∈bn,aG y=ah) (l4:us.length<=100) (g:∀u∈us,GoodU bn h u) (nd:(us.map λu=>[u.b,u.p,u.q]).Nodup):Eh [.lst (us.map er),.lst (bn.map D.str),.int h]=U (.bl ah):=
 nc (nm:=λu=>[u.b,u.p,u.q]) (k:=λt=>.tup (t.map D.str)) .(b) (jF _ 0 100 (by rw[qe];lia)) () () (λx hx=>O7 hb (g x hx)) (Hz nd (by rw[qe];lia)) λx=>rfl
def Wc {l:LinkT} (hs:∀y∈sn,aG y=ah) (g:GoodL sn h l):AS [eN l,.lst (sn.map D.str),.int h]=U (.bl ah):=by have:=g.ne;simp only[AS,BQ,eN,aN,bu,sIf,cP,dQ,fQ,orT,cL,toB,cF,av,ay,vSh,vC,b2,eV,gn,lM,qp,qR,qq,qU,bB,qb,qc,qa,qd,dE,iC,rW,qr,IH,pJ g.a hs,pJ g.b hs,Vj,qQ g.ne,iW _ 0 h g.g]
def Wj (hs:∀y∈sn,aG y=ah) (l4:ls.length<=100) (g:∀l∈ls,GoodL sn h l) (nd:(ls.map λl=>[l.a,l.b]).Nodup):IM [.lst (ls.map eN),.lst (sn.map D.str),.int h]=U (.bl ah):=
 nc (nm:=λl=>[l.a,l.b]) (k:=λt=>.tup (t.map D.str)) .(b) (jF _ 0 100 (by rw[qe];lia)) () () (λx hx=>Wc hs (g x hx)) (Hz nd (by rw[qe];lia)) λx=>rfl
def Xr {w:af×aj} (hs:∀y∈sn,aG y=ah) (g:w.1∈sn/\1<=w.2/\w.2<=1000000):yx [dW w,.lst (sn.map D.str)]=U (.bl ah):=by simp only[yx,B4,dW,aN,cP,fQ,cF,av,ay,vSh,vC,b2,eV,gn,qp,qR,qq,qU,bB,qb,qc,qa,qd,xn,pJ g.1 hs,iW w.2 1 1000000 g.2]
def Jb {ws:Z (af×aj)} (hs:∀y∈sn,aG y=ah) (hl:sn.length<=40) (g:GoodA sn ws):Lq [.lst (ws.map dW),.lst (sn.map D.str)]=U (.bl ah):=
 have l:=g.ln
 nc .(b) (jF _ 0 ((sn.map D.str).length:J) (by rw[qe,qe];lia)) () () (λx hx=>Xr hs (g.ws x hx)) (m4 g.nd (by rw[qe];lia)) λx=>rfl
def Wx {k:StockT} (hs:∀y∈sn,aG y=ah) (hl:sn.length<=40) (g:GoodK sn k):B6 [eQ k,.lst (sn.map D.str)]=U (.bl ah):=by simp only[B6,AR,eQ,aN,bu,sIf,cP,dQ,fQ,orT,cL,toB,cF,av,ay,vSh,vC,b2,eV,gn,lM,nR,tN,qp,qR,qq,qU,bB,qb,qc,qa,qd,dE,iC,qr,Gy,mr g.nm,iW _ 0 1000000 g.hi,iW _ 0 _ g.lo,Jb hs hl g.tk,Jb hs hl g.pt]
def Rz (hs:∀y∈sn,aG y=ah) (hl:sn.length<=40) (l4:ks.length<=6) (g:∀k∈ks,GoodK sn k) (nd:(ks.map (·.nm)).Nodup):EF [.lst (ks.map eQ),.lst (sn.map D.str)]=U (.bl ah):=
 nc .(b) (jF _ 0 6 (by rw[qe];lia)) () () (λx hx=>Wx hs hl (g x hx)) (m4 nd (by rw[qe];lia)) λx=>rfl
end
section
variable {bs:Z BenchT} {js:Z JobT} {us:Z SetT} {h:aj}
def Good.bnn (g:Good bs ss js us ls ks h):∀y∈bs.map (·.nm),aG y=ah:=λy hy=>by obtain⟨b,hb,rfl⟩:=dH.mp hy;exact(g.b b hb).nm
def Good.snn (g:Good bs ss js us ls ks h):∀y∈ss.map (·.nm),aG y=ah:=λy hy=>by obtain⟨b,hb,rfl⟩:=dH.mp hy;exact(g.s b hb).nm
def Tl (g:Good bs ss js us ls ks h) (ml:(js.flatMap (·.ms)).length<=300):EY [.lst (bs.map dj),.lst (ss.map dL),.lst (js.map bC),.lst (us.map er),.lst (ls.map eN),.lst (ks.map eQ),.int h]=U .non:=by
 have hb:=g.bnn;have hs:=g.snn;have hl:(ss.map (·.nm)).length<=40:=by rw[qe];exact g.sl.2
 have n1:∀z:ak Slot,bE (cG (itF (vSh 0)) (bp 0) tT (b2 ixD (vSh 0) (vC (.int 0))) [B]) [oS (.lst (bs.map dj)),oS (.lst (ss.map dL)),oS (.lst (js.map bC)),oS (.lst (us.map er)),oS (.lst (ls.map eN)),oS (.lst (ks.map eQ)),oS (.int h),B,B]=U (.lst ((bs.map (·.nm)).map D.str)):=λz=>
  vf (f:=dj) (nm:=(·.nm)) (xs:=bs) (λx=>#[_,()]) () (szN g.bl.2 .(a)) ()
 have n2:bE (cG (itF (vSh 1)) (bp 0) tT (b2 ixD (vSh 0) (vC (.int 0))) [B]) [oS (.lst (bs.map dj)),oS (.lst (ss.map dL)),oS (.lst (js.map bC)),oS (.lst (us.map er)),oS (.lst (ls.map eN)),oS (.lst (ks.map eQ)),oS (.int h),oS (.lst ((bs.map (·.nm)).map D.str)),B]=U (.lst ((ss.map (·.nm)).map D.str)):=
  vf (f:=dL) (nm:=(·.nm)) (xs:=ss) (λx=>#[_,()]) () (szN g.sl.2 .(a)) ()
 refine dR [oS (.lst (bs.map dj)),oS (.lst (ss.map dL)),oS (.lst (js.map bC)),oS (.lst (us.map er)),oS (.lst (ls.map eN)),oS (.lst (ks.map eQ)),oS (.int h),B,B] () ((nP ?_).trans ((nP ?_).trans ((mo (n1 B)).trans ((nP ?_).trans ((mo n2).trans ((nP ?_).trans ((nP ?_).trans ((nP ?_).trans ((nP ?_).trans (cS ()))))))))))
 .exact iW h 1 1000000 g.hh
 .exact WW g.bl.1 g.bl.2 g.b g.bn
 .exact UY hb g.sl.1 g.sl.2 g.s g.sn
 .exact S1 hs hl g.jl g.j g.jn g.jm ml
 .exact Vo hb g.ul g.u g.un
 .exact Wj hs g.ll g.l g.ln
 .exact Rz hs hl g.kl g.k g.kn
end
noncomputable def Pl:J->D->Prop
 |0,_=>False
 |n+1,.lst l=>l.length<=aH/\∀x∈l,Pl n x
 |n+1,.tup l=>l.length<=aH/\∀x∈l,Pl n x
 |_+1,.non=>True
 |_+1,.bl _=>True
 |_+1,.int _=>True
 |_+1,.str _=>True
 |_+1,_=>False
def gq {X E:FS} (h:ft Y=U ao):bu (sIf ft X dQ) E Y=E Y:=by simp only[bu,sIf,h,qa,qr,dE,dQ]
def tf {A E:FS} (h:ft Y=U ah) (h2:A Y=U (.rt d,KK)):bu (sIf ft A ae) E Y=U (.rt d,KK):=by simp only[bu,sIf,h,qa,dc,h2]
theorem BZ:∀(n:J) (d:D),Pl n d->jE n [d]=U d
 |0,_,h=>h.elim
 |n+1,.lst l,h=>by
  refine dR [oS (.lst l)] () (tf (cz (b:=ah) ?_) (cS ?_))
  .simp only[cF,av,ay,vSh,vC,e7,tyD,qb,qa,qd,k1]
  .have:=m8 (fi:=itF (vSh 0)) (fe:=cF (jE n) (av (vSh 0) ay)) (fv:=[B]) (Y:=[oS (.lst l)]) (r:=[]) (a:=B) (xs:=l) (f:=λx=>x) () h.1 () (λx hx=>by simp only[cF,av,ay,vSh,qb,qa,qd,BZ n x (h.2 x hx)]);rw[ZS] at this;exact this
 |n+1,.tup l,h=>by
  refine dR [oS (.tup l)] () ((gq (cz (b:=ao) ?_)).trans (tf (cz (b:=ah) ?_) (cS (cE (bL (d:=.lst l) ?_ ci) ()))))
  .simp only[cF,av,ay,vSh,vC,e7,tyD,qb,qa,qd,k2]
  .simp only[cF,av,ay,vSh,vC,e7,tyD,qb,qa,qd,k3]
  .have:=m8 (fi:=itF (vSh 0)) (fe:=cF (jE n) (av (vSh 0) ay)) (fv:=[B]) (Y:=[oS (.tup l)]) (r:=[]) (a:=B) (xs:=l) (f:=λx=>x) () h.1 () (λx hx=>by simp only[cF,av,ay,vSh,qb,qa,qd,BZ n x (h.2 x hx)]);rw[ZS] at this;exact this
 |n+1,.non,h=>by
  show jK (jE n) [.non]=U .non;unfold jK;refine dR [oS .non] () ((gq (cz (b:=ao) ?_)).trans ((gq (cz (b:=ao) ?_)).trans (cS (f:=vSh 0) ())))<;>simp only[cF,av,ay,vSh,vC,e7,tyD,qb,qa,qd,k10,k11]
 |n+1,.bl b,h=>by
  show jK (jE n) [.bl b]=U (.bl b);unfold jK;refine dR [oS (.bl b)] () ((gq (cz (b:=ao) ?_)).trans ((gq (cz (b:=ao) ?_)).trans (cS (f:=vSh 0) ())))<;>simp only[cF,av,ay,vSh,vC,e7,tyD,qb,qa,qd,k8,k9]
 |n+1,.int b,h=>by
  show jK (jE n) [.int b]=U (.int b);unfold jK;refine dR [oS (.int b)] () ((gq (cz (b:=ao) ?_)).trans ((gq (cz (b:=ao) ?_)).trans (cS (f:=vSh 0) ())))<;>simp only[cF,av,ay,vSh,vC,e7,tyD,qb,qa,qd,k6,k7]
 |n+1,.str b,h=>by show jK (jE n) [.str b]=U (.str b);unfold jK;refine dR [oS (.str b)] () ((gq (cz (b:=ao) ?_)).trans ((gq (cz (b:=ao) ?_)).trans (cS (f:=vSh 0) ())))<;>simp only[cF,av,ay,vSh,vC,e7,tyD,qb,qa,qd,k4,k4,k5]
def mn (h:Pl 8 d):lO [d]=U d:=BZ 8 d h
def iQ {f:α->D} {xs:Z α} (hl:xs.length<=1000) (h:∀x∈xs,Pl n (f x)):Pl (n+1) (.lst (xs.map f)):=
 #[by rw[qe];exact szN hl .(a),λx hx=>by obtain⟨y,hy,rfl⟩:=dH.mp hx;exact h y hy]
def Sr {xs:Z af} (hl:xs.length<=1000):Pl (n+2) (.lst (xs.map D.str)):=iQ hl λx _=>(trivial:Pl (n+1) (.str x))
def BN {xs:Z (af×aj)} (hl:xs.length<=1000):Pl (n+3) (.lst (xs.map dW)):=iQ hl λx _=>#[by simp[aH],by intro y hy;simp only[qO,qM,or_false] at hy;rcases hy with rfl|rfl<;>trivial]
def Oe {h:aj} {b:BenchT} (g:GoodB h b):Pl (n+4) (dj b):=#[by simp[aH],by
 intro y hy;simp only[qO,qM,or_false] at hy;rcases hy with rfl|rfl
 .trivial
 .exact iQ (by have:=g.len;lia) λx _=>#[by simp[aH],by intro y hy;simp only[qO,qM,or_false] at hy;rcases hy with rfl|rfl<;>trivial]]
def Uu {bn:Z af} {h:aj} {s:StepT} (g:GoodS bn h s):Pl (n+4) (dL s):=#[by simp[aH],by
 intro y hy;simp only[qO,qM,or_false] at hy;rcases hy with rfl|rfl|rfl
 .trivial
 .trivial
 .exact BN (by have:=g.l4;lia)]
def Hn {h:aj} {j:JobT} (hl:sn.length<=40) (g:GoodJ sn h j):Pl (n+3) (bC j):=#[by simp[aH],by
 intro y hy;simp only[qO,qM,or_false] at hy;rcases hy with rfl|rfl|rfl|rfl|rfl
 .trivial
 .trivial
 .trivial
 .trivial
 .exact Sr (by have:=g.ln;lia)]
def Vb {u:SetT} :Pl (n+2) (er u):=#[by simp[aH],by intro y hy;simp only[qO,qM,or_false] at hy;rcases hy with rfl|rfl|rfl|rfl<;>trivial]
def P8 {u:LinkT} :Pl (n+2) (eN u):=#[by simp[aH],by intro y hy;simp only[qO,qM,or_false] at hy;rcases hy with rfl|rfl|rfl<;>trivial]
def Ft {k:StockT} (hl:sn.length<=40) (g:GoodK sn k):Pl (n+4) (eQ k):=#[by simp[aH],by
 intro y hy;simp only[qO,qM,or_false] at hy;rcases hy with rfl|rfl|rfl|rfl|rfl
 .trivial
 .trivial
 .trivial
 .exact BN (by have:=g.tk.ln;lia)
 .exact BN (by have:=g.pt.ln;lia)]
theorem E5 {α:Type} {nm:α->af} {f:α->D}:∀(xs:Z α),oR (xs.map λx=>.tup [.str (nm x),f x])=U (xs.map λx=>(.inr (nm x),f x))
 |[]=>rfl
 |x::r=>by simp only[qp,oR,jQ,qa,E5 r,qd]
theorem EV {α:Type} {t:α->Z af} {f:α->D}:∀(xs:Z α),n5 (xs.map λx=>.tup [.tup ((t x).map D.str),f x])=U (xs.map λx=>((t x).map cC,f x))
 |[]=>rfl
 |x::r=>by simp only[qp,n5,px,qa,EV r,qd]
def LI [eS κ] {ps:Z (κ×D)} (h:(ps.map (·.1)).Nodup):wU ps=ps:=by
 have key:∀(l a:Z (κ×D)),((a++l).map (·.1)).Nodup->l.foldl (λacc kv=>gS acc kv.1 kv.2) a=a++l:=by
  intro l
  induction l with
  |nil=>intro a _;simp
  |cons x r ih=>
   intro a hn;have hx:(a.any λkv=>decide (kv.1=x.1))=ao:=by rw[Yq];intro y hy z;rw[gA,Nu] at hn;exact hn.2.2 y.1 (uO hy) x.1 (by simp) (km z)
   rw[kj];have e:gS a x.1 x.2=a++[x]:=by unfold gS;rw[hx];rfl
   rw[e,ih (a++[x]) (by simpa using hn)];simp
 simpa[wU] using key ps [] (by simpa using h)
theorem u7 {β:Type}:∀{fs:Z (af×β)} {i:J} {k:af} {d:β},(fs.map (·.1)).Nodup->fs[i]?=U (k,d)->fs.lookup k=U d
 |[],i,k,d,_,h=>by simp at h
 |(a,b)::r,0,k,d,_,h=>by
  simp only[qb,Nw,Prod.mk.injEq] at h;obtain⟨rfl,rfl⟩:=h;simp[dY]
 |(a,b)::r,i+1,k,d,nd,h=>by
  rw[qc] at h;rw[qp,om] at nd;have ne:k≠a:=by intro z;subst z;exact nd.1 (uO (f:=(·.1)) (qS h))
  have hb:(k==a)=ao:=by simpa using ne
  simp only[dY,hb];exact u7 nd.2 h
theorem sE {β:Type}:∀{fs:Z (af×β)} {k:af},k∉fs.map (·.1)->fs.lookup k=B
 |[],_,_=>rfl
 |(a,b)::r,k,h=>by
  rw[qp,qO,oF] at h;have hb:(k==a)=ao:=by simpa using h.1
  simp only[dY,hb];exact sE h.2
def jL (j:JobT) (acc:Z (Key×D)) (m:af):Z (Key×D):=gS acc (.inr m) (bC j)
def jkv (js:Z JobT):Z (Key×D):=js.foldl (λacc j=>j.ms.foldl (jL j) acc) []
def SH [eS κ] (kvs:Z (κ×D)) (k:κ) (v:D):(gS kvs k v).length<=kvs.length+1:=by
 unfold gS;split
 .rw[qe];lia
 .rw[qk];simp
theorem AI (j:JobT):∀(ms:Z af) (acc:Z (Key×D)),(ms.foldl (jL j) acc).length<=acc.length+ms.length
 |[],acc=>by simp
 |m::r,acc=>by rw[kj];have h1:=AI j r (jL j acc m);have h2:(jL j acc m).length<=acc.length+1:=SH _ _ _;rw[qh];lia
theorem F7 {m:J}:∀{js:Z JobT} (acc:Z (Key×D)),(∀j∈js,j.ms.length<=m)->(js.foldl (λacc j=>j.ms.foldl (jL j) acc) acc).length<=acc.length+js.length*m
 |[],acc,_=>by simp
 |j::r,acc,h=>by rw[kj];have h1:=F7 (js:=r) (j.ms.foldl (jL j) acc) λy hy=>h y (qg _ hy);have h2:=AI j j.ms acc;have h3:=h j qf;rw[qh,ME];lia
def iJ (bs:Z BenchT) (ss:Z StepT) (js:Z JobT) (us:Z SetT) (ls:Z LinkT) (ks:Z StockT) (h:aj):Z (af×D):=
 [("benches",.lst (bs.map dj)),("steps",.lst (ss.map dL)),("jobs",.lst (js.map bC)),("setups",.lst (us.map er)),("links",.lst (ls.map eN)),("stocks",.lst (ks.map eQ)),("horizon",.int h),
 ("bench_by_name",.dk (bs.map λb=>(.inr b.nm,dj b))),("step_by_name",.dk (ss.map λs=>(.inr s.nm,dL s))),("setup_by_names",.dt (us.map λu=>([u.b,u.p,u.q].map cC,.int u.n)))]
def pZ (bs:Z BenchT) (ss:Z StepT) (js:Z JobT) (us:Z SetT) (ls:Z LinkT) (ks:Z StockT) (h:aj):Z (af×D):=iJ bs ss js us ls ks h++[(("job_by_step":af),D.dk (jkv js))]
def c8 (bs:Z BenchT) (ss:Z StepT) (js:Z JobT) (us:Z SetT) (ls:Z LinkT) (ks:Z StockT) (h:aj):D:=.ins "Shop" (pZ bs ss js us ls ks h)
noncomputable def lY:Z af:=["benches","steps","jobs","setups","links","stocks","horizon","bench_by_name","step_by_name","setup_by_names","job_by_step"]
def wN:lY.Nodup:=by nofun
def LJ {l:Z α} (h:l.Nodup) (n:J):(l.take n).Nodup:=xba (rF n l) h
section
variable {fs:Z (af×D)} {f:af} {fv:FE} {r:bj}
def jX (n:J) (hk:lY[n]?=U f) (hf:fs.map (·.1)=lY.take n) (h:fv (U (.obj "Shop" fs)::r)=U d):bu (BF "Shop" f 0 fv) g (U (.obj "Shop" fs)::r)=g (U (.obj "Shop" (fs++[(f,d)]))::r):=by
 have hno:fs.lookup f=B:=sE (by
  rw[hf];intro z;obtain⟨i,hi⟩:=List.getElem?_of_mem z;have hin:i<n:=by
   rcases gy i n with q|q
   .exact q
   .rw[Dg (by rw[qH];lia)] at hi;cases hi
  rw[uy hin] at hi;have:=(Nx (gv.mp hi).1 wN).mp (hi.trans hk.symm);lia)
 have hlen:fs.length<100:=by have:=cQ fX hf;rw[qe,qH] at this;have k:lY.length=11:=rfl;lia
 simp only[bu,BF,h,qa,qb,hno,hlen,ye,dc,ko]
def yE (n i:J) (hf:fs.map (·.1)=lY.take n) (h:fs[i]?=U (f,d)):oX "Shop" f 0 (U (.obj "Shop" fs)::r)=U d:=by have e:fs.lookup f=U d:=u7 (by rw[hf];exact LJ wN n) h;show(if U ("Shop":af)=U ("Shop":af) then fs.lookup f else B)=U d;rw[qZ (),e]
end
def Kb {f:α->D} {nm:α->af} {xs:Z α} (hf:∀x,∃r,f x=.tup (.str (nm x)::r)) (h1:fo Y=U (.lst (xs.map f))) (h2:xs.length<=1000) (nd:(xs.map nm).Nodup) :
  cF AA (av (bE (cG (itF fo) (bp 0) tT (fE (szF (av (b2 ixD (vSh 0) (vC (.int 0))) (av (vSh 0) ay)))) [B])) ay) Y=U (.dk (xs.map λx=>(.inr (nm x),f x))):=by
 have hc:=m8 (fi:=itF fo) (fe:=fE (szF (av (b2 ixD (vSh 0) (vC (.int 0))) (av (vSh 0) ay)))) (fv:=[B]) (Y:=Y) (r:=[]) (a:=B) (xs:=xs.map f) (f:=λd=>.tup [match d with|.tup (x::_)=>x|_=>.non,d]) (by unfold itF;rw[h1];rfl) (by rw[qe];exact szN h2 .(a)) () (λx hx=>by obtain⟨y,_,rfl⟩:=dH.mp hx;obtain⟨r,e⟩:=hf y;simp only[av,ay,vSh,vC,b2,fE,szF,eV,qb,qa,qd,dc,qh,qm,uN,sz2,e])
 have e:(xs.map f).map (λd=>D.tup [match d with|.tup (x::_)=>x|_=>.non,d])=xs.map λx=>.tup [.str (nm x),f x]:=by rw[jC];refine Nv λx _=>?_;obtain⟨r,e⟩:=hf x;simp[e]
 rw[e] at hc;have kn:((xs.map λx=>((.inr (nm x):Key),f x)).map (·.1)).Nodup:=by rw[jC];have:=rY (S:=λa b:Key=>a≠b) (cC:af->Key) (λa b hab z=>hab (my z)) nd;rw[jC] at this;exact this
 refine cE (bL hc ci) ?_;show (if _ then _ else _)=_;rw[qZ (by rw[qe];exact h2),E5,qd,LI kn]
def X2 {us:Z SetT} (h1:fo Y=U (.lst (us.map er))) (h2:us.length<=1000) (nd:(us.map λu=>[u.b,u.p,u.q]).Nodup) :
  cF yy (av (bE (cG (itF fo) (bp 0) tT (fE (szF (av (slF (vSh 0) pN (pS (vC (.int 3)))) (av (b2 ixD (vSh 0) (vC (.int 3))) ay)))) [B])) ay) Y=U (.dt (us.map λu=>([u.b,u.p,u.q].map cC,.int u.n))):=by
 have hc:=m8 (fi:=itF fo) (fe:=fE (szF (av (slF (vSh 0) pN (pS (vC (.int 3)))) (av (b2 ixD (vSh 0) (vC (.int 3))) ay)))) (fv:=[B]) (Y:=Y) (r:=[]) (a:=B) (xs:=us.map er) (f:=λd=>match d with|.tup [a,b,c,d]=>.tup [.tup [a,b,c],d]|_=>.non) (by unfold itF;rw[h1];rfl) (by rw[qe];exact szN h2 .(a)) () (λx hx=>by obtain⟨y,_,rfl⟩:=dH.mp hx;simp only[av,ay,vSh,vC,b2,fE,szF,slF,pN,pS,nR,qb,qa,qd,dc,qh,qm,uN,sz2,er,R0])
 rw[jC] at hc;have kn:((us.map λu=>([u.b,u.p,u.q].map (cC:af->Key),D.int u.n)).map (·.1)).Nodup:=by rw[jC];have inj:∀a b:Z af,a.map (cC:af->Key)=b.map cC->a=b:=λa b z=>(ZQ (λx y q=>my q)).mp z;have:=rY (S:=λa b:Z Key=>a≠b) (MP (cC:af->Key)) (λa b hab z=>hab (inj a b z)) nd;rw[jC] at this;exact this
 refine cE (bL hc ci) ?_;show (if _ then _ else _)=_;have e:=EV (t:=λu:SetT=>[u.b,u.p,u.q]) (f:=λu=>.int u.n) us;rw[qZ (by rw[qe];exact h2)];have e2:n5 (us.map ((λd=>match d with|.tup [a,b,c,d]=>D.tup [.tup [a,b,c],d]|_=>.non) ∘ er))=U (us.map λu=>([u.b,u.p,u.q].map cC,.int u.n)):=e;rw[e2,qd,LI kn]
section
variable {bs:Z BenchT} {js:Z JobT} {us:Z SetT} {h:aj}
def Aj:(iJ bs ss js us ls ks h).map (·.1)=lY.take 10:=rfl
def DQ:(pZ bs ss js us ls ks h).map (·.1)=lY:=rfl
abbrev r9 (bs:Z BenchT) (ss:Z StepT) (js:Z JobT) (us:Z SetT) (ls:Z LinkT) (ks:Z StockT) (h:aj) (a b:ak Slot):bj:=[oS (.lst (bs.map dj)),oS (.lst (ss.map dL)),oS (.lst (js.map bC)),oS (.lst (us.map er)),oS (.lst (ls.map eN)),oS (.lst (ks.map eQ)),oS (.int h),oS .non,a,b]
noncomputable abbrev obJ (bs:Z BenchT) (ss:Z StepT) (js:Z JobT) (us:Z SetT) (ls:Z LinkT) (ks:Z StockT) (h:aj) (kvs:Z (Key×D)):ak Slot:=U (.objd "Shop" (iJ bs ss js us ls ks h) "job_by_step" kvs)
def Qf {j:JobT} {m:af} {kvs:Z (Key×D)} (hl:kvs.length<100000):l9 "Shop" "job_by_step" 0 (vSh 10) (vSh 9) (obJ bs ss js us ls ks h kvs::r9 bs ss js us ls ks h (oS (bC j)) (oS (.str m)))=U (.nx,obJ bs ss js us ls ks h (jL j kvs m)::r9 bs ss js us ls ks h (oS (bC j)) (oS (.str m))):=by have hno:(iJ bs ss js us ls ks h).lookup ("job_by_step":af)=B:=sE (by rw[Aj];nofun);simp only[l9,vSh,qb,qc,qa,jQ,hno,hl,ye,dc,ko,jL]
def Of {j:JobT} {acc:Z (Key×D)} {z:ak Slot} (hl:acc.length+j.ms.length<100000):∃z',fS (itF (b2 ixD (vSh 9) (vC (.int 4)))) (bp 10) (l9 "Shop" "job_by_step" 0 (vSh 10) (vSh 9)) (obJ bs ss js us ls ks h acc::r9 bs ss js us ls ks h (oS (bC j)) z)=U (.nx,obJ bs ss js us ls ks h (j.ms.foldl (jL j) acc)::r9 bs ss js us ls ks h (oS (bC j)) z'):=by
 obtain⟨KK,h1,z',h2⟩:=wW (gg:=bp 10) (body:=l9 "Shop" "job_by_step" 0 (vSh 10) (vSh 9)) (xs:=j.ms.map D.str) (Y:=obJ bs ss js us ls ks h acc::r9 bs ss js us ls ks h (oS (bC j)) z)
  (λi Y=>∃z,Y=obJ bs ss js us ls ks h ((j.ms.take i).foldl (jL j) acc)::r9 bs ss js us ls ks h (oS (bC j)) z) #[z,by simp] (λi x Y hx hI=>by
   obtain⟨z,rfl⟩:=hI;rw[ql] at hx;obtain⟨m,hm,rfl⟩:=oMd hx;have tk:j.ms.take (i+1)=j.ms.take i++[m]:=by rw[se,hm];rfl
   have hlen:=AI j (j.ms.take i) acc;rw[qH] at hlen;refine#[_,_,(),Qf .(b),oS (.str m),?_];rw[tk,xW];rfl)
 refine#[z',?_];have e:itF (b2 ixD (vSh 9) (vC (.int 4))) (obJ bs ss js us ls ks h acc::r9 bs ss js us ls ks h (oS (bC j)) z)=U (j.ms.map D.str):=by simp only[vSh,vC,b2,itF,sV,tN,qb,qc,qa,bC]
 unfold fS;rw[e,qa,h1,h2,qe,oG]
def V6 (hj:js.length<=40) (hm:∀j∈js,j.ms.length<=40):∃z z',fF (bp 9) (fS (itF (b2 ixD (vSh 9) (vC (.int 4)))) (bp 10) (l9 "Shop" "job_by_step" 0 (vSh 10) (vSh 9))) (js.map bC) (obJ bs ss js us ls ks h []::r9 bs ss js us ls ks h B B)=U (.nx,obJ bs ss js us ls ks h (jkv js)::r9 bs ss js us ls ks h z z'):=by
 obtain⟨KK,h1,z,z',h2⟩:=wW (gg:=bp 9) (body:=fS (itF (b2 ixD (vSh 9) (vC (.int 4)))) (bp 10) (l9 "Shop" "job_by_step" 0 (vSh 10) (vSh 9))) (xs:=js.map bC) (Y:=obJ bs ss js us ls ks h []::r9 bs ss js us ls ks h B B)
  (λi Y=>∃z z',Y=obJ bs ss js us ls ks h (jkv (js.take i))::r9 bs ss js us ls ks h z z') #[B,B,by simp[jkv]] (λi x Y hx hI=>by
   obtain⟨z,z',rfl⟩:=hI;rw[ql] at hx;obtain⟨j,hjm,rfl⟩:=oMd hx;have tk:js.take (i+1)=js.take i++[j]:=by rw[se,hjm];rfl
   have hlen:=F7 (m:=40) (js:=js.take i) [] λy hy=>hm y (uI hy);rw[qH,qm] at hlen;have h4:=hm j (qS hjm);obtain⟨w,hw⟩:=Of (bs:=bs) (ss:=ss) (js:=js) (us:=us) (ls:=ls) (ks:=ks) (h:=h) (j:=j) (acc:=jkv (js.take i)) (z:=z') (by unfold jkv;lia);refine#[_,_,(),hw,oS (bC j),w,?_];rw[tk];unfold jkv;rw[xW];rfl)
 refine#[z,z',?_];rw[h1,h2,qe,oG]
def U1 (g:Good bs ss js us ls ks h) (ml:(js.flatMap (·.ms)).length<=300):AV [.lst (bs.map dj),.lst (ss.map dL),.lst (js.map bC),.lst (us.map er),.lst (ls.map eN),.lst (ks.map eQ),.int h]=U (c8 bs ss js us ls ks h):=by
 have hl:(ss.map (·.nm)).length<=40:=by rw[qe];exact g.sl.2
 have f1:=mn (d:=.lst (bs.map dj)) (iQ (by have:=g.bl.2;lia) λx hx=>Oe (g.b x hx));have f2:=mn (d:=.lst (ss.map dL)) (iQ (by have:=g.sl.2;lia) λx hx=>Uu (g.s x hx));have f3:=mn (d:=.lst (js.map bC)) (iQ (by have:=g.jl;lia) λx hx=>Hn hl (g.j x hx));have f4:=mn (d:=.lst (us.map er)) (iQ (by have:=g.ul;lia) λx hx=>Vb);have f5:=mn (d:=.lst (ls.map eN)) (iQ (by have:=g.ll;lia) λx hx=>P8);have f6:=mn (d:=.lst (ks.map eQ)) (iQ (by have:=g.kl;lia) λx hx=>Ft hl (g.k x hx));obtain⟨z,z',ho⟩:=V6 (bs:=bs) (ss:=ss) (us:=us) (ls:=ls) (ks:=ks) (h:=h) g.jl λj hj=>qP (g.j j hj).ln hl;have key:∀(G:FS) (KK:bj),G (U (.obj "Shop" [])::[oS (.lst (bs.map dj)),oS (.lst (ss.map dL)),oS (.lst (js.map bC)),oS (.lst (us.map er)),oS (.lst (ls.map eN)),oS (.lst (ks.map eQ)),oS (.int h),B,B,B])=U (.nx,obJ bs ss js us ls ks h (jkv js)::KK)->
   pw 3 "Shop" G [.lst (bs.map dj),.lst (ss.map dL),.lst (js.map bC),.lst (us.map er),.lst (ls.map eN),.lst (ks.map eQ),.int h]=U (c8 bs ss js us ls ks h):=λG KK e=>by
  unfold pw;show(G (U (.obj "Shop" [])::[oS (.lst (bs.map dj)),oS (.lst (ss.map dL)),oS (.lst (js.map bC)),oS (.lst (us.map er)),oS (.lst (ls.map eN)),oS (.lst (ks.map eQ)),oS (.int h),B,B,B])).bind _=_;rw[e];rfl
 refine key _ (r9 bs ss js us ls ks h z z') ((mo (cE () (Tl g ml))).trans ?_);show bu _ _ (U (.obj "Shop" [])::r9 bs ss js us ls ks h B B)=_;refine(gq (cz (b:=ao) ())).trans ?_;refine(jX 0 () () (cE () f1)).trans ?_;refine(jX 1 () () (cE () f2)).trans ?_;refine(jX 2 () () (cE () f3)).trans ?_;refine(jX 3 () () (cE () f4)).trans ?_;refine(jX 4 () () (cE () f5)).trans ?_;refine(jX 5 () () (cE () f6)).trans ?_;refine(jX 6 () () (d:=.int h) ()).trans ?_;refine(jX 7 () () (Kb (f:=dj) (nm:=(·.nm)) (xs:=bs) (λx=>#[_,()]) (yE 7 0 () ()) (by have:=g.bl.2;lia) g.bn)).trans ?_;refine(jX 8 () () (Kb (f:=dL) (nm:=(·.nm)) (xs:=ss) (λx=>#[_,()]) (yE 8 1 () ()) (by have:=g.sl.2;lia) g.sn)).trans ?_;refine(jX 9 () () (X2 (us:=us) (yE 9 3 () ()) (by have:=g.ul;lia) g.un)).trans ?_;have hno:(iJ bs ss js us ls ks h).lookup ("job_by_step":af)=B:=sE (by rw[Aj];nofun);have hle:(iJ bs ss js us ls ks h).length<100:=by simp[iJ]
 have e1:sB "Shop" "job_by_step" 0 (U (.obj "Shop" (iJ bs ss js us ls ks h))::r9 bs ss js us ls ks h B B)=U (.nx,obJ bs ss js us ls ks h []::r9 bs ss js us ls ks h B B):=by simp only[sB,qb,hno,hle,ye,dc,ko]
 have e2:itF (oX "Shop" "jobs" 0) (obJ bs ss js us ls ks h []::r9 bs ss js us ls ks h B B)=U (js.map bC):=by
  have lk:(iJ bs ss js us ls ks h).lookup ("jobs":af)=U (.lst (js.map bC)):=u7 (i:=2) (by rw[Aj];exact LJ wN 10) ();have n1:("jobs":af)≠"job_by_step":=by nofun
  have e:oX "Shop" "jobs" 0 (obJ bs ss js us ls ks h []::r9 bs ss js us ls ks h B B)=U (.lst (js.map bC)):=by show(if U ("Shop":af)=U ("Shop":af) then (if ("jobs":af)="job_by_step" then B else (iJ bs ss js us ls ks h).lookup ("jobs":af)) else B)=_;rw[qZ (),xa n1,lk]
  unfold itF;rw[e];rfl
 show bu (sB "Shop" "job_by_step" 0) (fS (itF (oX "Shop" "jobs" 0)) (bp 9) (fS (itF (b2 ixD (vSh 9) (vC (.int 4)))) (bp 10) (l9 "Shop" "job_by_step" 0 (vSh 10) (vSh 9)))) (U (.obj "Shop" (iJ bs ss js us ls ks h))::r9 bs ss js us ls ks h B B)=_;unfold bu;rw[e1,qa];show fS _ _ _ _=_;unfold fS;rw[e2,qa];exact ho
end
abbrev dw:=ar->bj
@[simp]def JZ {x:α} {y:β} {g:α->β->ak (ak γ)} :ob (U (U (x,y))) g=g x y:=rfl
def Ev (f:bj->aj->ak (ak (α×aj))) (Y:dw) (P:α->Prop):Prop:=∀r,∃a r',(∀q,f (Y q) r=U (U (a,r')))/\P a
def Es (g:(FRs aj)) (Y:dw) (P:Fl->dw->Prop):Prop:=∀r,∃fl KK r',(∀q,g (Y q) r=U (U (fl,KK q,r')))/\P fl KK
def EvF (F:FQ') (ds:Z D) (P:D->Prop):Prop:=∀r,∃d r',(∀q,F q ds r=U (U (d,r')))/\P d
section
variable {Y:dw} {f fa fb:(FR aj)} {fr:(FRa aj)} {P:D->Prop} {g g':(FRs aj)} {R:Fl->dw->Prop}
def Ev.imp {f:bj->aj->ak (ak (α×aj))} {P Q:α->Prop} (h:Ev f Y P) (k:∀a,P a->Q a):Ev f Y Q:=λr=>by obtain⟨a,r',h1,h2⟩:=h r;exact#[a,r',h1,k a h2]
def EvF.imp {F:FQ'} {Q:D->Prop} (h:EvF F ds P) (k:∀a,P a->Q a):EvF F ds Q:=λr=>by obtain⟨a,r',h1,h2⟩:=h r;exact#[a,r',h1,k a h2]
def Es.imp {S:Fl->dw->Prop} (h:Es g Y R) (k:∀a b,R a b->S a b):Es g Y S:=λr=>by obtain⟨a,b,r',h1,h2⟩:=h r;exact#[a,b,r',h1,k a b h2]
def aC {f:bj->ak α} {a:α} {P:α->Prop} (h:∀q,f (Y q)=U a) (k:P a):Ev (rP f) Y P:=λr=>#[a,r,λq=>by unfold rP;rw[h];rfl,k]
def nG {f:bj->aj->ak (ak (α×aj))} {g:bj->α->aj->ak (ak (β×aj))} {P:β->Prop} (h:Ev f Y λa=>Ev (λY r=>g Y a r) Y P):Ev (rb f g) Y P:=λr=>by obtain⟨a,r1,h1,h2⟩:=h r;obtain⟨b,r2,h3,h4⟩:=h2 r1;exact#[b,r2,λq=>by unfold rb;rw[h1];exact h3 q,h4]
def fT {f:bj->aj->ak (ak (α×aj))} {g:α->ak β} {P:β->Prop} (h:Ev f Y λa=>∃b,g a=U b/\P b):Ev (rM f g) Y P:=λr=>by obtain⟨a,r1,h1,b,h2,h3⟩:=h r;exact#[b,r1,λq=>by unfold rM;rw[h1];show(g a).map _=_;rw[h2];rfl,h3]
def Ha {b:aR} {P:aR->Prop} (h:P b):Ev (rT b) Y P:=λr=>#[b,r,λ_=>rfl,h]
def wJ {f:FM aj α} {P:α->Prop} (h:Ev f Y P):Ev (rNo f) Y P:=λr=>by obtain⟨a,r1,h1,h2⟩:=h r;exact#[a,r1,λq=>by unfold rNo;rw[h1];rfl,h2]
def cR {g:D->D->ak D} (h:Ev fa Y λx=>Ev fb Y λy=>∃z,g x y=U z/\P z):Ev (r2 g fa fb) Y P:=nG (h.imp λ_ k=>fT k)
def aP {P:Z D->Prop} (h:Ev fa Y λx=>Ev fr Y λl=>P (x::l)):Ev (aV fa fr) Y P:=nG (h.imp λ_ k=>fT (k.imp λ_ z=>#[_,(),z]))
def bT {P:Z D->Prop} (h:P []):Ev (rP ay) Y P:=aC .(c) h
def ef (h:Ev fr Y λl=>l.length<=10/\P (.tup l)):Ev (rM fr kW) Y P:=fT (h.imp λl k=>#[.tup l,by unfold kW szD;rw[qZ (by unfold aH;lia)];rfl,k.2])
def BB (h:Ev fr Y λl=>P (.lst l)):Ev (rM fr yD) Y P:=fT (h.imp λl k=>#[.lst l,(),k])
def sP {P:Z D->Prop} (h:Ev fr Y λl=>l.length<=10/\P l):Ev (rM fr szD) Y P:=fT (h.imp λl k=>#[l,by unfold szD;rw[qZ (by unfold aH;lia)],k.2])
def fG {F:FQ'} (hs:∀q,(Y q)[i]?=U (U (.pin q))) (h:Ev fr Y λds=>EvF F ds P):Ev (ck F i fr) Y P:=nG (h.imp λds k r=>by
 obtain⟨d,r2,h3,h4⟩:=k r;exact#[d,r2,λq=>by show(match (Y q)[i]? with|some (U (.pin q))=>F q ds r|_=>B)=_;rw[hs];exact h3 q,h4])
def iR (h:Es g (λq=>U (.pin q)::(ds.map (fun d=>U (Slot.sh d))++bB n B)) λfl _=>∃d,fl=.rt d/\P d):EvF (bH n g) ds P:=λr=>by obtain⟨fl,KK,r1,h1,d,rfl,h2⟩:=h r;exact#[d,r1,λq=>by unfold bH flR;rw[h1];rfl,h2]
def VQ {m:aj} (h0:0<m) (h1:m<1000000000):EvF c9 [.int m] λd=>∃k,d=.int k/\0<=k/\k<m:=λr=>
 #[.int (r%m),r / m,λq=>by
  have e1:nX (.int r) (.int m)=U (.int (r%m)):=by show(if 0<m then _ else _)=_;rw[qZ h0]
  have e2:o7 (.int r) (.int m)=U (.int (r / m)):=by show(if 0<m/\m<1073741824 then _ else _)=_;rw[qZ #[h0,by lia]]
  simp only[c9,yH,bH,flR,bI,dN,qB,ob,r2,rb,rM,Ky,rP,vSh,qp,qR,qq,qU,bB,qc,qb,qa,qd,e1,e2,K7,eO,DF,ko],
 _,(),xU _ .(b),xV _ h0]
def cj {F:FE} {m:aj} (hs:∀q,(Y q)[i]?=U (U (.pin q))) (hm:∀q,F (Y q)=U (.int m)) (h0:0<m) (h1:m<1000000000) (k:∀n:aj,0<=n->n<m->P (.int n)):Ev (ck c9 i (aV (rP F) (rP ay))) Y P:=
 fG hs (aP (aC hm (bT ((VQ h0 h1).imp λd #[n,e,h2,h3]=>by rw[e];exact k n h2 h3))))
def ku {F:FE} {m c:aj} {P:aR->Prop} (hs:∀q,(Y q)[i]?=U (U (.pin q))) (hm:∀q,F (Y q)=U (.int m)) (h0:0<m) (h1:m<1000000000) (k:∀b,P b):Ev (rM (r2 eqD (ck c9 i (aV (rP F) (rP ay))) (rP (vC (.int c)))) blD) Y P:=
 fT (cR (cj hs hm h0 h1 λn _ _=>aC .(c) #[_,(),_,(),k _]))
def RP {F:FE} {m c:aj} {P:aR->Prop} (hs:∀q,(Y q)[i]?=U (U (.pin q))) (hm:∀q,F (Y q)=U (.int m)) (h0:0<m) (h1:m<1000000000) (k:∀b,P b):Ev (rM (r2 neD (ck c9 i (aV (rP F) (rP ay))) (rP (vC (.int c)))) blD) Y P:=
 fT (cR (cj hs hm h0 h1 λn _ _=>aC .(c) #[_,(),_,(),k _]))
def GF {F:FE} {m c:aj} (hs:∀q,(Y q)[i]?=U (U (.pin q))) (hm:∀q,F (Y q)=U (.int m)) (h0:0<m) (h1:m<1000000000) (k:∀b,P (.bl b)):Ev (r2 eqD (ck c9 i (aV (rP F) (rP ay))) (rP (vC (.int c)))) Y P:=
 cR (cj hs hm h0 h1 λn _ _=>aC .(c) #[_,(),k _])
def wZ {ft gt:(FRt aj)} {P:aR->Prop} (h:Ev ft Y λb=>if b=ah then Ev gt Y P else P ao):Ev (vq ft gt) Y P:=nG (h.imp λb k=>by
 cases b with
 |true=>exact k
 |false=>exactλr=>#[ao,r,λ_=>rfl,k])
def IG {ft gt:(FRt aj)} {P:aR->Prop} (h:Ev ft Y λb=>if b=ah then P ah else Ev gt Y P):Ev (rOr ft gt) Y P:=nG (h.imp λb k=>by
 cases b with
 |false=>exact k
 |true=>exactλr=>#[ah,r,λ_=>rfl,k])
def cA (h:Ev f Y λd=>Es g (λq=>(Y q).set j (oS d)) R):Es (bI (dN j f) g) Y R:=λr=>by obtain⟨d,r1,h1,h2⟩:=h r;obtain⟨fl,KK,r2,h3,h4⟩:=h2 r1;exact#[fl,KK,r2,λq=>by unfold bI dN qB;rw[h1];exact h3 q,h4]
def wV (h:Ev fr Y λl=>Es g (λq=>(Y q).set j (oS (.lst l))) R):Es (bI (tH j fr) g) Y R:=λr=>by obtain⟨d,r1,h1,h2⟩:=h r;obtain⟨fl,KK,r2,h3,h4⟩:=h2 r1;exact#[fl,KK,r2,λq=>by unfold bI tH qB;rw[h1];exact h3 q,h4]
def JS (h:Ev f Y λd=>R .nx λq=>(Y q).set j (oS d)):Es (dN j f) Y R:=λr=>by obtain⟨d,r1,h1,h2⟩:=h r;exact#[_,_,r1,λq=>by unfold dN qB;rw[h1];rfl,h2]
def pv (h:Ev fr Y λd=>Es g (λq=>(Y q).set j (U (.own d))) R):Es (bI (pV j fr) g) Y R:=λr=>by obtain⟨d,r1,h1,h2⟩:=h r;obtain⟨fl,KK,r2,h3,h4⟩:=h2 r1;exact#[fl,KK,r2,λq=>by unfold bI pV qB;rw[h1];exact h3 q,h4]
def pC (hs:∀q,(Y q)[j]?=U (U (.own ds))) (hl:ds.length<=1000) (h:Ev f Y λd=>R .nx λq=>(Y q).set j (U (.own (ds++[d])))):Es (iK j f) Y R:=λr=>by obtain⟨d,r1,h1,h2⟩:=h r;exact#[_,_,r1,λq=>by unfold iK;rw[hs];show ob (f (Y q) r) _=_;rw[h1];show (if _ then _ else _)=_;rw[qZ (by unfold aH;lia)],h2]
def lQ (hs:∀q,(Y q)[j]?=U (U (.own ds))) (h:Es g (λq=>(Y q).set j (oS (.lst ds))) R):Es (mx j g) Y R:=λr=>by obtain⟨fl,KK,r2,h3,h4⟩:=h r;exact#[fl,KK,r2,λq=>by unfold mx;rw[hs];exact h3 q,h4]
def cU (h:Ev f Y λd=>R (.rt d) Y):Es (eO f) Y R:=λr=>by obtain⟨d,r1,h1,h2⟩:=h r;exact#[_,Y,r1,λq=>by unfold eO qB;rw[h1];rfl,h2]
def dv {ft:(FRt aj)} (h:Ev ft Y λb=>Es (if b=ah then g else g') Y R):Es (qIf ft g g') Y R:=λr=>by obtain⟨b,r1,h1,h2⟩:=h r;obtain⟨fl,KK,r2,h3,h4⟩:=h2 r1;refine#[fl,KK,r2,λq=>?_,h4];unfold qIf qB;rw[h1];have:=h3 q;cases b<;>exact this
def df (h:R .nx Y):Es eh Y R:=λr=>#[.nx,Y,r,λ_=>rfl,h]
def eB (h:Es g Y λfl KK=>match fl with|.nx=>Es g' KK R|fl=>R fl KK):Es (bI g g') Y R:=λr=>by
 obtain⟨fl,KK,r1,h1,h2⟩:=h r;cases fl with
 |nx=>
  obtain⟨fl,ρ2,r2,h3,h4⟩:=h2 r1;exact#[fl,ρ2,r2,λq=>by unfold bI;rw[h1];exact h3 q,h4]
 |_=>exact#[_,KK,r1,λq=>by unfold bI;rw[h1];rfl,h2]
def vn {fi:(FRa aj)} (I:J->dw->Prop) (h:Ev fi Y λxs=>I 0 Y/\(∀i x Y,xs[i]?=U x->I i Y->∃ρ1,(∀q,gg x (Y q)=U (ρ1 q))/\Es g ρ1 λfl ρ2=>fl=.nx/\I (i+1) ρ2)/\∀Y,I xs.length Y->R .nx Y):Es (m9 fi gg g) Y R:=λr=>by
 obtain⟨xs,r1,h1,h0,hs,he⟩:=h r;have key:∀(n i:J) (Y:dw) (r:aj),i+n=xs.length->I i Y->∃KK r',(∀q,mj gg g (xs.drop i) (Y q) r=U (U (.nx,KK q,r')))/\I xs.length KK:=by
  intro n
  induction n with
  |zero=>
   intro i Y r hi hI;have e:i=xs.length:=by lia
   subst e;exact#[Y,r,λq=>by rw[rQ];rfl,hI]
  |succ n ih=>
   intro i Y r hi hI;have hlt:i<xs.length:=by lia
   obtain⟨ρ1,h2,h3⟩:=hs i xs[i] Y (by simp[hlt]) hI;obtain⟨fl,ρ2,r2,h4,rfl,h5⟩:=h3 r;obtain⟨ρ3,r3,h6,h7⟩:=ih (i+1) ρ2 r2 .(b) h5;refine#[ρ3,r3,λq=>?_,h7];rw[mO hlt];unfold mj;rw[h2,qa];unfold jH;rw[h4];exact h6 q
 obtain⟨KK,r',h2,h3⟩:=key xs.length 0 Y r1 .(b) h0;exact#[.nx,KK,r',λq=>by unfold m9 qB;rw[h1];have:=h2 q;rwa [h9] at this,he KK h3]
def u9 {P:Z D->Prop} (h:Ev fr Y λl=>∃n:aj,l=[.int n]/\0<=n/\n<=1000/\P ((db n.toNat).map λi:J=>D.int (0+i))):Ev (rM fr iw) Y P:=fT (h.imp λl #[n,e,h0,h1,k]=>#[_,by rw[e];exact EX #[h0,by lia],k])
def zQ {fi:(FRa aj)} {ft:(FRt aj)} {fe:(FR aj)} {L:D->dw} {Q:Z D->Prop} (h:Ev fi Y λxs=>xs.length<=1000/\∃(S:J->Z D->Prop),S 0 []/\(∀i x l,xs[i]?=U x->S i l->Ev ft (L x) λb=>if b=ah then Ev fe (L x) λd=>S (i+1) (l++[d]) else S (i+1) l)/\∀l,S xs.length l->Q l)
  (hσ:∀x q,(fvR fv (Y q)).set 0 (oS x)=L x q) (hσ2:∀x y q,(L x q).set 0 (oS y)=L y q):Ev (nW fi (bp 0) ft fe fv) Y Q:=λr=>by
 obtain⟨xs,r1,h1,hl,S,h0,hs,he⟩:=h r;have key:∀(n i:J) (l:Z D) (τ:dw) (r:aj),i+n=xs.length->(∀x q,(τ q).set 0 (oS x)=L x q)->S i l->∃m r',(∀q,jM (bp 0) ft fe (xs.drop i) (τ q) r=U (U (m,r')))/\S xs.length (l++m):=by
  intro n
  induction n with
  |zero=>
   intro i l τ r hi _ hI;have e:i=xs.length:=by lia
   subst e;exact#[[],r,λq=>by rw[rQ];rfl,by rw[dZ];exact hI]
  |succ n ih=>
   intro i l τ r hi hτ hI;have hlt:i<xs.length:=by lia
   obtain⟨b,r2,h2,h3⟩:=hs i xs[i] l (by simp[hlt]) hI r;cases b with
   |false=>
    obtain⟨m,r3,h4,h5⟩:=ih (i+1) l (L xs[i]) r2 .(b) (λy q=>hσ2 _ _ _) h3;refine#[m,r3,λq=>?_,h5];rw[mO hlt];unfold jM bp;rw[hτ,qa,h2];exact h4 q
   |true=>
    obtain⟨d,r3,h4,h5⟩:=h3 r2;obtain⟨m,r4,h6,h7⟩:=ih (i+1) (l++[d]) (L xs[i]) r3 .(b) (λy q=>hσ2 _ _ _) h5;refine#[d::m,r4,λq=>?_,by rw[qy] at h7;exact h7];rw[mO hlt];unfold jM bp;rw[hτ,qa,h2,JZ,qZ (),h4,JZ];have:=h6 q;unfold bp at this;rw[this];rfl
 obtain⟨m,r',h2,h3⟩:=key xs.length 0 [] (λq=>fvR fv (Y q)) r1 .(b) hσ h0;refine#[m,r',λq=>?_,he _ h3];unfold nW rb;rw[h1];show(if xs.length<=aH then _ else _)=_;rw[qZ (by unfold aH;lia)];have:=h2 q
 rwa [h9] at this
end
def lU {g g':(FRs aj)} {Y:dw} {R:Fl->dw->Prop} (h:Es g Y λfl KK=>fl=.nx/\Es g' KK R):Es (bI g g') Y R:=eB (h.imp λfl KK #[e,k]=>by subst e;exact k)
noncomputable def o8:Z af:=["","x","low","abcdef"]
noncomputable def bN (p:af):Z af:=["a"++p,"b"++p]
noncomputable def sN (p:af):Z af:=[p++"s",p++"t",p++"u"]
def Ih:∀p∈o8,(bN p).Nodup/\(∀x∈bN p,aG x=ah):=by nofun
def F3:∀p∈o8,(sN p).Nodup/\(∀x∈sN p,aG x=ah):=by nofun
def K2:∀p∈o8,p.length<=6:=by nofun
def sO {i j:af} (h:i.length+j.length<=100):bZ (.str i) (.str j)=U (.str (i++j)):=by show(if i.length+j.length<=aH then _ else _)=_;rw[qZ (by unfold aH;lia)]
def AL {k:aj} (h0:0<=k) (h1:k<2):k=0\/k=1:=by lia
def PK {k:aj} (h0:0<=k) (h1:k<3):k=0\/k=1\/k=2:=by lia
abbrev beE (p:af) (h:aj) (bs:Z BenchT) (a b c:ak Slot):dw:=λq=>[U (.pin q),oS (.str p),oS (.int h),U (.own (bs.map dj)),a,b,c]
def Tv {p:af} (hp:p∈o8) {h:aj} (h2:2<=h) (h5:h<=5):EvF xx [.str p,.int h] λd=>∃bs:Z BenchT,d=.lst (bs.map dj)/\1<=bs.length/\bs.length<=2/\(∀b∈bs,GoodB h b)/\bs.map (·.nm)=(bN p).take bs.length:=by
 unfold xx;refine iR (pv (aC .(c) (lU ?_)));refine vn (λi Y=>i<=2/\∃(bs:Z BenchT) (a b c:ak Slot),Y=beE p h bs a b c/\bs.length=i/\(∀b∈bs,GoodB h b)/\bs.map (·.nm)=(bN p).take i) (u9 (aP (cR (aC .(c) (cj .(c) .(c) .(a) .(a) fun n h0 h1=>⟨.int (1+n),(),bT ⟨1+n,(),by lia,by lia,⟨eA _,[],B,B,B,(),(),(fun _ z=>nomatch z),()⟩,?_,?_⟩⟩)))))
 .rintro i x Y hx ⟨hi,bs,a,b,c,rfl,hl,hg,hn⟩;rw[ql] at hx;obtain⟨k,hk,rfl⟩:=oMd hx;have hk':=gv.mp hk;obtain⟨hlt,hk2⟩:=hk';rw[ZT] at hk2;subst hk2;rw[qX] at hlt;have hi2:i<2:=by lia
  refine#[_,λ_=>rfl,cA (aC .(c) (lU ?_))];have step:Es (qIf (rM (r2 eqD (ck c9 0 (aV (rP (vC (.int 3))) (rP ay))) (rP (vC (.int 1)))) blD) (bI (dN 6 (ck c9 0 (aV (rP (vSh 2)) (rP ay)))) (dN 5 (rM (rM (aV (rM (aV (rP (vSh 6)) (aV (r2 bZ (rP (b2 bZ (vSh 6) (vC (.int 1)))) (ck c9 0 (aV (rP (b2 kt (vSh 2) (vSh 6))) (rP ay)))) (rP ay))) kW) (rP ay)) szD) yD))) eh) (beE p h bs (oS (.int (0+(i:aj)))) (oS (.lst [])) c) λfl KK=>fl=.nx/\∃(br:Z (aj×aj)) (c:ak Slot),KK=beE p h bs (oS (.int (0+(i:aj)))) (oS (.lst (br.map dIv))) c/\br.length<=1/\∀p∈br,0<=p.1/\p.1<p.2/\p.2<=h:=by
   refine dv (ku .(c) .(c) .(a) .(a) fun b=>?_);cases b with
   |false=>exact df #[(),[],c,(),by decide,λ_ z=>nomatch z]
   |true=>
    refine cA (cj (m:=h) .(c) .(c) .(b) .(b) λn h0 h1=>?_);refine JS (BB (sP (aP (ef (aP (aC .(c) ?_))))));refine aP (cR (aC .(c) (cj (m:=h-n) .(c) .(c) .(b) .(b) λk k0 k1=>?_)));refine#[_,(),bT #[by simp,bT #[by simp,rfl,[(n,n+1+k)],_,rfl,by simp,λp hp=>?_]]];rw[cm.mp hp];exact#[h0,by show n<n+1+k;lia,by show n+1+k<=h;lia]
  refine step.imp ?_;rintro _ _ ⟨rfl,br,c,rfl,hbl,hbr⟩;refine#[(),?_];have hpl:=K2 p hp;have nm:∃x,(bN p)[i]?=U x/\b2 bZ (b2 ixD (vC (.str "ab")) (vSh 4)) (vSh 1)=b2 bZ (b2 ixD (vC (.str "ab")) (vSh 4)) (vSh 1)/\∀q,b2 bZ (b2 ixD (vC (.str "ab")) (vSh 4)) (vSh 1) (beE p h bs (oS (.int (0+(i:aj)))) (oS (.lst (br.map dIv))) c q)=U (.str x):=by
   have:i=0\/i=1:=by lia
   rcases this with rfl|rfl
   .exact#["a"++p,(),(),λq=>bh (x:=.str "a") () () (sO (by show 1+p.length<=100;lia))]
   .exact#["b"++p,(),(),λq=>bh (x:=.str "b") () () (sO (by show 1+p.length<=100;lia))]
  obtain⟨x,hx1,_,hx2⟩:=nm;refine pC (ds:=bs.map dj) .(c) (by rw[qe];lia) (aC (a:=dj #[x,br]) (λq=>?_) #[(),by lia,bs++[#[x,br]],(oS (.int (0+(i:aj)))),(oS (.lst (br.map dIv))),c,by unfold beE;rw[gA];rfl,by rw[qk,qY];lia,λb hb=>?_,?_])
  .unfold fE szF;rw[bL (hx2 q) (bL (show vSh 5 _=U (.lst (br.map dIv)) from ()) ci)];rfl
  .rcases fW.mp hb with hb|hb
   .exact hg b hb
   .rw[cm.mp hb];refine#[(Ih p hp).2 x (qS hx1),by show br.length<=10;lia,hbr,λi p q e1 e2=>?_];have:=(gv.mp e2).1;simp only at this;lia
  .rw[gA,hn,se,hx1];rfl
 .rintro Y ⟨hi,bs,a,b,c,rfl,hl,hg,hn⟩;rw[qe,qX] at hl hn;refine#[(),lQ (ds:=bs.map dj) .(c) (cU (aC .(c) #[_,(),bs,(),by lia,by lia,hg,by rw[hl];exact hn]))]
def g9 {f:α->D} {xs:Z α} {n:aj} (h0:0<=n) (h1:n<xs.length):∃x,xs[n.toNat]?=U x/\x∈xs/\ixD (.lst (xs.map f)) (.int n)=U (f x):=by
 have hl:n.toNat<xs.length:=by lia
 refine#[xs[n.toNat],by simp[hl],Y1 hl,?_];have e:ixD (.lst (xs.map f)) (.int n)=ixD (.lst (xs.map f)) (.int (n.toNat:aj)):=by rw[show(n.toNat:aj)=n by lia]
 rw[e,ixL,ql];simp[hl]
def gD {f:α->D} {xs:Z α} (h:vSh i Y=U (.lst (xs.map f))):cF cu (av (vSh i) ay) Y=U (.int xs.length):=by refine cE (bL h ci) ?_;show U (D.int ((xs.map f).length:J))=_;rw[qe]
def G8 {n:aj} {x:D} (hx:((db n.toNat).map λi:J=>D.int (0+i))[i]?=U x):x=.int (0+(i:aj))/\(i:aj)<n:=by rw[ql] at hx;obtain⟨k,hk,rfl⟩:=oMd hx;obtain⟨hlt,hk2⟩:=gv.mp hk;rw[ZT] at hk2;subst hk2;rw[qX] at hlt;exact#[(),by lia]
abbrev stE (p:af) (bs:Z BenchT) (h:aj) (ss:Z StepT) (a b c:ak Slot):dw:=λq=>[U (.pin q),oS (.str p),oS (.lst (bs.map dj)),oS (.int h),U (.own (ss.map dL)),a,b,c]
abbrev yk (f:FE):(FR aj):=rM (aV (rP f) (aV (r2 bZ (rP (vC (.int 1))) (ck c9 0 (aV (rP (cF tM (av (vC (.int 3)) (av (vSh 3) ay)))) (rP ay)))) (rP ay))) kW
def IV {p:af} {bs:Z BenchT} {h:aj} {a b c:ak Slot} {P:D->Prop} (h2:2<=h) (hf:∀q,f (stE p bs h ss a b c q)=U (.str x)) (k:∀n,1<=n->n<=h->P (dW (x,n))):Ev (yk f) (stE p bs h ss a b c) P:=by refine ef (aP (aC hf (aP (cR (aC .(c) (cj (m:=if h<3 then h else 3) .(c) .(c) (by split<;>lia) (by split<;>lia) λn h0 h1=>#[_,(),bT #[by simp,k _ .(b) ?_]]))))));split at h1<;>lia
def Xp {p:af} (hp:p∈o8) {bs:Z BenchT} {h:aj} (h2:2<=h) (b1:1<=bs.length) (b2':bs.length<=2) (nd:(bs.map (·.nm)).Nodup):EvF wj [.str p,.lst (bs.map dj),.int h] λd=>∃ss:Z StepT,d=.lst (ss.map dL)/\1<=ss.length/\ss.length<=3/\(∀s∈ss,GoodS (bs.map (·.nm)) h s)/\ss.map (·.nm)=(sN p).take ss.length:=by
 unfold wj;refine iR (pv (aC .(c) (lU ?_)));refine vn (λi Y=>i<=3/\∃(ss:Z StepT) (a b c:ak Slot),Y=stE p bs h ss a b c/\ss.length=i/\(∀s∈ss,GoodS (bs.map (·.nm)) h s)/\ss.map (·.nm)=(sN p).take i) (u9 (aP (cR (aC .(c) (cj .(c) .(c) .(a) .(a) fun n h0 h1=>⟨.int (1+n),(),bT ⟨1+n,(),by lia,by lia,⟨eA _,[],B,B,B,(),(),(fun _ z=>nomatch z),()⟩,?_,?_⟩⟩)))))
 .rintro i x Y hx ⟨hi,ss,a,b,c,rfl,hl,hg,hn⟩;obtain⟨rfl,hlt⟩:=G8 hx;have hi3:i<3:=by lia
  refine#[stE p bs h ss (oS (.int (0+(i:aj)))) b c,λ_=>rfl,?_];refine cA (cj (m:=(bs.length:aj)) .(c) (λ_=>gD ()) .(b) .(b) λat' a0 a1=>?_);obtain⟨bn,e1,e2,e3⟩:=g9 (f:=dj) (xs:=bs) a0 a1;have ix1:∀(c:ak Slot) q,L2.b2 ixD (L2.b2 ixD (vSh 2) (vSh 6)) (vC (.int 0)) (stE p bs h ss (oS (.int (0+(i:aj)))) (oS (.int at')) c q)=U (.str bn.nm):=λc q=>bh (bh () () e3) () eV;refine pv (sP (aP (IV (a:=oS (.int (0+(i:aj)))) (b:=oS (.int at')) (c:=c) (x:=bn.nm) h2 (ix1 c) λn n0 n1=>bT #[by simp,lU ?_])));have step:Es (qIf (vq (rP (toB (L2.b2 eqD (cF cu (av (vSh 2) ay)) (vC (.int 2))))) (vq (rM (r2 eqD (ck c9 0 (aV (rP (vC (.int 3))) (rP ay))) (rP (vC (.int 1)))) blD) (rP (toB (L2.b2 ltD (vSh 5) (vC (.int 2))))))) (iK 7 (yk (L2.b2 ixD (L2.b2 ixD (vSh 2) (L2.b2 kt (vC (.int 1)) (vSh 6))) (vC (.int 0))))) eh) (stE p bs h ss (oS (.int (0+(i:aj)))) (oS (.int at')) (U (.own ([(bn.nm,n)].map dW)))) λfl KK=>fl=.nx/\∃ws:Z (af×aj),KK=stE p bs h ss (oS (.int (0+(i:aj)))) (oS (.int at')) (U (.own (ws.map dW)))/\1<=ws.length/\ws.length<=4/\(∀w∈ws,w.1∈bs.map (·.nm)/\1<=w.2/\w.2<=h)/\(ws.map (·.1)).Nodup:=by
   have one:∀w∈[(bn.nm,n)],w.1∈bs.map (·.nm)/\1<=w.2/\w.2<=h:=λw hw=>by rw[cm.mp hw];exact#[uO e2,n0,n1]
   refine dv (wZ (aC (a:=decide ((bs.length:aj)=2)) (λ_=>cz (bh (gD ()) () ())) ?_));by_cases hb:(bs.length:aj)=2
   .rw[qV hb,qZ ()];refine wZ (ku .(c) .(c) .(a) .(a) fun b=>?_);have no:∀b:aR,b=ao->Es (if b=ah then iK 7 (yk (L2.b2 ixD (L2.b2 ixD (vSh 2) (L2.b2 kt (vC (.int 1)) (vSh 6))) (vC (.int 0)))) else eh) (stE p bs h ss (oS (.int (0+(i:aj)))) (oS (.int at')) (U (.own ([(bn.nm,n)].map dW)))) λfl KK=>fl=.nx/\∃ws:Z (af×aj),KK=stE p bs h ss (oS (.int (0+(i:aj)))) (oS (.int at')) (U (.own (ws.map dW)))/\1<=ws.length/\ws.length<=4/\(∀w∈ws,w.1∈bs.map (·.nm)/\1<=w.2/\w.2<=h)/\(ws.map (·.1)).Nodup:=λb hb=>by subst hb;exact df #[(),[(bn.nm,n)],(),by simp,by simp,one,by simp]
    cases b with
    |false=>exact no ao ()
    |true=>
     refine aC (a:=decide ((0+(i:aj))<2)) .(c) ?_;by_cases h2':(0+(i:aj))<2
     .rw[qV h2',qZ ()];obtain⟨bm,f1,f2,f3⟩:=g9 (f:=dj) (xs:=bs) (n:=1-at') .(b) .(b);refine pC (ds:=[(bn.nm,n)].map dW) .(c) (by simp) (IV (c:=U (.own ([(bn.nm,n)].map dW))) (x:=bm.nm) h2 (λq=>bh (bh () (bh () () ()) f3) () eV) λm m0 m1=>#[rfl,[(bn.nm,n),(bm.nm,m)],rfl,by simp,by simp,λw hw=>?_,?_])
      .rcases eC.mp hw with rfl|hw
       .exact one _ qf
       .rw[cm.mp hw];exact#[uO f2,m0,m1]
      .have ne:bn.nm≠bm.nm:=λe=>by
        have g1:(bs.map (·.nm))[at'.toNat]?=U bn.nm:=by rw[ql,e1];rfl
        have g2:(bs.map (·.nm))[(1-at').toNat]?=U bn.nm:=by rw[ql,f1,e];rfl
        have:=(Nx (i:=at'.toNat) (j:=(1-at').toNat) (by rw[qe];lia) nd).mp (g1.trans g2.symm);lia
       simp[ne]
     .rw[qQ h2'];exact no ao ()
   .rw[qQ hb,xa .(a)];exact df #[(),[(bn.nm,n)],(),by simp,by simp,one,by simp]
  refine step.imp ?_;rintro _ _ ⟨rfl,ws,rfl,w1,w4,hw,wnd⟩;refine#[(),lQ (ds:=ws.map dW) .(c) ?_];have hpl:=K2 p hp;have nm:∃x,(sN p)[i]?=U x/\∀(c:ak Slot) q,L2.b2 bZ (vSh 1) (L2.b2 ixD (vC (.str "stu")) (vSh 5)) (stE p bs h ss (oS (.int (0+(i:aj)))) (oS (.int at')) c q)=U (.str x):=by
   have:i=0\/i=1\/i=2:=by lia
   rcases this with rfl|rfl|rfl
   .exact#[p++"s",(),λc q=>bh (y:=.str "s") () () (sO (by show p.length+1<=100;lia))]
   .exact#[p++"t",(),λc q=>bh (y:=.str "t") () () (sO (by show p.length+1<=100;lia))]
   .exact#[p++"u",(),λc q=>bh (y:=.str "u") () () (sO (by show p.length+1<=100;lia))]
  obtain⟨x,hx1,hx2⟩:=nm;refine pC (ds:=ss.map dL) .(c) (by rw[qe];lia) (ef (aP (aC (hx2 _) (aP (cR (aC .(c) (cj .(c) .(c) .(a) .(a) λn k0 k1=>?_)))))));have fin:∀kd:af,aG kd=ah->Ev (aV (rP (vSh 7)) (rP ay)) (stE p bs h ss (oS (.int (0+(i:aj)))) (oS (.int at')) (oS (.lst (ws.map dW)))) λl=>([D.str x,D.str kd]++l).length<=10/\(λd=>((Fl.nx:Fl)=.nx/\i+1<=3/\∃(ss':Z StepT) (a b c:ak Slot),(λq=>(stE p bs h ss (oS (.int (0+(i:aj)))) (oS (.int at')) (oS (.lst (ws.map dW))) q).set 4 (U (.own (ss.map dL++[d]))))=stE p bs h ss' a b c/\ss'.length=i+1/\(∀s∈ss',GoodS (bs.map (·.nm)) h s)/\ss'.map (·.nm)=(sN p).take (i+1))) (.tup ([D.str x,D.str kd]++l)):=λkd hk=>by
   refine aP (aC .(c) (bT #[by simp,rfl,by lia,ss++[#[x,kd,ws]],_,_,_,by unfold stE;rw[gA];rfl,by rw[qk,qY];lia,λs hs=>?_,by rw[gA,hn,se,hx1];rfl]));rcases fW.mp hs with hs|hs
   .exact hg s hs
   .rw[cm.mp hs];exact#[(F3 p hp).2 x (qS hx1),hk,w1,w4,hw,wnd]
  rcases AL k0 k1 with rfl|rfl
  .exact#[.str "k",(),fin "k" (by nofun)]
  .exact#[.str "m",(),fin "m" (by nofun)]
 .rintro Y ⟨hi,ss,a,b,c,rfl,hl,hg,hn⟩;rw[qe,qX] at hl hn;refine#[(),lQ (ds:=ss.map dL) .(c) (cU (aC .(c) #[_,(),ss,(),by lia,by lia,hg,by rw[hl];exact hn]))]
def Wm {xs:Z D} {d:aj} (h:0<=d):lb B (U d) (.lst xs)=U (.lst (xs.take d.toNat)):=by
 show U (D.lst (et xs B (U d)))=_;unfold et HT.sIx;simp only;rw[xa .(b),h9,Nat.sub_zero]
 congr 2
 rw[ZU];split
 .rfl
 .rw[oz (qx _),oz .(b)]
def Lv {xs:Z D} {d:aj} (h:0<=d):lb (U d) B (.lst xs)=U (.lst (xs.drop d.toNat)):=by
 show U (D.lst (et xs (U d) B))=_;unfold et HT.sIx;simp only;rw[xa .(b)]
 congr 2
 rw[ZU];split
 .rw[oz (by rw[ee];lia)]
 .rw[DH (qx _),DH .(b)];simp
def ES {g:FE} {xs:Z D} {d:aj} (h1:f Y=U (.lst xs)) (h2:g Y=U (.int d)) (h:0<=d):slF f pN (pS g) Y=U (.lst (xs.take d.toNat)):=by unfold slF pN pS;rw[h1,h2];exact Wm h
def BJ {g:FE} {xs:Z D} {d:aj} (h1:f Y=U (.lst xs)) (h2:g Y=U (.int d)) (h:0<=d):slF f (pS g) pN Y=U (.lst (xs.drop d.toNat)):=by unfold slF pN pS;rw[h1,h2];exact Lv h
abbrev lkE (ns:Z af) (h:aj) (a b c:ak Slot):dw:=λq=>[U (.pin q),oS (.lst (ns.map D.str)),oS (.int h),a,b,c]
def WN:aG "job"=ah:=by nofun
def NY:aG "more"=ah:=by nofun
def Q6:aG "store"=ah:=by nofun
def XE {h:aj} (h2:2<=h) (n1:1<=ns.length) (n3:ns.length<=3) (nd:ns.Nodup):EvF uS [.lst (ns.map D.str),.int h] λd=>∃ls:Z LinkT,d=.lst (ls.map eN)/\ls.length<=2/\(∀l∈ls,GoodL ns h l)/\(ls.map λl=>[l.a,l.b]).Nodup:=by
 unfold uS;refine iR (eB (dv (IG (aC (a:=decide ((ns.length:aj)<2)) (λ_=>cz (bh (gD ()) () ())) ?_))));by_cases hn:(ns.length:aj)<2
 .rw[qV hn,qZ (),qZ ()];exact cU (aC .(c) #[_,(),[],(),by simp,(λ_ z=>nomatch z),by simp])
 rw[qQ hn,xa .(a)];refine RP .(c) .(c) .(a) .(a) λb=>?_;cases b with
 |true=>exact cU (aC .(c) #[_,(),[],(),by simp,(λ_ z=>nomatch z),by simp])
 |false=>
  refine df ?_;show Es _ (lkE ns h B B B) _;refine cA (cj (m:=(ns.length:aj)) .(c) (λ_=>gD ()) .(b) .(b) λat' a0 a1=>?_);refine cA (cR (cR (aC .(c) (cj (m:=(ns.length:aj)-1) .(c) (λ_=>bh (gD ()) () ()) .(b) .(b) λk k0 k1=>#[_,(),aC (λ_=>gD ()) #[.int ((at'+1+k)%ns.length),by show(if (0:aj)<ns.length then _ else _)=_;rw[qZ .(b)],?_]]))));have o0:0<=(at'+1+k)%(ns.length:aj):=xU _ .(b);have o1:(at'+1+k)%(ns.length:aj)<ns.length:=xV _ .(b);have one:(at'+1+k)%(ns.length:aj)≠at':=by
   have:ns.length=2\/ns.length=3:=by lia
   rcases this with e|e<;>rw[e] at k1 a1 ⊢<;>lia
  generalize (at'+1+k)%(ns.length:aj)=ot at o0 o1 one;obtain⟨x,e1,e2,e3⟩:=g9 (f:=D.str) (xs:=ns) a0 a1;obtain⟨y,f1,f2,f3⟩:=g9 (f:=D.str) (xs:=ns) o0 o1;have ne:x≠y:=λe=>by have:=(Nx (i:=at'.toNat) (j:=ot.toNat) .(b) nd).mp (by rw[e1,f1,e]);lia
  refine pv (sP (aP (ef (aP (aC (a:=.str x) (λ_=>bh () () e3) (aP (aC (a:=.str y) (λ_=>bh () () f3) (aP (cj (m:=if h+1<3 then h+1 else 3) .(c) .(c) (by split<;>lia) (by split<;>lia) λg g0 g1=>bT #[by simp,bT #[by simp,lU ?_]])))))))));have l1:GoodL ns h #[x,y,g]:=#[e2,f2,ne,g0,by show g<=h;split at g1<;>lia];refine dv (ku .(c) .(c) .(a) .(a) fun b=>?_);cases b with
  |false=>exact df #[(),lQ (ds:=[#[x,y,g]].map eN) .(c) (cU (aC .(c) #[_,(),[#[x,y,g]],(),by simp,λl hl=>by rw[cm.mp hl];exact l1,by simp]))]
  |true=>
   refine pC (ds:=[#[x,y,g]].map eN) .(c) (by simp) (aC (a:=eN #[y,x,0]) (λq=>?_) #[rfl,lQ (ds:=[#[x,y,g],#[y,x,0]].map eN) .(c) (cU (aC .(c) #[_,rfl,[#[x,y,g],#[y,x,0]],rfl,by simp,λl hl=>?_,by simp[ne]]))])
   .unfold fE szF;rw[bL (bh () () f3) (bL (bh () () e3) (bL () ci))];rfl
   .rcases eC.mp hl with rfl|hl
    .exact l1
    .rw[cm.mp hl];exact#[f2,e2,dU ne,Ny _,by show(0:aj)<=h;lia]
abbrev joE (ns:Z af) (h:aj) (a b c d:ak Slot):dw:=λq=>[U (.pin q),oS (.lst (ns.map D.str)),oS (.int h),a,b,c,d]
def Jg {Y:dw} {P:D->Prop} (hs:∀q,(Y q)[0]?=U (U (.pin q))) (k:∀n:aj,0<=n->n<=1->P (.int n)):Ev (r2 ixD (rP (bE (szF (av (vC (.int 0)) (av (vC (.int 0)) (av (vC (.int 1)) ay)))))) (ck c9 0 (aV (rP (vC (.int 3))) (rP ay)))) Y P:=by
 refine cR (aC .(c) (cj hs .(c) .(a) .(a) λn h0 h1=>?_));rcases PK h0 h1 with rfl|rfl|rfl
 .exact#[.int 0,(),k _ .(a) .(a)]
 .exact#[.int 0,(),k _ .(a) .(a)]
 .exact#[.int 1,(),k _ .(a) .(a)]
def QP {h:aj} (h2:2<=h) (n1:1<=ns.length) (n3:ns.length<=3) (nd:ns.Nodup):EvF xf [.lst (ns.map D.str),.int h] λd=>∃js:Z JobT,d=.lst (js.map bC)/\js.length<=2/\(∀j∈js,GoodJ ns h j)/\(js.map (·.nm)).Nodup/\(js.flatMap (·.ms)).Nodup:=by
 unfold xf;refine iR (eB (dv (ku .(c) .(c) .(a) .(a) fun b=>?_)));cases b with
 |true=>exact cU (aC .(c) #[_,(),[],(),by simp,(λ_ z=>nomatch z),by simp,by simp])
 |false=>
  refine df ?_;show Es _ (joE ns h B B B B) _;refine cA (cR (aC .(c) (cj (m:=(ns.length:aj)) .(c) (λ_=>gD ()) .(b) .(b) λk k0 k1=>#[.int (1+k),(),?_])));generalize hm:1+k=m;have m0:1<=m:=by lia
  have m1:m<=ns.length:=by lia
  refine cA (aC (a:=.lst ((ns.take m.toNat).map D.str)) (λ_=>by rw[DJ];exact ES () () .(b)) (lU ?_));have step:Es (qIf (rM (r2 eqD (ck c9 0 (aV (rP (vC (.int 2))) (rP ay))) (rP (vC (.int 1)))) blD) (dN 4 (rP (b1 Ak (vSh 4)))) eh) (joE ns h (oS (.int m)) (oS (.lst ((ns.take m.toNat).map D.str))) B B) λfl KK=>fl=.nx/\∃ms:Z af,KK=joE ns h (oS (.int m)) (oS (.lst (ms.map D.str))) B B/\ms.Perm (ns.take m.toNat):=by
   refine dv (ku .(c) .(c) .(a) .(a) fun b=>?_);cases b with
   |false=>exact df #[(),_,(),.refl _]
   |true=>exact JS (aC (a:=.lst (((ns.take m.toNat).reverse).map D.str)) (λ_=>by rw[List.map_reverse];rfl) #[(),_,(),List.reverse_perm _])
  refine step.imp ?_;rintro _ _ ⟨rfl,ms,rfl,pm⟩;refine#[(),cA (Jg .(c) λea ea0 ea1=>?_)];have ml:ms.length=m.toNat:=by rw[pm.length_eq,qH];lia
  have gj:∀n b,0<=n->n<=1->GoodJ ns h #["job",ea,h-n,b,ms]:=λn b n0 n1=>#[WN,#[ea0,by show ea<=h;lia],#[by show 0<=h-n;lia,by show h-n<=h;lia],by show 1<=ms.length;lia,by show ms.length<=ns.length;lia,λx hx=>uI (pm.mem_iff.mp hx)];have ndm:ms.Nodup:=pm.nodup_iff.mpr (nd.sublist (rF _ _));refine pv (sP (aP (ef (aP (aC .(c) (aP (aC .(c) (aP (cR (aC .(c) (Jg .(c) λn z0 z1=>#[.int (h-n),(),aP (GF .(c) .(c) .(a) .(a) λb=>aP (aC .(c) (bT #[by simp,bT #[by simp,lU ?_]])))])))))))))));refine dv (wZ (aC (a:=decide (m<(ns.length:aj))) (λ_=>cz (bh () (gD ()) ())) ?_));have no:Es eh (joE ns h (oS (.int m)) (oS (.lst (ms.map D.str))) (oS (.int ea)) (U (.own ([#["job",ea,h-n,b,ms]].map bC)))) λfl KK=>fl=.nx/\Es (mx 6 (eO (rP (vSh 6)))) KK λfl _=>∃d,fl=.rt d/\∃js:Z JobT,d=.lst (js.map bC)/\js.length<=2/\(∀j∈js,GoodJ ns h j)/\(js.map (·.nm)).Nodup/\(js.flatMap (·.ms)).Nodup:=
   df #[(),lQ (ds:=[#["job",ea,h-n,b,ms]].map bC) .(c) (cU (aC .(c) #[_,(),[#["job",ea,h-n,b,ms]],(),by simp,λj hj=>by rw[cm.mp hj];exact gj n b z0 z1,by simp,by simpa using ndm]))]
  by_cases hlt:m<(ns.length:aj)
  .rw[qV hlt,qZ ()];refine ku .(c) .(c) .(a) .(a) λc=>?_;cases c with
   |false=>exact no
   |true=>
    refine pC (ds:=[#["job",ea,h-n,b,ms]].map bC) .(c) (by simp) (ef (aP (aC .(c) (aP (aC .(c) (aP (aC .(c) (aP (GF .(c) .(c) .(a) .(a) λb'=>aP (aC (a:=.lst ((ns.drop m.toNat).map D.str)) (λ_=>by rw[uP];exact BJ () () .(b)) (bT #[by simp,rfl,lQ (ds:=[#["job",ea,h-n,b,ms],#["more",0,h,b',ns.drop m.toNat]].map bC) .(c) (cU (aC .(c) #[_,rfl,[#["job",ea,h-n,b,ms],#["more",0,h,b',ns.drop m.toNat]],rfl,by simp,λj hj=>?_,?_,?_]))])))))))))))
    .rcases eC.mp hj with rfl|hj
     .exact gj n b z0 z1
     .rw[cm.mp hj];exact#[NY,#[Ny _,by show(0:aj)<=h;lia],#[by show(0:aj)<=h;lia,Ny _],by show 1<=(ns.drop m.toNat).length;rw[ee];lia,by show(ns.drop m.toNat).length<=_;rw[ee];lia,λx hx=>oB hx]
    .show(["job","more"]:Z af).Nodup;nofun
    .show(ms++(ns.drop m.toNat++[])).Nodup;rw[dZ];have:=(pm.append_right (ns.drop m.toNat)).nodup_iff;rw[MZ] at this;exact this.mpr nd
  .rw[qQ hlt,xa .(a),xa .(a)];exact no
def Il {m:aj} (m0:0<m) (m1:m<10) (n3:ns.length<=3) {a b c d:ak Slot} {P:Z D->Prop} (nd:ns.Nodup) (k:∀ws:Z (af×aj),GoodA ns ws->P (ws.map dW)):Ev (nW (rP (itF (vSh 1))) (bp 0) (rM (r2 eqD (rNo (ck c9 1 (aV (rP (vC (.int m))) (rP ay)))) (rP (vC (.int 1)))) blD) (rM (aV (rP (vSh 0)) (aV (r2 bZ (rP (vC (.int 1))) (rNo (ck c9 1 (aV (rP (vC (.int 2))) (rP ay))))) (rP ay))) kW) [B,U 0]) (λq=>[U (.pin q),oS (.lst (ns.map D.str)),a,b,c,d]) P:=by
 refine(zQ (L:=λx q=>[oS x,U (.pin q)]) (aC .(c) #[by rw[qe];lia,λi l=>∃ws:Z (af×aj),l=ws.map dW/\(ws.map (·.1)).Sublist (ns.take i)/\∀w∈ws,1<=w.2/\w.2<=2,#[[],(),.slnil,λ_ z=>nomatch z],λi x l hx hS=>?_,λl hl=>?_]) (λ_ _=>rfl) λ_ _ _=>rfl)
 .obtain⟨ws,rfl,hw1,hw2⟩:=hS;rw[ql] at hx;obtain⟨y,hy,rfl⟩:=oMd hx;have tk:ns.take (i+1)=ns.take i++[y]:=by rw[se,hy];rfl
  refine fT (cR (wJ (cj .(c) .(c) m0 .(b) λn _ _=>aC .(c) #[_,(),_,(),?_])));generalize decide (n=1)=b;cases b with
  |false=>exact#[ws,(),by rw[tk];exact hw1.trans (ZV _ _),hw2]
  |true=>
   refine ef (aP (aC .(c) (aP (cR (aC .(c) (wJ (cj .(c) .(c) .(a) .(a) λn h0 h1=>#[_,(),bT #[by simp,ws++[(y,1+n)],by rw[gA];rfl,?_,λw hw=>?_]])))))))
   .rw[gA,tk];exact hw1.append (.refl _)
   .rcases fW.mp hw with hw|hw
    .exact hw2 w hw
    .rw[cm.mp hw];exact#[by show 1<=1+n;lia,by show 1+n<=2;lia]
 .obtain⟨ws,rfl,hw1,hw2⟩:=hl;rw[qe,oG] at hw1;refine k ws #[by have:=hw1.length_le;rwa [qe] at this,λw hw=>#[hw1.subset (uO hw),(hw2 w hw).1,by have:=(hw2 w hw).2;lia],nd.sublist hw1]
def Qv (n3:ns.length<=3) (nd:ns.Nodup):EvF xz [.lst (ns.map D.str)] λd=>∃ks:Z StockT,d=.lst (ks.map eQ)/\ks.length<=1/\∀k∈ks,GoodK ns k:=by
 unfold xz;refine iR (eB (dv (ku .(c) .(c) .(a) .(a) fun b=>?_)));cases b with
 |true=>exact cU (aC .(c) #[_,(),[],(),by simp,(λ_ z=>nomatch z)])
 |false=>
  refine df (cA (cj .(c) .(c) .(a) .(a) λhi i0 i1=>cA (cj (m:=hi+1) .(c) .(c) .(b) .(b) λlo l0 l1=>?_)));refine wV (Il .(a) .(a) n3 nd λtk gt=>wV (Il .(a) .(a) n3 nd λpt gp=>cU (aC .(c) #[_,(),[#["store",lo,hi,tk,pt]],(),by simp,λk hk=>?_])));rw[cm.mp hk];exact#[Q6,#[l0,by show lo<=hi;lia],#[i0,by show hi<=1000000;lia],gt,gp]
section
variable {bs:Z BenchT} {js:Z JobT} {us:Z SetT} {h:aj}
def sZ {f:af} (i:J) (h1:fo Y=U (c8 bs ss js us ls ks h)) (h2:(pZ bs ss js us ls ks h)[i]?=U (f,d)):CB "Shop" f fo Y=U d:=by unfold CB;rw[h1];show(if ("Shop":af)="Shop" then (pZ bs ss js us ls ks h).lookup f else B)=U d;rw[qZ ()];exact u7 (by rw[DQ];exact wN) h2
def sQ {F:FQ} {m:af} (hm:m∉lY) (h1:fo Y=U (c8 bs ss js us ls ks h)) (h2:fr Y=U ds) (h3:F (c8 bs ss js us ls ks h::ds)=U d):kY "Shop" m F fo fr Y=U d:=by have hno:(pZ bs ss js us ls ks h).lookup m=B:=sE (by rw[DQ];exact hm);unfold kY;rw[h1];show(if ("Shop":af)="Shop"/\(pZ bs ss js us ls ks h).lookup m=B then (fr Y).bind λds=>F (c8 bs ss js us ls ks h::ds) else B)=_;rw[qZ #[rfl,hno],h2];exact h3
def VF {F:FA} {l:Z D} (h:bE F Y=U (.lst l)):F Y=U l:=by unfold bE at h;obtain⟨x,e,z⟩:=oMd h;cases z;exact e
def GI {f:α->D} {nm:α->af} {xs:Z α} (hf:∀x,∃r,f x=.tup (.str (nm x)::r)) (h1:fo Y=U (.lst (xs.map f))) (h2:xs.length<=aH) (h3:gu fv Y=[B]) :
  bE (cG (itF fo) (bp 0) tT (b2 ixD (vSh 0) (vC (.int 0))) fv) Y=U (.lst ((xs.map nm).map D.str)):=by
 have hc:=m8 (fi:=itF fo) (fe:=b2 ixD (vSh 0) (vC (.int 0))) (fv:=fv) (Y:=Y) (r:=[]) (a:=B) (xs:=xs.map f) (f:=λd=>match d with|.tup (x::_)=>x|_=>.non) (by unfold itF;rw[h1];rfl) (by rw[qe];exact h2) h3 (λx hx=>by obtain⟨y,_,rfl⟩:=dH.mp hx;obtain⟨r,e⟩:=hf y;simp only[b2,vSh,vC,qb,qa,e,eV])
 rw[hc]
 congr 2
 rw[jC,jC];refine Nv λx _=>?_;obtain⟨r,e⟩:=hf x;simp[e]
def PY (hl:ss.length<=40):Bs [c8 bs ss js us ls ks h]=U (.lst ((ss.map (·.nm)).map D.str)):=
 dR [oS (c8 bs ss js us ls ks h)] () (cS (GI (f:=dL) (nm:=(·.nm)) (xs:=ss) (λx=>#[_,()]) (sZ 1 () ()) (szN hl .(a)) ()))
def WI (hl:bs.length<=40):Co [c8 bs ss js us ls ks h]=U (.lst ((bs.map (·.nm)).map D.str)):=
 dR [oS (c8 bs ss js us ls ks h)] () (cS (GI (f:=dj) (nm:=(·.nm)) (xs:=bs) (λx=>#[_,()]) (sZ 0 () ()) (szN hl .(a)) ()))
def Xo:wq [c8 bs ss js us ls ks h]=U (.int h):=by unfold wq;exact dR [oS (c8 bs ss js us ls ks h)] () (cS (sZ (bs:=bs) (ss:=ss) (js:=js) (us:=us) (ls:=ls) (ks:=ks) (h:=h) 6 () ()))
def NN (g:Good bs ss js us ls ks h):wb [c8 bs ss js us ls ks h]=U (.lst (js.map bC)):=
 dR [oS (c8 bs ss js us ls ks h)] () (cS (cE (bL (sZ 2 () ()) ci) (mn (iQ (by have:=g.jl;lia) λx hx=>Hn (sn:=ss.map (·.nm)) (by rw[qe];exact g.sl.2) (g.j x hx)))))
def R3 (g:Good bs ss js us ls ks h):BR [c8 bs ss js us ls ks h]=U (.lst (ks.map eQ)):=
 dR [oS (c8 bs ss js us ls ks h)] () (cS (cE (bL (sZ 5 () ()) ci) (mn (iQ (by have:=g.kl;lia) λx hx=>Ft (sn:=ss.map (·.nm)) (by rw[qe];exact g.sl.2) (g.k x hx)))))
end
abbrev shE (h:aj) (p:af) (bs:Z BenchT) (ss:Z StepT) (us:Z SetT) (a b c:ak Slot):dw:=λq=>[U (.pin q),oS (.int h),oS (.str p),oS (.lst (bs.map dj)),oS (.lst (ss.map dL)),oS (.lst ((ss.map (·.nm)).map D.str)),U (.own (us.map er)),a,b,c]
structure UsOk (bs:Z BenchT) (h:aj) (i:J) (us:Z SetT):Prop where
 sb:(us.map (·.b)).Sublist ((bs.map (·.nm)).take i)
 p:∀u∈us,u.p="k"
 q:∀u∈us,aG u.q=ah
 n:∀u∈us,1<=u.n/\u.n<=h
def KG:aG "k"=ah:=by nofun
def VX:aG "m"=ah:=by nofun
def OR {h:aj} {p:af} {bs:Z BenchT} (h2:2<=h) (b2:bs.length<=2):Es zwc (shE h p bs ss [] B B B) λfl KK=>fl=.nx/\∃us a b,KK=shE h p bs ss us a b B/\UsOk bs h bs.length us:=by
 refine vn (λi Y=>∃us a b,Y=shE h p bs ss us a b B/\us.length<=i/\UsOk bs h i us) (aC .(c) #[#[[],B,B,(),by simp,by simp,(λ_ z=>nomatch z),(λ_ z=>nomatch z),(λ_ z=>nomatch z)],?_,?_])
 .rintro i x Y hx ⟨us,a,b,rfl,ul,uo⟩;rw[ql] at hx;obtain⟨bn,hb,rfl⟩:=oMd hx;have hi:=(gv.mp hb).1;have tk:(bs.map (·.nm)).take (i+1)=(bs.map (·.nm)).take i++[bn.nm]:=by rw[se,ql,hb];rfl
  refine#[shE h p bs ss us (oS (.str bn.nm)) (oS (.lst (bn.br.map dIv))) B,λ_=>rfl,?_];refine dv (ku .(c) .(c) .(a) .(a) fun b=>?_);cases b with
  |false=>exact df #[(),us,_,_,(),by lia,by rw[tk];exact uo.sb.trans (ZV _ _),uo.p,uo.q,uo.n]
  |true=>
   have fin:∀kd:af,aG kd=ah->Ev (aV (r2 bZ (rP (vC (.int 1))) (ck c9 0 (aV (rP (vC (.int 2))) (rP ay)))) (rP ay)) (shE h p bs ss us (oS (.str bn.nm)) (oS (.lst (bn.br.map dIv))) B) λl=>([D.str bn.nm,D.str "k",D.str kd]++l).length<=10/\((Fl.nx:Fl)=.nx/\∃us' a b,(λq=>(shE h p bs ss us (oS (.str bn.nm)) (oS (.lst (bn.br.map dIv))) B q).set 6 (U (.own (us.map er++[.tup ([D.str bn.nm,D.str "k",D.str kd]++l)]))))=shE h p bs ss us' a b B/\us'.length<=i+1/\UsOk bs h (i+1) us'):=λkd hk=>by
    refine aP (cR (aC .(c) (cj .(c) .(c) .(a) .(a) λn n0 n1=>#[.int (1+n),(),bT #[by simp,rfl,us++[#[bn.nm,"k",kd,1+n]],_,_,by unfold shE;rw[gA];rfl,by rw[qk,qY];lia,by rw[gA,tk];exact uo.sb.append (.refl _),λu hu=>?_,λu hu=>?_,λu hu=>?_]])))
    all_goals rcases fW.mp hu with hu|hu
    .exact uo.p u hu
    .rw[cm.mp hu]
    .exact uo.q u hu
    .rw[cm.mp hu];exact hk
    .exact uo.n u hu
    .rw[cm.mp hu];exact#[by show 1<=1+n;lia,by show 1+n<=h;lia]
   refine pC (ds:=us.map er) .(c) (by rw[qe];lia) (ef (aP (aC .(c) (aP (aC .(c) (aP (cR (aC .(c) (cj .(c) .(c) .(a) .(a) λn k0 k1=>?_)))))))));rcases AL k0 k1 with rfl|rfl
   .exact#[.str "k",(),fin "k" KG]
   .exact#[.str "m",(),fin "m" VX]
 .rintro Y ⟨us,a,b,rfl,_,uo⟩;rw[qe] at uo;exact#[(),us,a,b,(),uo]
structure Small (bs:Z BenchT) (ss:Z StepT) (js:Z JobT) (us:Z SetT) (ls:Z LinkT) (ks:Z StockT) (h:aj):Prop where
 g:Good bs ss js us ls ks h
 h:2<=h/\h<=5
 b:bs.length<=2
 s:ss.length<=3
def EM {k:aj} (h0:0<=k) (h1:k<4):k=0\/k=1\/k=2\/k=3:=by lia
def Tz:EvF tU [] λd=>∃bs ss js us ls ks h,d=c8 bs ss js us ls ks h/\Small bs ss js us ls ks h:=by
 unfold tU;refine iR (cA (cR (aC .(c) (cj .(c) .(c) .(a) .(a) λn n0 n1=>#[.int (2+n),(),?_]))));generalize hh:2+n=h;have h2:2<=h:=by lia
 have h5:h<=5:=by lia
 have main:∀p∈o8,Es (bI (dN 3 (ck xx 0 (aV (rP (vSh 2)) (aV (rP (vSh 1)) (rP ay))))) (bI (dN 4 (ck wj 0 (aV (rP (vSh 2)) (aV (rP (vSh 3)) (aV (rP (vSh 1)) (rP ay)))))) (bI (tH 5 (rP (cG (itF (vSh 4)) (bp 0) tT (b2 ixD (vSh 0) (vC (.int 0))) [B]))) (bI (pV 6 (rP (szF ay))) (bI zwc (bI (dN 9 (ck uS 0 (aV (rP (vSh 5)) (aV (rP (vSh 1)) (rP ay))))) (mx 6 (eO (rM (aV (rP (vSh 3)) (aV (rP (vSh 4)) (aV (ck xf 0 (aV (rP (vSh 5)) (aV (rP (vSh 1)) (rP ay)))) (aV (rP (vSh 6)) (aV (rP (vSh 9)) (aV (ck xz 0 (aV (rP (vSh 5)) (rP ay))) (aV (rP (vSh 1)) (rP ay)))))))) AV)))))))))
   (λq=>[U (.pin q),oS (.int h),oS (.str p),B,B,B,B,B,B,B]) λfl _=>∃d,fl=.rt d/\∃bs ss js us ls ks h,d=c8 bs ss js us ls ks h/\Small bs ss js us ls ks h:=λp hp=>by
  refine cA (fG .(c) (aP (aC .(c) (aP (aC .(c) (bT ((Tv hp h2 h5).imp ?_)))))));rintro _ ⟨bs,rfl,b1,b2,bg,bn⟩;have bnd:(bs.map (·.nm)).Nodup:=by rw[bn];exact(Ih p hp).1.sublist (rF _ _)
  refine cA (fG .(c) (aP (aC .(c) (aP (aC .(c) (aP (aC .(c) (bT ((Xp hp h2 b1 b2 bnd).imp ?_)))))))));rintro _ ⟨ss,rfl,s1,s3,sg,sn⟩;have snd:(ss.map (·.nm)).Nodup:=by rw[sn];exact(F3 p hp).1.sublist (rF _ _)
  have sl:(ss.map (·.nm)).length=ss.length:=qe _;refine wV (aC (λ_=>VF <| vf (f:=dL) (nm:=(·.nm)) (xs:=ss) (λx=>#[_,()]) () (szN s3 .(a)) ()) (pv (aC .(c) (lU ((OR (p:=p) (ss:=ss) h2 b2).imp ?_)))));rintro _ _ ⟨rfl,us,a,b,rfl,uo⟩;refine#[(),cA (fG .(c) (aP (aC .(c) (aP (aC .(c) (bT ((XE h2 .(b) .(b) snd).imp ?_)))))))];rintro _ ⟨ls,rfl,ll,lg,lnd⟩;refine lQ (ds:=us.map er) .(c) (cU (fT (aP (aC .(c) (aP (aC .(c) (aP (fG .(c) (aP (aC .(c) (aP (aC .(c) (bT ((QP h2 .(b) .(b) snd).imp ?_))))))))))))));rintro _ ⟨js,rfl,jl,jg,jn,jm⟩;refine aP (aC .(c) (aP (aC .(c) (aP (fG .(c) (aP (aC .(c) (bT ((Qv .(b) snd).imp ?_)))))))));rintro _ ⟨ks,rfl,kl,kg⟩;have ubn:(us.map (·.b)).Nodup:=bnd.sublist (uo.sb.trans (rF _ _));have ulen:us.length<=2:=by have:=uo.sb.length_le;rw[qe,qH,qe] at this;lia
  have good:Good bs ss js us ls ks h:=#[by lia,by lia,bg,bnd,by lia,sg,snd,by lia,jg,jn,jm,by lia,λu hu=>#[(List.take_subset _ _) (uo.sb.subset (uO hu)),by rw[uo.p u hu];exact KG,uo.q u hu,uo.n u hu],?_,by lia,lg,lnd,by lia,kg,?_]
  .refine aP (aC .(c) (bT #[_,U1 good ?_,_,(),bs,ss,js,us,ls,ks,h,(),good,#[h2,h5],b2,s3]));have:=Au (f:=(·.ms)) (m:=3) (l:=js) λj hj=>by have:=(jg j hj).ln;lia
   lia
  .unfold List.Nodup at ubn ⊢;rw[rS] at ubn ⊢;exact ubn.imp λh e=>h (ij e).1
  .match ks,kl with
   |[],_=>simp
   |[k],_=>simp
 refine cA (cR (aC .(c) (cj .(c) .(c) .(a) .(a) λk k0 k1=>?_)));rcases EM k0 k1 with rfl|rfl|rfl|rfl
 .exact#[.str "",(),main "" (by nofun)]
 .exact#[.str "x",(),main "x" (by nofun)]
 .exact#[.str "low",(),main "low" (by nofun)]
 .exact#[.str "abcdef",(),main "abcdef" (by nofun)]
noncomputable def ag (ws:Z af):af:=mZ " " ws
noncomputable def wt (ws:Z af):J:=(ws.map (·.length)).sum+ws.length
def He:(" ":af).length=1:=by nofun
def AJ (a:af) (b:Z af):wt (a::b)=a.length+1+wt b:=by unfold wt;rw[qp,List.sum_cons,qh];lia
def O8:wt []=0:=rfl
def tY {r:Z af} (h:r≠[]):ag (x::r)=x++" "++ag r:=by
 cases r with
 |nil=>exact ba () h
 |cons y r=>rfl
def Ht (a b c:af):a++b++c=a++(b++c):=by show(⟨a.cps++b.cps++c.cps⟩:af)=⟨a.cps++(b.cps++c.cps)⟩;rw[L']
theorem Gg:∀{xs ys:Z af},xs≠[]->ys≠[]->ag (xs++ys)=ag xs++" "++ag ys
 |[],_,h,_=>ba () h
 |[x],ys,_,h=>tY h
 |x::y::r,ys,_,h=>by rw[qq,tY (by simp),tY (by simp),Gg (xs:=y::r) (by simp) h];simp only[Ht]
theorem wo:∀ws:Z af,(ag ws).length<=wt ws
 |[]=>by decide
 |[x]=>by
  show x.length<=wt [x];rw[AJ,O8];lia
 |x::y::r=>by rw[tY (by simp),ZW,ZW,He,AJ];have:=wo (y::r);lia
theorem LS:∀ys:Z af,pY (ys.map D.str)=U ys
 |[]=>rfl
 |y::r=>by show(pY (r.map D.str)).map (y::·)=_;rw[LS r];rfl
def BL {g:D->FQ} (h0:f Y=U d) (h1:fr Y=U ds) (h2:g d ds=U z):mF g f fr Y=U z:=by unfold mF;rw[h0,qa,h1];exact h2
def Sb (h:wt ys<=16000000):(ys.map (·.length)).sum+ys.length*(" ":af).length<=16777216:=by rw[He];unfold wt at h;lia
def sD (h:f Y=U (.lst (ys.map D.str))) (hl:wt ys<=16000000):mF kJ (vC (.str " ")) (av f ay) Y=U (.str (ag ys)):=by refine BL () (bL h ci) ?_;show((pY (ys.map D.str)).bind λys=>if (ys.map (·.length)).sum+ys.length*(" ":af).length<=16777216 then U (D.str (uE " " ys)) else B)=_;rw[LS,qa,qZ (Sb hl)];show U (D.str (xbb " " ys))=_;rw[StrLaws.glued_eq_join];rfl
def OO (h:x.length+y.length<=16000000):bZ (.str x) (.str y)=U (.str (x++y)):=qZ (by unfold aH;lia)
def Ay {x y:Z af} (h:x.length+y.length<=16000000):bZ (.lst (x.map D.str)) (.lst (y.map D.str))=U (.lst ((x++y).map D.str)):=by rw[gA];exact qZ (by rw[qe,qe];unfold aH;lia)
def g8 {g:FE} {x y:Z af} (h1:f Y=U (.lst (x.map D.str))) (h2:g Y=U (.lst (y.map D.str))) (h:x.length+y.length<=16000000):b2 bZ f g Y=U (.lst ((x++y).map D.str)):=bh h1 h2 (Ay h)
noncomputable def okI:Z aj:=[-10 ^ 39,10 ^ 40-1,-7,0,1,2,3,4,5,6,7]
noncomputable def tI (i:aj):af:=mI i
def Q5 {n:aj} (h0:0<=n) (h1:n<=7):n∈okI:=by
 have:n=0\/n=1\/n=2\/n=3\/n=4\/n=5\/n=6\/n=7:=by lia
 rcases this with rfl|rfl|rfl|rfl|rfl|rfl|rfl|rfl<;>nofun
def wS:D->af
 |.str x=>x
 |.int i=>tI i
 |_=>""
end Law
variable {c0 p p0:J} {ρ1:bj} {ws as cw ew tw xw:Z af} {lw:J->ak J}
namespace Law
open PySem L2 PySem.StrLaws PySem.Builtin.Str
def Ed {r:Z J} (hy:y.cps.toList=c0::r) {k:J} (h:yf x y x.length k):x.cps.toList[k]?=U c0:=by
 have h2:=h.2;rw[subAt_eq,hy] at h2;have e:=Mu h2;have e0:((x.cps.toList.drop k).take y.length)[0]?=U c0:=by rw[e];rfl
 have hl:0<y.length:=by
  have:y.cps.toList.length=(c0::r).length:=by rw[hy]
  simp only[hG,qh] at this;show 0<y.cps.size;lia
 rw[uy hl,uH] at e0;simpa using e0
def SC {k:J} {l:Z J} (hk:k<=x.length) (h:x.cps.toList.drop k=y.cps.toList++l):yf x y x.length k:=by
 have hy:y.cps.toList.length=y.length:=by simp[iA]
 have hx:x.cps.toList.length=x.length:=by simp[iA]
 refine#[?_,?_]
 .have:=cQ fX h;rw[ee,qk,hy,hx] at this;lia
 .rw[subAt_eq,h,<-hy,Nz];simp
def Kd {p:af} {a b:J} {l:Z J} (h:x.cps.toList.drop a=p.cps.toList++l) (hb:b-a=p.length):DK x a b=p:=by
 apply Str.ext';apply DL.mp;have hp:p.cps.toList.length=p.length:=by simp[iA]
 rw[strSub_toList,h,hb,<-hp,Nz]
def OW (y p q:af) (r:Z af):(mZ y (p::q::r)).cps.toList=p.cps.toList++(y.cps.toList++(mZ y (q::r)).cps.toList):=by show((p++y++mZ y (q::r)).cps).toList=_;simp only[Str.cps_append,Array.toList_append,qy]
theorem Lj {x y:af} {c0:J} {w:Z J} (hy:y.cps.toList=c0::w):∀(ps:Z af) (p:af) (a:J) (cuts:Z J) (f:J),a<=x.length->x.cps.toList.drop a=(mZ y (p::ps)).cps.toList->(∀q∈p::ps,c0∉q.cps.toList)->
  ChainG x y x.length a cuts f->(∀k,f<=k->¬yf x y x.length k)->partsFrom x y.length a cuts=p::ps
 |[],p,a,cuts,f,ha,hx,hf,hc,hn=>by
  have hx':x.cps.toList.drop a=p.cps.toList:=hx;cases cuts with
  |nil=>
   show[DK x a x.length]=[p];rw[Kd (l:=[]) (by rw[hx',dZ])];have:=cQ fX hx';simp only[ee,hG] at this;exact this
  |cons c r=>
   have h1:=Ed hy hc.2.1;have h2:(x.cps.toList.drop a)[c-a]?=U c0:=by rw[uH,ZX hc.1];exact h1
   rw[hx'] at h2;exact ba (qS h2) (hf p qf)
 |q::ps,p,a,cuts,f,ha,hx,hf,hc,hn=>by
  rw[OW] at hx;have hpl:p.cps.toList.length=p.length:=by simp[iA]
  have hyl:y.cps.toList.length=y.length:=by simp[iA]
  have hd:x.cps.toList.drop (a+p.length)=y.cps.toList++(mZ y (q::ps)).cps.toList:=by rw[<-yd,hx,<-hpl,NA]
  have hle:a+p.length<=x.length:=by
   have:=cQ fX hx;rw[ee,qk,hpl] at this;have hx2:x.cps.toList.length=x.length:=by simp[iA]
   lia
  have hA:yf x y x.length (a+p.length):=SC hle hd;have low:∀k,a<=k->yf x y x.length k->a+p.length<=k:=λk hk h=>by
   rcases gy k (a+p.length) with z|z
   .have h1:=Ed hy h;have h2:(x.cps.toList.drop a)[k-a]?=U c0:=by rw[uH,ZX hk];exact h1
    rw[hx,qD (by rw[hpl];lia)] at h2;exact ba (qS h2) (hf p qf)
   .exact z
  cases cuts with
  |nil=>
   have e:f=a:=hc;subst e;exact ba hA (hn _ (iB _ _))
  |cons c r=>
   obtain⟨c1,c2,c3,c4⟩:=hc;have e:c=a+p.length:=by
    have:=low c c1 c2;rcases gy (a+p.length) c with z|z
    .exact ba hA (c3 _ (iB _ _) z)
    .omega
   subst e;show DK x a (a+p.length)::partsFrom x y.length (a+p.length+y.length) r=p::q::ps;rw[Kd hx .(b),Lj hy ps q (a+p.length+y.length) r f hA.1 (by rw[<-yd,hd,<-hyl,NA]) (λz hz=>hf z (qg _ hz)) c4 hn]
def P0 {w:Z J} (hy:y.cps.toList=c0::w) (hk:x9 y=1) (p:af) (ps:Z af) (hf:∀q∈p::ps,c0∉q.cps.toList):fZ (uE y (p::ps)) y=p::ps:=by
 have ej:uE y (p::ps)=mZ y (p::ps):=glued_eq_join y _;rw[ej];generalize hX:mZ y (p::ps)=x;have hyl:1<=y.length:=by
  have:y.cps.toList.length=(c0::w).length:=by rw[hy]
  simp only[hG,qh] at this;show 1<=y.cps.size;lia
 obtain⟨f,hc,hn⟩:=occ_tight x y hyl;have key:=Lj hy ps p 0 _ f (eA _) (by rw[h9,hX]) hf hc hn;have whole:(occurrences x y 0 x.length (x.length+1))=[]->[x]=p::ps:=λe=>by rw[e] at key;rw[<-key];show[x]=[DK x 0 x.length];rw[sub_whole]
 unfold fZ;split
 .rename_i h1;rw[Dh,rR,rR] at h1;apply whole;cases e:occurrences x y 0 x.length (x.length+1) with
  |nil=>rfl
  |cons c r=>
   rw[e] at hc;have:=hc.2.1.1;rcases h1 with h1|h1
   .omega
   .rw[hk] at h1;have:1<=x9 x:=by unfold x9;split;exact qx _;split<;>decide
    lia
 .split
  .rename_i h2;exact whole (ZY.mp h2)
  .rw[partsBetween_eq];exact key
def AY {A:FE} (hA:A Y=U (.bl ah)):cL (toB A) Y=U ao:=by unfold cL;rw[cz hA];rfl
noncomputable def cY (m:J):af:=uA (mI (m:aj))
def Az (m:J):(cY m).cps.toList=(uQ 10 m).map NB:=xbc m
def QJ (m:J):∀c∈(cY m).cps.toList,48<=c/\c<=57:=λc hc=>by rw[Az] at hc;obtain⟨ch,hch,e⟩:=dH.mp hc;have r:=xbd (Nat.isDigit_of_mem_toDigits .(a) .(a) hch);rw[<-e];exact r
def EO:cY 0="0":=by nofun
def VH:("0123456789":af).cps.toList=[48,49,50,51,52,53,54,55,56,57]:=by nofun
def OC:∀d:J,d<10->lq "0123456789" ⟨#[48+d]⟩ 0 ("0123456789":af).length 1=[d]:=by nofun
def Lm {r:Z J} (h:x.cps.toList=c::r) (hz:x.length<=aH):ixD (.str x) (.int 0)=U (.str ⟨#[c]⟩):=by
 have e:atI x.cps.toList ((0:J):aj)=U c:=by rw[kD,h];rfl
 show(if x.length<=aH then (atI x.cps.toList 0).map (λc=>D.str ⟨#[c]⟩) else B)=_;rw[qZ hz];have e':atI x.cps.toList (0:aj)=U c:=e;rw[e'];rfl
def Ub {r:Z J} (h:lq x y 0 x.length 1=i::r):pp (.str x) [.str y]=U (.int i):=by show(match lq x y 0 x.length 1 with|i::_=>U (D.int (i:J))|[]=>B)=_;rw[h]
def Vp (h:48<=c/\c<=57):pp (.str "0123456789") [.str ⟨#[c]⟩]=U (.int ((c-48:J))):=by have h2:=OC (c-48) .(b);rw[show 48+(c-48)=c by lia] at h2;exact Ub h2
def X6 (i j:aj):bZ (.int i) (.int j)=U (.int (i+j)):=rfl
def Qg (h:f Y=U d):c6 i f Y=U (.nx,Y.set i (oS d)):=by unfold c6;rw[h];rfl
def N2 {a b:aj} (h:(-(2 ^ 64)<a/\a<2 ^ 64)\/(-(2 ^ 64)<b/\b<2 ^ 64)):lK (.int a) (.int b)=U (.int (a*b)):=qZ h
def nV:FE:=b2 bZ (b2 lK (vSh 1) (vC (.int 10))) (mF pp (vC (.str "0123456789")) (av (vSh 2) ay))
def VT (h:48<=c/\c<=57):nV [S,oS (.int n),oS (.str ⟨#[c]⟩)]=U (.int ((n:aj)*10+((c-48:J):aj))):=by have m:lK (.int n) (.int 10)=U (.int ((n:aj)*10)):=N2 (.inr #[by decide,by decide]);exact bh (bh (x:=.int n) (y:=.int 10) () () m) (BL (d:=.str "0123456789") (ds:=[.str ⟨#[c]⟩]) () () (Vp h)) (X6 _ _)
def nB:FS:=c6 1 nV
def QN (h:48<=c/\c<=57):nB [S,oS (.int n),oS (.str ⟨#[c]⟩)]=U (.nx,[S,oS (.int ((n*10+(c-48):J))),oS (.str ⟨#[c]⟩)]):=by
 have e:(((n*10+(c-48):J)):aj)=(n:aj)*10+((c-48:J):aj):=by lia
 rw[e];exact Qg (VT h)
def JO {body:FS} {x:D} {xs:Z D} {ρ2:bj} {R:ak (Fl×bj)} (h1:gg x Y=U ρ1) (h2:body ρ1=U (.nx,ρ2)) (h3:fF gg body xs ρ2=R):fF gg body (x::xs) Y=R:=by simp only[fF,h1,h2,qa];exact h3
def UZ :bp i d Y=U (Y.set i (oS d)):=rfl
def Q3 (cs:Z J):∀(n:J) (a:ak Slot),(∀c∈cs,48<=c/\c<=57)->∃a',fF (bp 2) nB (cs.map λc=>D.str ⟨#[c]⟩) [S,oS (.int n),a]=U (.nx,[S,U (.sh (.int ((cs.foldl (λacc c=>acc*10+(c-48)) n:J)))),a']):=by
 induction cs with
 |nil=>intro n a _;exact#[a,()]
 |cons c r ih=>
  intro n a h;obtain⟨a',ha'⟩:=ih (n*10+(c-48)) (oS (.str ⟨#[c]⟩)) λx hx=>h x (qg _ hx);refine#[a',?_];rw[qp,kj];exact JO UZ (QN (h c qf)) ha'
def uc (m:J):(cY m).cps.toList.foldl (λacc c=>acc*10+(c-48)) 0=m:=by have h:=xbe m;rw[<-Az] at h;exact h
def VN {body E:FS} {xs:Z D} (h1:fi Y=U xs) (h2:fF gg body xs Y=U (.nx,KK)):bu (fS fi gg body) E Y=E KK:=by unfold bu fS;rw[h1,qa,h2];rfl
def Tx (m:J):yW [.str (cY m)]=U (.int m):=by
 obtain⟨a',ha'⟩:=Q3 (S:=oS (.str (cY m))) (cY m).cps.toList 0 B (QJ m);rw[uc] at ha';have e:bu (fS (itS (vSh 0)) (bp 2) nB) (cP (vSh 1)) [oS (.str (cY m)),oS (.int 0),B]=U (.rt (.int m),[oS (.str (cY m)),oS (.int m),a']):=
  (VN (xs:=(cY m).cps.toList.map λc=>D.str ⟨#[c]⟩) () ha').trans (cS ())
 exact dR [oS (.str (cY m)),B,B] () ((mo (d:=.int 0) ()).trans e)
structure Wk (x:af):Prop where
 len:x.length<=200
 asc:∀c∈x.cps.toList,c<128
theorem HY:∀(l:Z aR),md (l.map D.bl)=U l
 |[]=>rfl
 |b::l=>by show(md (l.map D.bl)).map (b::·)=_;rw[HY l];rfl
def Kv {r:bj} {a:ak Slot} {dx:α->D} {xs:Z α} (p:α->aR) (h1:fi Y=U (xs.map dx)) (h2:xs.length<=aH) (h3:gu fv Y=a::r) (h:∀x∈xs,fe (oS (dx x)::r)=U (.bl (p x))) :
  cF nF (av (bE (cG fi (bp 0) tT fe fv)) ay) Y=U (.bl (xs.all p)):=by
 have c:∀(ys:Z α) (a:ak Slot),(∀x∈ys,fe (oS (dx x)::r)=U (.bl (p x)))->fP (bp 0) tT fe (ys.map dx) (a::r)=U ((ys.map p).map D.bl):=λys=>by
  induction ys with
  |nil=>intro a _;rfl
  |cons y ys ih=>
   intro a hy;have h1:=hy y qf;have h2:=ih (oS (dx y)) λx hx=>hy x (qg _ hx);simp only[qp,fP,bp,ko,qa,tT,dc,h1,h2,qd]
 refine cE (bL (d:=.lst ((xs.map p).map D.bl)) ?_ ci) ?_
 .simp only[bE,cG,h1,qa,qe,qZ h2,h3,c xs a h,qd]
 .show(md ((xs.map p).map D.bl)).map _=_;rw[HY,qd,ZZ];rfl
def iM :x.cps.toList.length=x.length:=by simp[iA]
def Af (h:Y[i]?=U (oS (.str x))):itS (vSh i) Y=U (x.cps.toList.map fun c=>D.str ⟨#[c]⟩):=by unfold itS vSh;rw[h];rfl
def yP (h:x.length<=200):cu [.str x]=U (.int (x.length:J)):=qZ (by unfold aH;lia)
def yZ {fm:FE} (h:Y[i]?=U (oS (.str x))) (hl:x.length<=200) (hm:fm Y=U (.int m)):chD leD leD (vC (.int 1)) (cF cu (av (vSh i) ay)) fm Y=U (.bl (decide (1<=x.length) && decide (x.length<=m))):=by
 have e:cF cu (av (vSh i) ay) Y=U (.int (x.length:J)):=cE (bL (by unfold vSh;rw[h]) ci) (yP hl);unfold chD;rw[show vC (.int 1) Y=U (.int 1) from (),qa,e,qa];show((U (D.bl (decide ((1:aj)<=(x.length:J))))).bind _)=_;rw[qa];by_cases z:1<=x.length
 .rw[qV .(b),qV z];rw[hm,qa];show U (D.bl (decide (((x.length:J):aj)<=(m:aj))))=_;by_cases y:x.length<=m
  .rw[qV y,qV .(b)];rfl
  .rw[qQ y,qQ .(b)];rfl
 .rw[qQ .(b),qQ z];rfl
def Cz {A:FE} {b:aR} (hA:A Y=U (.bl b)):cL (toB A) Y=U (!b):=by unfold cL;rw[cz hA];rfl
def yh {f g:FT} {a b:aR} (h1:f Y=U a) (h2:g Y=U b):orT f g Y=U (a || b):=by
 unfold orT;rw[h1];cases a
 .exact h2
 .rfl
def As {E:FS} {b:aR} {e:D} {A:FS} (h:ft Y=U b) (hA:A Y=U (.rt d,Y)) (hE:b=ao->E Y=U (.rt e,Y)):bu (sIf ft A dQ) E Y=U (.rt (if b=ah then d else e),Y):=by
 cases b with
 |true=>exact tf h hA
 |false=>rw[gq h];exact hE ()
def yB (w:x.length<=200):vO [.str x]=U (.bl (aG x)):=by
 have ha:=Kv (fi:=itS (vSh 0)) (fv:=[B]) (Y:=[oS (.str x)]) (a:=B) az (Af ()) (by rw[iM];unfold aH;lia) () (λc hc=>Eu c _);have e:=As (A:=cP (vC (.bl ao))) (ft:=orT (cL (toB (cF e7 (av (vSh 0) (av (vC (.ty "str")) ay))))) (cL (toB (chD leD leD (vC (.int 1)) (cF cu (av (vSh 0) ay)) (vC (.int 8)))))) (yh (Cz (b:=ah) ()) (Cz (yZ (i:=0) () w (m:=8) ()))) (cS ()) (λ_=>cS ha);refine(p9 e).trans ?_;unfold aG
 congr 2
 cases(decide (1<=x.length) && decide (x.length<=8))<;>rfl
noncomputable def dig (c:J):aR:=decide (48<=c) && decide (c<=57)
def iu (x:af):aR:=decide (1<=x.length) && x.cps.toList.all dig && (decide (x="0") || x.cps.toList.headD 48 != 48)
def Ip (c:J):inS ⟨#[c]⟩ "0123456789"=dig c:=by
 unfold inS;rw[Z0,VH];unfold dig;by_cases z:48<=c/\c<=57
 .rw[qV z.1,qV z.2];have:c=48\/c=49\/c=50\/c=51\/c=52\/c=53\/c=54\/c=55\/c=56\/c=57:=by lia
  rcases this with rfl|rfl|rfl|rfl|rfl|rfl|rfl|rfl|rfl|rfl<;>decide
 .have e:(decide (48<=c) && decide (c<=57))=ao:=by rw[<-Bool.decide_and];exact qQ z
  rw[e];refine qQ λh=>z ?_;simp only[qO,qM,or_false] at h;omega
def OD (h:x.cps.toList=[]):x="":=by
 have:x.cps=#[]:=by simpa using h
 cases x;cases this;nofun
def GK :decide ((⟨#[c]⟩:af)="0")=(c==48):=by
 have z0:("0":af)=⟨#[48]⟩:=by nofun
 rw[z0];by_cases e:c=48
 .subst e;rfl
 .rw[qQ (λz=>e (by have:=cQ (λs:af=>s.cps.toList) z;simpa using this))];symm;simpa using e
def LX (w:x.length<=200):Gx [.str x]=U (.bl (iu x)):=by
 have ha:=Kv (fi:=itS (vSh 0)) (fe:=b2 yp (vSh 0) (vC (.str "0123456789"))) (fv:=[B]) (Y:=[oS (.str x)]) dig (Af ()) (by rw[iM];unfold aH;lia) () (λc hc=>bh () () (by show U (D.bl (inS ⟨#[c]⟩ "0123456789"))=_;rw[Ip]));have hz:x.length<=aH:=by unfold aH;lia
 cases hx:x.cps.toList with
 |nil=>
  have:=OD hx;subst this
  kernel_rfl
 |cons c r=>
  have ne:x≠"":=λz=>by rw[z,show("":af).cps.toList=[] by nofun] at hx;cases hx
  have l1:1<=x.length:=by rw[<-iM,hx,qh];lia
  have t0:toB (b2 eqD (vSh 0) (vC (.str ""))) [oS (.str x)]=U ao:=cz (bh (x:=.str x) (y:=.str "") () () (by show U (D.bl (decide (x="")))=_;rw[qQ ne]));have t1:toB (b2 eqD (b2 ixD (vSh 0) (vC (.int 0))) (vC (.str "0"))) [oS (.str x)]=U (c==48):=cz (bh (x:=.str ⟨#[c]⟩) (y:=.str "0") (bh (x:=.str x) (y:=.int 0) () () (Lm hx hz)) () (by show U (D.bl (decide ((⟨#[c]⟩:af)="0")))=_;rw[GK]));have t2:toB (b2 neD (vSh 0) (vC (.str "0"))) [oS (.str x)]=U (!decide (x="0")):=cz (bh (x:=.str x) (y:=.str "0") () () ());have t3:gB (toB (b2 eqD (b2 ixD (vSh 0) (vC (.int 0))) (vC (.str "0")))) (toB (b2 neD (vSh 0) (vC (.str "0")))) [oS (.str x)]=U ((c==48) && !decide (x="0")):=by
   unfold gB;rw[t1,qa];cases c==48
   .rfl
   .rw[qZ (),t2];rfl
  have e:=As (A:=cP (vC (.bl ao))) (yh t0 t3) (cS ()) (λ_=>cS ha);refine(p9 e).trans ?_;have en:iu x=((x.cps.toList.all dig) && (decide (x="0") || c != 48)):=by unfold iu;rw[qV l1,xY,hx];rfl
  rw[en]
  congr 2
  cases hc:c==48<;>cases decide (x="0")<;>cases x.cps.toList.all dig<;>simp_all [bne]
theorem xi:∀{ss:Z af},(∀s∈ss,f8 s=ah)->gz (ss.map kq)=ah
 |[],_=>by simp[gz]
 |s::r,h=>by simp[gz,fu,h s qf,xi λx hx=>h x (qg _ hx)]
theorem Io:∀(ss:Z af),lv (ss.map kq)<=1
 |[]=>by simp[lv]
 |s::r=>by have:=Io r;simp only[qp,lv,iD];lia
def Kw {ss:Z af} (h:∀s∈ss,f8 s=ah):eE (.list (ss.map kq))=ah:=by unfold eE;have:=Io ss;rw[show fu (.list (ss.map kq))=ah by simp[fu,xi h],qV (by simp only[iD];lia)];rfl
def N8:∀(ps:Z uF),eU (.list ps) (.list [])=ps.isEmpty
 |[]=>by simp[eU,si]
 |p::ps=>by simp[eU,si]
def Hb {ss:Z af} (h:∀s∈ss,f8 s=ah):eqX (.lst (ss.map D.str)) (.lst [])=U ss.isEmpty:=by unfold eqX;rw[show pdD (.lst (ss.map D.str))=U (.list (ss.map kq)) by simp[pdD,tX],show pdD (.lst [])=U (.list ([].map kq)) by simp[pdD,ff],qa,qa,qZ #[Kw h,Kw (λ_ z=>by cases z)],qR,N8];cases ss<;>rfl
def FU {ss:Z af} (h:∀s∈ss,f8 s=ah):eqA (.lst (ss.map D.str)) (.lst [])=U (.bl ss.isEmpty):=by have e0:eqA (.lst (ss.map D.str)) (.lst [])=xc (.lst (ss.map D.str)) (.lst []):=rfl;rw[e0];unfold xc;rw[Hb h];rfl
def JP {ss:Z af} (h:∀s∈ss,f8 s=ah):neA (.lst (ss.map D.str)) (.lst [])=U (.bl (!ss.isEmpty)):=by have e0:neA (.lst (ss.map D.str)) (.lst [])=p7 (.lst (ss.map D.str)) (.lst []):=rfl;rw[e0];unfold p7;rw[Hb h];rfl
def W2 (h:c<128):f8 ⟨#[c]⟩=ah:=by
 unfold f8;rw[Nt];intro y hy;have:y=c:=by simpa using hy
 subst this;exact qV .(b)
def IZ {σ:af} (p:J->aR) (h:Y[i]?=U (oS (.str x))) (w:x.length<=200) (hp:∀c,inS ⟨#[c]⟩ σ=p c) :
  bE (cG (itS (vSh i)) (bp 0) (toB (b2 nD (vSh 0) (vC (.str σ)))) (vSh 0) [B]) Y=U (.lst (((x.cps.toList.filter λc=>!p c).map λc=>(⟨#[c]⟩:af)).map D.str)):=by
 have c:∀(ys:Z J) (a:ak Slot),fP (bp 0) (toB (b2 nD (vSh 0) (vC (.str σ)))) (vSh 0) (ys.map λc=>D.str ⟨#[c]⟩) [a]=U (((ys.filter λc=>!p c).map λc=>(⟨#[c]⟩:af)).map D.str):=λys=>by
  induction ys with
  |nil=>intro a;rfl
  |cons y ys ih=>
   intro a;have e:toB (b2 nD (vSh 0) (vC (.str σ))) [oS (.str ⟨#[y]⟩)]=U (!p y):=cz (bh () () (by show U (D.bl (!inS ⟨#[y]⟩ σ))=_;rw[hp]));rw[qp];simp only[fP,bp,ko,qa];rw[e,qa];cases hy:p y
   .rw[Z1 (by rw[hy];rfl)];exact cQ (fY (D.str ⟨#[y]⟩::·)) (ih (oS (.str ⟨#[y]⟩)))
   .rw[Z2 (by rw[hy];decide)];exact ih _
 unfold bE cG;rw[Af h,qa,qZ (by rw[qe,iM];unfold aH;lia)];show fY D.lst (fP _ _ _ _ [B])=_;rw[c];rfl
def Lz (p:J->aR):((x.cps.toList.filter λc=>!p c).map λc=>(⟨#[c]⟩:af)).isEmpty=x.cps.toList.all p:=by
 rw[List.isEmpty_map]
 induction x.cps.toList with
 |nil=>rfl
 |cons c r ih=>
  cases hc:p c
  .rw[Z1 (by rw[hc];rfl),DM,hc];rfl
  .rw[Z2 (by rw[hc];decide),DM,hc,ih];rfl
def LA (w:Wk x) (p:J->aR):∀s∈(x.cps.toList.filter λc=>!p c).map λc=>(⟨#[c]⟩:af),f8 s=ah:=λs hs=>by obtain⟨c,hc,rfl⟩:=dH.mp hs;exact W2 (w.asc c (CD.mp hc).1)
def S3:("abcdefghijklmnopqrstuvwxyz":af).cps.toList=(db 26).map (·+97):=by nofun
def xr :az c=ah↔97<=c/\c<=122:=by
 have z:("z":af)=⟨#[122]⟩:=by nofun
 have a:("a":af)=⟨#[97]⟩:=by nofun
 unfold az ltS;rw[z,a];simp only[eM,Nk,ZO];have one:∀i j:J,(([i]:Z J) < [j])↔i<j:=λi j=>by
  constructor
  .intro h;cases h with
   |rel h=>exact h
   |cons h=>cases h
  .intro h;exact ZP h
 rw[one,one];lia
def Xw (c:J):inS ⟨#[c]⟩ "abcdefghijklmnopqrstuvwxyz"=az c:=by
 unfold inS;rw[Z0,S3];by_cases z:az c=ah
 .rw[z];have:=xr.mp z;exact qV (dH.mpr #[c-97,fg.mpr .(b),by lia])
 .rw[Bool.not_eq_true] at z;rw[z];refine qQ λh=>?_;obtain⟨k,hk,e⟩:=dH.mp h;have:=fg.mp hk;have:az c=ah:=xr.mpr .(b);rw[z] at this;cases this
def D3 :bE (szF ay) Y=U (.lst []):=by unfold bE szF ay;rw[qa,qZ (by unfold aH;decide)];rfl
def Cq (w:Wk x):wu [.str x]=U (.bl (aG x)):=by
 have e:=FU (LA w az);rw[Lz] at e;refine dR [oS (.str x)] () (cS ?_);have h1:=yZ (i:=0) (Y:=[oS (.str x)]) (fm:=vC (.int 8)) () w.len ();have h2:b2 eqA (bE (cG (itS (vSh 0)) (bp 0) (toB (b2 nD (vSh 0) (vC (.str "abcdefghijklmnopqrstuvwxyz")))) (vSh 0) [B])) (bE (szF ay)) [oS (.str x)]=U (.bl (x.cps.toList.all az)):=bh (IZ az () w.len Xw) D3 e;unfold fQ;rw[h1,qa];unfold aG;cases(decide (1<=x.length) && decide (x.length<=8))
 .rfl
 .show b2 eqA _ _ _=_;rw[h2];rfl
def zO (w:Wk x):tR [.str x,.int m]=U (.bl (iu x && decide (x.length<=m))):=by
 have e:=JP (LA w dig);rw[Lz] at e;have h1:=yZ (i:=0) (Y:=[oS (.str x),oS (.int m)]) (fm:=vSh 1) () w.len ();have h2:toB (b2 neA (bE (cG (itS (vSh 0)) (bp 0) (toB (b2 nD (vSh 0) (vC (.str "0123456789")))) (vSh 0) [B])) (bE (szF ay))) [oS (.str x),oS (.int m)]=U (!x.cps.toList.all dig):=cz (bh (IZ dig () w.len Ip) D3 e);have hz:x.length<=aH:=by have:=w.len;unfold aH;lia
 have hE:(!(decide (1<=x.length) && decide (x.length<=m)) || !x.cps.toList.all dig)=ao->cP (orD (b2 eqD (vSh 0) (vC (.str "0"))) (b2 neD (b2 ixD (vSh 0) (vC (.int 0))) (vC (.str "0")))) [oS (.str x),oS (.int m)]=U (.rt (.bl (decide (x="0") || x.cps.toList.headD 48 != 48)),[oS (.str x),oS (.int m)]):=λz=>by
  rw[Bool.or_eq_false_iff] at z;have z1:1<=x.length:=by have:=z.1;simp only[Bool.not_eq_false',eM,rR] at this;exact this.1
  obtain⟨c,r,hx⟩:∃c r,x.cps.toList=c::r:=by
   cases hx:x.cps.toList with
   |nil=>rw[<-iM,hx] at z1;simp at z1
   |cons c r=>exact#[c,r,()]
  refine cS ?_;have a1:b2 eqD (vSh 0) (vC (.str "0")) [oS (.str x),oS (.int m)]=U (.bl (decide (x="0"))):=bh (y:=.str "0") () () ();have a2:b2 neD (b2 ixD (vSh 0) (vC (.int 0))) (vC (.str "0")) [oS (.str x),oS (.int m)]=U (.bl (c != 48)):=bh (x:=.str ⟨#[c]⟩) (y:=.str "0") (bh (x:=.str x) (y:=.int 0) () () (Lm hx hz)) () (by show U (D.bl (!decide ((⟨#[c]⟩:af)="0")))=_;rw[GK];rfl);unfold orD;rw[a1,qa,hx];cases decide (x="0")
  .show b2 neD _ _ _=_;rw[a2];rfl
  .rfl
 refine(p9 (As (A:=cP (vC (.bl ao))) (yh (Cz h1) h2) (cS ()) hE)).trans ?_;unfold iu
 congr 2
 cases decide (1<=x.length)<;>cases decide (x.length<=m)<;>cases x.cps.toList.all dig<;>simp
noncomputable def bY (cs:Z J):J:=cs.foldl (λacc c=>acc*10+(c-48)) 0
def To (ds:Z J) (c:J):bY (ds++[c])=bY ds*10+(c-48):=by unfold bY;rw[xW];rfl
def Wd :dig c=ah↔48<=c/\c<=57:=by unfold dig;simp
def KW:∀k:J,k<10->(uQ 10 k).map NB=[48+k]:=by nofun
theorem Jy:∀(n:J) (cs:Z J),cs.length=n+1->(∀c∈cs,48<=c/\c<=57)->cs.headD 48≠48->(uQ 10 (bY cs)).map NB=cs/\0<bY cs
 |0,cs,hl,hd,hh=>by
  match cs,hl with
  |[c],_=>
   have:=hd c qf;have h0:c≠48:=hh;have e:bY [c]=c-48:=by unfold bY;simp
   rw[e,KW _ .(b)];exact#[by congr 1;lia,by lia]
 |n+1,cs,hl,hd,hh=>by
  have hne:cs≠[]:=λz=>by rw[z] at hl;cases hl
  have ecs:cs.dropLast++[cs.getLast hne]=cs:=List.dropLast_concat_getLast hne;generalize hq:cs.getLast hne=c at ecs;generalize hds:cs.dropLast=ds at ecs;subst ecs;have l1:ds.length=n+1:=by rw[qk,qY] at hl;lia
  obtain⟨d0,dr,e0⟩:∃d0 dr,ds=d0::dr:=by
   cases ds with
   |nil=>cases l1
   |cons a r=>exact#[a,r,()]
  obtain⟨i1,i2⟩:=Jy n ds l1 (λx hx=>hd x (xE _ hx)) (by rw[e0] at hh ⊢;exact hh);have hc:=hd c (qT _ qf);have t:uQ 10 (bY ds)++uQ 10 (c-48)=uQ 10 (10*bY ds+(c-48)):=Nat.toDigits_append_toDigits .(a) i2 .(b);rw[To,MF,<-t,gA,i1,KW _ .(b)];exact#[by congr 2;lia,by lia]
def TU:∀(cs:Z J),(∀c∈cs,48<=c/\c<=57)->bY cs<10 ^ cs.length:=by
 have key:∀(cs:Z J) (a n:J),(∀c∈cs,48<=c/\c<=57)->a<10 ^ n->cs.foldl (λacc c=>acc*10+(c-48)) a<10 ^ (n+cs.length):=λcs=>by
  induction cs with
  |nil=>intro a n _ h;exact h
  |cons c r ih=>
   intro a n hd h;have hc:=hd c qf;have:=ih (a*10+(c-48)) (n+1) (λx hx=>hd x (qg _ hx)) (by rw[Y5];lia);rw[kj,qh,show n+(r.length+1)=n+1+r.length by lia];exact this
 intro cs hd;have:=key cs 0 0 hd .(a)
 rwa [uN] at this
def HQ (h:x.cps.toList=y.cps.toList):x=y:=by
 cases x;cases y
 congr 1
 exact DL.mp h
def vx (h:iu x=ah):∃m,x=cY m/\m<10 ^ x.length:=by
 unfold iu at h;simp only[eM,Dh,rR] at h;obtain⟨⟨h1,h2⟩,h3⟩:=h;have hd:∀c∈x.cps.toList,48<=c/\c<=57:=λc hc=>Wd.mp (ie.mp h2 c hc);by_cases z:x="0"
 .subst z;exact#[0,EO.symm,Nat.pow_pos .(a)]
 .have hh:x.cps.toList.headD 48≠48:=by
   rcases h3 with h3|h3
   .exact ba h3 z
   .simpa using h3
  obtain⟨e1,e2⟩:=Jy (x.length-1) x.cps.toList (by rw[iM];lia) hd hh;refine#[bY x.cps.toList,HQ ?_,by rw[<-iM];exact TU _ hd];rw[Az,e1]
section
variable {r:R} {f:FR R} {fr:FRa R} {fa:FA} {g g' A ae:FRs R} {ft:FRt R}
def gf {ε ζ:Type} {x:ak (ak (α×β))} {g:α->β->ak (ak (γ×δ))} {h:γ->δ->ak (ak (ε×ζ))} :ob (ob x g) h=ob x λa b=>ob (g a b) h:=by
 cases x with
 |none=>rfl
 |some o=>cases o<;>rfl
@[simp]def zBX {g:α->β->ak (ak γ)} :ob (U B) g=U B:=rfl
@[simp]def zDV {b:Prop} [NC b] {x y:ak (ak (α×β))} {g:α->β->ak (ak γ)} :ob (if b then x else y) g=if b then ob x g else ob y g:=by split<;>rfl
@[simp]def zDy {b:Prop} [NC b] {x y:α} :U (if b then x else y)=if b then U x else U y:=by split<;>rfl
@[simp]def zDZ {b:Prop} [NC b] {x y:ak α} {f:α->β} :(if b then x else y).map f=if b then x.map f else y.map f:=by split<;>rfl
@[simp]def zDC:bH n g q ds r=flR g (U (.pin q)::(ds.map (fun d=>U (Slot.sh d))++bB n B)) r:=rfl
@[simp]def s_P {f:bj->ak α} :rP f Y r=(f Y).map λa=>U (a,r):=rfl
@[simp]def s_M {f:FM R α} {g:α->ak β} :rM f g Y r=ob (f Y r) λa r=>(g a).map λb=>U (b,r):=rfl
@[simp]def s_2 {g:D->D->ak D} {fb:FR R} :r2 g f fb Y r=ob (f Y r) λx r=>ob (fb Y r) λy r=>(g x y).map λb=>U (b,r):=rfl
@[simp]def zCM:aV f fr Y r=ob (f Y r) λx r=>ob (fr Y r) λl r=>U (U (x::l,r)):=rfl
@[simp]def zDH {f g:FM R α} :uW ft f g Y r=ob (ft Y r) λb r=>if b=ah then f Y r else g Y r:=rfl
@[simp]def zDI {F:ar->Z D->R->ak (ak (D×R))} :ck F i fr Y r=ob (fr Y r) λds r=>match Y[i]? with
 |some (U (.pin q))=>F q ds r
 |_=>B:=rfl
@[simp]def s_C:vC d Y=U d:=rfl
@[simp]def zDF:ay Y=U []:=rfl
@[simp]def zEO :vSh i Y=match Y[i]? with
 |some (U (.sh d))=>U d
 |_=>B:=rfl
@[simp]def s_A {f:FE} :av f fa Y=(f Y).bind λd=>(fa Y).map λl=>d::l:=rfl
@[simp]def s_B {g:D->D->ak D} {f h:FE} :b2 g f h Y=(f Y).bind λx=>(h Y).bind λy=>g x y:=rfl
@[simp]def zDG:bE fa Y=(fa Y).map D.lst:=rfl
@[simp]def zDA:fE fa Y=(fa Y).map D.tup:=rfl
@[simp]def zDx (h:n<=1000):(n<=aH)=True:=iE (qP h .(a))
@[simp]def zEE:szF fa Y=(fa Y).bind λl=>if l.length<=aH then U l else B:=rfl
@[simp]def zDB {l:Z D} :szD l=if l.length<=aH then U l else B:=rfl
@[simp]def zEL {g:D->FQ} :rBm g f fr Y r=ob (f Y r) λd r=>match d with
 |.str _=>rM fr (g d) Y r
 |_=>B:=rfl
@[simp]def zEN {g:D->ak D} {f:FE} :b1 g f Y=(f Y).bind g:=rfl
@[simp]def zED {f:FE} :toB f Y=(f Y).bind blD:=by unfold toB blD;rfl
@[simp]def zEJ {f:FT} :cL f Y=(f Y).map (!·):=rfl
@[simp]def zEI {f g:FT} :orT f g Y=(f Y).bind λb=>if b=ah then U ah else g Y:=rfl
@[simp]def zEM {b:aR} :blD (.bl b)=U b:=rfl
@[simp]def zEK {F:FQ} :cF F fa Y=(fa Y).bind F:=rfl
@[simp]def zEf:flR (bI (dN j f) g) Y r=ob (f Y r) λd r=>flR g (Y.set j (oS d)) r:=by unfold flR bI dN qB;rw[gf,gf];rfl
@[simp]def zEj:flR (bI (pV j fr) g) Y r=ob (fr Y r) λd r=>flR g (Y.set j (U (.own d))) r:=by unfold flR bI pV qB;rw[gf,gf];rfl
@[simp]def zEo:flR (bI (Bx f) g) Y r=ob (f Y r) λ_ r=>flR g Y r:=by unfold flR bI Bx qB;rw[gf,gf];rfl
@[simp]def zEi:flR (bI (eO f) g) Y r=f Y r:=by
 unfold flR bI eO qB;rw[gf,gf];cases f Y r with
 |none=>rfl
 |some o=>cases o<;>rfl
@[simp]def zC6:flR (eO f) Y r=f Y r:=by
 unfold flR eO qB;rw[gf];cases f Y r with
 |none=>rfl
 |some o=>cases o<;>rfl
@[simp]def zEX:flR (bI (qIf ft A ae) g) Y r=ob (ft Y r) λb r=>if b=ah then flR (bI A g) Y r else flR (bI ae g) Y r:=by
 unfold flR bI qIf qB;rw[gf,gf]
 congr 1;funext b r;cases b<;>simp[gf]
@[simp]def zEW:flR (bI (nT fa) g) Y r=(fa Y).map λ_=>B:=by unfold flR bI nT;cases fa Y<;>rfl
@[simp]def zEl:flR (bI eh g) Y r=flR g Y r:=rfl
@[simp]def zC8:flR (eh:FRs R) Y r=U (U (.non,r)):=rfl
@[simp]def zEm:flR (qIf ft A ae) Y r=ob (ft Y r) λb r=>if b=ah then flR A Y r else flR ae Y r:=by
 unfold flR qIf qB;rw[gf]
 congr 1;funext b r;cases b<;>simp
def zN :whR ft g (n+1) Y r=ob (ft Y r) λb r=>if b=ah then jH g (whR ft g n) Y r else U (U (.nx,Y,r)):=by
 conv=>lhs;unfold whR qIf qB
 congr 1;funext b r;cases b<;>simp<;>rfl
@[simp]def zEB:jH g g' Y r=ob (g Y r) λfl w=>match fl with
 |.nx=>g' w.1 w.2
 |.rt d=>U (U (.rt d,w))
 |_=>B:=rfl
@[simp]def zE0:iK j f Y r=match Y[j]? with
 |some (U (.own ds))=>ob (f Y r) λd r=>if ds.length<aH then U (U (.nx,Y.set j (U (.own (ds++[d]))),r)) else B
 |_=>B:=rfl
@[simp]def zEn:flR (mx j g) Y r=match Y[j]? with
 |some (U (.own ds))=>flR g (Y.set j (oS (.lst ds))) r
 |_=>B:=by
 unfold flR mx;cases Y[j]? with
 |none=>rfl
 |some o=>
  cases o with
  |none=>rfl
  |some s=>cases s<;>rfl
@[simp]def zEh:flR (nT fa:FRs R) Y r=(fa Y).map λ_=>B:=by unfold flR nT;cases fa Y<;>rfl
@[simp]def zEg {g'':FRs R} :flR (bI (bI g g') g'') Y r=flR (bI g (bI g' g'')) Y r:=by
 unfold flR bI;cases g Y r with
 |none=>rfl
 |some o=>
  cases o with
  |none=>rfl
  |some z=>obtain⟨fl,z⟩:=z;cases fl<;>rfl
def FH {r1:R} (h:g Y r=U (U (.nx,ρ1,r1))):flR (bI g g') Y r=flR g' ρ1 r1:=by unfold flR bI;rw[h];rfl
def XU (h:g Y r=U B):flR (bI g g') Y r=U B:=by unfold flR bI;rw[h];rfl
end
@[simp]def zEp {fl:af} {f:FR Fs} {g:FRs Fs} {r:Fs} :flR (bI (yz fl f) g) Y r=ob (f Y r) λd r=>if r.length<1000 then flR g Y (lZ fl d r) else B:=by
 unfold flR bI yz qB;rw[gf,gf]
 congr 1;funext d r;by_cases h:r.length<1000<;>simp[h]<;>rfl
noncomputable def st (ws:Z af) (p c:J):Fs:=[("words",.lst (ws.map D.str)),("place",.int p),("counted",.int c)]
variable {F:FW'}
section
variable {l:Z af} {w:af}
def dp (h:ws.drop p=w::l):ws.drop (p+1)=l:=by rw[<-yd,h];rfl
def dpa {a:Z af} (h:ws.drop p=a++l):ws.drop (p+a.length)=l:=by rw[<-yd,h,NA]
@[simp]def zCF:sY "words" Y (st ws p c)=U (U (.lst (ws.map D.str),st ws p c)):=rfl
@[simp]def zCV:sY "place" Y (st ws p c)=U (U (.int p,st ws p c)):=rfl
@[simp]def zDb:sY "counted" Y (st ws p c)=U (U (.int c,st ws p c)):=rfl
def kR {m:af} {fa:FA} (h:m≠"words"/\m≠"place"/\m≠"counted"):fA m F i fa Y (st ws p c)=match Y[i]? with
 |some (U (.pin q))=>(fa Y).bind λx=>F q x (st ws p c)
 |_=>B:=by
 unfold fA;have:(st ws p c).lookup m=B:=by unfold st;rw[lu,show(m=="words")=ao from by simpa using h.1,lu,show(m=="place")=ao from by simpa using h.2.1,lu,show(m=="counted")=ao from by simpa using h.2.2];rfl
 rw[this];rfl
@[simp]def zEU {a b:D} :ixD (.tup [a,b]) (.int 0)=U a:=rfl
@[simp]def zET {a b:D} :ixD (.tup [a,b]) (.int 1)=U b:=rfl
@[simp]def zEs {a b:af} :eqD (.str a) (.str b)=U (.bl (decide (a=b))):=rfl
@[simp]def m_0 {fa:FA} :fA "ahead_of_all" F i fa Y (st ws p c)=match Y[i]? with
 |some (U (.pin q))=>(fa Y).bind λx=>F q x (st ws p c)
 |_=>B:=kR .(a)
@[simp]def m_1 {fa:FA} :fA "take" F i fa Y (st ws p c)=match Y[i]? with
 |some (U (.pin q))=>(fa Y).bind λx=>F q x (st ws p c)
 |_=>B:=kR .(a)
@[simp]def m_2 {fa:FA} :fA "take_just" F i fa Y (st ws p c)=match Y[i]? with
 |some (U (.pin q))=>(fa Y).bind λx=>F q x (st ws p c)
 |_=>B:=kR .(a)
@[simp]def m_3 {fa:FA} :fA "take_name" F i fa Y (st ws p c)=match Y[i]? with
 |some (U (.pin q))=>(fa Y).bind λx=>F q x (st ws p c)
 |_=>B:=kR .(a)
@[simp]def m_4 {fa:FA} :fA "take_names" F i fa Y (st ws p c)=match Y[i]? with
 |some (U (.pin q))=>(fa Y).bind λx=>F q x (st ws p c)
 |_=>B:=kR .(a)
@[simp]def m_5 {fa:FA} :fA "take_number" F i fa Y (st ws p c)=match Y[i]? with
 |some (U (.pin q))=>(fa Y).bind λx=>F q x (st ws p c)
 |_=>B:=kR .(a)
@[simp]def m_6 {fa:FA} :fA "take_start" F i fa Y (st ws p c)=match Y[i]? with
 |some (U (.pin q))=>(fa Y).bind λx=>F q x (st ws p c)
 |_=>B:=kR .(a)
@[simp]def m_7 {fa:FA} :fA "count_one" F i fa Y (st ws p c)=match Y[i]? with
 |some (U (.pin q))=>(fa Y).bind λx=>F q x (st ws p c)
 |_=>B:=kR .(a)
@[simp]def m_8 {fa:FA} :fA "is_behind_all" F i fa Y (st ws p c)=match Y[i]? with
 |some (U (.pin q))=>(fa Y).bind λx=>F q x (st ws p c)
 |_=>B:=kR .(a)
def t2 {x:D} {l:Z D} :kW [x]=U (.tup [x]):=rfl
end
noncomputable def hdW (ws:Z af) (p:J):af:=(ws.drop p).headD ""
def ixW:ixD (.lst (ws.map D.str)) (.int p)=(ws[p]?).map D.str:=by rw[ixL,ql]
@[simp]def Vi {l:Z D} :cu [.lst l]=U (.int (l.length:J)):=rfl
@[simp]def Ik {a b:J} :ltD (.int a) (.int b)=U (.bl (decide (a<b))):=by show U (D.bl (decide ((a:aj)<b)))=_;rw[uR.mpr Int.ofNat_lt]
@[simp]def zCJ:lZ "place" (.int ((p:aj)+1)) (st ws p c)=st ws (p+1) c:=rfl
@[simp]def zEt {a b:aj} :bZ (.int a) (.int b)=U (.int (a+b)):=rfl
@[simp]def zBn:lZ "counted" (.int ((c:aj)+1)) (st ws p c)=st ws p (c+1):=rfl
@[simp]def zCK:(st ws p c).length=3:=rfl
@[simp]def zAI:tV q [] (st ws p c)=U (U (.str (hdW ws p),st ws p c)):=by by_cases hp:p<ws.length<;>simp[tV,yt,Ik,ixW,hdW,hp,List.headD_eq_head?_getD,List.head?_drop]
@[simp]def zAT:vU q [] (st ws p c)=U (U (.str (hdW ws p),st ws (p+1) c)):=by simp[vU,zx]
def WWk (ws:Z af):Prop:=∀x∈ws,Wk x
def wk0:Wk "":=#[by nofun,λc hc=>by rw[show("":af).cps.toList=[] by nofun] at hc;cases hc]
def mf (h:WWk ws) (p:J):Wk (hdW ws p):=by
 unfold hdW;cases e:ws.drop p with
 |nil=>exact wk0
 |cons w l=>exact h w (oB (by rw[e];exact qf))
def v7 (w:Wk x):f8 x=ah:=by unfold f8;rw[Nt];intro c hc;have:=w.asc c (by simpa using hc);exact qV .(b)
def Rr (w:Wk x) (ha:∀s∈as,f8 s=ah):yA (.str x) (.lst (as.map D.str))=U (.bl (!decide (x∈as))):=by
 have e1:pdD (.str x)=U (.str x):=by rw[pdD]
 have e2:pdD (.lst (as.map D.str))=U (.list (as.map kq)):=by rw[pdD,tX];rfl
 have e3:eE (.str x)=ah:=by unfold eE;rw[show fu (.str x)=ah by rw[fu];exact v7 w,qV (by simp[iD])];rfl
 have e:inX (.str x) (.lst (as.map D.str))=U (decide (x∈as)):=by unfold inX;rw[e1,qa,e2,qa];show (if _ then _ else _)=_;rw[qZ #[e3,xi ha],wA]
 unfold yA;rw[e];rfl
def OX (hw:WWk ws) (ha:∀s∈as,f8 s=ah):wL q [.lst (as.map D.str)] (st ws p c)=U (if hdW ws p∈as then U (.str (hdW ws p),st ws (p+1) c) else B):=by by_cases z:hdW ws p∈as<;>simp[wL,B5,Rr (mf hw p) ha,z]
def js (as:Z af) (ha:∀s∈as,f8 s=ah) (hw:WWk ws) (q:ar) (p c:J):wL q [.lst (as.map D.str)] (st ws p c)=U (if hdW ws p∈as then U (.str (hdW ws p),st ws (p+1) c) else B):=OX hw ha
@[simp]def zyi (hw:WWk ws):Cv q [] (st ws p c)=U (if aG (hdW ws p)=ah then U (.str (hdW ws p),st ws (p+1) c) else B):=by cases z:aG (hdW ws p)<;>simp[Cv,yN,yB (mf hw p).len,z]
def GE (h:iu x=ah):yW [.str x]=U (.int (bY x.cps.toList:J)):=by obtain⟨m,rfl,_⟩:=vx h;rw[Tx];have:=uc m;unfold bY;rw[this]
def b5 (most:J) (x:af):aR:=iu x && decide (x.length<=most)
def Eb (hl:x.length<=200):(cu [.str x]).bind (λy=>gtD y (.int m))=U (.bl (!decide (x.length<=m))):=by
 rw[yP hl];show U (D.bl (decide ((m:aj)<(x.length:J))))=_;by_cases z:x.length<=m
 .rw[qV z,qQ .(b)];rfl
 .rw[qQ z,qV .(b)];rfl
def P7 (hl:x.length<=200):(cu [.str x]).bind (λy=>gtD y (.int 40))=U (.bl (!decide (x.length<=40))):=Eb (m:=40) hl
def Lr {most:J} (hw:WWk ws):su q [.int most] (st ws p c)=U (if b5 most (hdW ws p)=ah then U (.int (bY (hdW ws p).cps.toList:J),st ws (p+1) c) else B):=by have w:=(mf hw p).len;unfold b5;cases h1:iu (hdW ws p)<;>by_cases h2:(hdW ws p).length<=most<;>simp[su,B7,Eb w,LX w,h1,h2,GE]
@[simp]def zDl (hw:WWk ws):su q [.int 7] (st ws p c)=U (if b5 7 (hdW ws p)=ah then U (.int (bY (hdW ws p).cps.toList:J),st ws (p+1) c) else B):=Lr (most:=7) hw
@[simp]def zCI (hw:WWk ws):su q [.int 40] (st ws p c)=U (if b5 40 (hdW ws p)=ah then U (.int (bY (hdW ws p).cps.toList:J),st ws (p+1) c) else B):=Lr (most:=40) hw
@[simp]def zC4 {a b:J} :geD (.int a) (.int b)=U (.bl (decide (b<=a))):=by show U (D.bl (decide ((b:aj)<=a)))=_;rw[uR.mpr Int.ofNat_le]
@[simp]def zAx (h:c+1<=3000):Av q [] (st ws p c)=U (U (.non,st ws p (c+1))):=by simp[Av,BD,show gtD (.int ((c:aj)+1)) (.int 3000)=U (.bl ao) by show U (D.bl (decide ((3000:aj)<(c:aj)+1)))=_;rw[qQ .(b)]]
def tlW (x:af):af:=gZ x (U 1) B
def stB (x:af):aR:=if ly x "-"=ah then b5 40 (tlW x) && !decide (tlW x="0") else b5 40 x
def stV (x:af):aj:=if ly x "-"=ah then -((bY (tlW x).cps.toList:J):aj) else (bY x.cps.toList:J)
def vW (x:af):(tlW x).cps.toList=x.cps.toList.drop 1:=by
 unfold tlW gZ et;rw[show(U (1:aj))=U ((1:J):aj) from (),HT.sIx_nat,HT.sIx_none];by_cases h:1<=x.cps.toList.length
 .rw[uG h];exact oz (by rw[ee];exact qx _)
 .rw[DC .(b),DH (qx _),DH .(b)];simp
def Ee (w:Wk x):Wk (tlW x):=#[by rw[<-iM,vW,ee,iM];have:=w.len;lia,λc hc=>w.asc c (by rw[vW] at hc;exact oB hc)]
@[simp]def zyq (hw:WWk ws):AF q [] (st ws p c)=U (if stB (hdW ws p)=ah then U (.int (stV (hdW ws p)),st ws (p+1) c) else B):=by have wt:=(Ee (mf hw p)).len;have e:yF (.str (hdW ws p)) (.int 1)=U (.str (tlW (hdW ws p))):=qZ (by have:=(mf hw p).len;unfold aH;lia);have e2:∀x y:af,vz (.str x) [.str y]=U (.bl (ly x y)):=λ_ _=>rfl;unfold stB stV b5;cases hb:ly (hdW ws p) "-"<;>cases h1:iu (tlW (hdW ws p))<;>by_cases h2:(tlW (hdW ws p)).length<=40<;>by_cases h3:tlW (hdW ws p)="0"<;>simp_all [AF,B1,P7,LX,GE,b5,BW]
def pCh (ws:Z af) (p:J):ak (D×J):=
 if hdW ws p∈(["start","on","order","keep"]:Z af) then
  if aG (hdW ws (p+1))=ah then
   if hdW ws p="keep" then U (.tup [.str (hdW ws p),.str (hdW ws (p+1))],p+2)
   else if hdW ws p="start" then (if stB (hdW ws (p+2))=ah then U (.tup [.str (hdW ws p),.str (hdW ws (p+1)),.int (stV (hdW ws (p+2)))],p+3) else B)
   else if aG (hdW ws (p+2))=ah then U (.tup [.str (hdW ws p),.str (hdW ws (p+1)),.str (hdW ws (p+2))],p+3) else B
  else B
 else B
@[simp]def zx2 (hw:WWk ws):zK q [] (st ws p c)=U ((pCh ws p).map λz=>(z.1,st ws z.2 c)):=by have j:=js ["start","on","order","keep"] (by nofun) hw;simp only[qp,qR] at j;simp[zK,BK,pCh,j,hw]
def pEn (ws:Z af) (p:J):ak (J×J):=if b5 7 (hdW ws p)=ah/\b5 7 (hdW ws (p+1))=ah/\bY (hdW ws p).cps.toList<bY (hdW ws (p+1)).cps.toList then U (bY (hdW ws p).cps.toList,bY (hdW ws (p+1)).cps.toList) else B
@[simp]def zA1 (hw:WWk ws):zI q [] (st ws p c)=U ((pEn ws p).map λz=>(.tup [.int z.1,.int z.2],st ws (p+2) c)):=by by_cases h:bY (hdW ws p).cps.toList<bY (hdW ws (p+1)).cps.toList<;>cases h1:b5 7 (hdW ws p)<;>cases h2:b5 7 (hdW ws (p+1))<;>simp[zI,yI,pEn,hw,h,h1,h2,lC.mpr,uD.mp]
theorem jU {κ:Type} [eS κ]:∀(l a:Z κ),a.Nodup->(l.foldl (λa k=>if k∈a then a else a++[k]) a).length<=a.length+l.length/\((l.foldl (λa k=>if k∈a then a else a++[k]) a).length=a.length+l.length->(a++l).Nodup)
 |[],a,h=>#[by simp,λ_=>by simpa using h]
 |x::r,a,h=>by
  rw[kj];by_cases z:x∈a
  .rw[qZ z];have:=(jU r a h).1;rw[qh];exact#[by lia,λe=>by lia]
  .rw[xa z];have h':(a++[x]).Nodup:=by rw[Nu];exact#[h,by simp,λu hu v hv=>by simp at hv;subst hv;intro e;subst e;exact z hu]
   have:=jU r (a++[x]) h';rw[qk,qY] at this;rw[qh];exact#[by lia,λe=>by simpa using this.2 .(b)]
def Ln [eS κ] (l:Z κ):(ST.dd l).length=l.length↔l.Nodup:=by
 constructor
 .intro h;have:=(jU l [] Nb).2 (by simpa[ST.dd] using h);simpa using this
 .intro h;rw[A8 h]
def P1 (hl:ns.length<=300):il [.lst (ns.map D.str)]=U (.bl (decide ns.Nodup)):=by
 have hd:(ns.map (cC:af->Key)).Nodup↔ns.Nodup:=#[λh=>(rS.mp h).imp λz e=>z (cQ _ e),λh=>rY _ (λa b hab z=>hab (my z)) h];have e:((((ST.dd (ns.map (cC:af->Key))).length:J):aj)=((ns.length:J):aj))↔ns.Nodup:=by rw[<-hd,<-Ln,qe];lia
 simp only[il,oZ,aN,cP,cF,av,ay,vSh,b1,b2,cu,eqD,eqS,qp,qR,qq,qU,bB,qb,qa,qd,lX,qe,qZ hl,px];simp only[uR.mpr e]
def pNs (ws:Z af) (p:J):Z af:=(ws.drop p).takeWhile aG
def nm0:aG ""=ao:=by nofun
section
variable {l:Z af}
abbrev nmT:FRt Fs:=rM (rM (aV (fA "ahead_of_all" tV 0 ay) (rP ay)) vO) blD
theorem Ie (hw:WWk ws):∀(ns:Z af) (done:Z af) (p n:J),ws.drop p=ns++l->aG (l.headD "")=ao->(∀x∈ns,aG x=ah)->ns.length<n->done.length+ns.length<=1000->whR nmT (iK 1 (fA "take" vU 0 ay)) n [U (.pin q),U (.own (done.map D.str))] (st ws p c)=U (U (.nx,[U (.pin q),U (.own ((done++ns).map D.str))],st ws (p+ns.length) c))
 |[],done,p,n+1,h,hx,_,_,_=>by
  have e:aG (hdW ws p)=ao:=by unfold hdW;rw[h];exact hx
  rw[zN];simp[yB (mf hw p).len,e]
 |x::ns,done,p,n+1,h,hx,hn,hl,hd=>by
  rw[qh] at hl hd;have e:hdW ws p=x:=by unfold hdW;rw[h];rfl
  subst e;have k:=Ie hw ns (done++[hdW ws p]) (p+1) n (dp h) hx (λy hy=>hn y (qg _ hy)) .(b) (by rw[qk,qY];lia);rw[zN];simp[yB (mf hw p).len,hn _ qf,show done.length<aH by unfold aH;lia];simpa[oA,xQ 1] using k
theorem Jk (f:af->aR) (h0:f ""=ao):∀l:Z af,f ((l.dropWhile f).headD "")=ao
 |[]=>h0
 |x::r=>by
  rw[Z3];by_cases z:f x=ah
  .rw[qZ z];exact Jk f h0 r
  .rw[xa z];simpa using z
def o9 (ws:Z af) (p:J):ws.drop p=pNs ws p++(ws.drop p).dropWhile aG:=(Z4).symm
def BV (h:x∈pNs ws p):aG x=ah:=by have:=Z5 (l:=ws.drop p) (p:=aG);exact ie.mp this x h
def Hl:(pNs ws p).length<=ws.length:=by have:=cQ fX (o9 ws p);rw[qk,ee] at this;lia
def JE (hw:WWk ws) (hl:ws.length<=900):wF q [] (st ws p c)=U (if pNs ws p=[] then B else U (.lst ((pNs ws p).map D.str),st ws (p+(pNs ws p).length) c)):=by
 have hc:=o9 ws p;have hh:=Jk aG nm0 (ws.drop p);have hm:∀x∈pNs ws p,aG x=ah:=λx=>BV;have hlen:=Hl (ws:=ws) (p:=p);cases e:pNs ws p with
 |nil=>
  rw[e,qU] at hc;have z:aG (hdW ws p)=ao:=by unfold hdW;rw[hc];exact hh
  simp[wF,xq,hw,z]
 |cons x ns=>
  rw[e] at hc hm hlen;rw[qh] at hlen;have z:hdW ws p=x:=by unfold hdW;rw[hc];rfl
  have k:=Ie (q:=q) (c:=c) hw ns [x] (p+1) 100000 (dp hc) hh (λy hy=>hm y (qg _ hy)) .(b) (by simp;lia);simp only[qp,qR] at k;simp[wF,xq,hw,z,hm x,FH k,oA,xQ 1]
def pSt (ws:Z af) (p:J):ak (D×J):=match pEn ws p with
 |none=>B
 |some z=>if pNs ws (p+2)=[] then B else if (pNs ws (p+2)).Nodup then U (.tup [.str "stretch",.lst ((pNs ws (p+2)).map D.str),.int z.1,.int z.2],p+2+(pNs ws (p+2)).length) else B
def U0 (hw:WWk ws) (hl:ws.length<=900) (hn:(pNs ws (p+2)).length<=300):yO q [] (st ws p c)=U ((pSt ws p).map λz=>(z.1,st ws z.2 c)):=by unfold pSt;cases he:pEn ws p<;>by_cases h1:pNs ws (p+2)=[]<;>by_cases h2:(pNs ws (p+2)).Nodup<;>simp[yO,zM,hw,he,JE hw hl,h1,h2,P1 hn]
end
abbrev Pz:=ak (D×J×J)
def pPt (ws:Z af) (w:J->J->Pz) (p c:J):Pz:=
 if hdW ws p∈(["low","high","fit","not"]:Z af) then
  if hdW ws p="not" then
   match pCh ws (p+1) with
   |none=>B
   |some z=>if hdW ws z.2∈(["0","1"]:Z af) then (w (z.2+1) (c+1)).map λu=>(.tup [.str (hdW ws p),z.1,.int (if hdW ws z.2="0" then 0 else 1),u.1],u.2) else B
  else if hdW ws p="fit" then (if aG (hdW ws (p+1))=ah then U (.tup [.str (hdW ws p),.str (hdW ws (p+1))],p+2,c+1) else B)
  else if aG (hdW ws (p+1))=ah then (if aG (hdW ws (p+2))=ah then U (.tup [.str (hdW ws p),.str (hdW ws (p+1)),.str (hdW ws (p+2))],p+3,c+1) else B) else B
 else B
variable {W:FW'}
section
variable {w:J->J->Pz} {dp':D}
def RM (hw:WWk ws) (hc:c+1<=3000) (hW:∀z,pCh ws (p+1)=U z->hdW ws z.2∈(["0","1"]:Z af)->W q [dp'] (st ws (z.2+1) (c+1))=U ((w (z.2+1) (c+1)).map λu=>(u.1,st ws u.2.1 u.2.2))):nE W q [dp'] (st ws p c)=U ((pPt ws w p c).map λu=>(u.1,st ws u.2.1 u.2.2)):=by
 have j:=js ["low","high","fit","not"] (by nofun) hw;have k:=js ["0","1"] (by nofun) hw;simp only[qp,qR] at j k;unfold pPt;by_cases z1:hdW ws p="not"
 .simp[nE,t9,j,hw,hc,z1];cases hz:pCh ws (p+1) with
  |none=>simp
  |some z=>
   have hx:=hW z hz;simp[k];cases hu:w (z.2+1) (c+1)<;>by_cases z4:hdW ws z.2="0"<;>by_cases z5:hdW ws z.2="1"<;>simp_all
 .simp[nE,t9,j,hw,hc,z1]
end
def pEd (ws:Z af) (w:J->J->Pz) (p c:J):Pz:=
 if hdW ws p∈(["both","window","ring","stretch","together","stock","moved"]:Z af) then
  if hdW ws p="both" then
   match pCh ws (p+1) with
   |none=>B
   |some z=>match w z.2 (c+1) with
    |none=>B
    |some u=>(w u.2.1 u.2.2).map λv=>(.tup [.str (hdW ws p),z.1,u.1,v.1],v.2)
  else if hdW ws p="window" then (if aG (hdW ws (p+1))=ah then U (.tup [.str (hdW ws p),.str (hdW ws (p+1))],p+2,c+1) else B)
  else if hdW ws p="ring" then (if pNs ws (p+1)=[] then B else U (.tup [.str (hdW ws p),.lst ((pNs ws (p+1)).map D.str)],p+1+(pNs ws (p+1)).length,c+1))
  else if hdW ws p="stretch" then (pSt ws (p+1)).map λz=>(z.1,z.2,c+1)
  else if hdW ws p="together" then (if aG (hdW ws (p+1))=ah then (pEn ws (p+2)).map λz=>(.tup [.str (hdW ws p),.str (hdW ws (p+1)),.int z.1,.int z.2],p+4,c+1) else B)
  else if hdW ws p="stock" then (if aG (hdW ws (p+1))=ah then (if b5 7 (hdW ws (p+2))=ah then (if hdW ws (p+3)∈(["less","more"]:Z af) then U (.tup [.str (hdW ws p),.str (hdW ws (p+1)),.int (bY (hdW ws (p+2)).cps.toList:J),.str (hdW ws (p+3))],p+4,c+1) else B) else B) else B)
  else U (.tup [.str (hdW ws p)],p+1,c+1)
 else B
section
variable {w:J->J->Pz}
def T' (hw:WWk ws) (hl:ws.length<=900) (hn:(pNs ws (p+1+2)).length<=300) (hc:c+1<=3000)
  (hW:∀z,pCh ws (p+1)=U z->W q [d] (st ws z.2 (c+1))=U ((w z.2 (c+1)).map λu=>(u.1,st ws u.2.1 u.2.2)))
  (hW2:∀z u,pCh ws (p+1)=U z->w z.2 (c+1)=U u->W q [d] (st ws u.2.1 u.2.2)=U ((w u.2.1 u.2.2).map λu=>(u.1,st ws u.2.1 u.2.2))) :
  mm W q [d] (st ws p c)=U ((pEd ws w p c).map λu=>(u.1,st ws u.2.1 u.2.2)):=by
 have j:=js ["both","window","ring","stretch","together","stock","moved"] (by nofun) hw;have k:=js ["less","more"] (by nofun) hw;simp only[qp,qR] at j k;unfold pEd;by_cases z1:hdW ws p="both"
 .simp[mm,m6,j,hw,hc,z1];cases hz:pCh ws (p+1) with
  |none=>simp
  |some z=>
   cases hu:w z.2 (c+1) with
   |none=>simp[hu,hW z hz]
   |some u=>cases hv:w u.2.1 u.2.2<;>simp[hu,hv,hW z hz,hW2 z u hz hu]
 .by_cases z5:hdW ws p="together"
  .simp +decide [mm,m6,j,hw,hc,z5];cases pEn ws (p+2)<;>simp
  .simp[mm,m6,j,k,hw,hc,z1,z5,JE hw hl,U0 hw hl hn];rfl
end
section
variable {w:J->J->Pz}
def iX (h:hdW ws p≠""):p<ws.length:=by
 rcases gy p ws.length with z|z
 .exact z
 .exact ba (by unfold hdW;rw[sj z];rfl) h
def pH (h:aG (hdW ws p)=ah):p<ws.length:=iX λe=>by rw[e,nm0] at h;cases h
def nu0 :b5 m ""=ao:=by unfold b5;rw[show iu ""=ao by nofun];rfl
def nv (h:b5 m (hdW ws p)=ah):p<ws.length:=iX λe=>by rw[e,nu0] at h;cases h
def st0:stB ""=ao:=by nofun
def Lh (h:stB (hdW ws p)=ah):p<ws.length:=iX λe=>by rw[e,st0] at h;cases h
def jS (h:hdW ws p∈as) (h0:("":af)∉as):p<ws.length:=iX λe=>h0 (e▸h)
def ni {z:D×J} (h:pCh ws p=U z):p+2<=z.2/\z.2<=ws.length:=by
 unfold pCh at h;split at h
 .split at h
  .rename_i h2;have:=pH h2;split at h
   .cases h;exact#[qx _,by lia]
   .split at h
    .split at h
     .rename_i h3;have:=Lh h3;cases h;exact#[by show p+2<=p+3;lia,by show p+3<=_;lia]
     .cases h
    .split at h
     .rename_i h3;have:=pH h3;cases h;exact#[by show p+2<=p+3;lia,by show p+3<=_;lia]
     .cases h
  .cases h
 .cases h
def Hf {z:J×J} (h:pEn ws p=U z):p+2<=ws.length:=by
 unfold pEn at h;split at h
 .rename_i h2;have:=nv h2.2.1;lia
 .cases h
def HR:(pNs ws p).length<=ws.length-p:=by have:=cQ fX (o9 ws p);rw[qk,ee] at this;lia
def Ou {z:D×J} (h:pSt ws p=U z):p+2<=z.2/\z.2<=ws.length:=by
 unfold pSt at h;cases he:pEn ws p with
 |none=>rw[he] at h;cases h
 |some y=>
  rw[he] at h
  replace h:(if pNs ws (p+2)=[] then B else if (pNs ws (p+2)).Nodup then U (D.tup [.str "stretch",.lst ((pNs ws (p+2)).map D.str),.int y.1,.int y.2],p+2+(pNs ws (p+2)).length) else B)=U z:=h
  have h1:=Hf he;have h2:=HR (ws:=ws) (p:=p+2);split at h
  .cases h
  .split at h
   .cases h;exact#[by show p+2<=p+2+_;lia,by show p+2+_<=_;lia]
   .cases h
def Bw (ws:Z af) (w:J->J->Pz):Prop:=∀p c u,w p c=U u->c<=p->p<u.2.1/\u.2.1<=ws.length/\u.2.2<=u.2.1
def BX (hB:Bw ws w):Bw ws (pPt ws w):=λp c u h hc=>by
 unfold pPt at h;split at h
 .split at h
  .cases he:pCh ws (p+1) with
   |none=>rw[he] at h;cases h
   |some z=>
    rw[he] at h
    replace h:(if hdW ws z.2∈(["0","1"]:Z af) then (w (z.2+1) (c+1)).map λu=>(D.tup [.str (hdW ws p),z.1,.int (if hdW ws z.2="0" then 0 else 1),u.1],u.2) else B)=U u:=h
    have h1:=ni he;split at h
    .cases hu:w (z.2+1) (c+1) with
     |none=>rw[hu] at h;cases h
     |some v=>
      rw[hu] at h;have h2:=hB _ _ _ hu .(b);cases h;exact#[by show p<v.2.1;lia,h2.2]
    .cases h
  .split at h
   .split at h
    .rename_i h3;have:=pH h3;cases h;exact#[by show p<p+2;lia,by show p+2<=_;lia,by show c+1<=p+2;lia]
    .cases h
   .split at h
    .split at h
     .rename_i h3;have:=pH h3;cases h;exact#[by show p<p+3;lia,by show p+3<=_;lia,by show c+1<=p+3;lia]
     .cases h
    .cases h
 .cases h
def WO (hB:Bw ws w):Bw ws (pEd ws w):=λp c u h hc=>by
 unfold pEd at h;split at h
 .rename_i h0;have l0:=jS h0 (by nofun);split at h
  .cases he:pCh ws (p+1) with
   |none=>rw[he] at h;cases h
   |some z=>
    rw[he] at h
    replace h:(match w z.2 (c+1) with|none=>B|some u=>(w u.2.1 u.2.2).map λv=>(D.tup [.str (hdW ws p),z.1,u.1,v.1],v.2))=U u:=h
    have h1:=ni he;cases hu:w z.2 (c+1) with
    |none=>rw[hu] at h;cases h
    |some v=>
     rw[hu] at h
     replace h:((w v.2.1 v.2.2).map λx=>(D.tup [.str (hdW ws p),z.1,v.1,x.1],x.2))=U u:=h
     have h2:=hB _ _ _ hu .(b);cases hv:w v.2.1 v.2.2 with
     |none=>rw[hv] at h;cases h
     |some x=>
      rw[hv] at h;have h3:=hB _ _ _ hv h2.2.2;cases h;exact#[by show p<x.2.1;lia,h3.2]
  .split at h
   .split at h
    .rename_i h3;have:=pH h3;cases h;exact#[by show p<p+2;lia,by show p+2<=_;lia,by show c+1<=p+2;lia]
    .cases h
   .split at h
    .split at h
     .cases h
     .have:=HR (ws:=ws) (p:=p+1);cases h;exact#[by show p<p+1+_;lia,by show p+1+_<=_;lia,by show c+1<=p+1+_;lia]
    .split at h
     .cases hs:pSt ws (p+1) with
      |none=>rw[hs] at h;cases h
      |some z=>
       rw[hs] at h;have:=Ou hs;cases h;exact#[by show p<z.2;lia,this.2,by show c+1<=z.2;lia]
     .split at h
      .split at h
       .cases hs:pEn ws (p+2) with
        |none=>rw[hs] at h;cases h
        |some z=>
         rw[hs] at h;have:=Hf hs;cases h;exact#[by show p<p+4;lia,by show p+4<=_;lia,by show c+1<=p+4;lia]
       .cases h
      .split at h
       .split at h
        .split at h
         .split at h
          .rename_i h3;have:=jS h3 (by nofun);cases h;exact#[by show p<p+4;lia,by show p+4<=_;lia,by show c+1<=p+4;lia]
          .cases h
         .cases h
        .cases h
       .cases h;exact#[by show p<p+1;lia,by show p+1<=_;lia,by show c+1<=p+1;lia]
 .cases h
def pRw (ws:Z af) (w:J->J->Pz):J->J->J->ak (Z D×J×J)
 |0,_,_=>B
 |n+1,p,c=>if hdW ws p=";" then U ([],p,c) else match pPt ws w p c with
  |none=>B
  |some u=>(pRw ws w n u.2.1 u.2.2).map λv=>(u.1::v.1,v.2)
theorem xt (hB:Bw ws w):∀(n p c:J) (v:Z D×J×J),pRw ws w n p c=U v->c<=p->p<=v.2.1/\v.2.1<ws.length/\v.2.2<=v.2.1/\hdW ws v.2.1=";"
 |n+1,p,c,v,h,hc=>by
  unfold pRw at h;split at h
  .rename_i h1;cases h;exact#[qx _,iX (by rw[h1];nofun),hc,h1]
  .cases hu:pPt ws w p c with
   |none=>rw[hu] at h;cases h
   |some u=>
    rw[hu] at h;have h1:=BX hB _ _ _ hu hc
    replace h:(pRw ws w n u.2.1 u.2.2).map (λv=>(u.1::v.1,v.2))=U v:=h
    cases hv:pRw ws w n u.2.1 u.2.2 with
    |none=>rw[hv] at h;cases h
    |some x=>
     rw[hv] at h;have h2:=xt hB n _ _ _ hv h1.2.2;cases h;exact#[by show p<=x.2.1;lia,h2.2]
def pTr (ws:Z af) (w:J->J->Pz) (p c:J):Pz:=match pRw ws w (ws.length+1) p c with
 |none=>B
 |some v=>(pEd ws w (v.2.1+1) v.2.2).map λe=>(.tup [.lst v.1,e.1],e.2)
def PD (hB:Bw ws w):Bw ws (pTr ws w):=λp c u h hc=>by
 unfold pTr at h;cases hv:pRw ws w (ws.length+1) p c with
 |none=>rw[hv] at h;cases h
 |some v=>
  rw[hv] at h
  replace h:(pEd ws w (v.2.1+1) v.2.2).map (λe=>(D.tup [.lst v.1,e.1],e.2))=U u:=h
  have h1:=xt hB _ _ _ _ hv hc;cases he:pEd ws w (v.2.1+1) v.2.2 with
  |none=>rw[he] at h;cases h
  |some e=>
   rw[he] at h;have h2:=WO hB _ _ _ he .(b);cases h;exact#[by show p<e.2.1;lia,h2.2]
def pWi (ws:Z af) (w:J->J->Pz) (p c:J):Pz:=if hdW ws p="[" then (match pTr ws w (p+1) c with
 |none=>B
 |some t=>if hdW ws t.2.1="]" then U (t.1,t.2.1+1,t.2.2) else B) else B
def NS (hB:Bw ws w):Bw ws (pWi ws w):=λp c u h hc=>by
 unfold pWi at h;split at h
 .cases ht:pTr ws w (p+1) c with
  |none=>rw[ht] at h;cases h
  |some t=>
   rw[ht] at h
   replace h:(if hdW ws t.2.1="]" then U (t.1,t.2.1+1,t.2.2) else B)=U u:=h
   have h1:=PD hB _ _ _ ht .(b);split at h
   .rename_i h2;have:=iX (ws:=ws) (p:=t.2.1) (by rw[h2];nofun);cases h;exact#[by show p<t.2.1+1;lia,by show t.2.1+1<=_;lia,by show t.2.2<=t.2.1+1;lia]
   .cases h
 .cases h
def pWn (ws:Z af):J->J->J->Pz
 |0=>λ_ _=>B
 |n+1=>pWi ws (pWn ws n)
theorem sG:∀n,Bw ws (pWn ws n)
 |0=>λ_ _ _ h=>by cases h
 |n+1=>NS (sG n)
end
structure OkW (ws:Z af):Prop where
 wk:WWk ws
 len:ws.length<=900
 ns:∀p,(pNs ws p).length<=300
def HW (ws:Z af) (W:FW') (w:J->J->Pz) (q:ar) (d:D) (p0:J):Prop:=
 ∀p c,p0<=p->p<=ws.length->c<=p->W q [d] (st ws p c)=U ((w p c).map λu=>(u.1,st ws u.2.1 u.2.2))
section
variable {w:J->J->Pz}
def Yc (ok:OkW ws) (hB:Bw ws w) (hW:HW ws W w q d p0) (h0:p0<=p) (h1:p<=ws.length) (hc:c<=p):nE W q [d] (st ws p c)=U ((pPt ws w p c).map λu=>(u.1,st ws u.2.1 u.2.2)):=
 RM ok.wk (by have:=ok.len;lia) λz hz hs=>by have b:=ni hz;have l:=jS hs (by nofun);exact hW _ _ .(b) .(b) .(b)
def Up (ok:OkW ws) (hB:Bw ws w) (hW:HW ws W w q d p0) (h0:p0<=p) (h1:p<=ws.length) (hc:c<=p):mm W q [d] (st ws p c)=U ((pEd ws w p c).map λu=>(u.1,st ws u.2.1 u.2.2)):=
 T' ok.wk ok.len (ok.ns _) (by have:=ok.len;lia) (λz hz=>by
  have b:=ni hz;exact hW _ _ .(b) b.2 .(b)) λz u hz hu=>by
  have b:=ni hz;have b2:=hB _ _ _ hu .(b);exact hW _ _ .(b) b2.2.1 b2.2.2
abbrev X4:FRt Fs:=rM (r2 neD (fA "ahead_of_all" tV 0 ay) (rP (vC (.str ";")))) blD
def gR {a b:af} :neD (.str a) (.str b)=U (.bl (!decide (a=b))):=rfl
theorem Eg (ok:OkW ws) (hB:Bw ws w) (hW:HW ws W w q d p0):∀(n p c:J) (done:Z D) (m:J),ws.length<p+n->n<=m->c<=p->done.length<=p->p0<=p->p<=ws.length->
  whR X4 (iK 2 (ck (nE W) 0 (aV (rP (vSh 1)) (rP ay)))) m [U (.pin q),oS d,U (.own done)] (st ws p c)=U ((pRw ws w n p c).map λv=>(.nx,[U (.pin q),oS d,U (.own (done++v.1))],st ws v.2.1 v.2.2))
 |0,p,c,done,m,h,_,_,_,_,hp=>by lia
 |n+1,p,c,done,0,_,h,_,_,_,_=>by lia
 |n+1,p,c,done,m+1,h,hm,hc,hd,h0,hp=>by
  have hp':=Yc ok hB hW h0 hp hc;unfold pRw;rw[zN];by_cases z:hdW ws p=";"
  .simp[z,gR]
  .cases hu:pPt ws w p c with
   |none=>simp[z,gR,hp',hu]
   |some u=>
    have b:=BX hB _ _ _ hu hc;have k:=Eg ok hB hW n u.2.1 u.2.2 (done++[u.1]) m .(b) .(b) b.2.2 (by rw[qk,qY];lia) .(b) b.2.1;simp[z,gR,hp',hu,show done.length<aH by have:=ok.len;unfold aH;lia];rw[k];simp[ZR]
end
section
variable {w:J->J->Pz} {d:J}
def KZ (ok:OkW ws) (hB:Bw ws w) (hd:d<=40) (hW:HW ws W w q (.int d) p) (h1:p<=ws.length) (hc:c<=p):oU W q [.int d] (st ws p c)=U ((pTr ws w p c).map λu=>(u.1,st ws u.2.1 u.2.2)):=by
 have t:gtD (.int (d:J)) (.int 40)=U (.bl ao):=by show U (D.bl (decide ((40:aj)<(d:J))))=_;rw[qQ .(b)]
 have lp:=Eg ok hB hW (ws.length+1) p c [] 100000 .(b) (by have:=ok.len;lia) hc (eA _) (qx _) h1;unfold pTr;cases hv:pRw ws w (ws.length+1) p c with
 |none=>
  rw[hv] at lp;simp[oU,vc,t,XU lp]
 |some v=>
  rw[hv] at lp;have b:=xt hB _ _ _ _ hv hc;have e:=Up ok hB hW (p:=v.2.1+1) (c:=v.2.2) .(b) .(b) .(b);cases he:pEd ws w (v.2.1+1) v.2.2<;>simp[oU,vc,t,FH lp,e,he]
def RD (ok:OkW ws) (hB:Bw ws w) (hd:d+1<=40) (hW:hdW ws p="["->HW ws W w q (.int ((d+1:J))) (p+1)) (hc:c<=p):sU W q [.int d] (st ws p c)=U ((pWi ws w p c).map λu=>(u.1,st ws u.2.1 u.2.2)):=by
 have j:=js ["["] (by nofun) ok.wk;have k:=js ["]"] (by nofun) ok.wk;simp only[qp,qR] at j k;unfold pWi;by_cases z:hdW ws p="["
 .have l:=iX (by rw[z];nofun);have nx:oU W q [.int ((d:aj)+1)] _=_:=KZ ok hB hd (hW z) (c:=c) .(b) .(b);cases ht:pTr ws w (p+1) c<;>simp[sU,xd,j,k,z,nx,ht]
 .simp[sU,xd,j,z]
end
noncomputable def nBr (ws:Z af) (p:J):J:=(ws.drop p).countP λx:af=>decide (x="[")
def AX {p':J} (h:p<=p'):nBr ws p'<=nBr ws p:=Z6 (Z7 _ h)
def GU (h:hdW ws p="["):nBr ws (p+1)<nBr ws p:=by
 unfold hdW at h;unfold nBr;cases e:ws.drop p with
 |nil=>rw[e] at h;exact ba h (by nofun)
 |cons x l=>
  rw[e] at h
  replace h:x="[":=h
  rw[dp e,List.countP_cons,h];simp
theorem Gn {ws:Z af} {q:ar} (ok:OkW ws):∀(n d p c:J),nBr ws p<n->d+n<=40->p<=ws.length->c<=p->vL n q [.int d] (st ws p c)=U ((pWn ws n p c).map λu=>(u.1,st ws u.2.1 u.2.2))
 |n+1,d,p,c,hn,hd,hp,hc=>RD ok (sG n) .(b) (λz p' c' h1 h2 h3=>Gn ok n (d+1) p' c' (by have:=GU z;have:=AX (ws:=ws) h1;lia) .(b) h2 h3) hc
def Vx (ok:OkW ws) (hb:nBr ws 0<30):Bj q [.int 1] (st ws 0 0)=U ((pTr ws (pWn ws 30) 0 0).map λu=>(u.1,st ws u.2.1 u.2.2)):=
 KZ (d:=1) ok (sG 30) .(b) (λp c h1 h2 h3=>Gn ok 30 1 p c (by have:=AX (ws:=ws) h1;lia) .(b) h2 h3) (eA _) (qx _)
def pRd (ws:Z af):ak D:=match pTr ws (pWn ws 30) 0 0 with
 |none=>B
 |some t=>if t.2.1=ws.length then U t.1 else B
def F8 (hx:x.length<=1000000) (hs:fZ x " "=ws) (ok:OkW ws) (hb:nBr ws 0<30):gU [.str x]=U (pRd ws):=by
 have sp:jD (.str x) [.str " "]=U (.lst (ws.map D.str)):=by have:jD (.str x) [.str " "]=U (.lst ((fZ x " ").map D.str)):=qZ #[by decide,hx];rw[this,hs]
 have nx:∀q,Bj q [.int 1] (st ws 0 0)=_:=λq=>Vx ok hb;have be:∀q p c,yM q [] (st ws p c)=U (U (.bl (decide (p=ws.length)),st ws p c)):=λq p c=>by
  have:eqD (.int (p:J)) (.int (ws.length:J))=U (.bl (decide (p=ws.length))):=by show U (D.bl (decide ((p:aj)=(ws.length:aj))))=_;rw[uR.mpr Z8]
  simp[yM,yV,this]
 have ia:e7 [.str x,.ty "str"]=U (.bl ah):=rfl;have it:HJ [.lst (ws.map D.str)]=U (st ws 0 0):=rfl;unfold pRd;cases ht:pTr ws (pWn ws 30) 0 0 with
 |none=>
  simp[gU,tK,ny,pO,pP,ia,u0,sK,mF,sp,it];rw[JF λq=>?_]<;>simp[bI,dN,qB,nx,ht]
 |some t=>
  by_cases z:t.2.1=ws.length
  .simp[gU,tK,ny,pO,pP,ia,u0,sK,mF,sp,it,z];rw[Jv (fl:=.rt t.1) (KK:=[oS (.str x),B,oS t.1]) (r':=st ws t.2.1 t.2.2) λq=>?_]<;>simp[bI,dN,qB,qIf,eh,eO,nx,ht,be,z]
  .simp[gU,tK,ny,pO,pP,ia,u0,sK,mF,sp,it,z];rw[JF λq=>?_]<;>simp[bI,dN,qB,qIf,nT,nx,ht,be,z]
noncomputable def flD (g:FS):bj->ak D:=λY=>(g Y).bind λr=>match r.1 with
 |.rt d=>U d
 |.nx=>U .non
 |_=>B
noncomputable def orB (x y:ak D):ak D:=x.bind λd=>match d with
 |.bl ah=>U (.bl ah)
 |.bl ao=>y
 |_=>B
noncomputable def J2 (x y:ak D):ak D:=x.bind λd=>match d with
 |.bl ah=>y
 |.bl ao=>U (.bl ao)
 |_=>B
noncomputable def pSd:D->ak (ak aj)
 |.int i=>U (U i)
 |_=>B
section
variable {h:FE} {fa:FA} {g' g'' A:FS} {gt:FT} {b:aR} {x y:ak D}
@[simp]def zDS:aN n g ds=flD g (ds.map (fun d=>U (Slot.sh d))++bB n B):=rfl
@[simp]def zDQ:flD (bu (c6 j f) g) Y=(f Y).bind λd=>flD g (Y.set j (oS d)):=by unfold flD bu c6;cases f Y<;>rfl
@[simp]def zDT:flD (bu (cP f) g) Y=f Y:=by unfold flD bu cP;cases f Y<;>rfl
@[simp]def zCW:flD (cP f) Y=f Y:=by unfold flD cP;cases f Y<;>rfl
@[simp]def zDU:flD (bu dQ g) Y=flD g Y:=rfl
@[simp]def zEQ:flD (bu (sIf ft A ae) g) Y=(ft Y).bind λb=>if b=ah then flD (bu A g) Y else flD (bu ae g) Y:=by
 unfold flD bu sIf;cases ft Y with
 |none=>rfl
 |some b=>cases b<;>rfl
@[simp]def zDR:flD (bu (bu g g') g'') Y=flD (bu g (bu g' g'')) Y:=by
 unfold flD bu;cases g Y with
 |none=>rfl
 |some z=>obtain⟨fl,z⟩:=z;cases fl<;>rfl
def Bp (h:g Y=U (.nx,ρ1)):flD (bu g g') Y=flD g' ρ1:=by unfold flD bu;rw[h];rfl
@[simp]def zDJ:gB ft gt Y=(ft Y).bind λb=>if b=ah then gt Y else U ao:=rfl
@[simp]def zDE:orD f h Y=orB (f Y) (h Y):=rfl
@[simp]def zCN:fQ f h Y=J2 (f Y) (h Y):=rfl
@[simp]def zCX:orB (U (.bl b)) y=if b=ah then U (.bl ah) else y:=by cases b<;>rfl
@[simp]def zCv:J2 (U (.bl b)) y=if b=ah then y else U (.bl ao):=by cases b<;>rfl
@[simp]def zEF {a c:bj->ak (ak aj)} :slF f a c Y=(f Y).bind λd=>(a Y).bind λl=>(c Y).bind λh=>lb l h d:=rfl
@[simp]def WH:c6 j f Y=(f Y).map λd=>(.nx,Y.set j (oS d)):=rfl
@[simp]def zEH:pN Y=U B:=rfl
@[simp]def zEG:pS f Y=(f Y).bind pSd:=rfl
@[simp]def zDD {i:aj} :pSd (.int i)=U (U i):=rfl
end
def R6 (x:af):gZ x B (U 1)="-"↔x.cps.toList.head?=U 45:=by
 unfold gZ et;rw[show(U (1:aj))=U ((1:J):aj) from (),HT.sIx_nat,HT.sIx_none,show("-":af)=⟨#[45]⟩ by nofun];cases x.cps.toList with
 |nil=>simp
 |cons c r=>simp
def S6 (x:af):ly x "-"=ah↔x.cps.toList.head?=U 45:=by
 rw[show("-":af)=⟨#[45]⟩ by nofun];unfold ly;rw[eM,decide_eq_true_iff];show(0+1<=x.cps.size/\(x.cps.extract 0 (0+1)==#[45])=ah)↔_;rw[i6,<-hG];constructor
 .rintro⟨h1,h2⟩;have h3:=cQ Mc h2;rw[MY] at h3;cases e:x.cps.toList with
  |nil=>rw[e] at h1;simp at h1
  |cons c r=>rw[e] at h3;simp[Z9] at h3;simp[h3]
 .intro h;cases e:x.cps.toList with
  |nil=>rw[e] at h;cases h
  |cons c r=>
   rw[e] at h;refine#[by simp,?_];apply DL.mp;rw[MY,e];simp only[xaa,Nw] at h;simp[Z9,h]
def P4 (h:x.cps.toList.head?=U 45):x="-0"↔tlW x="0":=by
 rw[show("-0":af)=⟨[45,48].toArray⟩ by nofun,show("0":af)=⟨#[48]⟩ by nofun];have hs:∀(y:af) (l:Z J),y=⟨l.toArray⟩↔y.cps.toList=l:=λy l=>#[λe=>by rw[e],λe=>by cases y;simp only[Str.mk.injEq];apply DL.mp;simpa using e];have h1:=hs x [45,48];have h2:=hs (tlW x) [48];rw[vW] at h2;refine h1.trans (Iff.trans ?_ h2.symm);cases e:x.cps.toList with
 |nil=>rw[e] at h;cases h
 |cons c r=>
  rw[e] at h;simp only[xaa,Nw] at h;simp[h]
def jO (k x:af):aR:=if k="n" then aG x else if k="m" then b5 7 x else if k="w" then decide (x="less") || decide (x="more") else stB x
def QG {k:af} (w:Wk x):ng [.str k,.str x]=U (.bl (jO k x)):=by
 have hz:∀l h,lb l h (.str x)=U (.str (gZ x l h)):=λl h=>qZ (by have:=w.len;unfold aH;lia);have l7:tR [.str x,.int 7]=U (.bl (b5 7 x)):=zO w;have l40:tR [.str x,.int 40]=U (.bl (b5 40 x)):=zO w;have t40:tR [.str (tlW x),.int 40]=U (.bl (b5 40 (tlW x))):=zO (Ee w);unfold jO stB;have e:=R6 x;have e2:=S6 x;by_cases z:x.cps.toList.head?=U 45
 .have e3:=P4 z;cases h1:b5 40 (tlW x)<;>simp[ng,vg,h1,hz,l7,l40,t40,Cq w,show gZ x (U 1) B=tlW x from (),e,e2,z,e3,gR]<;>(repeat' split)<;>simp_all
 .simp[ng,vg,hz,l7,l40,Cq w,e,e2,z]<;>(repeat' split)<;>simp_all
theorem KQ:∀(bs:Z aR),ff (bs.map D.bl)=U (bs.map ND)
 |[]=>by simp[ff]
 |b::r=>by simp[ff,pdD,KQ r]
theorem Iv:∀(bs:Z aR),gz (bs.map ND)=ah
 |[]=>by simp[gz]
 |b::r=>by simp[gz,fu,Iv r]
theorem JJ:∀(bs:Z aR),(bs.map ND).any (λz=>eU z (.bool ao))=!bs.all id
 |[]=>rfl
 |b::r=>by rw[qp,rL,JJ r,DM];cases b<;>simp[eU]
def Rs (bs:Z aR):tP (.bl ao) (.lst (bs.map D.bl))=U (.bl (!bs.all id)):=by
 have sh:eE (.bool ao)=ah:=by simp[eE,fu,iD]
 simp only[tP,inX,pdD,KQ,qd,qa,sh,Iv,ye,dc,JJ]
def vy (h:b5 7 x=ah):Ai [.str x]=U (.int (bY x.cps.toList:J)):=by
 obtain⟨h1,h2⟩:=oH.mp h;have h2:=km h2;obtain⟨m,e,hm⟩:=vx h1;have v:bY x.cps.toList=m:=by rw[e];have:=uc m;unfold bY;exact this
 have b:m<10 ^ 7:=qI hm (Di .(a) h2);rw[v];show(if x.length<=640 then (DD x).map D.int else B)=_;rw[qZ .(b),e,show DD (cY m)=U ((m:J):aj) from xbf .(b) .(b)];rfl
def T0 (k:af):jO k ""=ao:=by
 unfold jO;rw[nm0,nu0,st0];have:(decide (("":af)="less") || decide (("":af)="more"))=ao:=by nofun
 rw[this];simp
def eY (ws:Z af):Z af->J->aR
 |[],_=>ah
 |k::ks,p=>jO k (hdW ws p) && eY ws ks (p+1)
theorem LK (ws:Z af):∀(ks:Z af) (p:J),eY ws ks p=(decide (ks.length<=((ws.drop p).take ks.length).length) && (ks.zip ((ws.drop p).take ks.length)).all λz=>jO z.1 z.2)
 |[],p=>by simp[eY]
 |k::ks,p=>by
  unfold eY;rw[LK ws ks (p+1)];unfold hdW;cases e:ws.drop p with
  |nil=>
   rw[show([]:Z af).headD ""="" from (),T0];simp
  |cons x r=>
   rw[dp e];simp only[List.headD_cons,qh,List.take_succ_cons,List.zip_cons_cons,DM,Nat.add_le_add_iff_right];cases jO k x<;>simp
noncomputable def kds (f:af):Z af:=f.cps.toList.map λc=>(⟨#[c]⟩:af)
def Ig (f:af):(kds f).length=f.length:=by unfold kds;rw[qe,iM]
def V1 {f:af} {ss:Z af} (h:f.cps.all (· < 128)=ah):AZ (.str f) (.lst (ss.map D.str))=U (((kds f).zip ss).map λz=>D.tup [.str z.1,.str z.2]):=by
 show (if _ then _ else _)=_;rw[qZ h]
 congr 1
 have key:∀(cs:Z J) (ss:Z af),((cs.map λc=>D.str ⟨#[c]⟩).zip (ss.map D.str)).map (λz=>D.tup [z.1,z.2])=((cs.map λc=>(⟨#[c]⟩:af)).zip ss).map λz=>D.tup [.str z.1,.str z.2]:=λcs=>by
  induction cs with
  |nil=>intro ss;rfl
  |cons c cs ih=>
   intro ss;cases ss with
   |nil=>rfl
   |cons s ss=>simp[ih ss]
 exact key _ _
theorem Gi:∀(zs:Z (af×af)) (a b:ak Slot),(∀z∈zs,Wk z.2)->fP (kH 2 (gW (bp 0) (gW (bp 1) kC))) tT (cF ng (av (vSh 0) (av (vSh 1) ay))) (zs.map λz=>D.tup [.str z.1,.str z.2]) [a,b]=U ((zs.map λz=>jO z.1 z.2).map D.bl)
 |[],_,_,_=>rfl
 |z::zs,a,b,h=>by have e:cF ng (av (vSh 0) (av (vSh 1) ay)) [oS (.str z.1),oS (.str z.2)]=U (.bl (jO z.1 z.2)):=cE (bL () (bL () ci)) (QG (h z qf));have ih:=Gi zs (oS (.str z.1)) (oS (.str z.2)) λy hy=>h y (qg _ hy);show(NE (U [U (Slot.sh (.str z.1)),oS (.str z.2)]) _)=_;rw[qa];show(NE (U ah) _)=_;rw[qa];rw[e,qa,ih];rfl
def dkF (fs:Z (af×af)):D:=.dk (fs.map λz=>((cC z.1:Key),D.str z.2))
def An (fs:Z (af×af)) (x:af):pT (dkF fs) (.str x)=U ((fs.find? λz=>decide (z.1=x)).map λz=>.str z.2):=by
 show U (lH _ (cC x:Key))=_
 congr 1
 unfold lH
 induction fs with
 |nil=>rfl
 |cons z r ih=>
  rw[qp,lr,lr];by_cases e:z.1=x
  .rw[qV e,show decide ((cC z.1:Key)=cC x)=ah from qV (by rw[e])];rfl
  .rw[qQ e,show decide ((cC z.1:Key)=cC x)=ao from qQ (λh=>e (my h))];exact ih
def DN (l:Z α) (a n:J):et l (U ((a:J):aj)) (U ((a+n:J):aj))=(l.drop a).take n:=by
 unfold et;rw[HT.sIx_nat,HT.sIx_nat];rcases Nq a l.length with h|h
 .rw[uG h];rcases Nq (a+n) l.length with h2|h2
  .rw[uG h2,show a+n-a=n by lia]
  .rw[DC h2,oz (by rw[ee];lia),oz (by rw[ee];lia)]
 .rw[DC h,sj (qx _),sj h,xab,xab]
def JN (h:p<ws.length):ws[p]?=U (hdW ws p):=by unfold hdW;rw[uL h,mO h];rfl
def eR (h:p<ws.length):ixD (.lst (ws.map D.str)) (.int ((p:J):aj))=U (.str (hdW ws p)):=by rw[ixL,ql,JN h];rfl
def SV {a:J} (h:i<n) (h2:i<((ws.drop a).take n).length):((ws.drop a).take n)[i]?=U (hdW ws (a+i)):=by rw[qH,ee] at h2;rw[uy h,uH,JN .(b)]
def lP (ws:Z af) (fs:Z (af×af)) (p:J):ak J:=match fs.find? λz=>decide (z.1=hdW ws p) with
 |none=>B
 |some z=>if eY ws (kds z.2) (p+1)=ah/\(hdW ws p="together"->bY (hdW ws (p+2)).cps.toList<bY (hdW ws (p+3)).cps.toList) then U (p+1+z.2.length) else B
noncomputable def oN:ak J->D
 |none=>.non
 |some n=>.int (n:J)
@[simp]def isn :isD d .non=U (.bl (dX d)):=rfl
@[simp]def zEV :pR d .non=U (.bl (!dX d)):=rfl
@[simp]def zES {xs:Z α} {f:α->D} :cu [.lst (xs.map f)]=U (.int (xs.length:J)):=by rw[Vi,qe]
@[simp]def zER:oN B=.non:=rfl
@[simp]def Rx :oN (U n)=.int n:=rfl
def tZ {fs:Z (af×af)} (hw:WWk ws) (hf:∀z∈fs,z.2.cps.all (· < 128)=ah/\z.2.length<=10/\z.1≠""/\(z.1="together"->z.2="nmm")):iF [.lst (ws.map D.str),.int ((p:J):aj),dkF fs]=U (oN (lP ws fs p)):=by
 unfold lP;by_cases h0:ws.length<=p
 .have hn:fs.find? (λz=>decide (z.1=hdW ws p))=B:=by rw[M1];intro z hz;rw[show hdW ws p="" by unfold hdW;rw[sj h0];rfl];simpa using(hf z hz).2.2.1
  simp[iF,lJ,h0,hn]
 .have ix:=eR (p:=p) (ws:=ws) .(b);cases hz:fs.find? λz=>decide (z.1=hdW ws p) with
  |none=>simp[iF,lJ,h0,ix,wE,An,hz]
  |some z=>
   have hze:z.1=hdW ws p:=by have:=Za hz;simpa using this
   obtain⟨f1,f2,f3,f4⟩:=hf z (Y' hz);have gt:BI (dkF fs) (.str (hdW ws p))=U (.str z.2):=by unfold BI;rw[An,hz];rfl
   have dn:wE (.str (hdW ws p)) (dkF fs)=U (.bl ao):=by unfold wE;rw[An,hz];rfl
   have fe:=LK ws (kds z.2) (p+1);have sl:lb (U ((p:aj)+1)) (U ((p:aj)+1+(z.2.length:J))) (.lst (ws.map D.str))=U (.lst (((ws.drop (p+1)).take z.2.length).map D.str)):=by show U (D.lst (et (ws.map D.str) (U ((p+1:J):aj)) (U ((p+1+z.2.length:J):aj))))=_;rw[DN,<-uP,<-DJ]
   rw[Ig] at fe;have i1:∀{i:J},i<3->z.2.length=3->p+3<ws.length->ixD (.lst (((ws.drop (p+1)).take z.2.length).map D.str)) (.int ((i:J):aj))=U (.str (hdW ws (p+1+i))):=λ{i} hi h3 hl=>by rw[ixL,ql,SV .(b) (by rw[qH,ee];lia)];rfl
   have hs:∀x∈(ws.drop (p+1)).take z.2.length,Wk x:=λx hx=>hw x (oB (uI hx));generalize (ws.drop (p+1)).take z.2.length=S at sl fe hs i1;obtain⟨bs,hb⟩:∃bs,bs=((kds z.2).zip S).map λy=>jO y.1 y.2:=#[_,()];have cp:cG (yu (vSh 3) (vSh 4)) (kH 2 (gW (bp 0) (gW (bp 1) kC))) tT (cF ng (av (vSh 0) (av (vSh 1) ay))) [B,B] [oS (.lst (ws.map D.str)),oS (.int ((p:J):aj)),oS (dkF fs),oS (.str z.2),oS (.lst (S.map D.str))]=U (bs.map D.bl):=by unfold cG;rw[show yu (vSh 3) (vSh 4) [oS (.lst (ws.map D.str)),oS (.int ((p:J):aj)),oS (dkF fs),oS (.str z.2),oS (.lst (S.map D.str))]=U (((kds z.2).zip S).map λy=>D.tup [.str y.1,.str y.2]) from V1 f1,qa,qZ (by rw[qe,Np,Ig];unfold aH;lia),hb];exact Gi _ _ _ λy hy=>hs _ (CZ hy).2
   replace fe:eY ws (kds z.2) (p+1)=(!decide (S.length<z.2.length) && bs.all id):=by rw[fe,hb,ZZ,show decide (z.2.length<=S.length)=!decide (S.length<z.2.length) by by_cases h:S.length<z.2.length<;>simp[h]<;>lia];rfl
   have ib:=Rs bs;have ln:=yP (show z.2.length<=200 by lia);simp[iF,lJ,h0,ix,dn,gt,ln,sl,cp,ib];cases hF:eY ws (kds z.2) (p+1) with
   |false=>
    rw[hF] at fe;by_cases h2:S.length<z.2.length
    .simp[h2]
    .have h1:bs.all id=ao:=by simpa[h2] using fe.symm
     simp[h2,h1]
   |true=>
    obtain⟨h2,h1⟩:¬S.length<z.2.length/\bs.all id=ah:=by simpa using fe.symm.trans hF
    by_cases y:hdW ws p="together"
    .have e:=f4 (hze.trans y);have hm:=hF;rw[e,show kds "nmm"=(["n","m","m"]:Z af) by nofun] at hm;simp only[eY,eM,mV] at hm;have m1:b5 7 (hdW ws (p+2))=ah:=hm.2.1;have m2:b5 7 (hdW ws (p+3))=ah:=hm.2.2;have z3:z.2.length=3:=by rw[e];nofun
     have l3:p+3<ws.length:=nv m2;have a1:ixD (.lst (S.map D.str)) (.int 1)=U (.str (hdW ws (p+2))):=i1 (i:=1) .(b) z3 l3;have a2:ixD (.lst (S.map D.str)) (.int 2)=U (.str (hdW ws (p+3))):=i1 (i:=2) .(b) z3 l3;rw[y] at ix dn gt;by_cases v:bY (hdW ws (p+2)).cps.toList<bY (hdW ws (p+3)).cps.toList<;>simp[h2,h1,y,a1,a2,vy m1,vy m2,v,lC.mpr,uD.mp]
    .simp[h2,h1,y]
noncomputable def nbr (x:af):aR:=!decide (x="]")
def lNs (ws:Z af) (p:J):Z af:=(ws.drop p).takeWhile nbr
section
variable {u:aR}
theorem Hy {D0:D}:∀(ns l:Z af) (k n:J),ws.drop k=ns++l->(∀x∈ns,nbr x=ah)->(∀x r,l=x::r->x="]")->ns.length<n->
  whL (gB (toB (b2 ltD (vSh 3) (cF cu (av (vSh 0) ay)))) (toB (b2 neD (b2 ixD (vSh 0) (vSh 3)) (vC (.str "]"))))) (c6 3 (b2 bZ (vSh 3) (vC (.int 1)))) n [oS (.lst (ws.map D.str)),oS D0,oS (.bl u),oS (.int ((k:J):aj)),B]
   = U (.nx,[oS (.lst (ws.map D.str)),oS D0,oS (.bl u),oS (.int ((k+ns.length:J):aj)),B])
 |ns,l,k,0,_,_,_,h=>by lia
 |ns,l,k,n+1,h,hn,hl,hf=>by
  rw[whL];have hk:∀x r,ws.drop k=x::r->k<ws.length/\hdW ws k=x:=λx r h=>#[(by rcases gy k ws.length with z|z;exact z;rw[sj z] at h;cases h),by unfold hdW;rw[h];rfl];cases ns with
  |nil=>
   cases l with
   |nil=>simp[show ¬k<ws.length by intro z;have:=cQ fX h;simp at this;lia]
   |cons x r=>simp[hk x r h,eR (hk x r h).1,hl x r (),gR]
  |cons x ns=>
   have z:=hn x qf;simp[nbr] at z;have e:=Hy (D0:=D0) ns l (k+1) n (dp h) (λy hy=>hn y (qg _ hy)) hl (by rw[qh] at hf;lia);simp[hk x _ h,eR (hk x _ h).1,z,gR];simpa[oA,xQ 1,Int.add_assoc,Int.add_comm 1] using e
def oY (ws:Z af) (p:J):ws.drop p=lNs ws p++(ws.drop p).dropWhile nbr:=(Z4).symm
theorem yT:∀(l:Z af) (x:af) (r:Z af),l.dropWhile nbr=x::r->x="]"
 |y::l,x,r,h=>by
  rw[Z3] at h;by_cases z:nbr y=ah
  .rw[qZ z] at h;exact yT l x r h
  .rw[xa z] at h;cases h;simpa[nbr] using z
def Ku:aG "]"=ao:=by nofun
def Br (h:∀x∈lNs ws p,aG x=ah):pNs ws p=lNs ws p:=by
 have hc:=oY ws p;unfold pNs;rw[hc,NF h];cases e:(ws.drop p).dropWhile nbr with
 |nil=>simp
 |cons x r=>rw[yT _ x r e,NG,xa (by rw[Ku];exact qu),dZ]
def Uc:(lNs ws p).length<=ws.length:=by have:=cQ fX (oY ws p);rw[qk,ee] at this;lia
def lN (ws:Z af) (p:J) (u:aR):ak J:=if lNs ws p=[]\/¬(∀x∈lNs ws p,aG x=ah)\/(u=ah/\¬(lNs ws p).Nodup) then B else U (p+(lNs ws p).length)
theorem LC:∀(xs:Z af) (a:ak Slot),(∀x∈xs,Wk x)->fP (bp 0) (cL (toB (cF wu (av (vSh 0) ay)))) (vSh 0) (xs.map D.str) [a]=U ((xs.filter λx=>!aG x).map D.str)
 |[],_,_=>rfl
 |x::xs,a,h=>by have ih:=LC xs (oS (.str x)) λy hy=>h y (qg _ hy);cases hx:aG x<;>simp[fP,bp,Cq (h x qf),hx]<;>simpa[bp] using ih
def Hs (ok:OkW ws) (hp:p<=ws.length):tq [.lst (ws.map D.str),.int ((p:J):aj),.bl u]=U (oN (lN ws p u)):=by
 have hlen:=Uc (ws:=ws) (p:=p);have lp:=Hy (D0:=.int ((p:J):aj)) (u:=u) (lNs ws p) _ p 2000 (oY ws p) (λx hx=>ie.mp (Z5) x hx) (λx r e=>yT _ x r e) (by have:=ok.len;lia);have hs:∀x∈lNs ws p,Wk x:=λx hx=>ok.wk x (oB (by rw[oY ws p];exact xE _ hx));have sl:lb (U (p:aj)) (U ((p:aj)+(lNs ws p).length)) (.lst (ws.map D.str))=U (.lst ((lNs ws p).map D.str)):=by
  show U (D.lst (et (ws.map D.str) (U ((p:J):aj)) (U ((p+(lNs ws p).length:J):aj))))=_;rw[DN,<-uP,<-DJ]
  congr 3
  conv=>lhs;rw[oY ws p]
  exact Nz
 have e1:=FU λx hx=>v7 (hs x hx);have e2:=JP (ss:=(lNs ws p).filter λx=>!aG x) λx hx=>v7 (hs x (CD.mp hx).1);have e3:cG (itF (vSh 4)) (bp 0) (cL (toB (cF wu (av (vSh 0) ay)))) (vSh 0) [B] [oS (.lst (ws.map D.str)),oS (.int ((p:J):aj)),oS (.bl u),oS (.int ((p+(lNs ws p).length:J):aj)),oS (.lst ((lNs ws p).map D.str))]=U (((lNs ws p).filter λx=>!aG x).map D.str):=by show NE (U ((lNs ws p).map D.str)) _=_;rw[qa,qZ (by rw[qe];have:=ok.len;unfold aH;lia)];exact LC _ _ hs
 have f0:((lNs ws p).filter λx=>!aG x).isEmpty=(lNs ws p).all aG:=by rw[uq,ZY,List.filter_eq_nil_iff,ie];simp
 have ls:(∀x∈lNs ws p,aG x=ah)->(lX (.lst ((lNs ws p).map D.str))).bind (λx=>ltD x (.int (lNs ws p).length))=U (.bl (!decide (lNs ws p).Nodup)):=λz=>by
  have h3:(lNs ws p).length<=300:=by rw[<-Br z];exact ok.ns p
  have b:=(jU ((lNs ws p).map (cC:af->Key)) [] Nb).1;have hd:((lNs ws p).map (cC:af->Key)).Nodup↔(lNs ws p).Nodup:=#[λh=>(rS.mp h).imp λz e=>z (cQ _ e),λh=>rY _ (λa b hab z=>hab (my z)) h];have i:=Ln ((lNs ws p).map (cC:af->Key));rw[hd,qe] at i;have b':(ST.dd ((lNs ws p).map (cC:af->Key))).length<=(lNs ws p).length:=by simpa[ST.dd] using b
  simp only[lX,qe,qZ h3,px,qa,Ik,uR.mpr (show(ST.dd ((lNs ws p).map (cC:af->Key))).length<(lNs ws p).length↔¬(lNs ws p).Nodup by rw[<-i];lia),decide_not]
 simp only[Int.natCast_add] at lp e3;unfold lN;cases h1:(lNs ws p).isEmpty<;>cases h2:(lNs ws p).all aG<;>cases u<;>by_cases h4:(lNs ws p).Nodup<;>simp[tq,Bl,Bp lp,sl,e1,e2,e3,f0,h1,h2,h4]
 all_goals first|rw[ls (ie.mp h2)]|skip
 all_goals clear lp e3 e1 e2 sl hs ls f0
 all_goals simp_all
 all_goals rw[xa (by rintro⟨x,a,b⟩;rw[h2 x a] at b;cases b)];rfl
end
noncomputable def chF:Z (af×af):=[("start","nt"),("on","nn"),("order","nn"),("keep","n")]
def stF:Z (af×af):=[("stretch","mm")]
noncomputable def enF:Z (af×af):=[("window","n"),("together","nmm"),("stock","nmw"),("moved","")]
noncomputable def roF:Z (af×af):=[("low","nn"),("high","nn"),("fit","n")]
abbrev FOk (fs:Z (af×af)):Prop:=∀z∈fs,z.2.cps.all (· < 128)=ah/\z.2.length<=10/\z.1≠""/\(z.1="together"->z.2="nmm")
def wM:FOk chF:=by nofun
def LY:FOk stF:=by nofun
def Tk:FOk enF:=by nofun
def QY:FOk roF:=by nofun
@[simp]def zEZ :t8 ["start","on","order","keep"] (av (vC (.str "nt")) (av (vC (.str "nn")) (av (vC (.str "nn")) (av (vC (.str "n")) ay)))) Y=U (dkF chF):=rfl
@[simp]def zEY :t8 ["window","together","stock","moved"] (av (vC (.str "n")) (av (vC (.str "nmm")) (av (vC (.str "nmw")) (av (vC (.str "")) ay)))) Y=U (dkF enF):=rfl
@[simp]def zEP :t8 ["low","high","fit"] (av (vC (.str "nn")) (av (vC (.str "nn")) (av (vC (.str "n")) ay))) Y=U (dkF roF):=rfl
@[simp]def zEC :K1 (vC (.str "stretch")) (vC (.str "mm")) Y=U (dkF stF):=rfl
def HL (ws:Z af) (W:FQ) (lw:J->ak J) (p0:J):Prop:=∀o:ak J,(∀p,o=U p->p0<=p)->W [.lst (ws.map D.str),oN o]=U (oN (o.bind lw))
def lE (ws:Z af) (lw:J->ak J) (p:J):ak J:=
 if ws.length<=p then B
 else if hdW ws p="both" then ((lP ws chF (p+1)).bind lw).bind lw
 else if hdW ws p="ring" then lN ws (p+1) ao
 else if hdW ws p="stretch" then (match lP ws stF p with
  |none=>B
  |some a=>if bY (hdW ws (p+1)).cps.toList<bY (hdW ws (p+2)).cps.toList then lN ws a ah else B)
 else lP ws enF p
def lG {fs:Z (af×af)} {a:J} (h:lP ws fs p=U a):p<a:=by
 unfold lP at h;split at h
 .cases h
 .split at h
  .cases h;lia
  .cases h
def xy {fs:Z (af×af)} (hw:WWk ws) (hf:FOk fs):iF [.lst (ws.map D.str),.int ((p:aj)+1),dkF fs]=U (oN (lP ws fs (p+1))):=tZ hw hf
def SD (h:p+1<ws.length):ixD (.lst (ws.map D.str)) (.int ((p:aj)+1))=U (.str (hdW ws (p+1))):=eR h
def QU (h:p+2<ws.length):ixD (.lst (ws.map D.str)) (.int ((p:aj)+2))=U (.str (hdW ws (p+2))):=eR h
def Xi {a:J} (y:hdW ws p="stretch") (h:lP ws stF p=U a):b5 7 (hdW ws (p+1))=ah/\b5 7 (hdW ws (p+2))=ah/\a=p+3:=by
 unfold lP at h;rw[show stF.find? (λz=>decide (z.1=hdW ws p))=U (("stretch":af),("mm":af)) by rw[y];nofun] at h
 replace h:(if eY ws (kds "mm") (p+1)=ah/\(hdW ws p="together"->bY (hdW ws (p+2)).cps.toList<bY (hdW ws (p+3)).cps.toList) then U (p+1+("mm":af).length) else B)=U a:=h
 split at h
 .rename_i hh;have hF:=hh.1;rw[show kds "mm"=(["m","m"]:Z af) by nofun] at hF;simp only[eY,eM,mV] at hF;exact#[hF.1,hF.2,by cases h;rw[show("mm":af).length=2 by nofun]]
 .cases h
def WC {W:FQ} (ok:OkW ws) (hW:HL ws W lw p0) (hg:∀a b,lw a=U b->a<b) (h0:p0<=p):kQ W [.lst (ws.map D.str),.int ((p:J):aj)]=U (oN (lE ws lw p)):=by
 unfold lE;by_cases h1:ws.length<=p
 .simp[kQ,l5,h1]
 .have ix:=eR (p:=p) (ws:=ws) .(b);simp[kQ,l5,h1,ix,xy ok.wk wM,tZ ok.wk LY,tZ ok.wk Tk,dX];by_cases y1:hdW ws p="both"
  .have c1:=hW (lP ws chF (p+1)) λa ha=>by have:=lG ha;lia
   have c2:=hW ((lP ws chF (p+1)).bind lw) λa ha=>by obtain⟨b,hb,hc⟩:=oBd ha;have:=lG hb;have:=hg _ _ hc;lia
   rw[qZ y1,qZ y1];simp[c1,c2]
  .rw[xa y1,xa y1];by_cases y2:hdW ws p="ring"
   .rw[qZ y2,qZ y2];exact Hs (p:=p+1) ok .(b)
   .rw[xa y2,xa y2];by_cases y3:hdW ws p="stretch"
    .rw[qZ y3,qZ y3];cases ha:lP ws stF p with
     |none=>simp
     |some a=>
      obtain⟨m1,m2,rfl⟩:=Xi y3 ha;have l2:=nv m2;have ln3:tq [.lst (ws.map D.str),.int ((p:aj)+3),.bl ah]=U (oN (lN ws (p+3) ah)):=Hs (p:=p+3) ok .(b);by_cases v:bY (hdW ws (p+1)).cps.toList<bY (hdW ws (p+2)).cps.toList<;>simp[ln3,SD (show p+1<ws.length by lia),QU l2,vy m1,vy m2,v,lC.mpr,uD.mp]
    .rw[xa y3,xa y3]
def Uf (w:Wk x) (ha:∀s∈as,f8 s=ah):uX (.str x) (.tup (as.map D.str))=U (.bl (!decide (x∈as))):=by
 have e1:pdD (.str x)=U (.str x):=by rw[pdD]
 have e2:pdD (.tup (as.map D.str))=U (.tuple (as.map kq)):=by rw[pdD,tX];rfl
 have e3:eE (.str x)=ah:=by unfold eE;rw[show fu (.str x)=ah by rw[fu];exact v7 w,qV (by simp[iD])];rfl
 have e:inT (.str x) (.tup (as.map D.str))=U (decide (x∈as)):=by unfold inT;rw[e1,qa,e2,qa];show (if _ then _ else _)=_;rw[qZ #[e3,xi ha],wA]
 unfold uX;rw[e];rfl
def lS (ws:Z af) (lw:J->ak J) (p:J):ak J:=
 if hdW ws p="not" then (match lP ws chF (p+1) with
  |none=>B
  |some a=>if hdW ws a∈(["0","1"]:Z af) then lw (a+1) else B)
 else lP ws roF p
def lR (ws:Z af) (lw:J->ak J):J->ak J->ak J
 |0,o=>o
 |_+1,B=>B
 |n+1,U p=>if p<ws.length/\hdW ws p≠";" then lR ws lw n (lS ws lw p) else U p
def lT (ws:Z af) (lw:J->ak J) (p:J):ak J:=match lR ws lw (ws.length+1) (U p) with
 |none=>B
 |some a=>lE ws lw (a+1)
def lWi (ws:Z af) (lw:J->ak J) (p:J):ak J:=if hdW ws p="[" then (match lT ws lw (p+1) with
 |none=>B
 |some a=>if hdW ws a="]" then U (a+1) else B) else B
def lWn (ws:Z af):J->J->ak J
 |0=>λ_=>B
 |n+1=>lWi ws (lWn ws n)
def Gr (lw:J->ak J):Prop:=∀a b,lw a=U b->a<b
section
variable {W:FQ}
def Iy (hg:Gr lw) {a:J} (h:lS ws lw p=U a):p<a:=by
 unfold lS at h;split at h
 .cases hb:lP ws chF (p+1) with
  |none=>rw[hb] at h;cases h
  |some b=>
   rw[hb] at h
   replace h:(if hdW ws b∈(["0","1"]:Z af) then lw (b+1) else B)=U a:=h
   have:=lG hb;split at h
   .have:=hg _ _ h;lia
   .cases h
 .exact lG h
abbrev lwT:FT:=gB (toB (b2 pR (vSh 1) (vC .non))) (gB (toB (b2 ltD (vSh 1) (cF cu (av (vSh 0) ay)))) (toB (b2 neD (b2 ixD (vSh 0) (vSh 1)) (vC (.str ";")))))
abbrev lwB (W:FQ):FS:=sIf (toB (b2 eqD (b2 ixD (vSh 0) (vSh 1)) (vC (.str "not")))) (bu (c6 1 (cF iF (av (vSh 0) (av (b2 bZ (vSh 1) (vC (.int 1))) (av (vSh 2) ay))))) (bu (sIf (gB (toB (b2 pR (vSh 1) (vC .non))) (orT (toB (b2 geD (vSh 1) (cF cu (av (vSh 0) ay)))) (toB (b2 uX (b2 ixD (vSh 0) (vSh 1)) (fE (szF (av (vC (.str "0")) (av (vC (.str "1")) ay)))))))) (c6 1 (vC .non)) dQ) (sIf (toB (b2 pR (vSh 1) (vC .non))) (c6 1 (cF W (av (vSh 0) (av (b2 bZ (vSh 1) (vC (.int 1))) ay)))) dQ))) (c6 1 (cF iF (av (vSh 0) (av (vSh 1) (av (t8 ["low","high","fit"] (av (vC (.str "nn")) (av (vC (.str "nn")) (av (vC (.str "n")) ay)))) ay)))))
def Sl (ok:OkW ws) (hW:HL ws W lw p0) (h0:p0<=p) (hp:p<ws.length) :
  lwB W [oS (.lst (ws.map D.str)),oS (.int ((p:J):aj)),oS (dkF chF)]=U (.nx,[oS (.lst (ws.map D.str)),oS (oN (lS ws lw p)),oS (dkF chF)]):=by
 unfold lS;by_cases y:hdW ws p="not"
 .cases ha:lP ws chF (p+1) with
  |none=>simp[lwB,bu,sIf,dQ,eR hp,iE y,xy ok.wk wM,ha,dX]
  |some a=>
   have gt:=lG ha;have c1:W [.lst (ws.map D.str),.int ((a:aj)+1)]=U (oN (lw (a+1))):=hW (U (a+1)) λq e=>by cases e;lia
   have nt:=Uf (as:=["0","1"]) (mf ok.wk a) (by nofun);simp only[qp,qR] at nt;by_cases z:ws.length<=a
   .have z2:¬(hdW ws a="0"\/hdW ws a="1"):=λh=>ba (jS (as:=["0","1"]) (by simpa using h) (by nofun)) .(b);simp[lwB,bu,sIf,dQ,eR hp,iE y,xy ok.wk wM,ha,dX,z,z2]
   .by_cases z2:hdW ws a="0"\/hdW ws a="1"<;>simp[lwB,bu,sIf,dQ,eR hp,iE y,xy ok.wk wM,ha,dX,z,z2,eR (show a<ws.length by lia),nt,c1]
 .simp[lwB,bu,sIf,eR hp,y,tZ ok.wk QY]
theorem Le (ok:OkW ws) (hW:HL ws W lw p0) (hg:Gr lw):∀(n:J) (o:ak J) (m:J),(∀p,o=U p->p0<=p/\ws.length<p+n)->n<m->
  whL lwT (lwB W) m [oS (.lst (ws.map D.str)),oS (oN o),oS (dkF chF)]=U (.nx,[oS (.lst (ws.map D.str)),oS (oN (lR ws lw n o)),oS (dkF chF)])
 |n,B,m+1,_,_=>by
  rw[whL];cases n<;>simp[lwT,lR,dX]
 |n,U p,m+1,hp,hm=>by
  obtain⟨h0,h1⟩:=hp p ();rw[whL];by_cases z:p<ws.length
  .cases n with
   |zero=>lia
   |succ n=>
    unfold lR;by_cases y:hdW ws p=";"
    .simp[lwT,dX,z,eR z,y,gR]
    .have st:=Sl ok hW h0 z;have k:=Le ok hW hg n (lS ws lw p) m (λa ha=>by have:=Iy hg ha;lia) .(b);simp[lwT,dX,z,eR z,y,gR,-WH,st];exact k
  .cases n<;>simp[lwT,lR,dX,z]
theorem Ap (hg:Gr lw):∀(n:J) (p a:J),lR ws lw n (U p)=U a->p<=a
 |0,p,a,h=>by cases h;exact qx _
 |n+1,p,a,h=>by
  unfold lR at h;split at h
  .cases hs:lS ws lw p with
   |none=>rw[hs] at h;cases n<;>cases h
   |some b=>
    rw[hs] at h;have:=Iy hg hs;have:=Ap hg n b a h;lia
  .cases h;exact qx _
def Gc (ok:OkW ws) (hW:HL ws W lw p) (hg:Gr lw):oV W [.lst (ws.map D.str),.int ((p:J):aj)]=U (oN (lT ws lw p)):=by
 have lp:=Le ok hW hg (ws.length+1) (U p) 2000 (λa ha=>by cases ha;lia) (by have:=ok.len;lia);simp only[Rx] at lp;unfold lT;cases ha:lR ws lw (ws.length+1) (U p) with
 |none=>
  rw[ha] at lp;simp[oV,vQ,Bp lp,dX]
 |some a=>
  rw[ha] at lp;have g:=Ap hg _ _ _ ha;have e:kQ W [.lst (ws.map D.str),.int ((a:aj)+1)]=U (oN (lE ws lw (a+1))):=WC (p:=a+1) ok hW hg .(b);simp[oV,vQ,Bp lp,dX,e]
end
section
variable {W:FQ}
def Iq {b:J} {u:aR} (h:lN ws p u=U b):p<=b:=by
 unfold lN at h;split at h
 .cases h
 .cases h;lia
def PL (hg:Gr lw):Gr (lE ws lw):=λp b h=>by
 unfold lE at h;split at h
 .cases h
 .split at h
  .obtain⟨x,hx,h⟩:=oBd h;obtain⟨y,hy,hx⟩:=oBd hx;have:=lG hy;have:=hg _ _ hx;have:=hg _ _ h;lia
  .split at h
   .have:=Iq h;lia
   .split at h
    .cases ha:lP ws stF p with
     |none=>rw[ha] at h;cases h
     |some a=>
      rw[ha] at h
      replace h:(if bY (hdW ws (p+1)).cps.toList<bY (hdW ws (p+2)).cps.toList then lN ws a ah else B)=U b:=h
      have:=lG ha;split at h
      .have:=Iq h;lia
      .cases h
    .exact lG h
def VA (hg:Gr lw):Gr (lT ws lw):=λp b h=>by
 unfold lT at h;cases ha:lR ws lw (ws.length+1) (U p) with
 |none=>rw[ha] at h;cases h
 |some a=>
  rw[ha] at h;have:=Ap hg _ _ _ ha;have:=PL hg _ _ h;lia
def Ts (hg:Gr lw):Gr (lWi ws lw):=λp b h=>by
 unfold lWi at h;split at h
 .cases ha:lT ws lw (p+1) with
  |none=>rw[ha] at h;cases h
  |some a=>
   rw[ha] at h
   replace h:(if hdW ws a="]" then U (a+1) else B)=U b:=h
   have:=VA hg _ _ ha;split at h
   .cases h;lia
   .cases h
 .cases h
theorem AU:∀n,Gr (lWn ws n)
 |0=>λ_ _ h=>by cases h
 |n+1=>Ts (AU n)
def X9 {o:ak J} (ok:OkW ws) (hg:Gr lw) (hW:∀p,o=U p->hdW ws p="["->HL ws W lw (p+1)):jW W [.lst (ws.map D.str),oN o]=U (oN (o.bind (lWi ws lw))):=by
 cases o with
 |none=>simp[jW,kS,dX]
 |some p=>
  show _=U (oN (lWi ws lw p));unfold lWi;simp[jW,kS,dX];by_cases y:hdW ws p="["
  .have hp:=iX (by rw[y];nofun);have e:oV W [.lst (ws.map D.str),.int ((p:aj)+1)]=U (oN (lT ws lw (p+1))):=Gc (p:=p+1) ok (hW p () y) hg;simp[eR hp,lC.mpr hp,iE y,gR,e];cases ha:lT ws lw (p+1) with
   |none=>simp
   |some a=>
    by_cases z:hdW ws a="]"
    .have hl:=iX (by rw[z];nofun);simp[gR,eR hl,lC.mpr hl,iE z]
    .rcases gy a ws.length with hl|hl
     .simp[gR,eR hl,lC.mpr hl,z]
     .simp[hl,z]
  .rcases gy p ws.length with hl|hl
   .simp[eR hl,lC.mpr hl,y,gR]
   .simp[hl,y]
theorem GW (ok:OkW ws):∀(n p0:J),nBr ws p0<n->HL ws (vm n) (lWn ws n) p0
 |n+1,p0,h=>λo ho=>X9 ok (AU n) λp hp hb=>GW ok n (p+1) (by have:=GU hb;have:=AX (ws:=ws) (ho p hp);lia)
def VG (ok:OkW ws) (hb:nBr ws 0<30):oO [.lst (ws.map D.str),.int 0]=U (oN (lT ws (lWn ws 30) 0)):=Gc ok (GW ok 30 0 hb) (AU 30)
end
def iN {fs:Z (af×af)} {z:af×af} (h:fs.find? (λz=>decide (z.1=hdW ws p))=U z) (hk:hdW ws p≠"together"):lP ws fs p=if eY ws (kds z.2) (p+1)=ah then U (p+1+z.2.length) else B:=by
 unfold lP;rw[h];show (if _ then _ else _)=_;by_cases y:eY ws (kds z.2) (p+1)=ah
 .rw[qZ #[y,λe=>ba e hk],qZ y]
 .rw[xa (λh=>y h.1),xa y]
def AO {fs:Z (af×af)} (h:hdW ws p∉fs.map (·.1)):lP ws fs p=B:=by
 have:fs.find? (λz=>decide (z.1=hdW ws p))=B:=by rw[M1];intro z hz;have:z.1≠hdW ws p:=λe=>h (e▸dH.mpr #[z,hz,()]);simpa using this
 unfold lP;rw[this]
def k_n:kds "n"=(["n"]:Z af):=by nofun
def NZ:kds "nn"=(["n","n"]:Z af):=by nofun
def TK:kds "nt"=(["n","t"]:Z af):=by nofun
def Ci:eY ws (kds "n") (p+1)=aG (hdW ws (p+1)):=by rw[k_n];show(aG (hdW ws (p+1)) && ah)=_;rw[mV]
def xj:eY ws (kds "nn") (p+1)=(aG (hdW ws (p+1)) && aG (hdW ws (p+2))):=by rw[NZ];show(aG (hdW ws (p+1)) && (aG (hdW ws (p+2)) && ah))=_;rw[mV]
def Pe:eY ws (kds "nt") (p+1)=(aG (hdW ws (p+1)) && stB (hdW ws (p+2))):=by rw[TK];show(aG (hdW ws (p+1)) && (stB (hdW ws (p+2)) && ah))=_;rw[mV]
def Cp:("n":af).length=1:=by nofun
def wD:("nn":af).length=2:=by nofun
def OJ:("nt":af).length=2:=by nofun
def Ho:(pCh ws p).map (·.2)=lP ws chF p:=by
 unfold pCh;by_cases h:hdW ws p∈(["start","on","order","keep"]:Z af)
 .rw[qZ h];have hc:hdW ws p="start"\/hdW ws p="on"\/hdW ws p="order"\/hdW ws p="keep":=by simpa using h
  rcases hc with e|e|e|e
  .rw[iN (z:=(("start":af),("nt":af))) (by rw[e];nofun) (by rw[e];nofun),Pe,OJ,xa (show ¬hdW ws p="keep" by rw[e];nofun),qZ e];cases aG (hdW ws (p+1))<;>cases stB (hdW ws (p+2))<;>rfl
  .rw[iN (z:=(("on":af),("nn":af))) (by rw[e];nofun) (by rw[e];nofun),xj,wD,xa (show ¬hdW ws p="keep" by rw[e];nofun),xa (show ¬hdW ws p="start" by rw[e];nofun)];cases aG (hdW ws (p+1))<;>cases aG (hdW ws (p+2))<;>rfl
  .rw[iN (z:=(("order":af),("nn":af))) (by rw[e];nofun) (by rw[e];nofun),xj,wD,xa (show ¬hdW ws p="keep" by rw[e];nofun),xa (show ¬hdW ws p="start" by rw[e];nofun)];cases aG (hdW ws (p+1))<;>cases aG (hdW ws (p+2))<;>rfl
  .rw[iN (z:=(("keep":af),("n":af))) (by rw[e];nofun) (by rw[e];nofun),Ci,Cp,qZ e];cases aG (hdW ws (p+1))<;>rfl
 .rw[xa h,AO (by simpa[chF] using h)];rfl
def Eqw (w:J->J->Pz) (lw:J->ak J):Prop:=∀p c,c<=p->(w p c).map (·.2.1)=lw p
def QO {w:J->J->Pz} (hE:Eqw w lw) (hc:c<=p):(pPt ws w p c).map (·.2.1)=lS ws lw p:=by
 unfold pPt lS;by_cases h:hdW ws p∈(["low","high","fit","not"]:Z af)
 .rw[qZ h];have hc:hdW ws p="low"\/hdW ws p="high"\/hdW ws p="fit"\/hdW ws p="not":=by simpa using h
  by_cases y:hdW ws p="not"
  .rw[qZ y,qZ y,<-Ho];cases hz:pCh ws (p+1) with
   |none=>rfl
   |some z=>
    have b:=ni hz;show fY _ (if _ then _ else _)=(if _ then _ else _);by_cases y2:hdW ws z.2∈(["0","1"]:Z af)
    .rw[qZ y2,qZ y2,<-hE (z.2+1) (c+1) .(b),NH];rfl
    .rw[xa y2,xa y2];rfl
  .rw[xa y,xa y];rcases hc with e|e|e|e
   .rw[iN (z:=(("low":af),("nn":af))) (by rw[e];nofun) (by rw[e];nofun),xj,wD,xa (by rw[e];nofun)];cases aG (hdW ws (p+1))<;>cases aG (hdW ws (p+2))<;>rfl
   .rw[iN (z:=(("high":af),("nn":af))) (by rw[e];nofun) (by rw[e];nofun),xj,wD,xa (by rw[e];nofun)];cases aG (hdW ws (p+1))<;>cases aG (hdW ws (p+2))<;>rfl
   .rw[iN (z:=(("fit":af),("n":af))) (by rw[e];nofun) (by rw[e];nofun),Ci,Cp,qZ e];cases aG (hdW ws (p+1))<;>rfl
   .exact ba e y
 .rw[xa h];have h2:hdW ws p≠"not":=λe=>h (by rw[e];simp);rw[xa h2,AO (λz=>h (by simp[roF] at z;rcases z with z|z|z<;>rw[z]<;>simp))];rfl
def Ii (ws:Z af) (a:J):Prop:=a=ws.length\/hdW ws a="]"
def Rl (ws:Z af) (x:Pz) (y:ak J):Prop:=x.map (·.2.1)=y\/(y=B/\∃u,x=U u/\¬Ii ws u.2.1)
def Te (h:aG x=ah):nbr x=ah:=by unfold nbr;rw[qQ λe=>by rw[e,Ku] at h;cases h];rfl
def Kz {q:J} (hq:q<=ws.length) (h:¬∀x∈lNs ws q,aG x=ah):¬Ii ws (q+(pNs ws q).length):=λf=>by
 have hc:=o9 ws q;have hd:ws.drop (q+(pNs ws q).length)=(ws.drop q).dropWhile aG:=dpa hc;have hn:∀x∈pNs ws q,aG x=ah:=λx=>BV;apply h;rcases f with f|f
 .rw[f,sj (qx _)] at hd;rw[<-hd,dZ] at hc;intro x hx;refine hn x ?_;rw[<-hc,oY ws q];exact xE _ hx
 .unfold hdW at f;rw[hd] at f;cases e:(ws.drop q).dropWhile aG with
  |nil=>rw[e] at f;exact ba f (by nofun)
  |cons y r=>
   rw[e] at f hc
   replace f:y="]":=f
   have:lNs ws q=pNs ws q:=by unfold lNs;rw[hc,NF (λx hx=>Te (hn x hx)),NG,xa (by rw[f];nofun),dZ]
   rw[this];exact hn
def Vf {q:J} :eY ws (kds "mm") (q+1)=(b5 7 (hdW ws (q+1)) && b5 7 (hdW ws (q+2))):=by rw[show kds "mm"=(["m","m"]:Z af) by nofun];show(b5 7 (hdW ws (q+1)) && (b5 7 (hdW ws (q+2)) && ah))=_;rw[mV]
def W1 {q:J} :eY ws (kds "nmm") (q+1)=(aG (hdW ws (q+1)) && (b5 7 (hdW ws (q+2)) && b5 7 (hdW ws (q+3)))):=by rw[show kds "nmm"=(["n","m","m"]:Z af) by nofun];show(aG (hdW ws (q+1)) && (b5 7 (hdW ws (q+2)) && (b5 7 (hdW ws (q+3)) && ah)))=_;rw[mV]
def Ox {q:J} :eY ws (kds "nmw") (q+1)=(aG (hdW ws (q+1)) && (b5 7 (hdW ws (q+2)) && (decide (hdW ws (q+3)="less") || decide (hdW ws (q+3)="more")))):=by rw[show kds "nmw"=(["n","m","w"]:Z af) by nofun];show(aG (hdW ws (q+1)) && (b5 7 (hdW ws (q+2)) && ((decide (hdW ws (q+3)="less") || decide (hdW ws (q+3)="more")) && ah)))=_;rw[mV]
def O3 {a:J} (e:hdW ws p="stretch"):lP ws stF p=if b5 7 (hdW ws (p+1))=ah/\b5 7 (hdW ws (p+2))=ah then U (p+3) else B:=by rw[iN (z:=(("stretch":af),("mm":af))) (by rw[e];nofun) (by rw[e];nofun),Vf,show("mm":af).length=2 by nofun];cases b5 7 (hdW ws (p+1))<;>cases b5 7 (hdW ws (p+2))<;>simp
def X7 {w:J->J->Pz} (hB:Bw ws w) (hE:Eqw w lw) (hc:c<=p):Rl ws (pEd ws w p c) (lE ws lw p):=by
 unfold pEd lE;by_cases h:hdW ws p∈(["both","window","ring","stretch","together","stock","moved"]:Z af)
 .have hp:=jS h (by nofun);rw[qZ h,xa (show ¬ws.length<=p by lia)];by_cases y1:hdW ws p="both"
  .left
   rw[qZ y1,qZ y1,<-Ho];cases hz:pCh ws (p+1) with
   |none=>rfl
   |some z=>
    have b:=ni hz;have e1:=hE z.2 (c+1) .(b);show fY _ (match w z.2 (c+1) with|none=>B|some u=>_)=(lw z.2).bind lw;cases hu:w z.2 (c+1) with
    |none=>rw[hu] at e1;rw[<-e1];rfl
    |some u=>
     rw[hu] at e1;have b2:=hB _ _ _ hu .(b);have e2:=hE u.2.1 u.2.2 b2.2.2;rw[<-e1];show fY _ (fY _ (w u.2.1 u.2.2))=lw u.2.1;rw[<-e2,NH];rfl
  .rw[xa y1,xa y1];by_cases y2:hdW ws p="ring"
   .rw[qZ y2,xa (by rw[y2];nofun),qZ y2];by_cases a:∀x∈lNs ws (p+1),aG x=ah
    .left
     rw[Br a];unfold lN;by_cases z:lNs ws (p+1)=[]
     .rw[qZ z,qZ (.inl z)];rfl
     .rw[xa z,xa (λh=>h.elim z λh=>h.elim (λh=>h a) λh=>qu h.1)];rfl
    .have ln:lN ws (p+1) ao=B:=qZ (.inr (.inl a));rw[ln];by_cases z:pNs ws (p+1)=[]
     .left;rw[qZ z];rfl
     .right;rw[xa z];exact#[(),_,(),Kz .(b) a]
   .rw[xa y2];by_cases y3:hdW ws p="stretch"
    .rw[qZ y3,xa (by rw[y3];nofun),xa y2,qZ y3,O3 (a:=0) y3];unfold pSt pEn;by_cases m:b5 7 (hdW ws (p+1))=ah/\b5 7 (hdW ws (p+2))=ah
     .rw[qZ m];have l2:=nv m.2;show Rl ws _ (if _ then _ else _);by_cases v:bY (hdW ws (p+1)).cps.toList<bY (hdW ws (p+2)).cps.toList
      .rw[qZ v,qZ (#[m.1,m.2,v])];show Rl ws (fY _ (if _ then _ else if _ then _ else _)) _;by_cases a:∀x∈lNs ws (p+3),aG x=ah
       .left
        rw[show p+1+2=p+3 from (),Br a];unfold lN;by_cases z:lNs ws (p+3)=[]
        .rw[qZ z,qZ (.inl z)];rfl
        .rw[xa z];by_cases nd:(lNs ws (p+3)).Nodup
         .rw[qZ nd,xa (λh=>h.elim z λh=>h.elim (λh=>h a) λh=>h.2 nd)];rfl
         .rw[xa nd,qZ (.inr (.inr #[rfl,nd]))];rfl
       .have ln:lN ws (p+3) ah=B:=qZ (.inr (.inl a));rw[ln,show p+1+2=p+3 from ()];by_cases z:pNs ws (p+3)=[]
        .left;rw[qZ z];rfl
        .rw[xa z];by_cases nd:(pNs ws (p+3)).Nodup
         .right;rw[qZ nd];exact#[(),_,(),Kz .(b) a]
         .left;rw[xa nd];rfl
      .left
       rw[xa v,xa (λh=>v h.2.2)];rfl
     .left
      rw[xa m,xa (λh=>m #[h.1,h.2.1])];rfl
    .rw[xa y3,xa y2,xa y3]
     left
     by_cases y4:hdW ws p="window"
     .rw[qZ y4,iN (z:=(("window":af),("n":af))) (by rw[y4];nofun) (by rw[y4];nofun),Ci,Cp];cases aG (hdW ws (p+1))<;>rfl
     .rw[xa y4];by_cases y5:hdW ws p="together"
      .rw[qZ y5];unfold lP pEn;rw[show enF.find? (λz=>decide (z.1=hdW ws p))=U (("together":af),("nmm":af)) by rw[y5];nofun];show _=(if eY ws (kds "nmm") (p+1)=ah/\_ then U (p+1+("nmm":af).length) else B);rw[W1,show("nmm":af).length=3 by nofun,show(p+2+1)=p+3 from ()];by_cases n:aG (hdW ws (p+1))=ah
       .rw[qZ n,n];by_cases m:b5 7 (hdW ws (p+2))=ah/\b5 7 (hdW ws (p+3))=ah/\bY (hdW ws (p+2)).cps.toList<bY (hdW ws (p+3)).cps.toList
        .rw[qZ m,qZ #[by rw[m.1,m.2.1];rfl,λ_=>m.2.2]];rfl
        .rw[xa m,xa (λh=>m (by have:=h.1;simp only[xY,eM] at this;exact#[this.1,this.2,h.2 y5]))];rfl
       .rw[xa n,xa (λh=>n (by have:=h.1;simp only[eM] at this;exact this.1))];rfl
      .rw[xa y5];by_cases y6:hdW ws p="stock"
       .rw[qZ y6,iN (z:=(("stock":af),("nmw":af))) (by rw[y6];nofun) (by rw[y6];nofun),Ox,show("nmw":af).length=3 by nofun];by_cases m:hdW ws (p+3)∈(["less","more"]:Z af)
        .have:(decide (hdW ws (p+3)="less") || decide (hdW ws (p+3)="more"))=ah:=by simpa using m
         rw[this,qZ m];cases aG (hdW ws (p+1))<;>cases b5 7 (hdW ws (p+2))<;>rfl
        .have:(decide (hdW ws (p+3)="less") || decide (hdW ws (p+3)="more"))=ao:=by simpa using m
         rw[this,xa m];cases aG (hdW ws (p+1))<;>cases b5 7 (hdW ws (p+2))<;>rfl
       .rw[xa y6];have y7:hdW ws p="moved":=by
         simp only[qO,qM,or_false] at h;rcases h with h|h|h|h|h|h|h
         .exact ba h y1
         .exact ba h y4
         .exact ba h y2
         .exact ba h y3
         .exact ba h y5
         .exact ba h y6
         .exact h
        rw[iN (z:=(("moved":af),("":af))) (by rw[y7];nofun) (by rw[y7];nofun),show kds ""=([]:Z af) by nofun,show("":af).length=0 by nofun];rfl
 .rw[xa h]
  left
  by_cases hp:ws.length<=p
  .rw[qZ hp];rfl
  .have n:∀s:af,s∈(["both","window","ring","stretch","together","stock","moved"]:Z af)->hdW ws p≠s:=λs hs e=>h (e▸hs);rw[xa hp,xa (n "both" (by simp)),xa (n "ring" (by simp)),xa (n "stretch" (by simp)),AO (λz=>h (by simp[enF] at z;rcases z with z|z|z|z<;>rw[z]<;>simp))];rfl
section
variable {w:J->J->Pz}
def VC:∀n,lR ws lw n B=B
 |0=>rfl
 |_+1=>rfl
theorem Fz (hB:Bw ws w) (hE:Eqw w lw):∀(n p c:J),c<=p->ws.length<p+n->p<=ws.length->(∃v,pRw ws w n p c=U v/\lR ws lw n (U p)=U v.2.1)\/(pRw ws w n p c=B/\(lR ws lw n (U p)=B\/∃a,lR ws lw n (U p)=U a/\ws.length<=a))
 |0,p,c,_,h,h2=>by lia
 |n+1,p,c,hc,h,h2=>by
  unfold pRw lR;by_cases y:hdW ws p=";"
  .rw[qZ y,xa (λh=>h.2 y)];exact .inl #[_,(),()]
  .rw[xa y];have pr:=QO (ws:=ws) hE hc;by_cases z:p<ws.length
   .rw[qZ #[z,y]];cases hu:pPt ws w p c with
    |none=>
     rw[hu] at pr;rw[<-pr];exact .inr #[(),.inl (VC n)]
    |some u=>
     rw[hu] at pr;have b:=BX hB _ _ _ hu hc;rw[<-pr];rcases Fz hB hE n u.2.1 u.2.2 b.2.2 .(b) b.2.1 with⟨v,h3,h4⟩|⟨h3,h4⟩
     .exact .inl #[(u.1::v.1,v.2),by show fY _ (pRw ws w n u.2.1 u.2.2)=_;rw[h3];rfl,h4]
     .exact .inr #[by show fY _ (pRw ws w n u.2.1 u.2.2)=_;rw[h3];rfl,h4]
   .rw[xa (λh=>z h.1)];have hh:hdW ws p="":=by unfold hdW;rw[sj .(b)];rfl
    have hn:pPt ws w p c=B:=by unfold pPt;rw[xa (by rw[hh];nofun)]
    rw[hn];exact .inr #[(),.inr #[p,(),by lia]]
def JT (hB:Bw ws w) (hE:Eqw w lw) (hc:c<=p) (hp:p<=ws.length):Rl ws (pTr ws w p c) (lT ws lw p):=by
 unfold pTr lT;rcases Fz hB hE (ws.length+1) p c hc .(b) hp with⟨v,h3,h4⟩|⟨h3,h4⟩
 .rw[h3,h4];have b:=xt hB _ _ _ _ h3 hc;rcases X7 (p:=v.2.1+1) (c:=v.2.2) hB hE .(b) with e|⟨e,u,h5,h6⟩
  .left
   show fY _ (fY _ (pEd ws w (v.2.1+1) v.2.2))=lE ws lw (v.2.1+1);rw[<-e,NH];rfl
  .right
   refine#[e,(.tup [.lst v.1,u.1],u.2),?_,h6];show fY _ (pEd ws w (v.2.1+1) v.2.2)=_;rw[h5];rfl
 .rw[h3]
  left
  rcases h4 with h4|⟨a,h4,h5⟩
  .rw[h4];rfl
  .rw[h4];show B=lE ws lw (a+1);unfold lE;rw[qZ .(b)]
def OH (hB:Bw ws w) (hE:Eqw w lw):Eqw (pWi ws w) (lWi ws lw):=λp c hc=>by
 unfold pWi lWi;by_cases y:hdW ws p="["
 .rw[qZ y,qZ y];have hp:=iX (by rw[y];nofun);rcases JT hB hE (p:=p+1) (c:=c) .(b) .(b) with e|⟨e,u,h5,h6⟩
  .rw[<-e];cases ht:pTr ws w (p+1) c with
   |none=>rfl
   |some t=>
    show fY _ (if _ then _ else _)=(if hdW ws t.2.1="]" then U (t.2.1+1) else B);by_cases z:hdW ws t.2.1="]"
    .rw[qZ z,qZ z];rfl
    .rw[xa z,xa z];rfl
  .rw[e,h5];show fY _ (if _ then _ else _)=B;rw[xa (λz=>h6 (.inr z))];rfl
 .rw[xa y,xa y];rfl
theorem K9:∀n,Eqw (pWn ws n) (lWn ws n)
 |0=>λ_ _ _=>rfl
 |n+1=>OH (sG n) (K9 n)
def Rk:(pRd ws).isSome=decide (lT ws (lWn ws 30) 0=U ws.length):=by
 unfold pRd;rcases JT (sG 30) (K9 30) (qx _) (eA _) with e|⟨e,u,h5,h6⟩
 .rw[<-e];cases ht:pTr ws (pWn ws 30) 0 0 with
  |none=>rfl
  |some t=>
   show(if t.2.1=ws.length then U t.1 else B).isSome=decide (U t.2.1=U ws.length);by_cases z:t.2.1=ws.length
   .rw[qZ z,z,qV ()];rfl
   .rw[xa z,qQ (λh=>z (qK h))];rfl
 .rw[e,h5];show(if u.2.1=ws.length then U u.1 else B).isSome=decide (B=U ws.length);rw[xa (λz=>h6 (.inl z))];rfl
end
def Sa (h:e7 [d,.ty "str"]=U (.bl ao)):gU [d]=U B:=by
 have t:cL (toB (cF e7 (av (vSh 0) (av (vC (.ty "str")) ay)))) [oS d,B,B]=U ah:=by unfold cL;rw[cz (cE (bL () (bL () ci)) h)];rfl
 show(pO _ _ [oS d,B,B]).bind _=_;unfold pO pP;rw[t,qa,qZ ()];rfl
def v9 {xs:Z af} (h1:Y[i]?=U (U (.own (xs.map D.str)))) (h2:f Y=U (.lst (ys.map D.str))) (h3:xs.length+ys.length<=16000000):iS i f Y=U (.nx,Y.set i (U (.own ((xs++ys).map D.str)))):=by unfold iS;rw[h1];rw[h2];show (if _ then _ else _)=_;rw[qZ (by rw[qe,qe];unfold aH;lia),gA]
def X1 {xs:Z af} (h1:Y[i]?=U (U (.own (xs.map D.str)))) (h2:f Y=U (.str y)) (h3:xs.length<=16000000):uZ i f Y=U (.nx,Y.set i (U (.own ((xs++[y]).map D.str)))):=by unfold uZ;rw[h1];rw[h2];show (if _ then _ else _)=_;rw[qZ (by rw[qe];unfold aH;lia),gA];rfl
def yU {A:FS} (h:ft Y=U ah):sIf ft A ae Y=A Y:=by unfold sIf;rw[h];rfl
def zJ {A:FS} (h:ft Y=U ao):sIf ft A ae Y=ae Y:=by unfold sIf;rw[h];rfl
def mv {g':FS} (h:g Y=U (.nx,ρ1)):bu g g' Y=g' ρ1:=by unfold bu;rw[h];rfl
def Tf (h:Y[i]?=U (U (.own ds))):pe i g Y=g (Y.set i (oS (.lst ds))):=by unfold pe;rw[h]
def JK {b:FS} {xs:Z D} (h:fi Y=U xs):fS fi gg b Y=fF gg b xs Y:=by unfold fS;rw[h];rfl
def eq0 {k c:af} {r:Z D} (h:vSh i Y=U (.tup (.str k::r))):toB (b2 eqD (b2 ixD (vSh i) (vC (.int 0))) (vC (.str c))) Y=U (decide (k=c)):=cz (bh (bh h () eV) () ())
def eqT {c:af} {r:Z D} (h:vSh i Y=U (.tup (.str c::r))):toB (b2 eqD (b2 ixD (vSh i) (vC (.int 0))) (vC (.str c))) Y=U ah:=(eq0 h).trans (by rw[qV ()])
def eqF {k c:af} {r:Z D} (hn:k≠c) (h:vSh i Y=U (.tup (.str k::r))):toB (b2 eqD (b2 ixD (vSh i) (vC (.int 0))) (vC (.str c))) Y=U ao:=(eq0 h).trans (by rw[qQ hn])
noncomputable def Wq:D->Prop
 |.str _=>True
 |.int i=>i.natAbs.log2<1920
 |_=>False
def u8 (h:Wq d):kF [d]=U (.str (wS d)):=by
 match d,h with
 |.str x,h=>rfl
 |.int i,h=>exact qZ h
def FI (h:fi Y=U ds) (hl:ds.length<=100) (ok:∀d∈ds,Wq d):bE (cG fi (bp 0) tT (cF kF (av (vSh 0) ay)) [B]) Y=U (.lst ((ds.map wS).map D.str)):=by have hc:=m8 (fe:=cF kF (av (vSh 0) ay)) (fv:=[B]) h (by unfold aH;lia) () λx hx=>cE (bL () ci) (u8 (ok x hx));rw[hc,jC];rfl
noncomputable abbrev lB:af:="["
noncomputable abbrev rB:af:="]"
noncomputable abbrev sC:af:=";"
abbrev brk (tw:Z af):Z af:=lB::(tw++[rB])
def CW (c:D) (ws:Z af):Prop:=∃ds:Z D,c=.tup ds/\ds.length<=10/\(∀d∈ds,Wq d)/\ws=ds.map wS
def LW (e:D) (ws:Z af):Prop:=
 (∃(k:af) (r:Z D),k≠"ring"/\k≠"stretch"/\k≠"both"/\e=.tup (.str k::r)/\r.length<=10/\(∀d∈r,Wq d)/\ws=k::r.map wS) \/
 (∃ns:Z af,e=.tup [.str "ring",.lst (ns.map D.str)]/\ws=("ring":af)::ns) \/
 (∃(ns:Z af) (a b:aj),Wq (.int a)/\Wq (.int b)/\e=.tup [.str "stretch",.lst (ns.map D.str),.int a,.int b]/\ws=("stretch":af)::tI a::tI b::ns)
section
variable (T:D->Z af->Prop)
def RW (x:D) (ws:Z af):Prop:=
 (∃(k:af) (l:Z af),k≠"not"/\x=.tup ((k::l).map D.str)/\ws=k::l) \/
 (∃c cw b t tw,CW c cw/\Wq (.int b)/\T t tw/\x=.tup [.str "not",c,.int b,t]/\ws=("not":af)::(cw++tI b::brk tw))
def EW (e:D) (ws:Z af):Prop:=
 LW e ws\/(∃c cw t tw u uw,CW c cw/\T t tw/\T u uw/\e=.tup [.str "both",c,t,u]/\ws=("both":af)::(cw++brk tw++brk uw))
end
noncomputable def RsW (P:D->Z af->Prop):Z D->Z af->Prop
 |[],ws=>ws=[]
 |x::xs,ws=>∃w1 w2,P x w1/\RsW P xs w2/\ws=w1++w2
def TW:J->D->Z af->Prop
 |0,_,_=>False
 |n+1,d,ws=>∃rows e rq ew,d=.tup [.lst rows,e]/\RsW (RW (TW n)) rows rq/\EW (TW n) e ew/\ws=rq++sC::ew
def Fv {c:D} (h:CW c cw) (hf:f Y=U c):bE (cG (itF f) (bp 0) tT (cF kF (av (vSh 0) ay)) [B]) Y=U (.lst (cw.map D.str)):=by obtain⟨ds,rfl,hl,ok,rfl⟩:=h;exact FI (by unfold itF;rw[hf];rfl) .(b) ok
def QE {e:D} (h:LW e ew) (hl:ew.length<=900):Cr [e]=U (.lst (ew.map D.str)):=by
 rcases h with⟨k,r,n1,n2,_,rfl,hr,ok,rfl⟩|⟨ns,rfl,rfl⟩|⟨ns,a,b,ha,hb,rfl,rfl⟩
 .exact dR _ () ((gq (eqF n1 ())).trans ((gq (eqF n2 ())).trans (cS (FI (ds:=.str k::r) () (by simp only[qh];lia) λd hd=>by
   rcases eC.mp hd with rfl|hd
   .trivial
   .exact ok d hd))))
 .rw[qh] at hl;exact dR _ () (tf (eqT ()) (cS (g8 (x:=["ring"]) () (bh () () gn) (by simp;lia))))
 .simp only[qh] at hl;refine dR _ () ((gq (eqF .(a) ())).trans (tf (eqT ()) (cS (g8 (x:=["stretch",tI a,tI b]) ?_ (bh () () gn) (by simp;lia)))));unfold bE szF;rw[bL () (bL (cE (bL (bh () () lM) ci) (u8 ha)) (bL (cE (bL (bh () () nR) ci) (u8 hb)) ci))];rfl
noncomputable def eI (ws:Z af):J:=ws.countP λx:af=>decide (x="[")
def ir (a b:Z af):eI (a++b)=eI a+eI b:=yg
def Wt (x:af) (b:Z af):eI (x::b)=eI [x]+eI b:=by rw[<-ir];rfl
def AT (a:Z af):eI (brk a)=eI a+1:=by rw[Wt,ir,show eI [lB]=1 by nofun,show eI [rB]=0 by nofun];lia
def P5 (a:Z af):(brk a).length=a.length+2:=by rw[qh,qk,qY]
section
variable {W:FQ} {T:D->Z af->Prop}
def SOk (m:J) (W:FQ) (T:D->Z af->Prop):Prop:=∀t tw,T t tw->eI tw<m->tw.length<=900->W [t]=U (.lst (tw.map D.str))
def Bh {t:D} (h:W [t]=U (.lst (tw.map D.str))) (hl:tw.length<=1000000):tG W [t]=U (.lst ((brk tw).map D.str)):=by
 refine dR _ () (cS (g8 (g8 (x:=[lB]) () (cE (bL () ci) h) ?_) () ?_))
 all_goals simp only[qk,qh,qm];lia
abbrev K3 (W:FQ):FS:=sIf (toB (b2 eqD (b2 ixD (vSh 2) (vC (.int 0))) (vC (.str "not")))) (iS 1 (b2 bZ (b2 bZ (b2 bZ (bE (szF (av (vC (.str "not")) ay))) (bE (cG (itF (b2 ixD (vSh 2) (vC (.int 1)))) (bp 0) tT (cF kF (av (vSh 0) ay)) [B]))) (bE (szF (av (cF kF (av (b2 ixD (vSh 2) (vC (.int 2))) ay)) ay)))) (cF (tG W) (av (b2 ixD (vSh 2) (vC (.int 3))) ay)))) (iS 1 (cF Aa (av (vSh 2) ay)))
abbrev OP (W:FQ):FS:=sIf (toB (b2 eqD (b2 ixD (vSh 3) (vC (.int 0))) (vC (.str "both")))) (iS 1 (b2 bZ (b2 bZ (b2 bZ (bE (szF (av (vC (.str "both")) ay))) (bE (cG (itF (b2 ixD (vSh 3) (vC (.int 1)))) (bp 0) tT (cF kF (av (vSh 0) ay)) [B]))) (cF (tG W) (av (b2 ixD (vSh 3) (vC (.int 2))) ay))) (cF (tG W) (av (b2 ixD (vSh 3) (vC (.int 3))) ay)))) (iS 1 (cF Cr (av (vSh 3) ay)))
variable (hW:SOk m W T)
include hW
def N4 {x:D} (h:RW T x xw) (hm:eI xw<=m) (hl:xw.length<=900) (A e:ak Slot) (acc:Z af) (ha:acc.length<=900):K3 W [A,U (.own (acc.map D.str)),oS x,e]=U (.nx,[A,U (.own ((acc++xw).map D.str)),oS x,e]):=by
 rcases h with⟨k,l,hk,rfl,rfl⟩|⟨cc,cw,b,t,tw,hc,hb,ht,rfl,rfl⟩
 .exact(zJ (eqF hk ())).trans (v9 () (cE (bL () ci) ()) .(b))
 .have e1:(("not":af)::(cw++tI b::brk tw))=[("not":af)]++cw++[tI b]++brk tw:=by simp
  rw[e1] at hm hl ⊢;rw[ir,AT] at hm;simp only[qk,qh,qm] at hl;refine(yU (eqT ())).trans (v9 () (g8 (g8 (g8 () (Fv hc (bh () () gn)) ?_) ?_ ?_) (cE (bL (bh () () nR) ci) (Bh (hW t tw ht .(b) .(b)) .(b))) ?_) ?_)
  rotate_left
  .unfold bE szF;rw[bL (cE (bL (bh () () lM) ci) (u8 hb)) ci];rfl
  all_goals simp only[qk,qh,qm];lia
def OK {x:D} (h:EW T x xw) (hm:eI xw<=m) (hl:xw.length<=900) (A z:ak Slot) (acc:Z af) (ha:acc.length<=901):OP W [A,U (.own (acc.map D.str)),z,oS x]=U (.nx,[A,U (.own ((acc++xw).map D.str)),z,oS x]):=by
 rcases h with h|⟨cc,cw,t,tw,u,uw,hc,ht,hu,rfl,rfl⟩
 .have nb':∃k r,x=.tup (.str k::r)/\k≠"both":=by
   rcases h with⟨k,r,_,_,n3,rfl,_⟩|⟨ns,rfl,_⟩|⟨ns,a,b,_,_,rfl,_⟩
   .exact#[_,_,(),n3]
   all_goals exact#[_,_,(),by decide]
  obtain⟨kk,r,rfl,hn⟩:=nb';exact(zJ (eqF hn ())).trans (v9 () (cE (bL () ci) (QE h hl)) .(b))
 .have e1:(("both":af)::(cw++brk tw++brk uw))=[("both":af)]++cw++brk tw++brk uw:=by simp
  rw[e1] at hm hl ⊢;rw[ir,ir,AT,AT] at hm;simp only[qk,qh,qm] at hl;refine(yU (eqT ())).trans (v9 () (g8 (g8 (g8 () (Fv hc (bh () () gn)) ?_) (cE (bL (bh () () lM) ci) (Bh (hW t tw ht .(b) .(b)) .(b))) ?_) (cE (bL (bh () () nR) ci) (Bh (hW u uw hu .(b) .(b)) .(b))) ?_) ?_)
  all_goals simp only[qk,qh,qm];lia
theorem LH:∀{rows:Z D} {rq:Z af},RsW (RW T) rows rq->∀(A e z:ak Slot) (acc:Z af),eI rq<=m->acc.length+rq.length<=900->∃z',fF (bp 2) (K3 W) rows [A,U (.own (acc.map D.str)),z,e]=U (.nx,[A,U (.own ((acc++rq).map D.str)),z',e])
 |[],_,h,A,e,z,acc,_,_=>by cases h;exact#[z,by simp[fF]]
 |x::rows,_,h,A,e,z,acc,hk,ha=>by obtain⟨w1,w2,h1,h2,rfl⟩:=h;rw[ir] at hk;rw[qk] at ha;obtain⟨z',hz⟩:=LH h2 A e (oS x) (acc++w1) .(b) (by rw[qk];lia);refine#[z',JO () (N4 hW h1 .(b) .(b) A e acc .(b)) ?_];rw[hz,qy]
end
theorem LR:∀(n m:J),SOk m (tS m) (TW n)
 |0,_=>λ_ _ h _=>h.elim
 |n+1,0=>λ_ _ _ h=>ba h .(b)
 |n+1,m+1=>λt tw ht hm hl=>by
  have hW:=LR n m;obtain⟨rows,e,rq,ew,rfl,hr,he,rfl⟩:=ht;have e1:rq++sC::ew=rq++[sC]++ew:=by simp
  rw[e1] at hm hl ⊢;rw[ir,ir] at hm;simp only[qk,qh,qm] at hl;obtain⟨z',hz⟩:=LH hW hr (oS (.tup [.lst rows,e])) B B [] .(b) (by simp;lia);show BU (tS m) [.tup [.lst rows,e]]=_;rw[qU] at hz;refine dR (KK:=[oS (.tup [.lst rows,e]),oS (.lst ((rq++[sC]++ew).map D.str)),z',oS e]) [oS (.tup [.lst rows,e]),B,B,B] () ((mv ()).trans ((mv ((JK (by unfold itF;rw[bh () () eV];rfl)).trans hz)).trans ?_));refine(mv (X1 () () .(b))).trans ?_;refine(mo (bh () () gn)).trans ?_;refine(mv (OK hW he .(b) .(b) (oS (.tup [.lst rows,e])) z' (rq++[sC]) (by rw[qk,qY];lia))).trans ?_;exact(Tf ()).trans (cS ())
def Sx (h:TW n d ws) (hm:eI ws<30) (hl:ws.length<=900) (hw:wt ws<=16000000):kK [d]=U (.str (ag ws)):=
 dR _ () (cS (sD (cE (bL () ci) (LR n 30 d ws h hm hl)) hw))
def Pm (h:0<m):(tI (-(m:aj))).cps.toList=45::(cY m).cps.toList:=by obtain⟨k,rfl⟩:∃k,m=k+1:=#[m-1,by lia];show(uA (mI (-((k+1:J):aj)))).cps.toList=45::(uA (mI ((k+1:J):aj))).cps.toList;have e:mI (-((k+1:J):aj))="-"++mI ((k+1:J):aj):=rfl;rw[e,xac,xac,String.toList_append];simp
def V9 (h:ly x "-"=ah):x.cps.toList=45::(tlW x).cps.toList:=by
 rw[vW];have h1:=oH.mp h;have hl:=km h1.1;have h2:=h1.2;cases hx:x.cps.toList with
 |nil=>
  rw[show("-":af).length=1 by nofun,<-iM,hx] at hl;exact ba hl .(a)
 |cons c r=>
  congr 1
  rw[StrLaws.subAt_eq,hx,show("-":af).length=1 by nofun,show("-":af).cps.toList=[45] by nofun] at h2;simpa using h2
def Ro {k:J} (h:m<2 ^ k) (hk:0<k):m.log2<k:=by
 rcases xad m with rfl|hm
 .exact hk
 .exact(Nat.log2_lt .(b)).mpr h
def Gm (h:m<10 ^ 40):Wq (.int m)/\Wq (.int (-(m:aj))):=by have:m.log2<140:=Ro (qI h (by nofun)) .(a);exact#[by show((m:aj).natAbs).log2<1920;rw[xae];lia,by show((-(m:aj)).natAbs).log2<1920;rw[Int.natAbs_neg,xae];lia]
def wy {k:J} (hk:k<=40) (h:b5 k x=ah):tI (bY x.cps.toList:J)=x/\Wq (.int (bY x.cps.toList:J)):=by have h1:=oH.mp h;have hl:=km h1.2;obtain⟨m,rfl,hm⟩:=vx h1.1;have e:bY (cY m).cps.toList=m:=uc m;rw[e];exact#[(),(Gm (qI hm (Di .(a) .(b)))).1]
def XV (h:stB x=ah):tI (stV x)=x/\Wq (.int (stV x)):=by
 unfold stB at h;unfold stV;cases hs:ly x "-" with
 |false=>
  rw[hs,xa qu] at h;rw[xa qu];exact wy (qx _) h
 |true=>
  rw[hs,qZ ()] at h;rw[qZ ()];have h0:=oH.mp h;have h1:=oH.mp h0.1;have hl:=km h1.2;obtain⟨m,em,hm⟩:=vx h1.1;have e:bY (tlW x).cps.toList=m:=by rw[em];exact uc m
  have hp:0<m:=by
   rcases xad m with z|z
   .have:=h0.2;rw[em,z,EO,qV ()] at this;cases this
   .exact z
  rw[e];refine#[HQ ?_,(Gm (qI hm (Di .(a) hl))).2];rw[Pm hp,V9 hs,em]
def iG (h:p<ws.length):ws.drop p=hdW ws p::ws.drop (p+1):=by unfold hdW;rw[mO h];rfl
def vJ (h:hdW ws p=x) (hx:x≠""):ws.drop p=x::ws.drop (p+1):=by rw[iG (iX (by rw[h];exact hx)),h]
def mq (h:aG (hdW ws p)=ah):ws.drop p=hdW ws p::ws.drop (p+1):=iG (pH h)
def KJ {z:D×J} (h:pCh ws p=U z):∃cw,CW z.1 cw/\ws.drop p=cw++ws.drop z.2:=by
 unfold pCh at h;split at h
 .rename_i h1;have c1:=iG (jS h1 (by nofun));split at h
  .rename_i h2;have c2:=mq h2;split at h
   .cases h;exact#[[hdW ws p,hdW ws (p+1)],#[[.str (hdW ws p),.str (hdW ws (p+1))],(),by simp,(λd hd=>by simp only[qO,qM,or_false] at hd;rcases hd with rfl|rfl<;>trivial),rfl],by rw[c1,c2];rfl]
   .split at h
    .split at h
     .rename_i h3;have c3:=iG (Lh h3);have t:=XV h3;cases h;exact#[[hdW ws p,hdW ws (p+1),hdW ws (p+2)],#[[.str (hdW ws p),.str (hdW ws (p+1)),.int (stV (hdW ws (p+2)))],(),by simp,(λd hd=>by
       simp only[qO,qM,or_false] at hd;rcases hd with rfl|rfl|rfl
       .trivial
       .trivial
       .exact t.2),by show _=[hdW ws p,hdW ws (p+1),tI (stV (hdW ws (p+2)))];rw[t.1]],by rw[c1,c2,c3];rfl]
     .cases h
    .split at h
     .rename_i h3;have c3:=mq h3;cases h;exact#[[hdW ws p,hdW ws (p+1),hdW ws (p+2)],#[[.str (hdW ws p),.str (hdW ws (p+1)),.str (hdW ws (p+2))],(),by simp,(λd hd=>by simp only[qO,qM,or_false] at hd;rcases hd with rfl|rfl|rfl<;>trivial),rfl],by rw[c1,c2,c3];rfl]
     .cases h
  .cases h
 .cases h
def KC {z:J×J} (h:pEn ws p=U z):Wq (.int z.1)/\Wq (.int z.2)/\ws.drop p=tI z.1::tI z.2::ws.drop (p+2):=by
 unfold pEn at h;split at h
 .rename_i h2;have t1:=wy .(a) h2.1;have t2:=wy .(a) h2.2.1;cases h;refine#[t1.2,t2.2,?_];rw[t1.1,t2.1,iG (nv h2.1),iG (nv h2.2.1)]
 .cases h
def HV:ws.drop p=pNs ws p++ws.drop (p+(pNs ws p).length):=by rw[dpa (o9 ws p)];exact o9 ws p
def XG {z:D×J} (h:pSt ws (p+1)=U z) (hs:hdW ws p="stretch"):∃ew,LW z.1 ew/\ws.drop p=ew++ws.drop z.2:=by
 unfold pSt at h;cases he:pEn ws (p+1) with
 |none=>rw[he] at h;cases h
 |some y=>
  rw[he] at h
  replace h:(if pNs ws (p+1+2)=[] then B else if (pNs ws (p+1+2)).Nodup then U (D.tup [.str "stretch",.lst ((pNs ws (p+1+2)).map D.str),.int y.1,.int y.2],p+1+2+(pNs ws (p+1+2)).length) else B)=U z:=h
  obtain⟨w1,w2,e⟩:=KC he;split at h
  .cases h
  .split at h
   .cases h;refine#[_,.inr (.inr #[_,_,_,w1,w2,(),()]),?_];rw[vJ hs (by nofun),e,HV];rfl
   .cases h
section
variable {w:J->J->Pz} {T:D->Z af->Prop}
def HS (ws:Z af) (w:J->J->Pz) (T:D->Z af->Prop):Prop:=∀p c u,w p c=U u->∃tw,T u.1 tw/\ws.drop p=brk tw++ws.drop u.2.1
variable (hS:HS ws w T)
include hS
def Rp {u:D×J×J} (h:pPt ws w p c=U u):∃xw,RW T u.1 xw/\ws.drop p=xw++ws.drop u.2.1:=by
 unfold pPt at h;split at h
 .rename_i h1;have c1:=iG (jS h1 (by nofun));split at h
  .rename_i hn;cases he:pCh ws (p+1) with
   |none=>rw[he] at h;cases h
   |some z=>
    rw[he] at h
    replace h:(if hdW ws z.2∈(["0","1"]:Z af) then (w (z.2+1) (c+1)).map λu=>(D.tup [.str (hdW ws p),z.1,.int (if hdW ws z.2="0" then 0 else 1),u.1],u.2) else B)=U u:=h
    obtain⟨cw,k1,k2⟩:=KJ he;split at h
    .rename_i h3;cases hu:w (z.2+1) (c+1) with
     |none=>rw[hu] at h;cases h
     |some v=>
      rw[hu] at h;obtain⟨tw,t1,t2⟩:=hS _ _ _ hu;have c3:=iG (jS h3 (by nofun));have b:∃b:aj,(if hdW ws z.2="0" then (0:aj) else 1)=b/\tI b=hdW ws z.2/\Wq (.int b):=by
       rcases eC.mp h3 with e|e
       .exact#[0,by rw[qZ e],by rw[e];nofun,by show _ < _;decide]
       .have e:=cm.mp e;exact#[1,by rw[xa (by rw[e];nofun)],by rw[e];nofun,by show _ < _;nofun]
      obtain⟨b,b1,b2,b3⟩:=b;rw[b1] at h;cases h;refine#[_,.inr #[z.1,cw,b,v.1,tw,k1,b3,t1,by rw[hn],rfl],?_];rw[c1,hn,k2,c3,t2,b2];simp
    .cases h
  .rename_i hn;split at h
   .split at h
    .rename_i h3;have c2:=mq h3;cases h;exact#[_,.inl #[hdW ws p,[hdW ws (p+1)],hn,(),()],by rw[c1,c2];rfl]
    .cases h
   .split at h
    .rename_i h2;have c2:=mq h2;split at h
     .rename_i h3;have c3:=mq h3;cases h;exact#[_,.inl #[hdW ws p,[hdW ws (p+1),hdW ws (p+2)],hn,(),()],by rw[c1,c2,c3];rfl]
     .cases h
    .cases h
 .cases h
def OQ {u:D×J×J} (h:pEd ws w p c=U u):∃ew,EW T u.1 ew/\ws.drop p=ew++ws.drop u.2.1:=by
 unfold pEd at h;split at h
 .rename_i h1;have c1:=iG (jS h1 (by nofun));split at h
  .rename_i hn;cases he:pCh ws (p+1) with
   |none=>rw[he] at h;cases h
   |some z=>
    rw[he] at h
    replace h:(match w z.2 (c+1) with|none=>B|some u=>(w u.2.1 u.2.2).map λv=>(D.tup [.str (hdW ws p),z.1,u.1,v.1],v.2))=U u:=h
    obtain⟨cw,k1,k2⟩:=KJ he;cases hu:w z.2 (c+1) with
    |none=>rw[hu] at h;cases h
    |some v=>
     rw[hu] at h
     replace h:((w v.2.1 v.2.2).map λx=>(D.tup [.str (hdW ws p),z.1,v.1,x.1],x.2))=U u:=h
     obtain⟨tw,t1,t2⟩:=hS _ _ _ hu;cases hv:w v.2.1 v.2.2 with
     |none=>rw[hv] at h;cases h
     |some x=>
      rw[hv] at h;obtain⟨uw,u1,u2⟩:=hS _ _ _ hv;cases h;refine#[_,.inr #[z.1,cw,v.1,tw,x.1,uw,k1,t1,u1,by rw[hn],rfl],?_];rw[c1,hn,k2,t2,u2];simp
  .rename_i n1;split at h
   .rename_i n2;split at h
    .rename_i h3;have c2:=mq h3;cases h;exact#[_,.inl (.inl #[hdW ws p,[.str (hdW ws (p+1))],by rw[n2];nofun,by rw[n2];nofun,n1,(),by simp,(λd hd=>by rw[cm.mp hd];trivial),()]),by rw[c1,c2];rfl]
    .cases h
   .split at h
    .rename_i n3;split at h
     .cases h
     .cases h;exact#[_,.inl (.inr (.inl #[_,by rw[n3],rfl])),by rw[c1,n3,HV];rfl]
    .rename_i n3;split at h
     .rename_i n4;cases hs:pSt ws (p+1) with
      |none=>rw[hs] at h;cases h
      |some z=>
       rw[hs] at h;obtain⟨ew,k1,k2⟩:=XG hs n4;cases h;exact#[ew,.inl k1,k2]
     .rename_i n4;split at h
      .split at h
       .rename_i h3;have c2:=mq h3;cases hs:pEn ws (p+2) with
        |none=>rw[hs] at h;cases h
        |some z=>
         rw[hs] at h;obtain⟨w1,w2,e⟩:=KC hs;cases h;exact#[_,.inl (.inl #[hdW ws p,[.str (hdW ws (p+1)),.int z.1,.int z.2],n3,n4,n1,(),by simp,(λd hd=>by
          simp only[qO,qM,or_false] at hd;rcases hd with rfl|rfl|rfl
          .trivial
          .exact w1
          .exact w2),()]),by rw[c1,c2,e];rfl]
       .cases h
      .split at h
       .split at h
        .rename_i h3;have c2:=mq h3;split at h
         .rename_i h4;have t:=wy .(a) h4;have c3:=iG (nv h4);split at h
          .rename_i h5;have c4:=iG (jS h5 (by nofun));cases h;exact#[_,.inl (.inl #[hdW ws p,[.str (hdW ws (p+1)),.int (bY (hdW ws (p+2)).cps.toList:J),.str (hdW ws (p+3))],n3,n4,n1,(),by simp,(λd hd=>by
            simp only[qO,qM,or_false] at hd;rcases hd with rfl|rfl|rfl
            .trivial
            .exact t.2
            .trivial),()]),by
            rw[c1,c2,c3,c4];show _=hdW ws p::hdW ws (p+1)::tI (bY (hdW ws (p+2)).cps.toList:J)::hdW ws (p+3)::_;rw[t.1];rfl]
          .cases h
         .cases h
        .cases h
       .cases h;exact#[_,.inl (.inl #[hdW ws p,[],n3,n4,n1,(),by simp,(λd hd=>by cases hd),rfl]),by rw[c1];rfl]
 .cases h
theorem JR:∀(n p c:J) (v:Z D×J×J),pRw ws w n p c=U v->∃rq,RsW (RW T) v.1 rq/\ws.drop p=rq++sC::ws.drop (v.2.1+1)
 |n+1,p,c,v,h=>by
  unfold pRw at h;split at h
  .rename_i h1;cases h;exact#[[],(),by rw[vJ h1 (by nofun)];rfl]
  .cases hu:pPt ws w p c with
   |none=>rw[hu] at h;cases h
   |some u=>
    rw[hu] at h
    replace h:(pRw ws w n u.2.1 u.2.2).map (λv=>(u.1::v.1,v.2))=U v:=h
    obtain⟨xw,k1,k2⟩:=Rp hS hu;cases hv:pRw ws w n u.2.1 u.2.2 with
    |none=>rw[hv] at h;cases h
    |some x=>
     rw[hv] at h;obtain⟨rq,r1,r2⟩:=JR n _ _ _ hv;cases h;exact#[_,#[xw,rq,k1,r1,()],by rw[k2,r2,qy]]
end
def K6 {w:J->J->Pz} {u:D×J×J} (hS:HS ws w (TW n)) (h:pTr ws w p c=U u):∃tw,TW (n+1) u.1 tw/\ws.drop p=tw++ws.drop u.2.1:=by
 unfold pTr at h;cases hv:pRw ws w (ws.length+1) p c with
 |none=>rw[hv] at h;cases h
 |some v=>
  rw[hv] at h
  replace h:(pEd ws w (v.2.1+1) v.2.2).map (λe=>(D.tup [.lst v.1,e.1],e.2))=U u:=h
  obtain⟨rq,r1,r2⟩:=JR hS _ _ _ _ hv;cases he:pEd ws w (v.2.1+1) v.2.2 with
  |none=>rw[he] at h;cases h
  |some e=>
   rw[he] at h;obtain⟨ew,e1,e2⟩:=OQ hS he;cases h;exact#[_,#[v.1,e.1,rq,ew,(),r1,e1,()],by rw[r2,e2];simp]
theorem Lx {ws:Z af}:∀n,HS ws (pWn ws n) (TW n)
 |0=>λ_ _ _ h=>by cases h
 |n+1=>λp c u h=>by
  replace h:pWi ws (pWn ws n) p c=U u:=h
  unfold pWi at h;split at h
  .rename_i h1;cases ht:pTr ws (pWn ws n) (p+1) c with
   |none=>rw[ht] at h;cases h
   |some t=>
    rw[ht] at h
    replace h:(if hdW ws t.2.1="]" then U (t.1,t.2.1+1,t.2.2) else B)=U u:=h
    obtain⟨tw,t1,t2⟩:=K6 (Lx n) ht;split at h
    .rename_i h2;cases h;refine#[tw,t1,?_];rw[vJ h1 (by nofun),t2,vJ h2 (by nofun)];simp
    .cases h
  .cases h
def Rf (h:pRd ws=U d):TW 31 d ws:=by
 unfold pRd at h;cases ht:pTr ws (pWn ws 30) 0 0 with
 |none=>rw[ht] at h;cases h
 |some t=>
  rw[ht] at h
  replace h:(if t.2.1=ws.length then U t.1 else B)=U d:=h
  obtain⟨tw,t1,t2⟩:=K6 (Lx 30) ht;split at h
  .rename_i h2;cases h;rw[h2,rQ,dZ,h9] at t2;rw[t2];exact t1
  .cases h
end Law
variable {a' b' k':J} {rows:Z D}
namespace Law
open PySem L2 PySem.StrLaws
def CG (c:D) (ws:Z af):Prop:=
 (∃s i,aG s=ah/\i∈okI/\c=.tup [.str "start",.str s,.int i]/\ws=(["start",s,tI i]:Z af)) \/
 (∃k s t:af,(k=("on":af)\/k=("order":af))/\aG s=ah/\aG t=ah/\c=.tup [.str k,.str s,.str t]/\ws=([k,s,t]:Z af)) \/
 (∃s,aG s=ah/\c=.tup [.str "keep",.str s]/\ws=(["keep",s]:Z af))
def LG (e:D) (ws:Z af):Prop:=
 (∃s,aG s=ah/\e=.tup [.str "window",.str s]/\ws=(["window",s]:Z af)) \/
 (∃ns:Z af,1<=ns.length/\ns.length<=3/\(∀x∈ns,aG x=ah)/\e=.tup [.str "ring",.lst (ns.map D.str)]/\ws=("ring"::ns:Z af)) \/
 (∃(ns:Z af) (a b:J),1<=ns.length/\ns.length<=3/\ns.Nodup/\(∀x∈ns,aG x=ah)/\a<b/\b<20/\e=.tup [.str "stretch",.lst (ns.map D.str),.int a,.int b]/\ws=("stretch"::cY a::cY b::ns:Z af)) \/
 (∃(j:af) (a b:J),aG j=ah/\a<b/\b<20/\e=.tup [.str "together",.str j,.int a,.int b]/\ws=(["together",j,cY a,cY b]:Z af)) \/
 (∃(s x:af) (t:J),aG s=ah/\t<20/\(x="less"\/x="more")/\e=.tup [.str "stock",.str s,.int t,.str x]/\ws=(["stock",s,cY t,x]:Z af)) \/
 (e=.tup [.str "moved"]/\ws=(["moved"]:Z af))
section
variable (T:D->Z af->Prop)
def RG (x:D) (ws:Z af):Prop:=
 (∃s,aG s=ah/\x=.tup [.str "fit",.str s]/\ws=(["fit",s]:Z af)) \/
 (∃y s t:af,(y="low"\/y="high")/\aG s=ah/\aG t=ah/\x=.tup [.str y,.str s,.str t]/\ws=([y,s,t]:Z af)) \/
 (∃c cw b t tw,CG c cw/\(b=0\/b=1)/\T t tw/\x=.tup [.str "not",c,.int b,t]/\ws=(("not":af)::(cw++tI b::brk tw):Z af))
def EG (e:D) (ws:Z af):Prop:=
 LG e ws\/(∃c cw t tw u uw,CG c cw/\T t tw/\T u uw/\e=.tup [.str "both",c,t,u]/\ws=(("both":af)::(cw++brk tw++brk uw):Z af))
end
def TG:J->D->Z af->Prop
 |0,_,_=>False
 |n+1,d,ws=>∃rows e rq ew,d=.tup [.lst rows,e]/\rows.length<=2/\RsW (RG (TG n)) rows rq/\EG (TG n) e ew/\ws=(rq++sC::ew:Z af)
structure Gw (w:af):Prop where
 wk:Wk w
 nb:32∉w.cps.toList
noncomputable def gwB (w:af):aR:=decide (w.length<=200) && w.cps.toList.all λc=>decide (c<128) && decide (c≠32)
def gr {w:af} (h:gwB w=ah):Gw w:=by
 have h1:=oH.mp h;have h2:=ie.mp h1.2;refine#[#[km h1.1,λc hc=>?_],λhc=>?_]
 .exact km (oH.mp (h2 c hc)).1
 .exact ba () (km (oH.mp (h2 32 hc)).2)
structure Ct (ws:Z af) (a b n:J):Prop where
 len:ws.length<=a
 br:eI ws<=b
 nm:ws.countP aG<=n
 ok:∀w∈ws,Gw w
def Ct.nil:Ct [] 0 0 0:=#[qx _,qx _,qx _,λ_ z=>nomatch z]
def Ct.app {u v:Z af} {a b:J} (h:Ct u a b n) (k:Ct v a' b' n'):Ct (u++v) (a+a') (b+b') (n+n'):=#[by rw[qk];exact NI h.len k.len,by rw[ir];exact NI h.br k.br,by rw[yg];exact NI h.nm k.nm,λw hw=>by
 rcases fW.mp hw with hw|hw
 .exact h.ok w hw
 .exact k.ok w hw]
def Ct.le {u:Z af} {a b n a' b' n':J} (h:Ct u a b n) (k1:a<=a') (k2:b<=b') (k3:n<=n'):Ct u a' b' n':=#[qP h.len k1,qP h.br k2,qP h.nm k3,h.ok]
def Ct.one {w:af} (h:Gw w) (hb:w≠"["):Ct [w] 1 0 1:=#[qx _,by unfold eI;rw[NJ,qQ hb];exact qx _,by rw[NJ];split<;>lia,λx hx=>by rw[cm.mp hx];exact h]
def Ct.cons {w:af} {a b:J} (h:Gw w/\w≠"[") (k:Ct ws a b n):Ct (w::ws) (1+a) b (1+n):=by
 have:=(Ct.one h.1 h.2).app k
 rwa [uN] at this
def iO (h:aG x=ah):Gw x/\x≠"[":=by refine#[#[#[by have:=(Ls h).2;lia,λc hc=>by have:=xr.mp (wH h c hc);lia],λhc=>by have:=xr.mp (wH h _ hc);lia],λe=>?_];rw[e] at h;exact ba h (by nofun)
def gC:∀w∈(["start","on","order","keep","low","high","fit","not","both","window","ring","stretch","together","stock","moved","less","more"]:Z af),Gw w/\w≠"[":=λw hw=>by have:=(by nofun:∀w∈(["start","on","order","keep","low","high","fit","not","both","window","ring","stretch","together","stock","moved","less","more"]:Z af),gwB w=ah/\w≠"[") w hw;exact#[gr this.1,this.2]
def sv (h:m<20):Gw (cY m)/\cY m≠"[":=by have:=(by nofun:∀m∈db 20,gwB (cY m)=ah/\cY m≠"[") m (fg.mpr h);exact#[gr this.1,this.2]
def G0 {i:aj} (h:i∈okI):Gw (tI i)/\tI i≠"[":=by have:=(by nofun:∀i∈okI,gwB (tI i)=ah/\tI i≠"[") i h;exact#[gr this.1,this.2]
theorem Ct.names:∀{ns:Z af},(∀x∈ns,aG x=ah)->Ct ns ns.length 0 ns.length
 |[],_=>.nil
 |x::r,h=>(Ct.cons (iO (h x qf)) (Ct.names λy hy=>h y (qg _ hy))).le (by rw[qh];lia) (qx _) (by rw[qh];lia)
def FP {c:D} (h:CG c cw):Ct cw 3 0 3:=by
 rcases h with⟨s,i,hs,hi,rfl,rfl⟩|⟨k,s,t,hk,hs,ht,rfl,rfl⟩|⟨s,hs,rfl,rfl⟩
 .exact .cons (gC _ (by simp)) (.cons (iO hs) (.cons (G0 hi) .nil))
 .have k8:Gw k/\k≠"[":=by rcases hk with rfl|rfl<;>exact gC _ (by simp)
  exact .cons k8 (.cons (iO hs) (.cons (iO ht) .nil))
 .exact(Ct.cons (gC _ (by simp)) (.cons (iO hs) .nil)).le .(b) (qx _) .(b)
def W7 {e:D} (h:LG e ws):Ct ws 6 0 6:=by
 rcases h with⟨s,hs,rfl,rfl⟩|⟨ns,h1,h3,hn,rfl,rfl⟩|⟨ns,a,b,h1,h3,nd,hn,hab,hb,rfl,rfl⟩|⟨j,a,b,hj,hab,hb,rfl,rfl⟩|⟨s,x,t,hs,ht,hx,rfl,rfl⟩|⟨rfl,rfl⟩
 .exact(Ct.cons (gC _ (by simp)) (.cons (iO hs) .nil)).le .(b) (qx _) .(b)
 .exact(Ct.cons (gC _ (by simp)) (.names hn)).le .(b) (qx _) .(b)
 .exact(Ct.cons (gC _ (by simp)) (.cons (sv .(b)) (.cons (sv hb) (.names hn)))).le .(b) (qx _) .(b)
 .exact(Ct.cons (gC _ (by simp)) (.cons (iO hj) (.cons (sv .(b)) (.cons (sv hb) .nil)))).le .(b) (qx _) .(b)
 .have x8:Gw x/\x≠"[":=by rcases hx with rfl|rfl<;>exact gC _ (by simp)
  exact(Ct.cons (gC _ (by simp)) (.cons (iO hs) (.cons (sv ht) (.cons x8 .nil)))).le .(b) (qx _) .(b)
 .exact(Ct.cons (gC _ (by simp)) .nil).le .(b) (qx _) .(b)
def B8 {w:af} (h:gwB w=ah/\w≠"["/\aG w=ao):Ct [w] 1 0 0:=#[qx _,(Ct.one (gr h.1) h.2.1).br,by rw[NJ,h.2.2];exact qx _,(Ct.one (gr h.1) h.2.1).ok]
def Vq:Ct [lB] 1 1 0:=#[qx _,by nofun,by nofun,λx hx=>by rw[cm.mp hx];exact gr (by nofun)]
def Ga {a b:J} (h:Ct tw a b n):Ct (brk tw) (a+2) (b+1) n:=(Vq.app (h.app (B8 (by nofun)))).le .(b) .(b) .(b)
def Bnd (T:D->Z af->Prop) (A ae N ra rb rn ea eb en:J):Prop:=3<=ra/\3<=rn/\6<=ea/\6<=en/\∀t tw,T t tw->Ct (brk tw) A ae N/\5+A<=ra/\ae<=rb/\5+N<=rn/\4+2*A<=ea/\2*ae<=eb/\4+2*N<=en
section
variable {T:D->Z af->Prop} {A ae N ra rb rn ea eb en:J}
def WY (bd:Bnd T A ae N ra rb rn ea eb en) {x:D} (h:RG T x xw):Ct xw ra rb rn:=by
 obtain⟨h3,h3',_,_,hT⟩:=bd;rcases h with⟨s,hs,rfl,rfl⟩|⟨y,s,t,hy,hs,ht,rfl,rfl⟩|⟨cc,cw,b,t,tw,hc,hb,ht,rfl,rfl⟩
 .exact(Ct.cons (gC _ (by simp)) (.cons (iO hs) .nil)).le .(b) .(b) .(b)
 .have y8:Gw y/\y≠"[":=by rcases hy with rfl|rfl<;>exact gC _ (by simp)
  exact(Ct.cons y8 (.cons (iO hs) (.cons (iO ht) .nil))).le .(b) .(b) .(b)
 .have b8:b∈okI:=by rcases hb with rfl|rfl<;>nofun
  obtain⟨t1,t2,t3,t4,_⟩:=hT t tw ht;exact(Ct.cons (gC _ (by simp)) ((FP hc).app (.cons (G0 b8) t1))).le .(b) .(b) .(b)
def Vv (bd:Bnd T A ae N ra rb rn ea eb en) {x:D} (h:EG T x xw):Ct xw ea eb en:=by
 obtain⟨_,_,h6,h6',hT⟩:=bd;rcases h with h|⟨cc,cw,t,tw,u,uw,hc,ht,hu,rfl,rfl⟩
 .exact(W7 h).le h6 (eA _) h6'
 .obtain⟨t1,_,_,_,t5,t6,t7⟩:=hT t tw ht;obtain⟨u1,_⟩:=hT u uw hu;exact(Ct.cons (gC _ (by simp)) (((FP hc).app t1).app u1)).le .(b) .(b) .(b)
theorem Jh (bd:Bnd T A ae N ra rb rn ea eb en):∀{rows:Z D} {rq:Z af},RsW (RG T) rows rq->Ct rq (rows.length*ra) (rows.length*rb) (rows.length*rn)
 |[],_,h=>by cases h;exact Ct.nil.le (eA _) (eA _) (eA _)
 |x::rows,_,h=>by
  obtain⟨w1,w2,h1,h2,rfl⟩:=h;refine((WY bd h1).app (Jh bd h2)).le ?_ ?_ ?_
  all_goals rw[qh,Nat.add_mul,Nat.one_mul];lia
def Bu (bd:Bnd T A ae N ra rb rn ea eb en) {e:D} {rq:Z af} (h2:rows.length<=2) (hr:RsW (RG T) rows rq) (he:EG T e ew):Ct (rq++sC::ew) (2*ra+1+ea) (2*rb+eb) (2*rn+en):=by
 have e1:rq++sC::ew=rq++([sC]++ew):=rfl;have m:=λk=>Nat.mul_le_mul_right k h2;rw[e1];refine((Jh bd hr).app ((B8 (by nofun)).app (Vv bd he))).le ?_ ?_ ?_
 .have:=m ra;lia
 .have:=m rb;lia
 .have:=m rn;lia
end
def tg1 (h:TG 1 d ws):Ct ws 13 0 12:=by obtain⟨rows,e,rq,ew,rfl,h2,hr,he,rfl⟩:=h;exact Bu (ra:=3) (rb:=0) (rn:=3) (ea:=6) (eb:=0) (en:=6) (A:=0) (ae:=0) (N:=0) #[by decide,by decide,by decide,by decide,(λ_ _ z=>z.elim)] h2 hr he
def tg2 (h:TG 2 d ws):Ct ws 75 4 62:=by obtain⟨rows,e,rq,ew,rfl,h2,hr,he,rfl⟩:=h;exact Bu (ra:=20) (rb:=1) (rn:=17) (ea:=34) (eb:=2) (en:=28) (A:=15) (ae:=1) (N:=12) #[by decide,by decide,by decide,by decide,(λ_ _ z=>#[Ga (tg1 z),by decide,by decide,by decide,by decide,by decide,by decide])] h2 hr he
def tg3 (h:TG 3 d ws):Ct ws 323 20 262:=by obtain⟨rows,e,rq,ew,rfl,h2,hr,he,rfl⟩:=h;exact Bu (ra:=82) (rb:=5) (rn:=67) (ea:=158) (eb:=10) (en:=128) (A:=77) (ae:=5) (N:=62) #[by decide,by decide,by decide,by decide,(λ_ _ z=>#[Ga (tg2 z),by decide,by decide,by decide,by decide,by decide,by decide])] h2 hr he
def D5 {w:af} {r:Z af} (h:∀x∈w::r,Gw x):fZ (ag (w::r)) " "=w::r:=by
 have hy:(" ":af).cps.toList=32::[]:=by nofun
 have:=P0 hy (by nofun) w r λq hq=>(h q hq).nb;rw[show uE " " (w::r)=mZ " " (w::r) from glued_eq_join _ _] at this;exact this
def Ez {a b:J} (h:Ct ws a b n) (ha:a<=900) (hn:n<=300):OkW ws:=#[λw hw=>(h.ok w hw).wk,qP h.len ha,λp=>by have h1:(pNs ws p).length=(pNs ws p).countP aG:=(List.countP_eq_length.mpr λx hx=>BV hx).symm;have h2:(pNs ws p).countP aG<=ws.countP aG:=Z6 ((List.takeWhile_sublist _).trans (M0 _ _));have:=h.nm;lia]
def pI (h:∀w∈ws,Gw w):wt ws<=201*ws.length:=by
 induction ws with
 |nil=>exact qx _
 |cons w r ih=>
  have:=ih λx hx=>h x (qg _ hx);have:=(h w qf).wk.len;rw[AJ,qh];lia
def Fn (l:Z af):Prop:=aG (l.headD "")=ao
def QA {l:Z af} :Fn (rB::l):=(by nofun:aG rB=ao)
def Pb:Fn []:=nm0
def XF:∀i∈okI,stB (tI i)=ah/\stV (tI i)=i:=by nofun
def A9 (h:m<20):b5 7 (cY m)=ah/\bY (cY m).cps.toList=m:=(by nofun:∀m∈db 20,b5 7 (cY m)=ah/\bY (cY m).cps.toList=m) m (fg.mpr h)
section
variable {l:Z af}
def cV (h:ws.drop p=x::l):hdW ws p=x:=by unfold hdW;rw[h];rfl
def Ja (h:CG d cw) (hd:ws.drop p=cw++l):pCh ws p=U (d,p+cw.length):=by
 unfold pCh;rcases h with⟨s,i,hs,hi,rfl,rfl⟩|⟨k,s,t,hk,hs,ht,rfl,rfl⟩|⟨s,hs,rfl,rfl⟩
 .have h0:=cV hd;have h1:=cV (dp hd);have h2:=cV (dp (dp hd));have t:=XF i hi;rw[h0,h1,show p+2=p+1+1 from (),h2,qZ (by nofun),qZ hs,xa (by nofun),qZ (),qZ t.1,t.2];rfl
 .have h0:=cV hd;have h1:=cV (dp hd);have h2:=cV (dp (dp hd));rw[h0,h1,show p+2=p+1+1 from (),h2,qZ (by rcases hk with rfl|rfl<;>nofun),qZ hs,xa (by rcases hk with rfl|rfl<;>nofun),xa (by rcases hk with rfl|rfl<;>nofun),qZ ht];rfl
 .have h0:=cV hd;have h1:=cV (dp hd);rw[h0,h1,qZ (by nofun),qZ hs,qZ ()];rfl
def Lu {a b:J} (hd:ws.drop p=cY a::cY b::l) (hab:a<b) (hb:b<20):pEn ws p=U (a,b):=by have h0:=cV hd;have h1:=cV (dp hd);have ta:=A9 (m:=a) .(b);have tb:=A9 hb;unfold pEn;rw[h0,h1,ta.2,tb.2,qZ #[ta.1,tb.1,hab]]
def II (hd:ws.drop p=ns++l) (hn:∀x∈ns,aG x=ah) (hf:Fn l):pNs ws p=ns:=by
 unfold pNs;rw[hd,NF hn];cases l with
 |nil=>rw[List.takeWhile_nil,dZ]
 |cons x r=>
  have:aG x=ao:=hf;rw[NG,xa (by rw[this];exact qu),dZ]
end
section
variable {w:J->J->Pz} {T:D->Z af->Prop}
def Rdc (ws:Z af) (w:J->J->Pz) (T:D->Z af->Prop):Prop:=∀t tw,T t tw->∀p l c,ws.drop p=brk tw++l->∃c',w p c=U (t,p+(brk tw).length,c')
variable (hR:Rdc ws w T)
include hR
def XB {x:D} (h:RG T x xw) {l:Z af} (hd:ws.drop p=xw++l):∃c',pPt ws w p c=U (x,p+xw.length,c'):=by
 unfold pPt;rcases h with⟨s,hs,rfl,rfl⟩|⟨y,s,t,hy,hs,ht,rfl,rfl⟩|⟨cc,cw,b,t,tw,hc,hb,ht,rfl,rfl⟩
 .have h0:=cV hd;have h1:=cV (dp hd);exact#[_,by rw[h0,h1,qZ (by nofun),xa (by nofun),qZ (),qZ hs];rfl]
 .have h0:=cV hd;have h1:=cV (dp hd);have h2:=cV (dp (dp hd));exact#[_,by rw[h0,h1,show p+2=p+1+1 from (),h2,qZ (by rcases hy with rfl|rfl<;>nofun),xa (by rcases hy with rfl|rfl<;>nofun),xa (by rcases hy with rfl|rfl<;>nofun),qZ hs,qZ ht];rfl]
 .have h0:=cV hd;have hd1:ws.drop (p+1)=cw++(tI b::brk tw++l):=by rw[dp hd];simp
  have e1:=Ja hc hd1;have hd2:=dpa hd1;have h2:=cV hd2;obtain⟨c',e2⟩:=hR t tw ht (p+1+cw.length+1) l (c+1) (dp hd2);refine#[c',?_];rw[qZ (by rw[h0];nofun),qZ h0,e1];show(if hdW ws (p+1+cw.length)∈(["0","1"]:Z af) then (w (p+1+cw.length+1) (c+1)).map λu=>(D.tup [.str (hdW ws p),cc,.int (if hdW ws (p+1+cw.length)="0" then 0 else 1),u.1],u.2) else B)=_;rw[h0,h2,e2,qZ (by rcases hb with rfl|rfl<;>nofun)];have eb:(if tI b="0" then (0:aj) else 1)=b:=by rcases hb with rfl|rfl<;>nofun
  rw[eb,show p+(("not":af)::(cw++tI b::brk tw)).length=p+1+cw.length+1+(brk tw).length by simp only[qh,qk];lia];rfl
def WL {x:D} (h:EG T x xw) {l:Z af} (hd:ws.drop p=xw++l) (hf:Fn l):∃c',pEd ws w p c=U (x,p+xw.length,c'):=by
 unfold pEd;rcases h with(⟨s,hs,rfl,rfl⟩|⟨ns,h1,h3,hn,rfl,rfl⟩|⟨ns,a,b,h1,h3,nd,hn,hab,hb,rfl,rfl⟩|⟨j,a,b,hj,hab,hb,rfl,rfl⟩|⟨s,x,t,hs,ht,hx,rfl,rfl⟩|⟨rfl,rfl⟩)|⟨cc,cw,t,tw,u,uw,hc,ht,hu,rfl,rfl⟩
 .have h0:=cV hd;have h1:=cV (dp hd);exact#[_,by rw[h0,h1,qZ (by nofun),xa (by nofun),qZ (),qZ hs];rfl]
 .have h0:=cV hd;have e:=II (dp hd) hn hf;refine#[_,by rw[h0,e,qZ (by nofun),xa (by nofun),xa (by nofun),qZ (),xa (by intro z;rw[z] at h1;exact ba h1 .(a)),qh,oA,xQ 1]]
 .have h0:=cV hd;have e1:=Lu (dp hd) hab hb;have e2:=II (dp (dp (dp hd))) hn hf;have es:pSt ws (p+1)=U (.tup [.str "stretch",.lst (ns.map D.str),.int a,.int b],p+1+2+ns.length):=by unfold pSt;rw[e1];show(if pNs ws (p+1+1+1)=[] then B else if (pNs ws (p+1+1+1)).Nodup then U (D.tup [.str "stretch",.lst ((pNs ws (p+1+1+1)).map D.str),.int a,.int b],p+1+2+(pNs ws (p+1+1+1)).length) else B)=_;rw[e2,xa (by intro z;rw[z] at h1;exact ba h1 .(a)),qZ nd]
  refine#[_,by rw[h0,es,qZ (by nofun),xa (by nofun),xa (by nofun),xa (by nofun),qZ (),show p+(("stretch":af)::cY a::cY b::ns).length=p+1+2+ns.length by simp only[qh];lia];rfl]
 .have h0:=cV hd;have h1:=cV (dp hd);have e1:=Lu (dp (dp hd)) hab hb;exact#[_,by rw[h0,h1,show p+2=p+1+1 from (),e1,qZ (by nofun),xa (by nofun),xa (by nofun),xa (by nofun),xa (by nofun),qZ (),qZ hj];rfl]
 .have h0:=cV hd;have h1:=cV (dp hd);have h2:=cV (dp (dp hd));have h3:=cV (dp (dp (dp hd)));have tt:=A9 ht;exact#[_,by rw[h0,h1,show p+2=p+1+1 from (),show p+3=p+1+1+1 from (),h2,h3,qZ (by nofun),xa (by nofun),xa (by nofun),xa (by nofun),xa (by nofun),xa (by nofun),qZ (),qZ hs,qZ tt.1,qZ (by rcases hx with rfl|rfl<;>nofun),tt.2];rfl]
 .have h0:=cV hd;exact#[_,by rw[h0,qZ (by nofun),xa (by nofun),xa (by nofun),xa (by nofun),xa (by nofun),xa (by nofun),xa (by nofun)];rfl]
 .have h0:=cV hd;have hd1:ws.drop (p+1)=cw++(brk tw++(brk uw++l)):=by rw[dp hd];simp
  have e1:=Ja hc hd1;have hd2:=dpa hd1;obtain⟨c1,e2⟩:=hR t tw ht (p+1+cw.length) _ (c+1) hd2;have hd3:=dpa hd2;obtain⟨c2,e3⟩:=hR u uw hu (p+1+cw.length+(brk tw).length) _ c1 hd3;refine#[c2,?_];rw[qZ (by rw[h0];nofun),qZ h0,e1];show(match w (p+1+cw.length) (c+1) with|none=>B|some u=>(w u.2.1 u.2.2).map λv:D×J×J=>(D.tup [.str (hdW ws p),cc,u.1,v.1],v.2))=_;rw[e2];show((w (p+1+cw.length+(brk tw).length) c1).map λv:D×J×J=>(D.tup [.str (hdW ws p),cc,t,v.1],v.2))=_;rw[e3,h0,show p+(("both":af)::(cw++brk tw++brk uw)).length=p+1+cw.length+(brk tw).length+(brk uw).length by simp only[qh,qk];lia];rfl
theorem HN:∀{rows:Z D} {rq:Z af},RsW (RG T) rows rq->∀(n p c:J) (l:Z af),rows.length<n->ws.drop p=rq++sC::l->∃c',pRw ws w n p c=U (rows,p+rq.length,c')
 |[],_,h,n+1,p,c,l,_,hd=>by
  cases h;unfold pRw;rw[qZ (cV hd)];exact#[c,()]
 |x::rows,_,h,n+1,p,c,l,hn,hd=>by
  obtain⟨w1,w2,h1,h2,rfl⟩:=h;rw[qy] at hd;obtain⟨c1,e1⟩:=XB hR h1 hd;obtain⟨c2,e2⟩:=HN h2 n (p+w1.length) c1 l (by rw[qh] at hn;lia) (dpa hd);have ns:¬hdW ws p=";":=λz=>by unfold pPt at e1;rw[z,xa (by nofun)] at e1;cases e1
  refine#[c2,?_];unfold pRw;rw[xa ns,e1];show(pRw ws w n (p+w1.length) c1).map _=_;rw[e2,qk,<-oA];rfl
end
def EN {w:J->J->Pz} {l:Z af} (hR:Rdc ws w (TG n)) (h:TG (n+1) d tw) (hd:ws.drop p=tw++l) (hf:Fn l) (hw:2<=ws.length):∃c',pTr ws w p c=U (d,p+tw.length,c'):=by
 obtain⟨rows,e,rq,ew,rfl,h2,hr,he,rfl⟩:=h;have hd1:ws.drop p=rq++sC::(ew++l):=by rw[hd];simp
 obtain⟨c1,e1⟩:=HN hR hr (ws.length+1) p c (ew++l) .(b) hd1;obtain⟨c2,e2⟩:=WL hR he (dp (dpa hd1)) hf;refine#[c2,?_];unfold pTr;rw[e1];show(pEd ws w (p+rq.length+1) c1).map (λe=>(D.tup [.lst rows,e.1],e.2))=_;rw[e2,show p+(rq++sC::ew).length=p+rq.length+1+ew.length by rw[qk,qh];lia];rfl
theorem F9 {ws:Z af} (hw:2<=ws.length):∀n m,n<=m->Rdc ws (pWn ws m) (TG n)
 |0,_,_=>λ_ _ h=>h.elim
 |n+1,0,h=>ba h .(b)
 |n+1,m+1,h=>λt tw ht p l c hd=>by
  have hd1:ws.drop (p+1)=tw++(rB::l):=by rw[dp hd];simp
  obtain⟨c1,e1⟩:=EN (F9 hw n m .(b)) ht hd1 QA hw;refine#[c1,?_];show pWi ws (pWn ws m) p c=_;unfold pWi;rw[qZ (cV hd),e1];show(if hdW ws (p+1+tw.length)="]" then U (t,p+1+tw.length+1,c1) else B)=_;rw[qZ (cV (dpa hd1)),P5,show p+1+tw.length+1=p+(tw.length+2) by lia]
def Uk (h:TG (n+1) d ws) (hn:n<=30) (hw:2<=ws.length):pRd ws=U d:=by obtain⟨c,e⟩:=EN (F9 hw n 30 hn) h (by rw[h9,dZ]) Pb hw;unfold pRd;rw[e];show(if 0+ws.length=ws.length then U d else B)=_;rw[qZ (uN _)]
def SL {T:D->Z af->Prop} {e:D} (h:EG T e ew):1<=ew.length:=by
 rcases h with(⟨s,hs,rfl,rfl⟩|⟨ns,h1,h3,hn,rfl,rfl⟩|⟨ns,a,b,h1,h3,nd,hn,hab,hb,rfl,rfl⟩|⟨j,a,b,hj,hab,hb,rfl,rfl⟩|⟨s,x,t,hs,ht,hx,rfl,rfl⟩|⟨rfl,rfl⟩)|⟨cc,cw,t,tw,u,uw,hc,ht,hu,rfl,rfl⟩
 all_goals rw[qh];lia
def EZ (h:TG (n+1) d ws):2<=ws.length:=by obtain⟨rows,e,rq,ew,rfl,h2,hr,he,rfl⟩:=h;have:=SL he;rw[qk,qh];lia
noncomputable def Sm:J->D->Prop
 |0,_=>False
 |n+1,.lst l=>∀x∈l,Sm n x
 |n+1,.tup l=>∀x∈l,Sm n x
 |_+1,.bl _=>True
 |_+1,.int _=>True
 |_+1,.str x=>f8 x=ah
 |_+1,_=>False
def SmP (n:J) (d:D):Prop:=∃p,pdD d=U p/\fu p=ah/\p.depth<=n/\eU p p=ah
theorem uU {n:J}:∀{l:Z D},(∀x∈l,SmP n x)->∃ps,ff l=U ps/\gz ps=ah/\lv ps<=n/\si ps ps=ah
 |[],_=>#[[],by simp[ff],by simp[gz],by simp[lv],by simp[si]]
 |x::r,h=>by obtain⟨p,a1,a2,a3,a4⟩:=h x qf;obtain⟨ps,b1,b2,b3,b4⟩:=uU λy hy=>h y (qg _ hy);refine#[p::ps,by simp[ff,a1,b1],by simp[gz,a2,b2],?_,by simp[si,a4,b4]];simp only[lv];lia
theorem Bq:∀(n:J) (d:D),Sm n d->SmP n d
 |0,_,h=>h.elim
 |n+1,.lst l,h=>by
  obtain⟨ps,b1,b2,b3,b4⟩:=uU λx hx=>Bq n x (h x hx);exact#[.list ps,by simp[pdD,b1],by simp[fu,b2],by simp only[iD];lia,by simp[eU,b4]]
 |n+1,.tup l,h=>by
  obtain⟨ps,b1,b2,b3,b4⟩:=uU λx hx=>Bq n x (h x hx);exact#[.tuple ps,by simp[pdD,b1],by simp[fu,b2],by simp only[iD];lia,by simp[eU,b4]]
 |n+1,.bl b,h=>#[.bool b,by simp[pdD],by simp[fu],by simp[iD],by simp[eU]]
 |n+1,.int i,h=>#[.int i,by simp[pdD],by simp[fu],by simp[iD],by simp[eU]]
 |n+1,.str x,h=>#[.str x,by simp[pdD],by simp only[fu];exact h,by simp[iD],by simp[eU]]
def vA {f:α->D} {xs:Z α} (h:∀x∈xs,Sm n (f x)):Sm (n+1) (.lst (xs.map f)):=λx hx=>by obtain⟨y,hy,rfl⟩:=dH.mp hx;exact h y hy
def Vh {xs:Z af} (h:∀x∈xs,aG x=ah):Sm (n+2) (.lst (xs.map D.str)):=vA λx hx=>(v6 (h x hx):Sm (n+1) (.str x))
def yR {l:Z D} (h:∀x∈l,Sm n x):Sm (n+1) (.tup l):=h
section
variable {bn:Z af} {h:aj}
def zC (hx:aG x=ah):Sm (n+1) (.str x):=v6 hx
def Jj {ws:Z (af×aj)} (hw:∀w∈ws,aG w.1=ah):Sm (n+3) (.lst (ws.map dW)):=vA λp hp=>yR λy hy=>by
 simp only[qO,qM,or_false] at hy;rcases hy with rfl|rfl
 .exact zC (hw p hp)
 .trivial
def XS {j:JobT} (hb:∀y∈sn,aG y=ah) (g:GoodJ sn h j):Sm (n+3) (bC j):=yR λy hy=>by
 simp only[qO,qM,or_false] at hy;rcases hy with rfl|rfl|rfl|rfl|rfl
 .exact zC g.nm
 .trivial
 .trivial
 .trivial
 .exact Vh λx hx=>hb _ (g.ms x hx)
def SN {k:StockT} (hb:∀y∈sn,aG y=ah) (g:GoodK sn k):Sm (n+4) (eQ k):=yR λy hy=>by
 simp only[qO,qM,or_false] at hy;rcases hy with rfl|rfl|rfl|rfl|rfl
 .exact zC g.nm
 .trivial
 .trivial
 .exact Jj λw hw=>hb _ (g.tk.ws w hw).1
 .exact Jj λw hw=>hb _ (g.pt.ws w hw).1
end
def Vr:eE (.list [])=ah:=by simp[eE,fu,gz,iD,lv]
def Km {l:Z D} (h:Sm 64 (.lst l)):neA (.lst l) (.lst [])=U (.bl (!l.isEmpty)):=by
 have e0:neA (.lst l) (.lst [])=p7 (.lst l) (.lst []):=rfl;obtain⟨ps,b1,b2,b3,b4⟩:=uU λx hx=>Bq 63 x (h x hx);have s1:eE (.list ps)=ah:=by unfold eE;rw[show fu (.list ps)=ah by simp[fu,b2],qV (by simp only[iD];lia)];rfl
 have p1:pdD (.lst l)=U (.list ps):=by simp[pdD,b1]
 have p2:pdD (.lst [])=U (.list []):=by simp[pdD,ff]
 have q:eU (.list ps) (.list [])=l.isEmpty:=by
  cases l with
  |nil=>simp[ff] at b1;subst b1;simp[eU,si]
  |cons x r=>
   rw[ff] at b1;obtain⟨p,hp,b1⟩:=oBd b1;obtain⟨qs,hq,rfl⟩:=oMd b1;simp[eU,si]
 rw[e0];unfold p7 eqX;rw[p1,p2,qa,qa,qZ #[s1,Vr],q];rfl
variable {ss:Z StepT} {ls:Z LinkT} {ks:Z StockT}
section
variable {bs:Z BenchT} {js:Z JobT} {us:Z SetT} {h:aj}
abbrev sh0 (bs:Z BenchT) (ss:Z StepT) (js:Z JobT) (us:Z SetT) (ls:Z LinkT) (ks:Z StockT) (h:aj):ak Slot:=oS (c8 bs ss js us ls ks h)
def Bd (S:Small bs ss js us ls ks h) (hf:f Y=U (c8 bs ss js us ls ks h)):kY "Shop" "step_names" Bs f ay Y=U (.lst ((ss.map (·.nm)).map D.str)):=sQ (by nofun) hf ci (PY S.g.sl.2)
def Ji (S:Small bs ss js us ls ks h) (hf:f Y=U (c8 bs ss js us ls ks h)):kY "Shop" "bench_names" Co f ay Y=U (.lst ((bs.map (·.nm)).map D.str)):=sQ (by nofun) hf ci (WI (by have:=S.b;lia))
def wT (hf:f Y=U (c8 bs ss js us ls ks h)):kY "Shop" "last_moment" wq f ay Y=U (.int h):=sQ (by nofun) hf ci Xo
def yj (S:Small bs ss js us ls ks h) (hf:f Y=U (c8 bs ss js us ls ks h)):kY "Shop" "job_rows" wb f ay Y=U (.lst (js.map bC)):=sQ (by nofun) hf ci (NN S.g)
def Fj (S:Small bs ss js us ls ks h) (hf:f Y=U (c8 bs ss js us ls ks h)):kY "Shop" "stock_rows" BR f ay Y=U (.lst (ks.map eQ)):=sQ (by nofun) hf ci (R3 S.g)
def nU {Y:dw} {P:D->Prop} (hs:∀q,(Y q)[i]?=U (U (.pin q))) (hn:∀q,vSh j (Y q)=U (.lst (ns.map D.str))) (h1:1<=ns.length) (h2:ns.length<=100) (k:∀x∈ns,P (.str x)):Ev (r2 ixD (rP (vSh j)) (ck c9 i (aV (rP (cF cu (av (vSh j) ay))) (rP ay)))) Y P:=by refine cR (aC hn (cj hs (λq=>gD (hn q)) .(b) .(b) λn h0 h1=>?_));obtain⟨x,_,e2,e3⟩:=g9 h0 h1;exact#[_,e3,k x e2]
def SF {Y:dw} {P:D->Prop} (hs:∀q,(Y q)[i]?=U (U (.pin q))) (hn:∀q,vSh j (Y q)=U (.lst (ns.map D.str))) (h1:1<=ns.length) (h2:ns.length<=100) (k:∀x∈ns,P (.str x)):Ev (r2 ixD (rP (vSh j)) (rNo (ck c9 i (aV (rP (cF cu (av (vSh j) ay))) (rP ay))))) Y P:=by refine cR (aC hn (wJ (cj hs (λq=>gD (hn q)) .(b) .(b) λn h0 h1=>?_)));obtain⟨x,_,e2,e3⟩:=g9 h0 h1;exact#[_,e3,k x e2]
def io {Y:dw} {w c:aj} {P:aR->Prop} (hn:∀q,vSh j (Y q)=U (.int w)) (k:P (decide (w=c))):Ev (rP (toB (b2 eqD (vSh j) (vC (.int c))))) Y P:=aC (λq=>cz (bh (hn q) () ())) k
def Ea (S:Small bs ss js us ls ks h):EvF JV [c8 bs ss js us ls ks h] λc=>∃cw,CG c cw:=by
 have sl:(ss.map (·.nm)).length=ss.length:=qe _;have bl:(bs.map (·.nm)).length=bs.length:=qe _;have s1:=S.g.sl.1;have s3:=S.s;have b1:=S.g.bl.1;have b2':=S.b;have h2:=S.h;refine iR (cA (aC (λ_=>Bd S ()) (cA (nU .(c) .(c) .(b) .(b) λx hx=>cA (cj .(c) .(c) .(a) .(a) λw w0 w1=>?_)))));have hx':=S.g.snn x hx;refine eB (dv (io .(c) ?_));by_cases e0:w=0
 .rw[qV e0,qZ ()];exact cU (ef (aP (aC .(c) (aP (aC .(c) (aP (cj .(c) (λ_=>bh (wT ()) () ()) .(b) .(b) λn n0 n1=>bT #[by simp,_,rfl,_,.inl #[x,n,hx',Q5 n0 .(b),rfl,rfl]])))))))
 rw[qQ e0,xa .(a)];refine df (eB (dv (io .(c) ?_)));by_cases e1:w=1
 .rw[qV e1,qZ ()];exact cA (aC (λ_=>Ji S ()) (cU (ef (aP (aC .(c) (aP (aC .(c) (aP (nU .(c) .(c) .(b) .(b) λy hy=>bT #[by simp,_,rfl,_,.inr (.inl #[_,x,y,.inl (),hx',S.g.bnn y hy,rfl,rfl])])))))))))
 rw[qQ e1,xa .(a)];refine df (eB (dv (io .(c) ?_)));by_cases e2:w=2
 .rw[qV e2,qZ ()];exact cU (ef (aP (aC .(c) (aP (aC .(c) (aP (nU .(c) .(c) .(b) .(b) λy hy=>bT #[by simp,_,rfl,_,.inr (.inl #[_,x,y,.inr (),hx',S.g.snn y hy,rfl,rfl])])))))))
 rw[qQ e2,xa .(a)];exact df (cU (aC .(c) #[_,(),_,.inr (.inr #[x,hx',(),()])]))
def Kl (S:Small bs ss js us ls ks h):EvF HP [c8 bs ss js us ls ks h] λd=>∃a b:J,d=.tup [.int a,.int b]/\a<b/\b<20:=by have h2:=S.h;refine iR (cA (cj .(c) (λ_=>wT ()) .(b) .(b) λn n0 n1=>cU (ef (aP (aC .(c) (aP (cR (aC .(c) (cj .(c) (λ_=>bh (wT ()) () ()) .(b) .(b) λk k0 k1=>#[.int (n+1+k),(),bT #[by simp,_,rfl,n.toNat,(n+1+k).toNat,?_,by lia,by lia]])))))))));rw[NK n0,NK .(b)]
end
def D2 {f:(FR aj)} {g:(FRs aj)} {Y:dw} {R:Fl->dw->Prop} (h:Ev f Y λd=>∃ρ1:dw,(∀q,gg d (Y q)=U (ρ1 q))/\Es g ρ1 R):Es (bI (zy gg f) g) Y R:=λr=>by obtain⟨d,r1,h1,ρ1,h2,h3⟩:=h r;obtain⟨fl,KK,r2,h4,h5⟩:=h3 r1;exact#[fl,KK,r2,λq=>by unfold bI zy qB;rw[h1];show ob ((gg d (Y q)).map _) _=_;rw[h2];exact h4 q,h5]
def LB {f g:FT} (h:f Y=U ah):gB f g Y=g Y:=by unfold gB;rw[h];rfl
def Fd {f g:FT} (h:f Y=U ao):gB f g Y=U ao:=by unfold gB;rw[h];rfl
section
variable {bs:Z BenchT} {js:Z JobT} {us:Z SetT} {h:aj}
abbrev lfE (bs:Z BenchT) (ss:Z StepT) (js:Z JobT) (us:Z SetT) (ls:Z LinkT) (ks:Z StockT) (h w:aj) (a b c d:ak Slot):dw:=λq=>[U (.pin q),sh0 bs ss js us ls ks h,oS (.lst ((ss.map (·.nm)).map D.str)),oS (.int w),a,b,c,d]
def Q9 (S:Small bs ss js us ls ks h) {w:aj} :Ev (rM (nW (rM (aV (r2 bZ (rP (vC (.int 1))) (ck c9 0 (aV (rP (vC (.int 3))) (rP ay)))) (rP ay)) iw) (bp 0) (rT ah) (r2 ixD (rP (vSh 1)) (rNo (ck c9 2 (aV (rP (cF cu (av (vSh 1) ay))) (rP ay))))) [B,U 2,U 0]) yD) (lfE bs ss js us ls ks h w B B B B) λd=>∃ns:Z af,d=.lst (ns.map D.str)/\1<=ns.length/\ns.length<=3/\∀x∈ns,aG x=ah:=by
 have sl:(ss.map (·.nm)).length=ss.length:=qe _;have s1:=S.g.sl.1;have s3:=S.s;refine BB (zQ (u9 (aP (cR (aC .(c) (cj .(c) .(c) .(a) .(a) λn h0 h1=>#[.int (1+n),(),bT #[1+n,(),by lia,by lia,by rw[qe,qX];lia,λi l=>∃ns:Z af,l=ns.map D.str/\ns.length=i/\∀x∈ns,aG x=ah,#[[],(),(),λ_ z=>nomatch z],λi x l hx hS=>?_,λl hl=>?_]]))))) (λ_ _=>rfl) λ_ _ _=>rfl)
 .obtain⟨ns,rfl,hl,hn⟩:=hS;refine Ha ?_;rw[qZ ()];refine SF .(c) .(c) .(b) .(b) λy hy=>#[ns++[y],by rw[gA];rfl,by rw[qk,qY,hl],λz hz=>?_];rcases fW.mp hz with hz|hz
  .exact hn z hz
  .rw[cm.mp hz];exact S.g.snn y hy
 .obtain⟨ns,rfl,hl,hn⟩:=hl;rw[qe,qX] at hl;exact#[ns,(),by lia,by lia,hn]
def XZ (S:Small bs ss js us ls ks h):EvF CA [c8 bs ss js us ls ks h] λe=>∃ew,LG e ew:=by
 have sl:(ss.map (·.nm)).length=ss.length:=qe _;have bl:(bs.map (·.nm)).length=bs.length:=qe _;have s1:=S.g.sl.1;have s3:=S.s;have b1:=S.g.bl.1;have b2':=S.b;have h2:=S.h;have jl:=S.g.jl;refine iR (cA (aC (λ_=>Bd S ()) (cA (cj .(c) .(c) .(a) .(a) λw w0 w1=>?_))));refine eB (dv (io .(c) ?_));by_cases e1:w=1
 .rw[qV e1,qZ ()];refine cU (ef (aP (aC .(c) (aP ((Q9 S).imp ?_)))));rintro _ ⟨ns,rfl,n1,n3,hn⟩;exact bT #[by simp,_,rfl,_,.inr (.inl #[ns,n1,n3,hn,rfl,rfl])]
 rw[qQ e1,xa .(a)];refine df (eB (dv (io .(c) ?_)));by_cases e2:w=2
 .rw[qV e2,qZ ()];refine D2 (fG .(c) (aP (aC .(c) (bT ((Kl S).imp ?_)))));rintro _ ⟨a,b,rfl,ha,hb⟩;refine#[lfE bs ss js us ls ks h w (oS (.int a)) (oS (.int b)) B B,λ_=>rfl,?_];refine cA (aC (λ_=>Ji S ()) (cU (ef (aP (aC .(c) (aP (cR (aC .(c) (cj .(c) (λ_=>gD ()) .(b) .(b) λn n0 n1=>#[.lst (((bs.map (·.nm)).drop n.toNat).map D.str),by rw[uP];exact Lv n0,aP (aC .(c) (aP (aC .(c) (bT #[by simp,_,rfl,_,.inr (.inr (.inl #[_,a,b,?_,?_,S.g.bn.sublist (M0 _ _),λx hx=>S.g.bnn x (oB hx),ha,hb,rfl,rfl]))]))))])))))))))
  .rw[ee];lia
  .rw[ee];lia
 rw[qQ e2,xa .(a)];have nj:=Km (vA λx hx=>XS S.g.snn (S.g.j x hx));have nk:=Km (vA λx hx=>SN S.g.snn (S.g.k x hx));have an:∀{c:aj} {f:FE} {l:Z D} (q:ar),f (lfE bs ss js us ls ks h w B B B B q)=U (.lst l)->neA (.lst l) (.lst [])=U (.bl (!l.isEmpty))->gB (toB (b2 eqD (vSh 3) (vC (.int c)))) (toB (b2 neA f (bE (szF ay)))) (lfE bs ss js us ls ks h w B B B B q)=U (decide (w=c) && !l.isEmpty):=λ{c f l} q hf hn=>by
  have h1:toB (b2 eqD (vSh 3) (vC (.int c))) (lfE bs ss js us ls ks h w B B B B q)=U (decide (w=c)):=cz (bh () () ());by_cases e:w=c
  .rw[qV e] at h1 ⊢;rw[LB h1];exact cz (bh hf () hn)
  .rw[qQ e] at h1 ⊢;exact Fd h1
 refine df (eB (dv (aC (λq=>an q (yj S ()) nj) ?_)));cases hj:(decide (w=3) && !(js.map bC).isEmpty) with
 |true=>
  have jn:1<=js.length:=by
   cases js with
   |nil=>simp at hj
   |cons j r=>simp
  refine D2 (fG .(c) (aP (aC .(c) (bT ((Kl S).imp ?_)))));rintro _ ⟨a,b,rfl,ha,hb⟩;refine#[lfE bs ss js us ls ks h w (oS (.int a)) (oS (.int b)) B B,λ_=>rfl,?_];have ljs:∀q,cF cu (av (kY "Shop" "job_rows" wb (vSh 1) ay) ay) (lfE bs ss js us ls ks h w (oS (.int a)) (oS (.int b)) B B q)=U (.int js.length):=λq=>cE (bL (yj S ()) ci) (by show U (D.int ((js.map bC).length:J))=_;rw[qe]);refine cU (ef (aP (aC .(c) (aP (cR (cR (aC (λ_=>yj S ()) (cj .(c) ljs .(b) .(b) λn n0 n1=>?_))))))));obtain⟨j,_,q2,q3⟩:=g9 n0 n1;refine#[_,q3,aC .(c) #[.str j.nm,eV,aP (aC .(c) (aP (aC .(c) (bT #[by simp,_,rfl,_,.inr (.inr (.inr (.inl #[j.nm,a,b,(S.g.j j q2).nm,ha,hb,rfl,rfl])))]))))]]
 |false=>
  refine df (eB (dv (aC (λq=>an q (Fj S ()) nk) ?_)));cases hk:(decide (w=4) && !(ks.map eQ).isEmpty) with
  |true=>
   obtain⟨k,kr,hks⟩:∃k kr,ks=k::kr:=by
    cases ks with
    |nil=>simp at hk
    |cons k r=>exact#[k,r,()]
   have hkn:=(S.g.k k (by rw[hks];exact qf)).nm;refine cA (cj .(c) (λ_=>bh (wT ()) () ()) .(b) .(b) λn n0 n1=>cU (ef (aP (aC .(c) (aP (aC (λq=>bh (bh (Fj S ()) () (by rw[hks];exact ixL _ 0)) () eV) (aP (aC .(c) (aP (cR (aC .(c) (cj .(c) .(c) .(a) .(a) λm m0 m1=>?_))))))))))));have fin:∀x:af,x="less"\/x="more"->∃ew,LG (.tup [.str "stock",.str k.nm,.int n,.str x]) ew:=λx hx=>#[_,.inr (.inr (.inr (.inr (.inl #[k.nm,x,n.toNat,hkn,by lia,hx,by rw[NK n0],rfl]))))];rcases AL m0 m1 with rfl|rfl
   .exact#[.str "less",(),bT #[by simp,_,rfl,fin _ (.inl ())]]
   .exact#[.str "more",(),bT #[by simp,_,rfl,fin _ (.inr ())]]
  |false=>
   refine df (eB (dv (io .(c) ?_)));by_cases e5:w=5
   .rw[qV e5,qZ ()];exact cU (aC .(c) #[_,(),_,.inr (.inr (.inr (.inr (.inr #[(),()]))))])
   rw[qQ e5,xa .(a)];refine df (cU (ef (aP (aC .(c) (aP (nU .(c) .(c) .(b) .(b) λy hy=>bT #[by simp,_,rfl,_,.inl #[y,S.g.snn y hy,rfl,rfl]]))))))
end
def Tr (n:J) (d:D):Prop:=∃ws,TG n d ws
def tQ (n:J) (x:D):Prop:=∃xw,RG (TG n) x xw
theorem FW {n:J}:∀{rows:Z D},(∀x∈rows,tQ n x)->∃rq,RsW (RG (TG n)) rows rq
 |[],_=>#[[],()]
 |x::rows,h=>by obtain⟨xw,h1⟩:=h x qf;obtain⟨rq,h3⟩:=FW λy hy=>h y (qg _ hy);exact#[_,xw,rq,h1,h3,()]
def Kg {e:D} (h2:rows.length<=2) (hr:∀x∈rows,tQ n x) (he:EG (TG n) e ew):Tr (n+1) (.tup [.lst rows,e]):=by obtain⟨rq,h3⟩:=FW hr;exact#[_,rows,e,rq,ew,(),h2,h3,he,()]
section
variable {bs:Z BenchT} {js:Z JobT} {us:Z SetT} {h:aj}
def Qa (S:Small bs ss js us ls ks h) {T:FQ'} (hT:0<n->EvF T [c8 bs ss js us ls ks h,.int ((n:aj)-1)] (Tr n)):EvF (Im T) [c8 bs ss js us ls ks h,.int n] (tQ n):=by
 have sl:(ss.map (·.nm)).length=ss.length:=qe _;have s1:=S.g.sl.1;have s3:=S.s;refine iR (cA (aC (λ_=>Bd S ()) (cA (cj .(c) .(c) .(a) .(a) λw w0 w1=>?_))));have at3:∀q,gB (toB (b2 eqD (vSh 4) (vC (.int 3)))) (toB (b2 gtD (vSh 2) (vC (.int 0)))) [U (.pin q),sh0 bs ss js us ls ks h,oS (.int n),oS (.lst ((ss.map (·.nm)).map D.str)),oS (.int w),B,B]=U (decide (w=3) && decide ((n:aj) > 0)):=λq=>by
  by_cases e:w=3
  .rw[LB ((cz (bh () () ())).trans (by rw[qV e])),qV e];exact cz (bh () () ())
  .rw[Fd ((cz (bh () () ())).trans (by rw[qQ e])),qQ e];rfl
 refine eB (dv (aC at3 ?_));cases hw:(decide (w=3) && decide ((n:aj) > 0)) with
 |true=>
  have hn:0<n:=by simp at hw;lia
  refine cA (fG .(c) (aP (aC .(c) (bT ((Ea S).imp λc hc=>?_)))));obtain⟨cw,hc⟩:=hc;refine cU (ef (aP (aC .(c) (aP (aC .(c) (aP (cj .(c) .(c) .(a) .(a) λv v0 v1=>aP (fG .(c) (aP (aC .(c) (aP (aC .(c) (bT ((hT hn).imp λt ht=>bT #[by simp,_,rfl,?_]))))))))))))));obtain⟨tw,h1⟩:=ht;exact#[_,.inr (.inr #[c,cw,v,t,tw,hc,by lia,h1,(),()])]
 |false=>
  refine df (eB (dv (io .(c) ?_)));by_cases e2:w=2
  .rw[qV e2,qZ ()];exact cU (ef (aP (aC .(c) (aP (nU .(c) .(c) .(b) .(b) λy hy=>bT #[by simp,_,rfl,_,.inl #[y,S.g.snn y hy,rfl,rfl]])))))
  rw[qQ e2,xa .(a)];refine df (cA (nU .(c) .(c) .(b) .(b) λx hx=>?_));have hk:∃k:af,(k="low"\/k="high")/\∀(a b:ak Slot) q,b2 ixD (bE (szF (av (vC (.str "low")) (av (vC (.str "high")) ay)))) (b2 nX (vSh 4) (vC (.int 2))) [U (.pin q),sh0 bs ss js us ls ks h,oS (.int n),oS (.lst ((ss.map (·.nm)).map D.str)),oS (.int w),a,b]=U (.str k):=by
   rcases EM w0 w1 with rfl|rfl|rfl|rfl
   .exact#["low",.inl (),λa b q=>rfl]
   .exact#["high",.inr (),λa b q=>rfl]
   .exact ba () e2
   .exact#["high",.inr (),λa b q=>rfl]
  obtain⟨k,k1,k3⟩:=hk;exact cU (ef (aP (aC (k3 _ _) (aP (aC .(c) (aP (nU .(c) .(c) .(b) .(b) λy hy=>bT #[by simp,_,rfl,_,.inr (.inl #[k,x,y,k1,S.g.snn x hx,S.g.snn y hy,rfl,rfl])])))))))
def WT {c t u:D} (h2:rows.length<=2) (hr:∀x∈rows,tQ n x) (hc:∃cw,CG c cw) (ht:Tr n t) (hu:Tr n u):Tr (n+1) (.tup [.lst rows,.tup [.str "both",c,t,u]]):=by obtain⟨cw,hc⟩:=hc;obtain⟨tw,t1⟩:=ht;obtain⟨uw,u1⟩:=hu;exact Kg h2 hr (.inr #[c,cw,t,tw,u,uw,hc,t1,u1,(),()])
theorem Fk (S:Small bs ss js us ls ks h):∀(n k:J),n+1<=k->EvF (pE k) [c8 bs ss js us ls ks h,.int n] (Tr (n+1))
 |n,0,hk=>ba hk .(b)
 |n,k+1,hk=>by
  have hT:0<n->EvF (pE k) [c8 bs ss js us ls ks h,.int ((n:aj)-1)] (Tr n):=λhn=>by
   obtain⟨m,rfl⟩:∃m,n=m+1:=#[n-1,by lia];have:=Fk S m k .(b)
   rwa [show(((m+1:J):aj)-1)=(m:aj) by lia]
  show EvF (zR (pE k)) _ _;refine iR (wV (zQ (u9 (aP (cj .(c) .(c) .(a) .(a) λm h0 h1=>bT #[m,(),by lia,by lia,by rw[qe,qX];lia,λi l=>l.length=i/\∀x∈l,tQ n x,#[(),λ_ z=>nomatch z],λi x l hx hS=>?_,λl hl=>?_]))) (λ_ _=>rfl) λ_ _ _=>rfl))
  .refine Ha ?_;rw[qZ ()];refine wJ <| fG .(c) (aP (aC .(c) (aP (aC .(c) (bT ((Qa S hT).imp λy hy=>#[by rw[qk,qY,hS.1],λz hz=>?_]))))))
   rcases fW.mp hz with hz|hz
   .exact hS.2 z hz
   .rw[cm.mp hz];exact hy
  .obtain⟨hl1,hl2⟩:=hl;rw[qe,qX] at hl1;have lf:Es (eO (rM (aV (rP (vSh 3)) (aV (ck CA 0 (aV (rP (vSh 1)) (rP ay))) (rP ay))) kW)) (λq=>[U (.pin q),sh0 bs ss js us ls ks h,oS (.int n),oS (.lst l),B,B]) λfl _=>∃d,fl=.rt d/\Tr (n+1) d:=
    cU (ef (aP (aC .(c) (aP (fG .(c) (aP (aC .(c) (bT ((XZ S).imp λe he=>bT #[by simp,_,rfl,Kg .(b) hl2 (.inl he.choose_spec)])))))))))
   refine eB (dv (wZ (aC .(c) ?_)));by_cases hn:(n:aj) > 0
   .rw[qV hn,qZ ()];refine ku .(c) .(c) .(a) .(a) λb=>?_;cases b with
    |false=>exact df lf
    |true=>
     refine cA (fG .(c) (aP (aC .(c) (bT ((Ea S).imp λc hc=>?_)))));refine cA (fG .(c) (aP (aC .(c) (aP (aC .(c) (bT ((hT .(b)).imp λt ht=>?_)))))));exact cU (ef (aP (aC .(c) (aP (ef (aP (aC .(c) (aP (aC .(c) (aP (aC .(c) (aP (fG .(c) (aP (aC .(c) (aP (aC .(c) (bT ((hT .(b)).imp λu hu=>bT #[by simp,bT #[by simp,_,rfl,WT .(b) hl2 hc ht hu]])))))))))))))))))))
   .rw[qQ hn,xa .(a)];exact df lf
end
def Cm {t:D} (h:gU [t]=U B):fH [t,.bl ao]=U (.bl ah):=by unfold fH sS;show(gU [t]).bind _=_;rw[h];rfl
def HI {a b:J} (h:Ct ws a b n) (ha:a<=900) (hb:b<30) (hn:n<=300) (hne:ws≠[]):gU [.str (ag ws)]=U (pRd ws):=by
 have hw:=pI h.ok;have hl:=h.len;refine F8 (qP (wo _) .(b)) ?_ (Ez h ha hn) ?_
 .obtain⟨w,r,rfl⟩:∃w r,ws=w::r:=by
   cases ws with
   |nil=>exact ba () hne
   |cons w r=>exact#[w,r,()]
  exact D5 h.ok
 .show eI (ws.drop 0)<30;rw[h9];exact NL h.br hb
def IB {a b:J} (h:Ct ws a b n) (ha:a<=900) (hb:b<30) (hp:pRd ws=U d):kK [d]=U (.str (ag ws)):=by have hw:=pI h.ok;have hl:=h.len;exact Sx (Rf hp) (NL h.br hb) .(b) .(b)
def KD (h:gU [.str x]=U (U d)) (h2:kK [d]=U (.str x)):fH [.str x,.bl ah]=U (.bl ah):=by unfold fH sS;show(gU [.str x]).bind _=_;rw[h,qa];show(if ah=ah then (kK [d]).bind _ else _)=_;rw[qZ (),h2];show U (D.bl (decide (x=x)))=_;rw[qV ()]
def N0 {a b:J} (h:Ct ws a b n) (ha:a<=900) (hb:b<30) (hn:n<=300) (hne:ws≠[]):fH [.str (ag ws),.bl (decide (lT ws (lWn ws 30) 0=U ws.length))]=U (.bl ah):=by
 have rd:=HI h ha hb hn hne;rw[<-Rk];cases hp:pRd ws with
 |none=>rw[hp] at rd;exact Cm rd
 |some d=>rw[hp] at rd;exact KD rd (IB h ha hb hp)
def SO (h:TG 3 d ws):kK [d]=U (.str (ag ws))/\fH [.str (ag ws),.bl ah]=U (.bl ah):=by have c:=tg3 h;have h2:=EZ h;have hp:=Uk h .(a) h2;have s:=IB c .(a) .(a) hp;have rd:=HI c .(a) .(a) .(a) (λz=>by rw[z] at h2;exact ba h2 .(a));rw[hp] at rd;exact#[s,KD rd s]
def RY {a b:J} (h:Ct ws a b n) (ha:a<=900) (hb:b<30) (hn:n<=300) (hi:vSh i Y=U (.lst (ws.map D.str))):b2 eqD (cF oO (av (vSh i) (av (vC (.int 0)) ay))) (cF cu (av (vSh i) ay)) Y=U (.bl (decide (lT ws (lWn ws 30) 0=U ws.length))):=by
 have t:=VG (ws:=ws) (Ez h ha hn) (by show eI (ws.drop 0)<30;rw[h9];exact NL h.br hb);refine bh (cE (bL hi (bL () ci)) t) (gD hi) ?_;cases lT ws (lWn ws 30) 0 with
 |none=>rfl
 |some k=>
  show U (D.bl (decide ((k:aj)=(ws.length:aj))))=_
  congr 2
  exact uR.mpr #[λz=>by rw[Z8.mp z],λz=>by rw[qK z]]
noncomputable def pj:Z af:=MP uA [""," ",";","moved","; "," ; moved","; moved ",";  moved","; Moved","; moved moved","low a ; moved","low a b c ; moved","low A b ; moved","fit abcdefghi ; moved","; window","; ring","fit ; moved","; window a b","; stretch 0 1","; stretch 1 1 a","; stretch 2 1 a","; stretch 0 1 a a","a ; moved","; stretch -1 1 a","; stretch 00 1 a","; stretch 0 10000000 a","; stretch 0 a","; together a 0","; together a 3 3","; together a 0 1 1","; stock a 0 least","; stock a -0 less","; stock a 1","not keep a 2 [ ; moved ] ; moved","not keep a [ ; moved ] ; moved","; moved ]","not fit a 0 [ ; moved ] ; moved","not keep a 0 [ ; moved ; moved","[ ; moved ]","not start a 01 0 [ ; moved ] ; moved","not start a -0 0 [ ; moved ] ; moved","; both keep a [ ; moved ]","; not keep a","fit a\n; moved","; both keep a ; moved ; moved","; both keep a [ ; moved ] [ ; moved","; both [ ; moved ] [ ; moved ]","not keep a 0 ( ; moved ) ; moved","not start a 11111111111111111111111111111111111111111 0 [ ; moved ] ; moved"]
def Ly (x:af):aR:=decide (x.length<=1000) && (fZ x " ").all gwB && decide ((fZ x " ").length<=300) && decide (eI (fZ x " ")<30) && (pRd (fZ x " ")).isNone
def Uw:pj.all Ly=ah:=by nofun
def Xd (h:x∈pj):fH [.str x,.bl ao]=U (.bl ah):=by
 have:=ie.mp Uw x h;unfold Ly at this;simp only[eM,rR] at this;obtain⟨⟨⟨⟨h1,h2⟩,h3⟩,h4⟩,h5⟩:=this;have ok:OkW (fZ x " "):=#[λw hw=>(gr (ie.mp h2 w hw)).wk,by lia,λp=>qP Hl h3];have rd:=F8 (x:=x) .(b) () ok (by show eI (List.drop 0 _)<30;rw[h9];exact h4);cases hp:pRd (fZ x " ") with
 |none=>rw[hp] at rd;exact Cm rd
 |some d=>rw[hp] at h5;cases h5
def RL (n:aj) (E:FS):(bu (c6 1 (bE (szF (av (vC (.str "")) (av (vC (.str " ")) (av (vC (.str ";")) (av (vC (.str "moved")) (av (vC (.str "; ")) (av (vC (.str " ; moved")) (av (vC (.str "; moved ")) (av (vC (.str ";  moved")) (av (vC (.str "; Moved")) (av (vC (.str "; moved moved")) ay))))))))))))) (bu (c6 1 (b2 bZ (vSh 1) (bE (szF (av (vC (.str "low a ; moved")) (av (vC (.str "low a b c ; moved")) (av (vC (.str "low A b ; moved")) (av (vC (.str "fit abcdefghi ; moved")) ay)))))))) (bu (c6 1 (b2 bZ (vSh 1) (bE (szF (av (vC (.str "; window")) (av (vC (.str "; ring")) (av (vC (.str "fit ; moved")) (av (vC (.str "; window a b")) (av (vC (.str "; stretch 0 1")) (av (vC (.str "; stretch 1 1 a")) ay)))))))))) (bu (c6 1 (b2 bZ (vSh 1) (bE (szF (av (vC (.str "; stretch 2 1 a")) (av (vC (.str "; stretch 0 1 a a")) (av (vC (.str "a ; moved")) (av (vC (.str "; stretch -1 1 a")) (av (vC (.str "; stretch 00 1 a")) ay))))))))) (bu (c6 1 (b2 bZ (vSh 1) (bE (szF (av (vC (.str "; stretch 0 10000000 a")) (av (vC (.str "; stretch 0 a")) (av (vC (.str "; together a 0")) (av (vC (.str "; together a 3 3")) ay)))))))) (bu (c6 1 (b2 bZ (vSh 1) (bE (szF (av (vC (.str "; together a 0 1 1")) (av (vC (.str "; stock a 0 least")) (av (vC (.str "; stock a -0 less")) (av (vC (.str "; stock a 1")) ay)))))))) (bu (c6 1 (b2 bZ (vSh 1) (bE (szF (av (vC (.str "not keep a 2 [ ; moved ] ; moved")) (av (vC (.str "not keep a [ ; moved ] ; moved")) (av (vC (.str "; moved ]")) ay))))))) (bu (c6 1 (b2 bZ (vSh 1) (bE (szF (av (vC (.str "not fit a 0 [ ; moved ] ; moved")) (av (vC (.str "not keep a 0 [ ; moved ; moved")) (av (vC (.str "[ ; moved ]")) ay))))))) (bu (c6 1 (b2 bZ (vSh 1) (bE (szF (av (vC (.str "not start a 01 0 [ ; moved ] ; moved")) (av (vC (.str "not start a -0 0 [ ; moved ] ; moved")) ay)))))) (bu (c6 1 (b2 bZ (vSh 1) (bE (szF (av (vC (.str "; both keep a [ ; moved ]")) (av (vC (.str "; not keep a")) (av (vC (.str "fit a\n; moved")) (av (vC (.str "; both keep a ; moved ; moved")) ay)))))))) (bu (c6 1 (b2 bZ (vSh 1) (bE (szF (av (vC (.str "; both keep a [ ; moved ] [ ; moved")) (av (vC (.str "; both [ ; moved ] [ ; moved ]")) ay)))))) (bu (c6 1 (b2 bZ (vSh 1) (bE (szF (av (vC (.str "not keep a 0 ( ; moved ) ; moved")) (av (b2 bZ (b2 bZ (vC (.str "not start a ")) (b2 lK (vC (.str "1")) (vC (.int 41)))) (vC (.str " 0 [ ; moved ] ; moved"))) ay)))))) E)))))))))))) [oS (.int n),B]=E [oS (.int n),oS (.lst (pj.map D.str))]:=by kernel_rfl
def B' {a b:aj} (h:0<b):nX (.int a) (.int b)=U (.int (a%b)):=qZ h
def JW:pj.length=49:=by nofun
def XO {n:aj} (h:0<=n):∃x∈pj,sH [.int n]=U (.str x):=by have h0:0<=n%49:=xU _ .(a);have h1:n%49<49:=xV _ .(a);obtain⟨x,_,e2,e3⟩:=g9 (f:=D.str) (xs:=pj) h0 (by rw[JW];exact h1);refine#[x,e2,?_];unfold sH;refine dR [oS (.int n),B] () ((RL n _).trans (cS (bh () (bh (y:=.int 49) () ((gD ()).trans (by rw[JW];rfl)) (B' .(a))) e3)))
def pD (F:ar->D->aj->ak (ak (D×aj))) (x:D) (P:D->Prop):Prop:=∀r,∃d r',(∀q,F q x r=U (U (d,r')))/\P d
section
variable {Y:dw} {P:D->Prop}
def Oi {g:FRs aj} {x:D} (h:Es g (λq=>oS x::U (.pin q)::bB n B) λfl _=>∃d,fl=.rt d/\P d):pD (uf n g) x P:=λr=>by obtain⟨fl,KK,r',h1,d,rfl,h2⟩:=h r;exact#[d,r',λq=>by unfold uf flR;rw[h1];rfl,h2]
def WK {F:ar->D->aj->ak (ak (D×aj))} {x:D} (hs:∀q,(Y q)[i]?=U (U (.pin q))) (hx:∀q,fe (Y q)=U x) (h:pD F x P):Ev (pf F i fe) Y P:=nG (aC hx λr=>by
 obtain⟨d,r2,h3,h4⟩:=h r;exact#[d,r2,λq=>by show(match (Y q)[i]? with|some (U (.pin q))=>F q x r|_=>B)=_;rw[hs];exact h3 q,h4])
def K0 {g:D->FQ} {fo:FR aj} {fr:FRa aj} (h:Ev fo Y λx=>∃s,x=.str s/\Ev fr Y λl=>∃z,g x l=U z/\P z):Ev (rBm g fo fr) Y P:=nG (h.imp λ_ #[_,e,k]=>by subst e;exact fT k)
end
def Xy (hl:wt ys<=16000000):kJ (.str " ") [.lst (ys.map D.str)]=U (.str (ag ys)):=sD (f:=vC (.lst (ys.map D.str))) (Y:=[]) () hl
def ER (h:∀x∈ws,Gw x) (hne:ws≠[]) (hl:ws.length<=900):jD (.str (ag ws)) [.str " "]=U (.lst (ws.map D.str)):=by
 have hw:=pI h;have:jD (.str (ag ws)) [.str " "]=U (.lst ((fZ (ag ws) " ").map D.str)):=qZ #[by decide,qP (wo _) .(b)];rw[this];cases ws with
 |nil=>exact ba () hne
 |cons w r=>rw[D5 h]
def Ct.sub {u v:Z af} {a b n:J} (h:Ct u a b n) (s:v.Sublist u):Ct v a b n:=#[qP s.length_le h.len,qP s.countP_le h.br,qP s.countP_le h.nm,λw hw=>h.ok w (s.subset hw)]
def Ct.any (h:Gw x):Ct [x] 1 1 1:=#[qx _,xaf,xaf,λw hw=>by rw[cm.mp hw];exact h]
def E9 (ws:Z af) {k:J} (h:k<=k'):(ws.take k++ws.drop k').Sublist ws:=by
 have:(ws.take k++ws.drop k').Sublist (ws.take k++ws.drop k):=xbg (Z7 _ h) _
 rwa [MZ] at this
def Ct.ins {a b:J} (h:Ct ws a b n) (hx:Gw x) {k:J} (hk:k<=k'):Ct (ws.take k++[x]++ws.drop k') (a+1) (b+1) (n+1):=by
 have s:=h.sub (E9 ws hk);have y:=Ct.any hx;have e1:=s.len;have e2:=s.br;have e3:=s.nm;have y2:=y.br;have y3:=y.nm;rw[qk] at e1;rw[ir] at e2;rw[yg] at e3;refine#[?_,?_,?_,λw hw=>?_]
 .rw[qk,qk,qY];lia
 .rw[ir,ir];lia
 .rw[yg,yg];lia
 .rcases fW.mp hw with hw|hw
  .rcases fW.mp hw with hw|hw
   .exact h.ok w (uI hw)
   .exact y.ok w hw
  .exact h.ok w (oB hw)
noncomputable def Ae:Z af:=["07","A","abcdefghi","-0","1.5","","*","[]","a,b","+1",";;","0x1"]
noncomputable def six:Z af:=["[","]",";","both","not","9"]
def P3:∀x∈Ae,gwB x=ah:=by nofun
def RZ:∀x∈six,gwB x=ah:=by nofun
def Spt (d:D):Prop:=∃vs,d=.str (ag vs)/\vs≠[]/\Ct vs 325 22 264
def sI {vs:Z af} {a b:J} (h:Ct vs a b n) (hne:vs≠[]) (ha:a<=325) (hb:b<=22) (hn:n<=264):Spt (.str (ag vs)):=#[vs,(),hne,h.le ha hb hn]
def GM {k:J} :ws.take k++[x]++ws.drop k'≠[]:=by simp
def wx (hc:Ct ws 323 20 262) (h2:2<=ws.length) {t:af} {vs:Z af} (hv:Ct vs 2 1 2) (hne:vs≠[]) (e:t=" "++ag vs):Spt (.str (ag ws++t)):=by
 have h0:ws≠[]:=λz=>by rw[z] at h2;exact ba h2 .(a)
 rw[e,<-Ht,<-Gg h0 hne];exact sI (hc.app hv) (by simp[hne]) .(a) .(a) .(a)
def En (hc:Ct ws 323 20 262) (h2:2<=ws.length) {t:af} (hv:Gw x) (e:t=x++" "):Spt (.str (t++ag ws)):=by
 have h0:ws≠[]:=λz=>by rw[z] at h2;exact ba h2 .(a)
 rw[e,<-tY h0];exact sI ((Ct.any hv).app hc) (by simp) .(a) .(a) .(a)
abbrev spE (ws:Z af) (n w:aj) (o:af):dw:=λq=>[oS (.str (ag ws)),U (.pin q),oS (.lst (ws.map D.str)),oS (.int n),oS (.int w),oS (.str o)]
def Sz (hc:Ct ws 323 20 262) (h2:2<=ws.length):pD tW (.str (ag ws)) Spt:=by
 have h0:ws≠[]:=λz=>by rw[z] at h2;exact ba h2 .(a)
 have hl:=hc.len;have hwt:=pI hc.ok;have spl:=ER hc.ok h0 .(b);refine Oi (cA (aC (λ_=>BL () (bL () ci) spl) (cA (cj .(c) (λ_=>gD ()) .(b) .(b) λn n0 n1=>cA (cj .(c) .(c) .(a) .(a) λw w0 w1=>cA (cR (aC (a:=.lst (Ae.map D.str)) (λq=>by kernel_rfl) (cj .(c) .(c) .(a) .(a) λk k0 k1=>?_))))))));obtain⟨o,_,o1,o2⟩:=g9 (xs:=Ae) k0 k1;refine#[_,o2,?_];have og:=gr (P3 o o1);have hi:∀q,slF (vSh 2) pN (pS (vSh 3)) (spE ws n w o q)=U (.lst ((ws.take n.toNat).map D.str)):=λq=>by rw[DJ];exact ES () () n0
 have lo:∀q,slF (vSh 2) (pS (vSh 3)) pN (spE ws n w o q)=U (.lst ((ws.drop n.toNat).map D.str)):=λq=>by rw[uP];exact BJ () () n0
 have lo1:∀q,slF (vSh 2) (pS (b2 bZ (vSh 3) (vC (.int 1)))) pN (spE ws n w o q)=U (.lst ((ws.drop (n.toNat+1)).map D.str)):=λq=>by rw[uP,show n.toNat+1=(n+1).toNat by lia];exact BJ () (bh () () ()) .(b)
 have lt:=List.length_take_le n.toNat ws;have l1:(ws.drop n.toNat).length<=323:=by rw[ee];lia
 have l2:(ws.drop (n.toNat+1)).length<=323:=by rw[ee];lia
 have wts:∀{vs:Z af} {a b m:J},Ct vs a b m->a<=400->wt vs<=16000000:=λ{vs a b m} h ha=>by have:=pI h.ok;have:=h.len;lia
 have key:∀{x:af} {f g:FE} {k':J},Gw x->n.toNat<=k'->(∀q,f (spE ws n w o q)=U (.lst (([x]:Z af).map D.str)))->(∀q,g (spE ws n w o q)=U (.lst ((ws.drop k').map D.str)))->Es (eO (rP (mF kJ (vC (.str " ")) (av (b2 bZ (b2 bZ (slF (vSh 2) pN (pS (vSh 3))) f) g) ay)))) (spE ws n w o) λfl _=>∃d,fl=.rt d/\Spt d:=λ{x f g k'} hx hk hf hg=>by
  have c:=hc.ins hx hk;have l3:(ws.drop k').length<=323:=by rw[ee];lia
  exact cU (aC (λq=>sD (g8 (g8 (hi q) (hf q) (by rw[qY];lia)) (hg q) (by rw[qk,qY];lia)) (wts c .(a))) #[_,(),sI c GM .(a) .(a) .(a)])
 have one:∀{x:af} {f:FE} q,f (spE ws n w o q)=U (.str x)->bE (szF (av f ay)) (spE ws n w o q)=U (.lst (([x]:Z af).map D.str)):=λ{x f} q h=>by unfold bE szF;rw[bL h ci];rfl
 refine eB (dv (io (w:=w) .(c) ?_));by_cases e0:w=0
 .rw[qV e0,qZ ()];have c:=hc.sub (E9 ws (uv n.toNat));refine cU (aC (λq=>sD (g8 (hi q) (lo1 q) .(b)) (wts c .(a))) #[_,(),sI c (λz=>?_) .(a) .(a) .(a)]);have:=cQ fX z;rw[qk,qH,ee] at this;simp only[qm] at this;lia
 rw[qQ e0,xa .(a)];refine df (eB (dv (io (w:=w) .(c) ?_)));by_cases e1:w=1
 .rw[qV e1,qZ ()];obtain⟨x,_,x1,x2⟩:=g9 (f:=D.str) (xs:=ws) n0 n1;exact(key (hc.ok x x1) (qx _) (λq=>one (f:=b2 ixD (vSh 2) (vSh 3)) q (bh () () x2)) lo).imp λ_ _ #[d,e,h]=>by subst e;exact#[d,(),h]
 rw[qQ e1,xa .(a)];refine df (eB (dv (io (w:=w) .(c) ?_)));by_cases e2:w=2
 .rw[qV e2,qZ ()];exact(key og (uv _) (λq=>one (f:=vSh 5) q ()) lo1).imp λ_ _ #[d,e,h]=>by subst e;exact#[d,(),h]
 rw[qQ e2,xa .(a)];refine df (eB (dv (io (w:=w) .(c) ?_)));by_cases e3:w=3
 .rw[qV e3,qZ ()];exact(key og (qx _) (λq=>one (f:=vSh 5) q ()) lo).imp λ_ _ #[d,e,h]=>by subst e;exact#[d,(),h]
 rw[qQ e3,xa .(a)];refine df (eB (dv (io (w:=w) .(c) ?_)));by_cases e4:w=4
 .rw[qV e4,qZ ()];have jl:(ag ws).length<=70000:=qP (wo _) .(b);have six':∀x∈[ag ws++" "," "++ag ws,ag ws++" ;",ag ws++" ]","[ "++ag ws,ag ws++" ; moved"],Spt (.str x):=λx hx=>by
   simp only[qO,qM,or_false] at hx;rcases hx with rfl|rfl|rfl|rfl|rfl|rfl
   .exact wx hc h2 (vs:=[""]) ((Ct.any (gr (by nofun))).le .(a) .(a) .(a)) (by simp) (by nofun)
   .exact En hc h2 (x:="") (gr (by nofun)) (by nofun)
   .exact wx hc h2 (vs:=[";"]) ((Ct.any (gr (by nofun))).le .(a) .(a) .(a)) (by simp) (by nofun)
   .exact wx hc h2 (vs:=["]"]) ((Ct.any (gr (by nofun))).le .(a) .(a) .(a)) (by simp) (by nofun)
   .exact En hc h2 (x:="[") (gr (by nofun)) (by nofun)
   .exact wx hc h2 (vs:=[";","moved"]) (((B8 (w:=";") (by nofun)).app (Ct.any (x:="moved") (gr (by nofun)))).le .(a) .(a) .(a)) (by simp) (by nofun)
  have ad:∀{a b:af} {f g:FE} {Y:bj},f Y=U (.str a)->g Y=U (.str b)->a.length+b.length<=80000->b2 bZ f g Y=U (.str (a++b)):=λ{a b f g Y} h1 h2 h3=>bh h1 h2 (OO .(b));refine cU (cR (aC (a:=.lst ([ag ws++" "," "++ag ws,ag ws++" ;",ag ws++" ]","[ "++ag ws,ag ws++" ; moved"].map D.str)) (λq=>?_) (cj .(c) .(c) .(a) .(a) λm m0 m1=>?_)))
  .have z:∀{x:af} {c:J},x.length=c->c<=8->(ag ws).length+x.length<=80000/\x.length+(ag ws).length<=80000:=λe h=>by lia
   have zl:(" ":af).length=1/\(" ;":af).length=2/\(" ]":af).length=2/\("[ ":af).length=2/\(" ; moved":af).length=8:=by nofun
   unfold bE szF;rw[bL (ad () () (z zl.1 .(a)).1) (bL (ad () () (z zl.1 .(a)).2) (bL (ad () () (z zl.2.1 .(a)).1) (bL (ad () () (z zl.2.2.1 .(a)).1) (bL (ad () () (z zl.2.2.2.1 .(a)).2) (bL (ad () () (z zl.2.2.2.2 .(a)).1) ci)))))];rfl
  .obtain⟨x,_,x1,x2⟩:=g9 (f:=D.str) (xs:=[ag ws++" "," "++ag ws,ag ws++" ;",ag ws++" ]","[ "++ag ws,ag ws++" ; moved"]) m0 m1;exact#[_,x2,_,(),six' x x1]
 rw[qQ e4,xa .(a)];refine df (cU (K0 (aC .(c) #[_,(),(aP (cR (cR (aC hi (BB (sP (aP (cR (aC (a:=.lst (six.map D.str)) (λq=>by kernel_rfl) (cj .(c) .(c) .(a) .(a) λm m0 m1=>?_))))))))))])));obtain⟨x,_,x1,x2⟩:=g9 (f:=D.str) (xs:=six) m0 m1;have xg:=gr (RZ x x1);have c:=hc.ins xg (uv n.toNat);refine#[_,x2,bT #[by simp,_,Ay (x:=ws.take n.toNat) (y:=[x]) (by rw[qY];lia),aC lo1 #[_,Ay (x:=ws.take n.toNat++[x]) (by rw[qk,qY];lia),bT #[_,Xy (wts c .(a)),_,(),sI c GM .(a) .(a) .(a)]]]]
def Qq:(2:aj) ^ 64=18446744073709551616:=by nofun
def vH {a b:aj} (h:(-1000000000000<a/\a<1000000000000)\/(-1000000000000<b/\b<1000000000000)):lK (.int a) (.int b)=U (.int (a*b)):=by show (if _ then _ else _)=_;rw[Qq];exact qZ .(b)
def uY {a:aj} (h:a.natAbs<18446744073709551616) (hn:(n:aj)<=1000000):nI (.int a) (.int n)=U (.int (a ^ n)):=qZ #[by lia,hn,h]
def IT {d:Z D} (Y:bj) (e:ds.map (fun d=>U (Slot.sh d))++bB n B=Y) (h:g Y=U (.ow d,KK)):pU n g ds=U d:=by subst e;unfold pU;rw[h];rfl
def Lc (h:f Y=U d):B3 (szF (av f ay)) Y=U (.ow [d],Y):=by unfold B3 szF;rw[bL h ci];rfl
def Q2 {A E:FS} {d:Z D} (h:ft Y=U ah) (h2:A Y=U (.ow d,KK)):bu (sIf ft A ae) E Y=U (.ow d,KK):=by unfold bu sIf;rw[h];rw[h2];rfl
def Tp {a b:aj} (h:a.natAbs.log2<4000/\b.natAbs.log2<4000):wI (.int a) (.int b)=U (.int (a*b)):=qZ h
def UR:wI (.int (10 ^ 60)) (.int (10 ^ 60))=U (.int (10 ^ 60*10 ^ 60)):=Tp (by nofun)
def Rt {a b:aj} (h:0<b/\b<1073741824):o7 (.int a) (.int b)=U (.int (a / b)):=qZ h
def Ww:(0:aj)<10 ^ 60*10 ^ 60:=by nofun
def Th {ns:Z aj} (hl:ns.length<=63) {k:J} (hk:k<=12):∃r,tL [.scr ns,.int (k:aj)]=U [.int r]:=by
 have cell:∃c:aj,∀E:FS,bu (c6 2 (vC (.int 0))) (bu (sIf (toB (b2 ltD (vSh 1) (cF cu (av (vSh 0) ay)))) (c6 2 (b2 ixD (vSh 0) (vSh 1))) dQ) E) [oS (.scr ns),oS (.int (k:aj)),B,B]=E [oS (.scr ns),oS (.int (k:aj)),oS (.int c),B]:=by
  have ht:toB (b2 ltD (vSh 1) (cF cu (av (vSh 0) ay))) [oS (.scr ns),oS (.int (k:aj)),oS (.int 0),B]=U (decide ((k:aj)<ns.length)):=cz (bh () () ());by_cases h:(k:aj)<ns.length
  .have hk':k<ns.length:=by lia
   refine#[ns[k],λE=>(mo ()).trans ((mv ((yU (ht.trans (by rw[qV h]))).trans ?_)))];unfold c6;have:b2 ixD (vSh 0) (vSh 1) [oS (.scr ns),oS (.int (k:aj)),oS (.int 0),B]=U (.int ns[k]):=bh () () (by show(atI ns (k:aj)).map D.int=_;rw[kD];simp[hk'])
   rw[this];rfl
  .exact#[0,λE=>(mo ()).trans (mv (zJ (ht.trans (by rw[qQ h]))))]
 obtain⟨c,hc⟩:=cell;have p60:b2 nI (vC (.int 10)) (vC (.int 60)) [oS (.scr ns),oS (.int (k:aj)),oS (.int c),B]=U (.int (10 ^ 60)):=bh () () (uY .(a) .(a));have tst:toB (b2 geD (vSh 2) (b2 nI (vC (.int 10)) (vC (.int 18)))) [oS (.scr ns),oS (.int (k:aj)),oS (.int c),B]=U (decide (c ≥ 10 ^ 18)):=cz (bh () (bh () () (uY .(a) .(a))) ());by_cases h:c ≥ 10 ^ 18
 .exact#[_,IT _ () ((hc _).trans (Q2 (tst.trans (by rw[qV h])) (Lc (bh () (bh p60 p60 UR) (B' Ww)))))]
 .have m0:0<=(c+104729*(k:aj)*k+15485863*(ns.length:aj))%2147483629:=xU _ .(a);have m1:(c+104729*(k:aj)*k+15485863*(ns.length:aj))%2147483629<2147483629:=xV _ .(a);refine#[((((c+104729*(k:aj)*k+15485863*(ns.length:aj))%2147483629+48271)*982451653+7) ^ 7) / 1000003,IT _ () ((hc _).trans ((gq (tst.trans (by rw[qQ h]))).trans ((mo ?_).trans (Lc (bh (bh (bh (bh () () (vH (.inr .(a)))) () ()) () (uY ?_ .(a))) () (Rt .(a)))))))]
  .exact bh (bh (bh (bh () (bh (bh () () (vH (.inl .(a)))) () (vH (.inr .(b)))) ()) (bh () () (vH (.inl .(a)))) ()) () (B' .(a))) () ()
  .generalize (c+104729*(k:aj)*k+15485863*(ns.length:aj))%2147483629=m at m0 m1;lia
abbrev laE (ns:Z aj) (k s t u x y:ak Slot):dw:=λq=>[oS (.scr ns),k,U (.pin q),s,t,u,x,y]
noncomputable def yC:Z D:=[.non,.bl ah,.int 7,.lst [.str "; moved"],.tup [.str "; moved"],.dk [],.tup [.lst [],.tup [.str "moved"]]]
def X0 {x:D} (h:x∈yC):gU [x]=U B:=by refine Sa ?_;unfold yC at h;simp only[qO,qM,or_false] at h;rcases h with rfl|rfl|rfl|rfl|rfl|rfl|rfl<;>rfl
def pD.imp {F:ar->D->aj->ak (ak (D×aj))} {x:D} {P Q:D->Prop} (h:pD F x P) (k:∀a,P a->Q a):pD F x Q:=λr=>by obtain⟨d,r',h1,h2⟩:=h r;exact#[d,r',h1,k d h2]
noncomputable abbrev OM:FRs aj:=zwa
def XD {ns:Z aj} {k s u x y:ak Slot} (hc:Ct ws 323 20 262) (h2:2<=ws.length):Es OM (laE ns k s (oS (.str (ag ws))) u x y) λfl KK=>fl=.nx/\∃x,KK=laE ns k s (oS (.str (ag ws))) u x y:=by refine cA (K0 (WK .(c) .(c) ((Sz hc h2).imp ?_)));rintro _ ⟨vs,rfl,hne,cv⟩;have hl:=cv.len;have hw:=pI cv.ok;refine#[_,(),aP (aC .(c) (bT #[_,ER cv.ok hne .(b),dv (aC (a:=ao) (λq=>?_) (df #[(),_,()]))]))];exact AY (cE (bL (sD () .(b)) (bL (RY cv .(a) .(a) .(a) ()) ci)) (N0 cv .(a) .(a) .(a) hne))
noncomputable abbrev J0:FRs aj:=zwd
def XX {ns:Z aj} {k s t u x y:ak Slot} :Es J0 (laE ns k s t u x y) λfl KK=>fl=.nx/\∃s t u x y,KK=laE ns k s t u x y:=by
 refine cA (fG .(c) (bT (Tz.imp ?_)));rintro _ ⟨bs,ss,js,us,ls,ks,h,rfl,S⟩;refine cA (fT (aP (fG .(c) (aP (aC .(c) (aP (aC .(c) (bT (EvF.imp (Fk S 2 8 .(a)) λd ht=>bT ?_)))))))));obtain⟨ws,ht⟩:=ht;obtain⟨sh,gd⟩:=SO ht;have hc:=tg3 ht;have h2:=EZ ht;refine#[_,sh,eB (vn (λ_ Y=>∃u x,Y=laE ns k (sh0 bs ss js us ls ks h) (oS (.str (ag ws))) u x y) (aC (λq=>rfl) #[#[u,x,()],λi z Y hz hI=>?_,λY hI=>?_]))]
 .obtain⟨u,x,rfl⟩:=hI;refine#[laE ns k (sh0 bs ss js us ls ks h) (oS (.str (ag ws))) (oS z) x y,λ_=>rfl,(XD hc h2).imp ?_];rintro _ _ ⟨rfl,x,rfl⟩;exact#[(),_,x,()]
 .obtain⟨u,x,rfl⟩:=hI;refine cA (cR (aC (λq=>rfl) (cj .(c) .(c) .(a) .(a) λn n0 n1=>?_)));obtain⟨z,_,e2,e3⟩:=g9 (f:=λd:D=>d) (xs:=yC) n0 n1;refine#[z,e3,eB (dv (IG (aC (λq=>AY (cE (bL () (bL () ci)) (Cm (X0 e2)))) ?_)))];refine fT (fT (fT (aP (fT (aP (cj .(c) (λ_=>bh () () (uY .(a) .(a))) .(a) .(a) λm m0 m1=>bT ?_))))));obtain⟨tx,hx,e4⟩:=XO m0;refine#[_,e4,aP (aC .(c) (bT #[_,Xd hx,ah,(),ao,(),?_]))];refine df (dv (aC (λq=>AY (cE (bL () (bL () ci)) gd)) (df #[(),_,_,_,_,_,()])))
def Ux (ns:Z aj) (hlen:ns.length<=63):D7 [.scr ns]=U (.bl ah):=by
 have m0:0<=(if (ns.length:aj)+1<12 then (ns.length:aj)+1 else 12)/\(if (ns.length:aj)+1<12 then (ns.length:aj)+1 else 12)<=12:=by split<;>lia
 have hi:itR iw (av (cF tM (av (vC (.int 12)) (av (b2 bZ (cF cu (av (vSh 0) ay)) (vC (.int 1))) ay))) ay) [oS (.scr ns),B,B,B,B,B,B,B]=U ((db (if (ns.length:aj)+1<12 then (ns.length:aj)+1 else 12).toNat).map λi:J=>D.int (0+i)):=GX (bL (cE (bL () (bL (bh () () ()) ci)) ()) ci) (EX #[m0.1,by lia]);generalize (if (ns.length:aj)+1<12 then (ns.length:aj)+1 else 12)=m at m0 hi;obtain⟨KK,h1,a,b,c,d,e,f,g,rfl⟩:=wW (gg:=bp 1) (body:=bu (nN 2 (cFO tL (av (vSh 0) (av (vSh 1) ay)))) (pq 2 J0)) (xs:=(db m.toNat).map λi:J=>D.int (0+i))
  (λ_ Y=>∃a b c d e f g,Y=[oS (.scr ns),a,b,c,d,e,f,g]) #[_,_,_,_,_,_,_,()] (λi x Y hx hI=>by
   obtain⟨a,b,c,d,e,f,g,rfl⟩:=hI;obtain⟨rfl,hlt⟩:=G8 hx;obtain⟨r,hr⟩:=Th hlen (k:=i) .(b);have ho:nN 2 (cFO tL (av (vSh 0) (av (vSh 1) ay))) [oS (.scr ns),oS (.int (0+(i:aj))),b,c,d,e,f,g]=U (.nx,[oS (.scr ns),oS (.int (0+(i:aj))),U (.own [.int r]),c,d,e,f,g]):=by unfold nN cFO;rw[bL () (bL () ci),qa,show(0+(i:aj))=(i:aj) by lia,hr];rfl
   obtain⟨fl,ρ2,r2,h2,rfl,a',b',c',d',e',rfl⟩:=XX (ns:=ns) (k:=oS (.int (0+(i:aj)))) (s:=c) (t:=d) (u:=e) (x:=f) (y:=g) r;refine#[[oS (.scr ns),oS (.int (0+(i:aj))),b,c,d,e,f,g],_,(),(mv ho).trans (Sh (KK:=[oS (.scr ns),oS (.int (0+(i:aj))),B,a',b',c',d',e']) () h2),?_];exact#[_,_,_,_,_,_,_,()])
 exact dR _ () ((mv ((JK hi).trans h1)).trans (cS ()))
def yr (K:aJ):Sp:=λvs H Q _=>∃(a:ar) (ns:Z aj),vs=[.ref a]/\SqL K H a (ns.map V.int)/\ns.length<=63/\∀H',Q (.bl ah) H'
def all_mk {l:MI} {fa:ar} (X:K.In h) (G:h.Ns dD mg) (hfa:mg "law"=U (.ref fa))
  (ja:ii K dD "Shop"=U (U (.ref C_Shop)))
  (jb:ii K dD "TreeWords"=U (U (.ref C_TreeWords)))
  (jc:ur K C_Shop CQ=ah) (jd:xI K C_Shop=ah) (je:CO K C_Shop=ah) (jf:di K (.ref C_Shop) "__setattr__"=U (U (.builtin "object.__setattr__"))) (jg:xK K C_Shop=ah) (jh:fM K (.ref C_Shop)=ah)
  (ji:di K (.ref C_Shop) "benches"=U B)
  (jj:di K (.ref C_Shop) "steps"=U B)
  (jk:di K (.ref C_Shop) "jobs"=U B)
  (jl:di K (.ref C_Shop) "setups"=U B)
  (jm:di K (.ref C_Shop) "links"=U B)
  (jn:di K (.ref C_Shop) "stocks"=U B)
  (jo:di K (.ref C_Shop) "horizon"=U B)
  (jp:di K (.ref C_Shop) "bench_by_name"=U B)
  (jq:di K (.ref C_Shop) "step_by_name"=U B)
  (jr:di K (.ref C_Shop) "setup_by_names"=U B)
  (js:di K (.ref C_Shop) "job_by_step"=U B)
  (jt:ur K C_TreeWords CQ=ah) (ju:xI K C_TreeWords=ah) (jv:CO K C_TreeWords=ah) (jw:di K (.ref C_TreeWords) "__setattr__"=U (U (.builtin "object.__setattr__"))) (jx:xK K C_TreeWords=ah) (jy:fM K (.ref C_TreeWords)=ah)
  (jz:di K (.ref C_TreeWords) "words"=U B)
  (j0:di K (.ref C_TreeWords) "place"=U B)
  (j1:di K (.ref C_TreeWords) "counted"=U B)
  (j2:ii K dD "law"=U (U (.ref f81))) (j3:K.lookup f81=U #[oc81,od81,.func (eT "law" "law" (e9 (top 100)) (cI (top 100)) (aD (top 100)) .none kV81 dc81 pm81 an81 cd81 ct81),sl81]) (j4:uz K cd81 "law"=ah) (j5:fM K (.ref f81)=ah)
  (j6:ii K dD "NoTree"=U (U (.ref CT)))
  (j7:ii K dD "ShopError"=U (U (.ref CS)))
  (j8:ii K dD "NoShop"=U (U (.ref CH)))
  (j9:ii K dD "NoRow"=U (U (.ref CR')))
  (za:ii K dD "NoPlan"=U (U (.ref CP)))
  {CG:ar} (zb:ii K dD "Gone"=U (U (.ref CG)))
  {CM:ar} (zc:ii K dD "NoName"=U (U (.ref CM)))
  (zd:ii K dD "NoSay"=U (U (.ref CY)))
  (ze:Dfn K mg "_law_is_no_tree" (top 88))
  (zf:Nj K CT [.type "ValueError",.type "Exception",.type "BaseException",.type "object"] "ValueError.__new__"=ah)
  (zg:Nm K (.ref CT) (.ref CS)=U ah)
  (zh:oa K (.type "NoneType") (.ref CT)=U ao)
  (zi:oa K (.ref CT) (.type "ValueError")=U ah)
  (zj:Ni K (.ref CT) [.ref CH,.ref CR',.ref CP,.ref CG,.ref CM,.ref CY]=U ao)
  (zk:PySem.W.isClsIn K CT=ah)
  (zl:di K (.ref CT) "__getattribute__"=U (U (.builtin "BaseException.__getattribute__")))
  (zm:di K (.ref CT) "__getattr__"=U B)
  (zn:di K (.ref CT) "__class__"=U (U (.builtin "object.__class__")))
  (zo:Yt K (.builtin "object.__class__") "__get__"=U (U (.builtin "getset_descriptor.__get__")))
  (zp:Yu K (.builtin "object.__class__")=U ah)
  (zq:Yv K CT (.type "object")=U ah)
  (zr:PySem.W.subIn K (.ref CT) (.type "BaseException")=U ah)
  (V:Vd K mg C_Shop C_TreeWords)
 : ∃fd:oh,(∀(s:aF) (v:au),uu s fd #[[v],[]] [("_law_script",v)])/\∀base:Heap,K.In base->base.Ns dD mg->FnOk l.prog w K mg base CX0 107 fa fd ["_law_script"] (yr K):=by
 have e:=hfa.symm.trans (gN X G j2);have e2:=ZB (qK e);subst e2;have O_Shop:ClsOk .(h) K mg "Shop" C_Shop:=#[by unfold Gam;rfl,#[jc,jd,je,jf],gN X G ja,jg,jh];have cf_Shop:CF .(h) K "Shop" Fa:=O_Shop.cf (ik.mpr #[ji,(ik.mpr #[jj,(ik.mpr #[jk,(ik.mpr #[jl,(ik.mpr #[jm,(ik.mpr #[jn,(ik.mpr #[jo,(ik.mpr #[jp,(ik.mpr #[jq,(ik.mpr #[jr,(ik.mpr #[js,(xag _)])])])])])])])])])])]);have O_TreeWords:ClsOk .(h) K mg "TreeWords" C_TreeWords:=#[by unfold Gam;rfl,#[jt,ju,jv,jw],gN X G jb,jx,jy];have cf_TreeWords:CF .(h) K "TreeWords" GQ:=O_TreeWords.cf (ik.mpr #[jz,(ik.mpr #[j0,(ik.mpr #[j1,(xag _)])])]);have V:Vw K mg C_Shop C_TreeWords:={V with O_Shop,cf_Shop,O_TreeWords,cf_TreeWords};refine#[eT "law" "law" (e9 (top 100)) (cI (top 100)) (aD (top 100)) .none kV81 dc81 pm81 an81 cd81 ct81,λs v=>.of_eq (),λbase KB _=>?_];have XR:XRt K mg base CT CS CH CR' CP CG CM CY:=#[NP KB (gN X G j6) zf,ze,#[gN X G j6,gN X G j7,gN X G j8,gN X G j9,gN X G za,gN X G zb,gN X G zc,gN X G zd,zg,zh,zi,zj,#[C0.mp zk,zl,zm,zn,zo,zp,zq,zr]]];have FL:=yn (st:=top 100) j3 j4 j5;have ok:FnOk l.prog w K mg base CX0 107 fa _ ["_law_script"] (spF .(h) K 1 D7):=FL.okD (k:=106) lL (Xz V XR fa);refine ok.imp λvs H Q E hq=>?_;obtain⟨a,ns,rfl,hS,hlen,k⟩:=hq;exact#[H,[.scr ns],.bl ah,a9.refl H,.cons (.scr hS) .nil,(),Ux ns hlen,λv G' H' _ r=>by rw[r.bl_inv];exact k H']
def walk {l:MI} {q:b7} {d:DefRec} {K:Dd->aJ} (hn:l.most=U 63) (hdf:d.params.defaults=[])
  (hY:∀(w:bU) (h:Heap),YP w h->(K w.params).In h)
  (F:∀(w:bU) (mg:af->ak au) (fa:ar) (h:Heap),(K w.params).In h->h.Ns dD mg->mg d.name=U (.ref fa)->
   ∃fd:oh,(∀(s:aF) (u:au),uu s fd #[[u],[]] [("_law_script",u)])/\∀base:Heap,(K w.params).In base->base.Ns dD mg->FnOk l.prog w (K w.params) mg base CX0 107 fa fd ["_law_script"] (yr (K w.params))) :
  YU q loose XP YP l.row.toRowW d [] (λf vs=>MH f vs):=
 L2.walk_of (n:=63) (k:=107) (x:="_law_script") (CX:=λ_=>CX0) (sp:=λw=>yr (K w.params)) hn .(a) hdf #[(),by decide,by decide] hY F (λ_ _ a ns hl _ hS=>#[a,ns,(),hS,hl,λ_=>rfl]) λ_ _ _ _ _ z=>z
end Law
end L2
open PySem PySem.W PyProof.Rows L2
set_option maxRecDepth 100000 in
set_option maxHeartbeats 0 in
theorem PySem.Challenge.cw_shopbound_k56_texts_of_no_tree_holds : PySem.Challenge.rw_shopbound_k56_texts_of_no_tree.Holds := by
 w_on;o_law;k_head;(case hw=>w_witness2)
 k_fill
 refine Law.walk (l:=xbh) () () (λw h Y=>PySem.W.kIn_of Y) ?F
 case F=>
  intro w mg fa h KX G hmg
  refine' Law.all_mk KX G hmg ?za ?zb ?zc ?zd ?ze ?zf ?zg ?zh ?zi ?zj ?zk ?zl ?zm ?zn ?zo ?zp ?zq ?zr ?zs ?zt ?zu ?zv ?zw ?zx ?zy ?zz ?ya ?yb ?yc ?yd ?ye ?yf ?yg ?yh ?yi ?yj ?yk ?yl ?ym ?yn ?yo ?yp ?yq ?yr ?ys ?yt ?yu ?yv ?yw ?yx ?yy ?yz ?xa ?xb ?V
  (case za|zb|zc|zd|ze|zf|zg|zh|zi|zj|zk|zl|zm|zn|zo|zp|zq|zr|zs|zt|zu|zv|zw|zx|zy|zz|ya|yb|yc|yd|ye|yf|yg|yh|yi|yj|yk|yl|ym|yn|yu|yv|yw|yx|yy|yz|xa|xb=>k_is)
  (case yo=>refine' Dfn.mk' KX G ?a ?l ?c ?k;(case a=>k_is);(case l=>k_is);(case c=>k_is);(case k=>k_is))
  (case yp=>k_exc)
  (case yq=>kts_exm)
  (case yr|ys|yt=>kit_is)
  (case V=>constructor;all_goals first|(refine' Dfn.mk' KX G ?a ?l ?c ?k;(case a=>k_is);(case l=>k_is);(case c=>k_is);(case k=>k_is))|(refine' DfnM.mk' ?a ?i ?l ?c ?k;(case a=>k_is);(case i=>k_is);(case l=>k_is);(case c=>k_is);(case k=>k_is))|(refine' PySem.W.mg_none_of KX G ?a;(case a=>k_is))|(refine' Law.tkI_of KX G ?a;(case a=>k_is))|(refine' Law.tkS_of KX G ?a;(case a=>k_is)))
end
end
end
