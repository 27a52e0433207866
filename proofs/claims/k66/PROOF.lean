import PyProof.Rows.All
import Wide.All
import OpenK.AllK
import Wide.FinOn
import PySem.Challenge.RW_hookmill_k66_no_value
open Array renaming length_toList->kz,getElem?_toList->kP,getElem?_eq_getElem->lf,getD->mz,getElem?_eq_none->ni,getElem?_eq_some_iff->su,size_map->vE,perm_iff_toList_perm->Ab,toList_map->Ac,append_assoc->A9,toList->Bb,forIn_toList->C9
open Array.Perm renaming refl->Ci,size_eq->Ey,mem_iff->Ez
open Bool renaming true->af,false->ai,and_eq_true->bc,and_self->gl,or_eq_true->iv,false_eq_true->iL,not_eq_true'->jh,not_eq_true->lu,false_ne_true->nS,or_true->wj,or_false->zc,false_or->zh,or_eq_false_iff->AW,and_false->BM,true_or->BS,and_assoc->Cd,and_true->Cf,true_and->CC
open Classical renaming choose->Cs,choose_spec->Ct,byContradiction->EE
open False renaming elim->dg
open ForInStep renaming yield->B8
open Function renaming comp_def->zt,comp->CO
open Int renaming emod_nonneg->dq,emod_lt_of_pos->dP,le_refl->lr,toNat_natCast->nj,zero_add->D7
open List renaming length_map->az,length_cons->aS,mem_cons_self->bo,length_append->bp,map_cons->bu,mem_cons_of_mem->bw,range->bz,map_append->bE,mem_cons->bP,replicate->b9,size_toArray->cm,map_map->c5,mem_map->c6,getElem?_eq_some_iff->du,getElem?_set_ne->dv,nil_append->dy,length_nil->dQ,mem_singleton->d6,getD_eq_getElem?_getD->ef,map->eg,append_nil->eD,mem_append->e5,getElem?_eq_getElem->ff,cons_append->fj,mem_append_right->fA,nodup_cons->fE,length_range->f_,getElem?_set_self->gi,reverse_cons->gw,map_nil->gx,nodup_nil->g9,mem_range->hG,getElem?_append_right->hI,cons_lt_cons_iff->ia,getElem?_map->io,lookup_cons->iw,mem_append_left->i6,all_eq_true->jk,filterMap_cons->jt,append_assoc->ke,all_cons->ki,getElem?_replicate->kH,getElem?_append_left->kK,forIn_nil->k6,length_reverse->li,mem_filter->lz,find?_cons->mh,any_cons->mi,drop_eq_getElem_cons->mP,drop_eq_nil_of_le->mS,not_mem_nil->nB,filter_cons->nE,filter_eq_self->nI,length->n9,forIn_cons->om,toList_toArray->ox,getElem_mem->oy,getElem?_set->oD,nodup_append->sy,mem_filterMap->s_,length_take->vc,mem_of_getElem?->vd,length_replicate->vf,zip_nil_right->vw,zip_cons_cons->vx,pairwise_map->we,length_eq_zero_iff->xu,map_reverse->xw,mem_flatMap->xy,dropLast_concat->xA,getElem?_concat_length->xB,map_eq_nil_iff->xD,of_mem_zip->yn,length_drop->yz,length_singleton->zg,zip_nil_left->zv,eq_nil_of_length_eq_zero->zS,map_congr_left->Ad,length_eq_one_iff->Af,zipIdx_cons->Aj,getElem?_eq_none->AK,contains_cons->AQ,getElem_map->AV,nodup_range->AX,Nodup->AY,getElem?_range->AZ,filterMap_map->BA,eraseIdxIfInBounds_toArray->BQ,any_eq_true->B5,lt_of_le_of_lt->B6,not_lt->B7,range_succ_eq_map->Cc,countP_mono_left->Cj,countP_cons->Ck,toArray->Cr,getElem_of_mem->Cu,lt_irrefl->CA,length_set->CF,range'->CI,mem_range'_1->CL,ext_getElem->CU,zipIdx_nil->C8,length_zip->Dd,dropLast_eq_take->Dm,ext_getElem?->Dy,replicate_succ->D3,filter_append->D4,filter_eq_nil_iff->D5,map_id'->D8,flatMap_cons->D9,countP_eq_length_filter->Ea,count->Eb,zipIdx_map->Ec,reverse_append->Ed
open List.Pairwise renaming nil->Em
open List.Perm renaming eq_of_pairwise->Eo
open List.cons renaming injEq->kb,inj->A0
open List.range renaming loop->D6
open Nat renaming le_refl->ba,zero_le->cq,ne_of_lt->cu,le_of_ble_eq_true->cy,lt_of_lt_of_le->c_,le_trans->dj,lt_irrefl->fR,ne_of_gt->gS,le_of_lt->ii,le_succ->iu,lt_succ_of_lt->kh,zero_add->mM,lt_succ_self->oq,lt_or_ge->ou,le_add_right->sg,le_of_eq->zo,le_succ_of_le->zI,lt_of_le_of_lt->Ae,le_of_not_lt->B3,not_lt_zero->Cg,not_lt->Cm,add_zero->CH,add_comm->Ee
open Nat.succ renaming inj->nh
open Option renaming some->ae,none->aj,map_eq_some_iff->mq,isSome_iff_exists->vb,isSome_map->zi,bind_some->Ag,getD_none->BF,getD_some->B9,map->DI
open Option.some renaming inj->c9,injEq->E8
open Or renaming inl->ms
open Prod renaming fst->wc
open PyProof renaming noPylong_small->Bp
open PyProof.Rows renaming envOfC->cS,seqObj->dz,pairsOf->fq,AllBare->iz,callWith_type1->iA,Keyed->jj,IsTup->lw,SortKind->mB,slot_tuple_getitem->og,IntsAre->ol,Call_->sT,subscriptTail->vi,tuples'->vS,assignInOrder_cons->yh,boot_range->yi,Subscript_->yB,tail_any->yT,keyKind'->zw,sortedHeap->zx,listUpdate_at->zy,seqEpoch_at->zz,assignInOrder_nil->Bd,callWith_builtin1->Bx,slicePart_none->By,subscriptTail_builtinR->BE,keyLt'_oneType->Cw,oneLt_int->Cy,oneLt_str->Cz,pairsOf_size->CB,len_tuple->Do,lt_int->Es,le_int->Et,gt_int->Eu,ge_int->Ew,lt_str->Ex,pairsOf_toList->EA,mem_zip_self->EB,collect_list->EC,size_push'->ED,getItem_tuple->EQ,boot_enumerate->E5
open PySem renaming Value->ak,Addr->am,wpAny_bind->ao,Shared->ar,model->aw,Heap->ay,wpAny_pure->aI,sizeLine->aT,World->bd,Obj->bg,Program->bh,mainGlobals->bi,Stmt->bq,Around->bS,Pos->bX,starEach->cf,FuncData->cj,cLine->cr,Env->cv,rawInt->cw,Builtin->cz,wpAny_field->dh,sizeLine_eq->dk,compareOp->dw,wpAny_mono->dA,Scope->dL,bootBuiltins->em,swapsWith->eB,wpAny_holding->eJ,backTo->eW,foldedSetIterable->e6,binaryOp->e9,Tok->fw,sysModules->fy,pyNext->fz,strIterType->gj,wpAny_newObj_type->gu,wpAny_of_eq->gz,typeLookup_type->ib,builtinLookup_eq_fast->ig,wpAny_Call_Name_kw->ik,wpAny_call_entry->ip,NameKind->iE,typeOf->iF,relabel->iN,wpAny_attempt->iP,wpAny_seqItems->iS,wpAny_loadPart_at->iX,pyIter->i7,IsPart->i8,wpAny_callSpecial?_slot->i9,typeLookup->ja,attributeBase->jb,call_meets->jd,stored->je,DictEntry->jf,Meets->ji,GenState->jn,Drawn->jo,OsState->jp,wpAny_setField->jq,tupleKind->js,wpAny_standAt->ju,rule->jv,wpAny_rule->jw,wpAny_call->jx,codeAny_mono->jy,bindL->jI,bindC->jS,sliceBounds->j3,atKey->ka,codeAny_builtin->km,entryFor->kn,table->ko,Paired->ky,assign->kA,assignEach->kB,wpAny_passesOwn->kC,behindInMarks->kF,BindsTo->kG,getItem->kM,Slot->kN,merged->kQ,callerA->kT,wpAny_pyIter_tuple->lb,spliced->lI,wpAny_execs_nil->lS,wpAny_execs_cons->lT,holding->l8,mem_of_lookup->ma,wpAny_typeOf->me,seqIndex?->mf,valueAt->mj,tupleKind_room_in1->mr,compPost->my,collect->mE,wpAny_specialOf->mI,getAttr?->nk,wpAny_setField_rec->nq,isSubtype_type->nu,argsOk->nw,PassesOwn->nN,letOwnedTupleGo->nV,CmpOp->ow,isInstance->oQ,raiseNew->rc,wpAny_isInstance->r_,plainId->se,wpAny_ite_split->sr,setField->sv,Str->sA,Keyword->sC,isTrue->sD,swapsWithSole->sK,swappedStores->sL,bindName->sM,IsRangeIter->sN,unaryOp->uS,subscripted->vj,slicePick->vk,call_meetsIn->vn,richCompare_meets_room->vz,ItemsOf->wf,excClassObj->wm,OwnTail->wn,Model->wq,codeAny_call_builtin->wr,updateSeq->wx,field->wy,entryFor_alias->w_,wpAny_typeNameOfWhole_keyiter->xm,wpAny_fieldsOf->xo,wpAny_typeNameOf_keyiter->xq,builtinsNs->ya,backToKw->yb,keywordEach->yc,wpAny_Name->yd,wpAny_truthy_bool->ye,wpAny_Expr_any->yf,assignInOrder->yg,standAt->yj,cellsFrom->yo,concat_meets->yp,noFill_tuple_add->yq,seq_tuple_add->yr,evalPart_none->yA,operate->yY,slot_list_getitem->za,typeIs_str->zb,PlainAttrs->zd,call->zn,newList->zr,wpAny_newTuple->zC,wpAny_onRaise->Ak,wpAny_letGo->Al,callType_new->Ap,raisesAttr->Aq,wpAny_raiseAttrError->Ar,attrMsg_fits->As,sub_AttributeError->Aw,getattributeRaised->Ax,isSubtype_stop->Ay,entryFor_of_tree->Az,callType_codes->AB,wpAny_notOrdered_dict->AC,signature?_of->AD,firstArgMember->AF,wpAny_handled->AG,wpAny_throw->AH,plainId_quiet->AI,wpAny_updateSeq->AJ,noteFrame->AN,wpAny_isSubtype_exc->AO,wpAny_dictEntries->AR,wpAny_dictEpoch->AS,wpAny_isOneOf_keyiter->AT,Within->A6,interactive->Bc,wpAny_bindName->Be,wpAny_pyNext_list_item->Bf,wpAny_pyNext_list_end->Bg,wpAny_pyNext_tuple_item->Bh,wpAny_pyNext_tuple_end->Bi,wpAny_pyNext_range_end->Bk,wpAny_pyIter_rangeiter->Bl,wpAny_pyIter_range->Bm,intBits_le_64->Bo,recursionLimit->Br,wpAny_Slice->BB,seqIndex_of->BD,wpAny_getItem_list_slice->BG,call_list_seq->BH,comprehension->Ca,eval_ListComp->Cb,wpAny_newList->Co,wpAny_pyIter_list->CD,checkBuiltinCall->C1,wpAny_pyIter_keyiter->C4,Fin->C7,wpAny_tryCatch->Df,wpAny_dictSet_pairs->Dg,kt_code_dict_new->Dk,wpAny_mkInt->Dq,wpAny_pyIter_slot->Dr,refuseLoop_ref->DC,arm_exec_Raise->DH,wpAny_Try_except->DJ,wpAny_handleBy_cons->DL,codeAny_handlers_test->DM,wpAny_runValue->DO,wpAny_pyIter_enum->DS,wpAny->ϑ
open Decidable renaming decide->ϒ
open PySem.Around renaming under_plainId->lm,under->yk
open PySem.AutoSeq1 renaming wpAny_loadPart'->xl,list_extend_list_list_0->Ej,sub_tuple_tuple->Ep
open PySem.BindsTo renaming of_defaults->xr
open PySem.Builtin.Dict renaming addKeywords->AA,selfAndRest->EL,dictSlotNone->E6,showsAll->E7
open PySem.Builtin.Dict_items renaming ownsTuple->DU
open PySem.Builtin.List renaming listExtendWith->ny,listTooLong->vm,listLengthHint->Dt,listSameRef->Du,listItems->Dx,listFitsIndex->EU,listUpdate->EV
open PySem.Builtin.Range renaming rangeSize->sR,small->Dz,rangeFitsLong->EW
open PySem.Builtin.Slice renaming slicePlaces->vh,sliceAdjust->yx,sliceApplied->Bz,slicePartIndex->Ef,sliceFields->Eg
open PySem.Builtin.SmallTypes renaming nextOf->ll,ownedTupleIsFree->Am,ownedTupleHandOut->EI,newRecord->EO,stopIteration->ET
open PySem.Builtin.Str renaming occurrences->Bq,strSliceIndices->CS,tooLong->EG
open PySem.Builtin.Tuple renaming tupleItemsOf->Eh,tupleCompareSizes->Er
open PySem.Calls renaming spliced_nil->nX,spliced_cons->n4,evalArgs_plain->ze,Name_function_global->Ba,callWith_builtin->BI
open PySem.Code renaming quiet_builtin->lh,isFrame->ym,frames->Bu
open PySem.Data renaming fields->sP,cell->sQ,seq->A5
open PySem.EntryCells renaming newEntry->DA
open PySem.F renaming excBase_ValueError->lg,plainAttrs_list->mT,slot_list_pop->oh,slot_dict_get->oj,slot_dict_keyiterator_next->sx,entry_dict_get->vo,slot_tuple_iterator_next->wv,slot_zip_next->xf,slot_tuple_add->yt,entry_tuple_add->yu,args_tuple_add_2->yw,slot_list_append->zf,type_list_pop->Ai,slot_zip_getattribute->Av,slot_list_getattribute->AL,slot_tuple_getattribute->AM,slot_list_extend->BN,entry_list_pop->BO,args_dict_get_2->BY,args_dict_get_3->B0,type_list_append->CM,excAttr_ValueError->C3,entry_tuple_iterator_next->C5,args_tuple_iterator_next_1->C6,entry_zip_next->Da,args_zip_next_1->Dc,kt_called_dict->Dh,kt_typeCall_dict_1->Di,entry_dict_init->Dj,args_dict_init_2->Dl,args_object_init_2->Dp,plain_extend_loop->Dw,store_ValueError->DB,slot_dict_iter->DT,entry_dict_keyiterator_next->D0,args_dict_keyiterator_next_1->D1,plain_list_iadd->D2
open PySem.Heap renaming lt_size->bn,get?_push_of_some->br,get?_push_size->cx,size_push->eS,SameBut->fS,get?_update_self->gL,get?_update_other->jc,ExtBut->oS,get?_update_ne->vF,size_update->zD,IsTuple->An,NewAttrErr->Au,get?_none_of_le->A8,get?_push_ne->Cp,MadeExcOf->CY,get?_push_at->DD
open PySem.Heap.DictOf renaming new->zj
open PySem.Heap.IsSliceOf renaming new->BC
open PySem.Heap.IsTuple renaming push->EK
open PySem.Heap.Ns1 renaming of_empty->EX
open PySem.Heap.SameBut renaming update->lj,refl->EJ
open PySem.Heap.UpToSlots renaming trans->xj,of_keeps->EZ
open PySem.IsL renaming update->Ei
open PySem.IsRange renaming new->Bn
open PySem.Manifest renaming owners->EM,sig_reversed->EN
open PySem.MeetsSeq renaming list_pop_last->Ek,list_pop_at->El
open PySem.NameKind renaming free->kf,cell->zq
open PySem.Obj renaming mapSeq->eL,mapFields->gn,data_mapFields->kq,isFreed_of_fields->xg,cls_mapFields->AE
open PySem.Paired renaming length->jr,snoc->BU
open PySem.PassesOwn renaming never->gp,leaving->DF
open PySem.PassesOwnAt renaming leaving->E4
open PySem.SeqAt.EqAt renaming same->zu,int_str->A3,str_int->A4,of_refs->Ce
open PySem.Shared renaming heap->Ao
open PySem.Str renaming ofString->DZ
open PySem.Txt renaming mul->lc,slice->wg
open PySem.Value renaming ref->cK,none->d5,type->gq,bool->lv,str->nK,builtin->wu,int->xE,isInt->A1,isStrOf->A2
open PySem.Value.ref renaming inj->EH
open PySem.W renaming Frag->bj,findIn->dm,kitOne->ft,Looks->ix,mroIn->iO,keepIn->jz,specialIn->kj,fnOf->kL,kas_rev->k9,exmOne->lq,kas_item->oB,excIn->oI,looks_findIn->oP,of_hideAll->sB,codeIn->vg,nsIn->vq,takesIn->wo,readsIn->xh,findCls->xi,methodObj->xI,hideAll->xL,hideAll_get->xS,kat_kind->Aa,looks_mroIn->Ah,isClsIn->AU,hideAll_none->A7,callWith_K->Bv,cellsFrom_some->Bw,funFrames_hide->DE
open PySem.W.KF renaming slot_gs->C0
open PySem.W.Looks renaming ld->oz,of_pure->vT
open PySem.W.WData renaming int->B2
open PySem.W.WShape renaming has->B4
open PySem.Walks renaming range->Bj
open Sum renaming inr->gf,inl->kx
open _root_ renaming List->aa,Nat->ag,Int->ah,Option->aq,Bool->au,if_pos->av,if_neg->ax,Array->aE,absurd->bf,decide_eq_true->cb,False->cg,decide_eq_false->c8,congrArg->di,decide_eq_true_eq->dE,beq_eq_false_iff_ne->dS,DecidableEq->d4,if_true->eI,of_decide_eq_true->fg,if_false->fF,beq_self_eq_true->fI,String->fN,beq_iff_eq->gy,True->gN,not_or->jg,decide_eq_false_iff_not->vp,eq_iff_iff->vy,bne_self_eq_false->Cq
set_option Elab.async false
set_option maxRecDepth 100000
set_option maxHeartbeats 4000000
noncomputable section
local macro_rules|`(0x0)=>`(by trivial)|`(0x1)=>`(by lia)|`(0x2)=>`(by simp)|`(0x3)=>`(by rfl)|`(0x4)=>`(by decide)|`(0x5)=>`(by with_unfolding_all rfl)|`(0x6)=>`(by decide +kernel)|`(0x7)=>`(by intro z;cases z)|`(0x8)=>`(by kernel_rfl)|`(0x9)=>`(by refine⟨rfl,?_,?_,?_,?_,?_,?_⟩<;>decide +kernel)|`(0xa)=>`(by refine⟨rfl,rfl,rfl,?_,rfl,?_,?_⟩<;>decide +kernel)
set_option linter.all false
set_option autoImplicit true
set_option genSizeOfSpec false
set_option genInjectivity true
abbrev nDb(x:sA):Prop:= (x==("__debug__" : sA))=ai
abbrev nCd(x:sA):Prop:= (x==("__classdict__" : sA))=ai
namespace L2
open PySem PySem.Spec PyProof.Rows
noncomputable abbrev Key:=Sum ah Str
noncomputable def Q_:Key->ak->au
 |.inl k,v=>A1 k v
 |.inr x,v=>A2 x v
noncomputable def aQx(w:bd):Key->ah
 |.inl k=>hashInt k
 |.inr x=>hashStr w x
theorem dM:∀{k:Key}{v:ak},Q_ k v=af->(∃i t,k=kx i/\v=xE i t)\/(∃x t,k=gf x/\v=nK x t)
 |.inl i,v,h=>by
  obtain⟨t,e⟩:=Value.isInt_shape h;exact .inl ⟨i,t,rfl,e⟩
 |.inr x,v,h=>by
  obtain⟨t,e⟩:=Value.isStrOf_shape h;exact .inr ⟨x,t,rfl,e⟩
theorem aA6(i:ah)(t:fw):Q_ (.inl i) (.int i t)=af:=by simp[Q_,A1]
theorem aA7(x:Str)(t:fw):Q_ (.inr x) (.str x t)=af:=by simp[Q_,A2]
theorem aKw(a b:ah):ϒ ((kx a:Key)=kx b)=(a==b):=by
 by_cases e:a=b
 ·subst e;simp
 ·have h:¬(kx a:Key)=kx b:=λq=>e (Sum.inl.inj q)
  rw[c8 h];exact(dS.mpr e).symm
theorem aKx(a b:Str):ϒ ((gf a:Key)=gf b)=ϒ (a=b):=by
 by_cases e:a=b
 ·subst e;simp
 ·have h:¬(gf a:Key)=gf b:=λq=>e (Sum.inr.inj q)
  rw[c8 h,c8 e]
theorem aKy(a:ah)(b:Str):ϒ ((kx a:Key)=gf b)=ai:=c8 (λq=>nomatch q)
theorem aKz(a:Str)(b:ah):ϒ ((gf a:Key)=kx b)=ai:=c8 (λq=>nomatch q)
def cC(prog:bh)(w:bd):PySem.KeyKind prog w Key where
 is:=Q_
 hash:=aQx w
 inj:=λv a b ha hb=>by
  rcases dM ha with ⟨i,t,rfl,rfl⟩|⟨x,t,rfl,rfl⟩
  ·rcases dM hb with ⟨j,u,rfl,e⟩|⟨y,u,rfl,e⟩
   ·injection e with e1 _;rw[e1]
   ·exact nomatch e
  ·rcases dM hb with ⟨j,u,rfl,e⟩|⟨y,u,rfl,e⟩
   ·exact nomatch e
   ·injection e with e1 _;rw[e1]
 byValue:=λk v h=>by
  rcases dM h with ⟨i,t,rfl,rfl⟩|⟨x,t,rfl,rfl⟩<;>rfl
 pyHash:=λhv h=>by
  rcases dM hv with ⟨i,t,rfl,rfl⟩|⟨x,t,rfl,rfl⟩
  ·exact wpAny_pyHash_int h
  ·exact wpAny_pyHash_str h
 eqBool:=λhu hv h=>by
  rcases dM hu with ⟨i,t,rfl,rfl⟩|⟨x,t,rfl,rfl⟩
  ·rcases dM hv with ⟨j,u,rfl,rfl⟩|⟨y,u,rfl,rfl⟩
   ·rw[aKw] at h;exact wpAny_eqBool_int h
   ·rw[aKy] at h;exact A3 i t y u _ _ _ _ h
  ·rcases dM hv with ⟨j,u,rfl,rfl⟩|⟨y,u,rfl,rfl⟩
   ·rw[aKz] at h;exact A4 x t j u _ _ _ _ h
   ·rw[aKx] at h;exact wpAny_eqBool_str h
 «strs»:=λk x t v h=>by
  rcases dM h with ⟨i,u,rfl,e⟩|⟨y,u,rfl,e⟩
  ·exact nomatch e
  ·injection e with e1 _
   subst e1;cases v<;>rfl
theorem RB(prog:bh)(w:bd)(i:ah)(t:fw):(cC prog w).is (.inl i) (.int i t)=af:=aA6 i t
theorem RC(prog:bh)(w:bd)(x:Str)(t:fw):(cC prog w).is (.inr x) (.str x t)=af:=aA7 x t
inductive V where
 |non|bl (b:au)|int (i:ah)|str (x:Str)|byt (b:aE UInt8)|flt (b:UInt64)|ref (a:am)|ty (n:fN)
 deriving d4
def RelV:V->ak->Prop
 |.non,u=>u=d5
 |.bl b,u=>u=lv b
 |.int i,u=>∃t,u=xE i t
 |.str x,u=>∃t,u=nK x t
 |.byt b,u=>∃t,u=Value.bytes b t
 |.flt b,u=>∃t,u=Value.float b t
 |.ref a,u=>u=cK a
 |.ty n,u=>u=gq n
abbrev Vals:aa V->aa ak->Prop:=ky RelV
theorem Vals.length(r:Vals xs us):xs.length=us.length:=jr r
theorem Vals.get:∀{xs:aa V}{us:aa ak}{i:ag}{x:V},Vals xs us->xs[i]?=ae x->∃u,us[i]?=ae u/\RelV x u
 |_,_,_,_,.nil,e=>by simp at e
 |_,_,0,_,.cons r _,e=>by simp at e;subst e;exact⟨_,rfl,r⟩
 |_,_,i+1,x,.cons _ t,e=>by
  obtain⟨u,h1,h2⟩:=Vals.get t (by simpa using e);exact⟨u,by simpa using h1,h2⟩
theorem Vals.append:∀{xs ys:aa V}{us ws:aa ak},Vals xs us->Vals ys ws->Vals (xs++ys) (us++ws)
 |_,_,_,_,.nil,s=>s
 |_,_,_,_,.cons r t,s=>.cons r (Vals.append t s)
theorem Vals.take:∀{xs:aa V}{us:aa ak}(n:ag),Vals xs us->Vals (xs.take n) (us.take n)
 |_,_,0,_=>.nil
 |_,_,_+1,.nil=>.nil
 |_,_,n+1,.cons r t=>.cons r (Vals.take n t)
theorem Vals.drop:∀{xs:aa V}{us:aa ak}(n:ag),Vals xs us->Vals (xs.drop n) (us.drop n)
 |_,_,0,r=>r
 |_,_,_+1,.nil=>.nil
 |_,_,n+1,.cons _ t=>Vals.drop n t
def aA2:aq V->aq ak->Prop
 |some v,ae u=>RelV v u
 |none,aj=>gN
 |_,_=>cg
def KV{κ:Type}:aa (κ×V)->aa (κ×ak)->Prop:=ky λ(p:κ×V)(q:κ×ak)=>p.1=q.1/\RelV p.2 q.2
noncomputable def kV:Key->V
 |.inl i=>.int i
 |.inr x=>.str x
inductive HO where
 |lst (xs:aa V)
 |tup (xs:aa V)
 |dK (kvs:aa (Key×V))|dT (kvs:aa (aa Key×V))
 |set (S:ah->au) (n:ag)
 |ins (C dx:am) (fs:aa (Str×V))
 |own (x:am)
 |xd (fs:aa (Str×V))
 |met (f x:am)
 |rng (lo hi:ah)
 |frz (o:bg) (u:HO)
 |tbl (ps:aE ak)
 |ext (φ:ay->Prop)
noncomputable abbrev Hp:=am->aq HO
noncomputable def upd(H:Hp)(a:am)(o:HO):Hp:=λb=>if b=a then ae o else H b
theorem aL:upd H a o a=ae o:=by unfold upd;rw[av rfl]
theorem bF(h:b≠a):upd H a o b=H b:=by unfold upd;rw[ax h]
theorem RD:upd (upd H a o) a u=upd H a u:=by
 funext b;unfold upd;split<;>rfl
theorem aHc{H:Hp}(h:H a=ae o)(h':H b=ae u)(d:o≠u):a≠b:=by
 intro e;subst e;rw[h] at h';exact d (c9 h')
theorem cD{H:Hp}(h:H a=ae o)(h':H b=aj):a≠b:=by
 intro e;subst e;rw[h] at h';cases h'
def j7(h:ay)(a:am)(its:aE ak):Prop:=∃o,h.get? a=ae o/\o.cls=.type "tuple"/\∃n,(o.data,o.dict)=(A5 its n,aj)
theorem j7.tup{h:ay}{a:am}{its:aE ak}(t:j7 h a its):lw h a its:=let ⟨o,e,c,n,d⟩:=t;⟨o,e,c,n,di (·.1) d⟩
theorem j7.bare(t:j7 h a its):∃o,h.get? a=ae o/\o.dict=aj:=let ⟨o,e,_,_,d⟩:=t;⟨o,e,di (·.2) d⟩
theorem j7.new(h:ay)(items:aE ak):j7 (h.push {cls:=.type "tuple",data:=.seq items}) h.objs.size items:=⟨_,cx _ rfl,rfl,_,rfl⟩
section
variable (P:bh) (w:bd)
def gC(H:Hp)(h:ay)(a:am):HO->Prop
 |.lst xs=>xs.length<=aT/\∃(its:aa ak)(n:ag),Vals xs its/\h.get? a=ae {cls:=.type "list",data:=.seq its.toArray n}
 |.tup xs=>xs.length<=aT/\∃its:aa ak,Vals xs its/\j7 h a its.toArray
 |.dK kvs=>kvs.length<=aT/\(a==fy)=ai/\∃vs,KV kvs vs/\h.DictOf (cC P w) a vs
 |.dT kvs=>kvs.length<=aT/\(a==fy)=ai/\∃xs:aa (aa Key×am×ak),
   ky (λ(p:aa Key×V)(q:aa Key×am×ak)=>p.1=q.1/\H q.2.1=ae (.tup (p.1.map kV))/\RelV p.2 q.2.2) kvs xs/\
   ∃o es ep,h.get? a=ae o/\o.ExactDict/\o.data=.dict es ep/\es.toList=xs.map (entryOfKey (js (cC P w)))/\(xs.map (·.1)).Nodup
 |.set S n=>h.SetOf (intKind P w) a S n
 |.ins C dx fs=>H dx=ae (.own a)/\fs.length<=1000/\dx≠a/\h.get? a=ae (PySem.W.instObj C dx)/\
   ∃mA,h.Ns1 dx mA/\(∀f,aA2 (fs.lookup f) (mA f))/\A6 mA (fs.map (·.1))
 |.own _=>∃o,h.get? a=ae o
 |.xd fs=>∃mA,h.Ns1 a mA/\∀f,aA2 (fs.lookup f) (mA f)
 |.rng lo hi=>∃t u v,h.get? a=ae {cls:=.type "range",data:=.fields #[.int lo t,.int hi u,.int 1 v]}
 |.frz o u=>h.get? a=ae o/\gC H h a u
 |.tbl ps=>h.get? a=ae {cls:=.none,data:=.fields ps}
 |.met f x=>h.get? a=ae (xI (.ref f) (.ref x))
 |.ext φ=>φ h/\(∃o,h.get? a=ae o)/\∀h1 h2:ay,φ h1->(∀o,h1.get? a=ae o->h2.get? a=ae o)->φ h2
def HOk(H:Hp)(h:ay):Prop:=∀a o,H a=ae o->gC P w H h a o
end
section
variable {a:am}
theorem gC.lt(x:gC P w H h a o):a<h.objs.size:=by
 cases o with
 |lst xs=>obtain⟨_,_,_,_,e⟩:=x;exact bn e
 |tup xs=>obtain⟨_,_,_,p⟩:=x;exact p.tup.lt
 |dK kvs=>obtain⟨_,_,_,_,o,_,_,e,_⟩:=x;exact bn e
 |dT kvs=>obtain⟨_,_,_,_,o,_,_,e,_⟩:=x;exact bn e
 |set S n=>obtain⟨o,_,_,_,e,_⟩:=x;exact bn e
 |ins C dx fs=>obtain⟨_,_,_,e,_⟩:=x;exact bn e
 |own y=>obtain⟨_,e⟩:=x;exact bn e
 |xd fs=>obtain⟨_,⟨_,_,_,e,_⟩,_⟩:=x;exact bn e
 |rng lo hi=>obtain⟨_,_,_,e⟩:=x;exact bn e
 |frz ob u=>obtain⟨e,_⟩:=x;exact bn e
 |tbl ps=>exact bn (show h.get? a=ae _ from x)
 |met f y=>exact bn (show h.get? a=ae _ from x)
 |ext φ=>obtain⟨_,⟨_,e⟩,_⟩:=x;exact bn e
theorem Paired.aOy:∀{l₁:aa α}{l₂:aa β},ky F l₁ l₂->(∀a b,F a b->G a b)->ky G l₁ l₂
 |_,_,.nil,_=>.nil
 |_,_,.cons r t,f=>.cons (f _ _ r) (Paired.aOy t f)
theorem gC.stay(x:gC P w H h a o)(k:∀b u,(b=a\/H b=ae (.own a))->h.get? b=ae u->h'.get? b=ae u)
 (ho:∀b,H b=ae (.own a)->H' b=ae (.own a))(ht:∀b xs,H b=ae (.tup xs)->H' b=ae (.tup xs)):gC P w H' h' a o:=by
 induction o with
 |lst xs=>obtain⟨z,its,n,r,e⟩:=x;exact⟨z,its,n,r,k _ _ (.inl rfl) e⟩
 |tup xs=>obtain⟨z,its,r,ob,e,c⟩:=x;exact⟨z,its,r,ob,k _ _ (.inl rfl) e,c⟩
 |dK kvs=>obtain⟨z,y,vs,r,ob,es,ep,e,c⟩:=x;exact⟨z,y,vs,r,ob,es,ep,k _ _ (.inl rfl) e,c⟩
 |dT kvs=>
  obtain⟨z,y,xs,r,ob,es,ep,e,c⟩:=x;exact⟨z,y,xs,Paired.aOy r λp q z=>⟨z.1,ht _ _ z.2.1,z.2.2⟩,ob,es,ep,k _ _ (.inl rfl) e,c⟩
 |set S n=>obtain⟨ob,es,ep,t,e,c⟩:=x;exact⟨ob,es,ep,t,k _ _ (.inl rfl) e,c⟩
 |ins C dx fs=>
  obtain⟨d,z,ne,e,mA,⟨od,es,ep,e2,c⟩,r⟩:=x;exact⟨ho _ d,z,ne,k _ _ (.inl rfl) e,mA,⟨od,es,ep,k _ _ (.inr d) e2,c⟩,r⟩
 |own y=>obtain⟨ob,e⟩:=x;exact⟨ob,k _ _ (.inl rfl) e⟩
 |xd fs=>obtain⟨mA,⟨od,es,ep,e,c⟩,r⟩:=x;exact⟨mA,⟨od,es,ep,k _ _ (.inl rfl) e,c⟩,r⟩
 |rng lo hi=>obtain⟨t,u,v,e⟩:=x;exact⟨t,u,v,k _ _ (.inl rfl) e⟩
 |frz ob u ih=>obtain⟨e,q⟩:=x;exact⟨k _ _ (.inl rfl) e,ih q⟩
 |tbl ps=>
  have e:h.get? a=ae {cls:=.none,data:=.fields ps}:=x;show h'.get? a=ae {cls:=.none,data:=.fields ps};exact k a _ (.inl rfl) e
 |met f y=>
  have e:h.get? a=ae (xI (.ref f) (.ref y)):=x;show h'.get? a=ae (xI (.ref f) (.ref y));exact k a _ (.inl rfl) e
 |ext φ=>obtain⟨p,⟨o,e⟩,st⟩:=x;exact⟨st _ _ p λo q=>k _ _ (.inl rfl) q,⟨o,k _ _ (.inl rfl) e⟩,st⟩
theorem HOk.lt(x:HOk P w H h)(e:H a=ae o):a<h.objs.size:=(x a o e).lt
theorem HOk.fresh(x:HOk P w H h)(e:h.objs.size<=a):H a=aj:=by
 cases q:H a with
 |none=>rfl
 |some u=>exact bf (c_ (x.lt q) e) (fR _)
theorem HOk.kept(x:HOk P w H h)(k:∀b u,h.get? b=ae u->h'.get? b=ae u):HOk P w H h':=λa o e=>
 (x a o e).stay (λb u _ q=>k b u q) (λ_ q=>q) λ_ _ q=>q
theorem HOk.laid(x:HOk P w H h)(k:∀b u,h.get? b=ae u->h'.get? b=ae u)(hp:h.objs.size<=a)(new:gC P w (upd H a o) h' a o):HOk P w (upd H a o) h':=λb u e=>by
 have hn:=x.fresh hp;by_cases hb:b=a
 ·subst hb;rw[aL] at e;cases e;exact new
 ·rw[bF hb] at e;exact(x b u e).stay (λc v _ q=>k c v q) (λc q=>by rw[bF (cD q hn)];exact q) λc xs q=>by rw[bF (cD q hn)];exact q
end
def Rd(H:Hp)(a:am)(u:HO):Prop:=H a=ae u\/∃o,H a=ae (.frz o u)
theorem Rd.ok(r:Rd H a u)(x:HOk P w H h):gC P w H h a u:=by
 rcases r with r|⟨o,r⟩
 ·exact x a u r
 ·obtain⟨_,q⟩:=x a _ r;exact q
def Mut:aq HO->Prop
 |some (.lst _)=>gN
 |some (.dK _)=>gN
 |some (.dT _)=>gN
 |some (.set _ _)=>gN
 |some (.ins _ _ _)=>gN
 |some (.ext _)=>gN
 |_=>cg
section
variable {x e:am}
theorem HOk.write(ok:HOk P w H h)(mu:Mut (H x))(he:e=x\/H e=ae (.own x))(k:∀b u,b≠e->h.get? b=ae u->h'.get? b=ae u)(heo:∃u,h'.get? e=ae u)
 (new:gC P w (upd H x o') h' x o'):HOk P w (upd H x o') h':=λb u q=>by
 have nown:∀c y,H c=ae (.own y)->c≠x:=λc y r z=>by subst z;rw[r] at mu;exact mu
 have ntup:∀c xs,H c=ae (.tup xs)->c≠x:=λc xs r z=>by subst z;rw[r] at mu;exact mu
 by_cases hb:b=x
 ·subst hb;rw[aL] at q;cases q;exact new
 ·rw[bF hb] at q;by_cases hbe:b=e
  ·have q':H b=ae (.own x):=by
    rcases he with z|z
    ·exact bf (hbe.trans z) hb
    ·rw[hbe];exact z
   rw[q] at q';cases q';obtain⟨v,hv⟩:=heo;exact⟨v,by rw[hbe];exact hv⟩
  ·refine(ok b u q).stay (λc v hc r=>k c v ?_ r) (λc r=>by rw[bF (nown c b r)];exact r) λc xs r=>by rw[bF (ntup c xs r)];exact r
   rcases hc with rfl|hc
   ·exact hbe
   ·rintro rfl;rcases he with z|z
    ·exact nown c b hc z
    ·rw[hc] at z;cases z;exact hb rfl
end
structure Un(fs ex:aa am)(H H':Hp)(h h':ay):Prop where
 keep:∀b o,h.get? b=ae o->H b=aj->b∉fs->b∉ex->h'.get? b=ae o
 slot:∀b o,h.get? b=ae o->H b=aj->b∈fs->b∉ex->∃sl,h'.get? b=ae {o with slots:=sl}
 free:∀b o,h.get? b=ae o->H b=aj->b∉ex->H' b=aj
 there:∀b o,h.get? b=ae o->b∉ex->∃o',h'.get? b=ae o'
 tups:∀b xs,H b=ae (.tup xs)->H' b=ae (.tup xs)
 frzs:∀b o u,H b=ae (.frz o u)->H' b=ae (.frz o u)
 tbls:∀b ps,H b=ae (.tbl ps)->∃more,H' b=ae (.tbl (ps++more))
section
theorem Un.any(u:Un fs ex H H1 h h1)(q:h.get? b=ae ob)(n:H b=aj)(hx:b∉ex):∃sl,h1.get? b=ae {ob with slots:=sl}:=by
 by_cases hb:b∈fs
 ·exact u.slot b ob q n hb hx
 ·exact⟨ob.slots,u.keep b ob q n hb hx⟩
theorem Un.kept(k:∀b u,h.get? b=ae u->h'.get? b=ae u):Un fs ex H H h h':=
 ⟨λb ob q _ _ _=>k b ob q,λb ob q _ _ _=>⟨ob.slots,k b ob q⟩,λ_ _ _ n _=>n,λb ob q _=>⟨ob,k b ob q⟩,λ_ _ q=>q,λ_ _ _ q=>q,λ_ ps q=>⟨#[],by rw[q];simp⟩⟩
theorem Un.refl:Un fs ex H H h h:=Un.kept λ_ _ q=>q
theorem Un.laid(k:∀b u,h.get? b=ae u->h'.get? b=ae u)(hp:h.objs.size<=a)(hn:H a=aj):Un fs ex H (upd H a o) h h' where
 keep:=λb u q _ _ _=>k b u q
 slot:=λb u q _ _ _=>⟨u.slots,k b u q⟩
 free:=λb u q n _=>by rw[bF (cu (c_ (bn q) hp))];exact n
 there:=λb u q _=>⟨u,k b u q⟩
 tups:=λb xs q=>by rw[bF (cD q hn)];exact q
 frzs:=λb u xs q=>by rw[bF (cD q hn)];exact q
 tbls:=λb ps q=>⟨#[],by rw[bF (cD q hn),q];simp⟩
theorem Un.write(mu:Mut (H x))(he:e=x\/H e=ae (.own x))(k:∀b u,b≠e->h.get? b=ae u->h'.get? b=ae u)(heo:∃u,h'.get? e=ae u):Un fs ex H (upd H x o) h h':=by
 have hx:∀b,H b=aj->b≠x:=λb n z=>by subst z;rw[n] at mu;exact mu
 have hb:∀b,H b=aj->b≠e:=λb n z=>by
  subst z;rcases he with r|r
  ·exact hx b n r
  ·rw[n] at r;cases r
 have hm:∀b u,H b=ae u->¬Mut (ae u)->b≠x:=λb u q nm z=>by subst z;rw[q] at mu;exact nm mu
 refine⟨λb u q n _ _=>k b u (hb b n) q,λb u q n _ _=>⟨u.slots,k b u (hb b n) q⟩,λb u q n _=>by rw[bF (hx b n)];exact n,λb u q _=>?_,
  λb xs q=>by rw[bF (hm b _ q λz=>z)];exact q,λb u xs q=>by rw[bF (hm b _ q λz=>z)];exact q,λb ps q=>⟨#[],by rw[bF (hm b _ q λz=>z),q];simp⟩⟩
 by_cases hbe:b=e
 ·subst hbe;exact heo
 ·exact⟨u,k b u hbe q⟩
end
noncomputable def trk(h:ay)(H:Hp):aa am:=(bz h.objs.size).filter λa=>(H a).isSome
def aE7(h:ay)(H:Hp):ay:=xL h (trk h H)
theorem aA8(h:ay)(H:Hp):(aE7 h H).objs.size=h.objs.size:=PySem.W.hideAll_size _ _
theorem aE8(e:h.get? b=ae o)(n:H b=aj):(aE7 h H).get? b=ae o:=
 xS _ e λhm=>by
  have q:(H b).isSome=af:=(lz.mp hm).2;rw[n] at q;simp at q
theorem aHd(e:(aE7 h H).get? b=ae o):h.get? b=ae o/\H b=aj:=by
 have e':h.get? b=ae o:=sB (trk h H) e;refine⟨e',?_⟩;cases q:H b with
 |none=>rfl
 |some x=>
  have hm:b∈trk h H:=lz.mpr ⟨hG.mpr (bn e'),by simp[q]⟩;have z:(aE7 h H).get? b=aj:=A7 (trk h H) hm;rw[z] at e;cases e
structure Mod(K:bj)(mg:Str->aq ak)(base:ay):Prop where
 kin:K.In base
 glob:base.Ns bi mg
 blt:∃mb,base.Ns ya mb/\∀x:Str,x ≠ "__name__"->mb x=em x
 nolimit:base.NoLimit
/-- the context: a def's body (or a comprehension's block) running. base: fixed through the whole law;s₀,H₀: the entry;outer: the frames whose slots others may change (a def's callers);stack: all frames that run;
   ex: iterators that were made ahead of the entry and are walked here (a comprehension's);fn: the names whose cells were made at the entry (a def: all;a comprehension's block: its own);calm: not within an except suite;pn: Ψ that every state bears;xe: what is wanted of an exception that leaves the code -/
structure Cx where
 prog:bh
 w:bd
 K:bj
 mg:Str->aq ak
 base:ay
 A:bS
 N:aa Str
 s₀:ar
 H₀:Hp
 env:cv
 outer:aa cv
 stack:aa cv
 ex:aa am
 fn:Str->au
 calm:au
 pn:aa (am×bg)
 xe:ak->ar->Prop
noncomputable def frs(l:aa cv):aa am:=l.filterMap (·.frame)
abbrev Cx.fs(X:Cx):aa am:=frs X.outer
def Vis(sc:dL)(x:Str):Prop:=sc.names.lookup x=ae .local\/sc.names.lookup x=ae .cell\/sc.names.lookup x=ae .free
def Loc(sc:dL)(x:Str):Prop:=sc.names.lookup x=ae .local\/sc.names.lookup x=ae .cell
def Look(env:cv)(h:ay)(m:Str->aq ak)(x:Str)(u:ak):Prop:=
 (env.kindOf x=ae .local/\m x=ae u)\/((env.kindOf x=ae .cell\/env.kindOf x=ae .free)/\∃c,env.cells.lookup x=ae c/\h.IsCell c (ae u))
abbrev zSE(X:Cx)(e:Expr)(es:aa Expr):Prop:=cf (e::es) X.env=(ai,eval e X.env)::cf es X.env
abbrev zSP(X:Cx)(pos:bX)(es:aa Expr):Prop:=(eW pos (cf es X.env)).any (·.1)=ai
abbrev zFw(X:Cx)(cpos:bX)(es:aa Expr):Prop:=((eW cpos (cf es X.env)).all (λx=>!x.1)&&(yb cpos (yc [] X.env)).all (λx=>x.1.isSome)
  &&ϒ (es.length+([]:aa sC).length+(if ([]:aa sC).isEmpty then 0 else 1)<30))=af
abbrev zSw(X:Cx)(e:Expr)(x:Str)(pos' pos:bX):Prop:=eB e (ae (.Name x pos')) pos.line X.env=pure ai
abbrev zFn(X:Cx)(x:Str):Prop:=X.fn x=af\/X.env.scope.names.lookup x=ae .local
structure Cx.Ok(X:Cx):Prop where
 mod:Mod X.K X.mg X.base
 kind:X.env.scope.kind=.function
 glob:X.env.globals=bi
 blt:X.env.builtins=ya
 above:X.s₀.heap.objs.size<=X.env.locals
 inj:∀x y c,X.env.cells.lookup x=ae c->X.env.cells.lookup y=ae c->x=y
 has:∀x,(X.env.kindOf x=ae .cell\/X.env.kindOf x=ae .free)->∃c,X.env.cells.lookup x=ae c
 cab:∀x c,X.fn x=af->X.env.cells.lookup x=ae c->X.s₀.heap.objs.size<=c
 hd:X.calm=af->X.A.handled=aj
 frames:X.A.frames=ae X.stack
 stk:X.stack=X.outer\/(X.stack=X.env::X.outer/\X.env.frame=ae X.env.locals)
 exf:∀b∈X.ex,b≠X.env.locals/\∀x c,X.env.cells.lookup x=ae c->c≠b
 bs:∀b o,X.base.get? b=ae o->X.s₀.heap.get? b=ae o/\X.H₀ b=aj
 bsz:X.base.objs.size<=X.s₀.heap.objs.size
 noex:∀b o,X.base.get? b=ae o->b∉X.ex
 exfs:∀b∈X.ex,b∉X.fs
 YF:X.s₀.heap.FunFrames X.base X.outer
 frf:∀b∈X.fs,X.H₀ b=aj
structure Inv(X:Cx)(Ψ:aa (am×bg))(σ:aa (aq V))(H:Hp)(s:ar):Prop where
 ok:X.Ok
 os:s.os=X.s₀.os
 bare:iz s.gens
 base:Un X.fs X.ex X.H₀ H X.s₀.heap s.heap
 loc:∃m,s.heap.Ns X.env.locals m/\∀(i:ag)(x:Str)(v:V),X.N[i]?=ae x->σ[i]?=ae (ae v)->Vis X.env.scope x->∃u,RelV v u/\Look X.env s.heap m x u
 cell:∀x c,X.env.cells.lookup x=ae c->∃v,s.heap.IsCell c v
 free:H X.env.locals=aj
 freeC:∀x c,X.env.cells.lookup x=ae c->H c=aj
 pin:∀p∈X.pn++Ψ,s.heap.get? p.1=ae p.2/\H p.1=aj/\p.1≠X.env.locals/\p.1∉X.fs/\∀v,p.2.data≠.cell v
 hok:HOk X.prog X.w H s.heap
 len:σ.length=X.N.length
section
variable {X:Cx} {Ψ:aa (am×bg)} {σ:aa (aq V)} {H H':Hp} {s:ar} {h':ay}
theorem Cx.Ok.aQy(ok:X.Ok)(e:X.base.get? b=ae o):b∉X.fs:=λhb=>by
 have:=(ok.YF.mem hb).1;rw[e] at this;cases this
theorem Inv.bs(I:Inv X Ψ σ H s):∀b o,X.base.get? b=ae o->s.heap.get? b=ae o/\H b=aj:=λb o e=>
 ⟨I.base.keep b o (I.ok.bs b o e).1 (I.ok.bs b o e).2 (I.ok.aQy e) (I.ok.noex b o e),I.base.free b o (I.ok.bs b o e).1 (I.ok.bs b o e).2 (I.ok.noex b o e)⟩
theorem Inv.bk(I:Inv X Ψ σ H s):∀b o,X.base.get? b=ae o->s.heap.get? b=ae o:=λb o e=>(I.bs b o e).1
theorem Inv.mod(I:Inv X Ψ σ H s):Mod X.K X.mg X.base:=I.ok.mod
theorem Inv.kIn(I:Inv X Ψ σ H s):X.K.In s.heap:=I.ok.mod.kin.keeps I.bk
theorem Inv.lt(I:Inv X Ψ σ H s):X.env.locals<s.heap.objs.size:=let ⟨_,hn,_⟩:=I.loc;hn.lt
theorem Inv.sz(I:Inv X Ψ σ H s):X.s₀.heap.objs.size<=s.heap.objs.size:=dj I.ok.above (ii I.lt)
theorem Inv.aQi(I:Inv X Ψ σ H s)(h:s.heap.objs.size<=a):a∉X.fs:=λhb=>by
 obtain⟨_,o,ho,_⟩:=I.ok.YF.mem hb;exact bf (c_ (bn ho) (dj I.sz h)) (fR _)
theorem Inv.cne(I:Inv X Ψ σ H s):∀x c,X.env.cells.lookup x=ae c->c≠X.env.locals:=λx c e z=>by
 obtain⟨v,o,ho,hd⟩:=I.cell x c e;obtain⟨m,⟨o',es,ep,ho',hd',_⟩,_⟩:=I.loc;rw[z,ho'] at ho;cases ho;rw[hd'] at hd;cases hd
theorem Inv.YF(I:Inv X Ψ σ H s):s.heap.FunFrames X.base X.outer:=by
 have all:∀(l:aa cv),(∀b∈frs l,b∈X.fs)->X.s₀.heap.FunFrames X.base l->s.heap.FunFrames X.base l:=by
  intro l;induction l with
  |nil=>intro _ _;trivial
  |cons env r ih=>
   intro hs hl;obtain⟨hk,⟨L,o,hf,hn,ho,hd⟩,hr⟩:=hl;have hL:L∈X.fs:=hs L (by unfold frs;rw[jt,hf];exact bo);obtain⟨sl,e⟩:=I.base.slot L o ho (I.ok.frf L hL) hL λz=>I.ok.exfs L z hL
   exact⟨hk,⟨L,_,hf,hn,e,hd⟩,ih (λb hb=>hs b (by unfold frs;rw[jt,hf];exact bw _ hb)) hr⟩
 exact all X.outer (λ_ hb=>hb) I.ok.YF
theorem Inv.stack(I:Inv X Ψ σ H s):s.heap.FunFrames X.base X.stack:=by
 rcases I.ok.stk with e|⟨e,hf⟩
 ·rw[e];exact I.YF
 ·rw[e];obtain⟨m,hn,_⟩:=I.loc;refine .cons (by rw[I.ok.kind];decide) hf hn ?_ I.YF;exact A8 (dj I.ok.bsz I.ok.above)
theorem Inv.U7(I:Inv X Ψ σ H s):∀b∈frs X.stack,b∈X.env.locals::X.fs:=λb hb=>by
 rcases I.ok.stk with e|⟨e,hf⟩
 ·rw[e] at hb;exact bw _ hb
 ·rw[e] at hb;unfold frs at hb;rw[jt,hf] at hb;exact hb
theorem Inv.GP(I:Inv X Ψ σ H s):∀b∈frs X.stack,H b=aj:=λb hb=>by
 rcases bP.mp (I.U7 b hb) with e|hb
 ·rw[e];exact I.free
 ·obtain⟨_,o,ho,_⟩:=I.ok.YF.mem hb;exact I.base.free b o ho (I.ok.frf b hb) λz=>I.ok.exfs b z hb
theorem Inv.step{ch:aa am}(I:Inv X Ψ σ H s)
 (hch:∀b∈ch,(b∈X.ex\/X.s₀.heap.objs.size<=b)/\b≠X.env.locals/\(∀x c,X.env.cells.lookup x=ae c->c≠b)/\∀p∈X.pn++Ψ,p.1≠b)
 (keep:∀b o,b≠X.env.locals->b∉X.fs->b∉ch->s.heap.get? b=ae o->H b=aj->h'.get? b=ae o)
 (slot:∀b o,b≠X.env.locals->b∈X.fs->b∉ch->s.heap.get? b=ae o->H b=aj->∃sl,h'.get? b=ae {o with slots:=sl})(free:∀b o,b∉ch->s.heap.get? b=ae o->H b=aj->H' b=aj)
 (there:∀b o,b∉ch->s.heap.get? b=ae o->∃o',h'.get? b=ae o')
 (tups:∀b xs,H b=ae (.tup xs)->H' b=ae (.tup xs))(frzs:∀b o u,H b=ae (.frz o u)->H' b=ae (.frz o u))(tbls:∀b ps,H b=ae (.tbl ps)->∃more,H' b=ae (.tbl (ps++more)))
 (ns:∀m,s.heap.Ns X.env.locals m->h'.Ns X.env.locals m)(hok:HOk X.prog X.w H' h')(hg:iz g') :
  Inv X Ψ σ H' {s with heap:=h',gens:=g',drawn:=d',toks:=t'}:=by
 have neL:∀b o,X.s₀.heap.get? b=ae o->b≠X.env.locals:=λb o e=>cu (c_ (bn e) I.ok.above)
 have neC:∀b o,X.s₀.heap.get? b=ae o->b∉X.ex->b∉ch:=λb o e hx hb=>by
  rcases(hch b hb).1 with z|z
  ·exact hx z
  ·exact bf (c_ (bn e) z) (fR _)
 have cellK:∀x c,X.env.cells.lookup x=ae c->∀v,s.heap.IsCell c v->h'.IsCell c v:=λx c e v ⟨o,ho,hd⟩=>by
  have nch:c∉ch:=λz=>(hch c z).2.2.1 x c e rfl
  by_cases hc:c∈X.fs
  ·obtain⟨sl,q⟩:=slot c o (I.cne x c e) hc nch ho (I.freeC x c e);exact⟨_,q,hd⟩
  ·exact⟨o,keep c o (I.cne x c e) hc nch ho (I.freeC x c e),hd⟩
 refine⟨I.ok,I.os,hg,⟨λb o e n hb hx=>?_,λb o e n hb hx=>?_,λb o e n hx=>?_,λb o e hx=>?_,λb xs e=>tups b xs (I.base.tups b xs e),λb o xs e=>frzs b o xs (I.base.frzs b o xs e),λb ps e=>?_⟩,?_,λx c e=>?_,?_,λx c e=>?_,λp hp=>?_,hok,I.len⟩
 ·exact keep b o (neL b o e) hb (neC b o e hx) (I.base.keep b o e n hb hx) (I.base.free b o e n hx)
 ·obtain⟨sl,e1⟩:=I.base.slot b o e n hb hx;obtain⟨sl',e2⟩:=slot b _ (neL b o e) hb (neC b o e hx) e1 (I.base.free b o e n hx);exact⟨sl',e2⟩
 ·obtain⟨o',e1⟩:=I.base.there b o e hx;exact free b o' (neC b o e hx) e1 (I.base.free b o e n hx)
 ·obtain⟨o',e1⟩:=I.base.there b o e hx;exact there b o' (neC b o e hx) e1
 ·obtain⟨m1,e1⟩:=I.base.tbls b ps e;obtain⟨m2,e2⟩:=tbls b _ e1;exact⟨m1++m2,by rw[e2,A9]⟩
 ·obtain⟨m,hn,hl⟩:=I.loc;refine⟨m,ns m hn,λi x v e1 e2 e3=>?_⟩;obtain⟨u,r,l⟩:=hl i x v e1 e2 e3;refine⟨u,r,?_⟩;rcases l with l|⟨k,c,e,z⟩
  ·exact .inl l
  ·exact .inr ⟨k,c,e,cellK x c e _ z⟩
 ·obtain⟨v,z⟩:=I.cell x c e;exact⟨v,cellK x c e v z⟩
 ·obtain⟨m,⟨o,_,_,ho,_⟩,_⟩:=I.loc;exact free _ o (λz=>(hch _ z).2.1 rfl) ho I.free
 ·obtain⟨v,o,ho,hd⟩:=I.cell x c e;exact free c o (λz=>(hch c z).2.2.1 x c e rfl) ho (I.freeC x c e)
 ·obtain⟨e,n,ne,nf,d⟩:=I.pin p hp;have nch:p.1∉ch:=λz=>(hch p.1 z).2.2.2 p hp rfl
  exact⟨keep p.1 p.2 ne nf nch e n,free p.1 p.2 nch e n,ne,nf,d⟩
theorem Inv.un(I:Inv X Ψ σ H s)(u:Un X.fs [] H H' s.heap h')(hok:HOk X.prog X.w H' h'):Inv X Ψ σ H' {s with heap:=h',toks:=t'}:=by
 obtain⟨m,⟨o,es,ep,ho,r⟩,_⟩:=id I.loc;obtain⟨sl,hL⟩:=u.any ho I.free 0x2;exact I.step (ch:=[]) (λ_ z=>nomatch z) (λb o _ hb _ e n=>u.keep b o e n hb 0x2) (λb o _ hb _ e n=>u.slot b o e n hb 0x2) (λb o _ e n=>u.free b o e n 0x2) (λb o _ e=>u.there b o e 0x2) u.tups u.frzs u.tbls (λm' hm=>by
  obtain⟨o',es',ep',ho',r'⟩:=hm;rw[ho] at ho';cases ho';exact⟨_,es',ep',hL,r'⟩) hok I.bare
theorem Inv.call(I:Inv X Ψ σ H s)(u:Un (frs X.stack) ch H H' s.heap h')(hok:HOk X.prog X.w H' h')(hg:iz g')
 (hch:∀b∈ch,(b∈X.ex\/X.s₀.heap.objs.size<=b)/\b≠X.env.locals/\(∀x c,X.env.cells.lookup x=ae c->c≠b)/\∀p∈X.pn++Ψ,p.1≠b) :
  Inv X Ψ σ H' {s with heap:=h',gens:=g',drawn:=d',toks:=t'}:=by
 obtain⟨m,⟨o,es,ep,ho,r⟩,_⟩:=id I.loc;obtain⟨sl,hL⟩:=u.any ho I.free λz=>(hch _ z).2.1 rfl
 exact I.step hch (λb o hL hb hc e n=>u.keep b o e n (λz=>(bP.mp (I.U7 b z)).elim hL hb) hc) (λb o _ _ hc e n=>u.any e n hc) (λb o hc e n=>u.free b o e n hc) (λb o hc e=>u.there b o e hc) u.tups u.frzs u.tbls (λm' hm=>by
  obtain⟨o',es',ep',ho',r'⟩:=hm;rw[ho] at ho';cases ho';exact⟨_,es',ep',hL,r'⟩) hok hg
theorem Inv.turned(I:Inv X Ψ σ H s)(k:∀b o,b≠it->s.heap.get? b=ae o->h'.get? b=ae o)(hn:H it=aj)(hL:it≠X.env.locals)
 (h1:it∈X.ex\/X.s₀.heap.objs.size<=it)(h2:∀x c,X.env.cells.lookup x=ae c->c≠it)(h3:∀p∈X.pn++Ψ,p.1≠it):Inv X Ψ σ H {s with heap:=h',toks:=t'}:=by
 have nit:∀b u,H b=ae u->b≠it:=λb u e z=>by rw[z,hn] at e;cases e
 refine I.step (ch:=[it]) (λb hb=>?_) (λb o _ _ hc e _=>k b o (λz=>hc (by simp[z])) e) (λb o _ _ hc e _=>⟨o.slots,k b o (λz=>hc (by simp[z])) e⟩) (λ_ _ _ _ n=>n)
  (λb o hc e=>⟨o,k b o (λz=>hc (by simp[z])) e⟩) (λ_ _ e=>e) (λ_ _ _ e=>e) (λb ps e=>⟨#[],by rw[e];simp⟩) (λm hm=>?_) (λb u e=>?_) I.bare
 ·have e:b=it:=by simpa using hb
  subst e;exact⟨h1,hL,h2,h3⟩
 ·obtain⟨o,es,ep,ho,r⟩:=hm;exact⟨o,es,ep,k _ o (Ne.symm hL) ho,r⟩
 ·refine(I.hok b u e).stay (λc v hc q=>k c v ?_ q) (λ_ q=>q) λ_ _ q=>q
  rcases hc with z|z
  ·rw[z];exact nit b u e
  ·exact nit c _ z
theorem Inv.tok(I:Inv X Ψ σ H s)(t:ag):Inv X Ψ σ H {s with toks:=t}:=I.un Un.refl I.hok
theorem Inv.kept(I:Inv X Ψ σ H s)(k:∀b u,s.heap.get? b=ae u->h'.get? b=ae u):Inv X Ψ σ H {s with heap:=h',toks:=t'}:=I.un (Un.kept k) (I.hok.kept k)
theorem Inv.laid(I:Inv X Ψ σ H s)(k:∀b u,s.heap.get? b=ae u->h'.get? b=ae u)(hp:s.heap.objs.size<=a)(new:gC X.prog X.w (upd H a o) h' a o) :
  Inv X Ψ σ (upd H a o) {s with heap:=h',toks:=t'}:=I.un (Un.laid k hp (I.hok.fresh hp)) (I.hok.laid k hp new)
theorem Inv.write(I:Inv X Ψ σ H s)(mu:Mut (H x))(he:e=x\/H e=ae (.own x))(k:∀b u,b≠e->s.heap.get? b=ae u->h'.get? b=ae u)(heo:∃u,h'.get? e=ae u)
 (new:gC X.prog X.w (upd H x o) h' x o):Inv X Ψ σ (upd H x o) {s with heap:=h',toks:=t'}:=I.un (Un.write mu he k heo) (I.hok.write mu he k heo new)
theorem Inv.weak(I:Inv X Ψ σ H s)(hl:σ'.length=σ.length)(w:∀(i:ag) v,σ'[i]?=ae (ae v)->σ[i]?=ae (ae v)):Inv X Ψ σ' H s:=
 ⟨I.ok,I.os,I.bare,I.base,let ⟨m,hn,hl'⟩:=I.loc;⟨m,hn,λi x v e1 e2 e3=>hl' i x v e1 (w i v e2) e3⟩,I.cell,I.free,I.freeC,I.pin,I.hok,hl.trans I.len⟩
theorem Inv.RG(I:Inv X Ψ σ H s)(h:∀p∈pins',s.heap.get? p.1=ae p.2/\H p.1=aj/\p.1≠X.env.locals/\p.1∉X.fs/\∀v,p.2.data≠.cell v):Inv X pins' σ H s:=
 ⟨I.ok,I.os,I.bare,I.base,I.loc,I.cell,I.free,I.freeC,λp hp=>(e5.mp hp).elim (λz=>I.pin p (i6 _ z)) (h p),I.hok,I.len⟩
theorem GQ{N:aa Str}(hN:N.Nodup){i j:ag}(a:N[i]?=ae x)(b:N[j]?=ae x):i=j:=by
 obtain⟨h1,e1⟩:=du.mp a;obtain⟨h2,e2⟩:=du.mp b;exact(List.getElem_inj hN).mp (e1.trans e2.symm)
theorem LQ(I:Inv X Ψ σ H s)(hN:X.N.Nodup)(hi:X.N[i]?=ae x)(hx:Loc X.env.scope x)(r:RelV v u)
 (h:∀s',Inv X Ψ (σ.set i (ae v)) H s'->(∃a,fS a s.heap s'.heap/\(a=X.env.locals\/X.env.cells.lookup x=ae a))->Q () s')(hf:zFn X x:=by first|exact .inl rfl|exact .inr rfl|assumption):ϑ M A (storeName X.env x u) Q E s:=by
 obtain⟨m,hn,hl⟩:=id I.loc;have hcls:(X.env.scope.kind==.class||(X.env.scope.kind==.module&&X.env.locals !=X.env.globals))=ai:=by rw[I.ok.kind];rfl
 have hiσ:i<σ.length:=by rw[I.len];exact(du.mp hi).1
 have cne:=I.cne;have tracked:∀{a:am}{h':ay},(∃o,s.heap.get? a=ae o/\H a=aj)->fS a s.heap h'->HOk X.prog X.w H h':=λ{a h'} ha hs b ob e=>by
  obtain⟨_,_,hfree⟩:=ha;refine(I.hok b ob e).stay (λc w' hc q=>(hs.2 c ?_).trans q) (λ_ q=>q) λ_ _ q=>q
  rintro rfl;rcases hc with rfl|hc
  ·rw[hfree] at e;cases e
  ·rw[hfree] at hc;cases hc
 rcases hx with hk|hk
 ·refine wpAny_storeName_local hk hn (λh' hn' hs=>?_) hcls;obtain⟨oL,_,_,hoL,_⟩:=id hn;refine h _ ⟨I.ok,I.os,I.bare,⟨λb o e n hb hx=>?_,λb o e n hb hx=>?_,I.base.free,λb o e hx=>?_,I.base.tups,I.base.frzs,I.base.tbls⟩,⟨_,hn',λj y v' e1 e2 e3=>?_⟩,λy c e=>?_,I.free,I.freeC,λp hp=>?_,tracked ⟨oL,hoL,I.free⟩ hs,by simpa using I.len⟩ ⟨_,hs,.inl rfl⟩
  ·exact(hs.2 b (cu (c_ (bn e) I.ok.above))).trans (I.base.keep b o e n hb hx)
  ·obtain⟨sl,e1⟩:=I.base.slot b o e n hb hx;exact⟨sl,(hs.2 b (cu (c_ (bn e) I.ok.above))).trans e1⟩
  ·obtain⟨o',e1⟩:=I.base.there b o e hx;exact⟨o',(hs.2 b (cu (c_ (bn e) I.ok.above))).trans e1⟩
  ·by_cases hj:j=i
   ·subst hj;rw[hi] at e1;cases e1;rw[gi hiσ] at e2;cases e2;exact⟨u,r,.inl ⟨hk,by simp⟩⟩
   ·rw[dv (Ne.symm hj)] at e2;obtain⟨u',r',q⟩:=hl j y v' e1 e2 e3;refine⟨u',r',?_⟩;rcases q with ⟨k,e⟩|⟨k,c,e,z⟩
    ·refine .inl ⟨k,?_⟩;have:y≠x:=λe=>hj (GQ hN e1 (e▸hi))
     simp[this,e]
    ·exact .inr ⟨k,c,e,z.sameBut hs (cne y c e)⟩
  ·obtain⟨w',z⟩:=I.cell y c e;exact⟨w',z.sameBut hs (cne y c e)⟩
  ·obtain⟨e,n,ne,nf,d⟩:=I.pin p hp;exact⟨(hs.2 p.1 ne).trans e,n,ne,nf,d⟩
 ·have hfn:X.fn x=af:=by
   rcases hf with z|z
   ·exact z
   ·rw[z] at hk;cases hk
  obtain⟨c,hc⟩:=I.ok.has x (.inl hk);obtain⟨w',z⟩:=I.cell x c hc;refine wpAny_storeName_cell I.ok.kind hk hc z (λh' hc' hs=>?_);obtain⟨oc,hoc,hocd⟩:=id z;refine h {s with heap:=h'} ⟨I.ok,I.os,I.bare,⟨λb o e n hb hx=>?_,λb o e n hb hx=>?_,I.base.free,λb o e hx=>?_,I.base.tups,I.base.frzs,I.base.tbls⟩,⟨m,hn.sameBut hs (Ne.symm (cne x c hc)),λj y v' e1 e2 e3=>?_⟩,λy c' e=>?_,I.free,I.freeC,λp hp=>?_,tracked ⟨oc,hoc,I.freeC x c hc⟩ hs,by simpa using I.len⟩ ⟨c,hs,.inr hc⟩
  ·exact(hs.2 b (cu (c_ (bn e) (I.ok.cab x c hfn hc)))).trans (I.base.keep b o e n hb hx)
  ·obtain⟨sl,e1⟩:=I.base.slot b o e n hb hx;exact⟨sl,(hs.2 b (cu (c_ (bn e) (I.ok.cab x c hfn hc)))).trans e1⟩
  ·obtain⟨o',e1⟩:=I.base.there b o e hx;exact⟨o',(hs.2 b (cu (c_ (bn e) (I.ok.cab x c hfn hc)))).trans e1⟩
  ·by_cases hj:j=i
   ·subst hj;rw[hi] at e1;cases e1;rw[gi hiσ] at e2;cases e2;exact⟨u,r,.inr ⟨.inl hk,c,hc,hc'⟩⟩
   ·rw[dv (Ne.symm hj)] at e2;obtain⟨u',r',q⟩:=hl j y v' e1 e2 e3;refine⟨u',r',?_⟩;rcases q with q|⟨k,c',e,z'⟩
    ·exact .inl q
    ·refine .inr ⟨k,c',e,z'.sameBut hs ?_⟩;rintro rfl;exact hj (GQ hN e1 (I.ok.inj _ _ _ e hc▸hi))
  ·by_cases hcc:c'=c
   ·subst hcc;exact⟨_,hc'⟩
   ·obtain⟨w2,z2⟩:=I.cell y c' e;exact⟨w2,z2.sameBut hs hcc⟩
  ·obtain⟨e,n,ne,nf,d⟩:=I.pin p hp;refine⟨(hs.2 p.1 ?_).trans e,n,ne,nf,d⟩;intro q;rw[q,hoc] at e;have q':oc=p.2:=c9 e;exact d w' (by rw[<-q'];exact hocd)
theorem xR(I:Inv X Ψ σ H s)(hN:X.N.Nodup)(hi:X.N[i]?=ae x)(hx:Loc X.env.scope x)(r:RelV v u)
 (h:∀s',Inv X Ψ (σ.set i (ae v)) H s'->Q () s')(hf:zFn X x:=by first|exact .inl rfl|exact .inr rfl|assumption):ϑ M A (storeName X.env x u) Q E s:=
 LQ I hN hi hx r (λs' I' _=>h s' I') hf
theorem Inv.call'(I:Inv X Ψ σ H s)(ho:s'.os=s.os)(u:Un (frs X.stack) ch H H' s.heap s'.heap)(hok:HOk X.prog X.w H' s'.heap)(hg:iz s'.gens)
 (hch:∀b∈ch,(b∈X.ex\/X.s₀.heap.objs.size<=b)/\b≠X.env.locals/\(∀x c,X.env.cells.lookup x=ae c->c≠b)/\∀p∈X.pn++Ψ,p.1≠b):Inv X Ψ σ H' s':=by
 obtain⟨h',g',d',t',o'⟩:=s';have e:o'=s.os:=ho;subst e;exact I.call u hok hg hch
end
abbrev XK:=ak->aq am->Hp->Prop
noncomputable abbrev St:=aa (aq V)
abbrev VK:=V->Hp->Prop
abbrev TE:=St->Hp->VK->Prop
abbrev TT:=St->Hp->(au->Hp->Prop)->Prop
abbrev TA:=St->Hp->(aa V->Hp->Prop)->Prop
structure Ends where
 nx:St->Hp->Prop
 rt:VK
 bk:St->Hp->Prop:=λ_ _=>cg
 ct:St->Hp->Prop:=λ_ _=>cg
abbrev TS:=Ends->St->Hp->Prop
def EP(X:Cx)(Ψ:aa (am×bg))(σ:St)(Q:VK)(u:ak)(s':ar):Prop:=∃v H',Inv X Ψ σ H' s'/\RelV v u/\Q v H'
def TP(X:Cx)(Ψ:aa (am×bg))(σ:St)(Q:au->Hp->Prop)(b:au)(s':ar):Prop:=∃H',Inv X Ψ σ H' s'/\Q b H'
def AP(X:Cx)(Ψ:aa (am×bg))(σ:St)(Q:aa V->Hp->Prop)(us:aa ak)(s':ar):Prop:=∃vs H',Inv X Ψ σ H' s'/\Vals vs us/\Q vs H'
def SP(X:Cx)(Ψ:aa (am×bg))(D:Ends)(f:Flow)(s':ar):Prop:=
 match f with
 |.next=>∃σ' H',Inv X Ψ σ' H' s'/\D.nx σ' H'
 |.brk=>∃σ' H',Inv X Ψ σ' H' s'/\D.bk σ' H'
 |.cont=>∃σ' H',Inv X Ψ σ' H' s'/\D.ct σ' H'
 |.ret u=>∃v σ' H',Inv X Ψ σ' H' s'/\RelV v u/\D.rt v H'
def PE(X:Cx)(e:Expr)(t:TE):Prop:=
 ∀(Ψ:aa (am×bg))(s:ar)(σ:St)(H:Hp)(Q:VK),Inv X Ψ σ H s->t σ H Q->ϑ (aw X.prog X.w) X.A (eval e X.env) (EP X Ψ σ Q) X.xe s
def PT(X:Cx)(e:Expr)(t:TT):Prop:=
 ∀(Ψ:aa (am×bg))(s:ar)(σ:St)(H:Hp)(Q:au->Hp->Prop),Inv X Ψ σ H s->t σ H Q->ϑ (aw X.prog X.w) X.A (sD e X.env (eval e X.env)) (TP X Ψ σ Q) X.xe s
def PW(X:Cx)(e:Expr)(t:TT):Prop:=
 ∀(whole:Sem ak)(Ψ:aa (am×bg))(s:ar)(σ:St)(H:Hp)(Q:au->Hp->Prop),Inv X Ψ σ H s->t σ H Q->ϑ (aw X.prog X.w) X.A (sD e X.env whole) (TP X Ψ σ Q) X.xe s
theorem PW.pt(h:PW X e t):PT X e t:=h _
def PA(X:Cx)(es:aa Expr)(t:TA):Prop:=
 ∀(pos:bX)(Ψ:aa (am×bg))(s:ar)(σ:St)(H:Hp)(Q:aa V->Hp->Prop),Inv X Ψ σ H s->t σ H Q->ϑ (aw X.prog X.w) X.A (lI (eW pos (cf es X.env))) (AP X Ψ σ Q) X.xe s
def PS(X:Cx)(st:bq)(t:TS):Prop:=
 ∀(Ψ:aa (am×bg))(s:ar)(σ:St)(H:Hp)(D:Ends),Inv X Ψ σ H s->t D σ H->ϑ (aw X.prog X.w) X.A (exec st X.env) (SP X Ψ D) X.xe s
def PSs(X:Cx)(st:aa bq)(t:TS):Prop:=
 ∀(Ψ:aa (am×bg))(s:ar)(σ:St)(H:Hp)(D:Ends),Inv X Ψ σ H s->t D σ H->ϑ (aw X.prog X.w) X.A (execs st X.env) (SP X Ψ D) X.xe s
theorem thn(h:ϑ M A t Q E s)(hQ:∀a s,Q a s->Q' a s):ϑ M A t Q' E s:=dA h hQ λ_ _ x=>x
section
variable {X:Cx}
noncomputable def aKj(i:ag):TE:=λσ H Q=>∃v,σ[i]?=ae (ae v)/\Q v H
noncomputable def tC(v:V):TE:=λ_ H Q=>Q v H
theorem fH(hN:X.N[i]?=ae x)(hv:Vis X.env.scope x)(hd:nDb x:=by decide)(hcd:nCd x:=by decide):PE X (.Name x pos) (aKj i):=by
 intro Ψ s σ H Q I h;obtain⟨v,e,h⟩:=h;obtain⟨m,hn,hl⟩:=I.loc;obtain⟨u,r,l⟩:=hl i x v hN e hv;have fin:EP X Ψ σ Q u s:=⟨v,H,I,r,h⟩
 rcases l with ⟨hk,hm⟩|⟨hk,c,hc,hcell⟩
 ·exact yd (wpAny_loadName_local I.ok.kind hk hn hm fin) hd
 ·rcases hk with hk|hk
  ·exact yd (wpAny_loadName_cell I.ok.kind hk hc hcell fin) hd
  ·exact yd (wpAny_loadName_free I.ok.kind hk hc hcell fin hcd) hd
theorem aL0{i j pos}:PE X (.Constant (.int i) j pos) (tC (.int i)):=λ_ _ _ H _ I h=>wpAny_Constant_int ⟨.int i,H,I.tok _,⟨_,rfl⟩,h⟩
theorem aOz{b j pos}:PE X (.Constant (.bool b) j pos) (tC (.bl b)):=λ_ _ _ H _ I h=>Constant_bool ⟨.bl b,H,I,rfl,h⟩
theorem aL1{j pos}:PE X (.Constant .none j pos) (tC .non):=λ_ _ _ H _ I h=>Constant_none ⟨.non,H,I,rfl,h⟩
theorem aA9{x j pos}:PE X (.Constant (.str x) j pos) (tC (.str x)):=λ_ _ _ H _ I h=>Calls.Constant_str ⟨.str x,H,I.tok _,⟨_,rfl⟩,h⟩
def Gl(X:Cx)(x:Str):Prop:=X.env.kindOf x=ae .globalImplicit
theorem lC(I:Inv X Ψ σ H s)(hg:Gl X x)(hm:X.mg x=ae u)(h:Q u s)
 (hd:nDb x:=by decide):ϑ (aw X.prog X.w) X.A (eval (.Name x pos) X.env) Q E s:=
 Ba I.ok.kind hg (Calls.loadGlobal_global (by rw[I.ok.glob];exact I.mod.glob.keeps I.bk) hm h) hd
theorem nA(I:Inv X Ψ σ H s)(hg:Gl X x)(hm:X.mg x=aj)(hv:em x=ae u)(h:Q u s)
 (hn:x ≠ "__name__":=by decide)(hd:nDb x:=by decide):ϑ (aw X.prog X.w) X.A (eval (.Name x pos) X.env) Q E s:=by
 obtain⟨mb,h1,h2⟩:=I.mod.blt;exact Ba I.ok.kind hg (Calls.loadGlobal_builtin (by rw[I.ok.glob];exact I.mod.glob.keeps I.bk) hm (by rw[I.ok.blt];exact h1.keeps I.bk) ((h2 x hn).trans hv) h) hd
theorem sG(hg:Gl X x)(hm:X.mg x=ae u)(r:RelV v u)(hd:nDb x:=by decide):PE X (.Name x pos) (tC v):=
 λ_ _ _ H _ I h=>lC I hg hm ⟨v,H,I,r,h⟩ hd
theorem aHe(hg:Gl X x)(hm:X.mg x=aj)(hv:em x=ae u)(r:RelV v u)(hn:x ≠ "__name__":=by decide)(hd:nDb x:=by decide):PE X (.Name x pos) (tC v):=
 λ_ _ _ H _ I h=>nA I hg hm hv ⟨v,H,I,r,h⟩ hn hd
variable {a b:Expr} {ta tb:TE} {pos:bX}
variable {tA tB':TT} {rest:aa Expr}
noncomputable def aQz(t u:TT):TT:=λσ H Q=>t σ H λc H1=>if c=af then u σ H1 Q else Q ai H1
noncomputable def tOr(t u:TT):TT:=λσ H Q=>t σ H λc H1=>if c=af then Q af H1 else u σ H1 Q
noncomputable def aR0(t:TT):TT:=λσ H Q=>t σ H λc H1=>Q (!c) H1
theorem aHf(ha:PT X a tA):PW X (.BoolOp .And [a] pos) tA:=by
 intro wh Ψ s σ H Q I h;refine isTrue_and (thn (ha Ψ s σ H Q I h) λc s1 e=>?_);cases c with
 |true=>exact isTrue_and_nil e
 |false=>exact e
theorem aL2(ha:PT X a tA):PW X (.BoolOp .Or [a] pos) tA:=by
 intro wh Ψ s σ H Q I h;refine isTrue_or (thn (ha Ψ s σ H Q I h) λc s1 e=>?_);cases c with
 |false=>exact isTrue_or_nil e
 |true=>exact e
theorem aL3(ha:PT X a tA)(hb:PW X (.BoolOp .And (b::rest) pos) tB'):PW X (.BoolOp .And (a::b::rest) pos) (aQz tA tB'):=by
 intro wh Ψ s σ H Q I h;refine isTrue_and (thn (ha Ψ s σ H _ I h) λc s1 ⟨H1,I1,q1⟩=>?_);cases c with
 |true=>exact hb wh Ψ s1 σ H1 Q I1 q1
 |false=>exact⟨H1,I1,q1⟩
theorem aP0(ha:PT X a tA)(hb:PW X (.BoolOp .Or (b::rest) pos) tB'):PW X (.BoolOp .Or (a::b::rest) pos) (tOr tA tB'):=by
 intro wh Ψ s σ H Q I h;refine isTrue_or (thn (ha Ψ s σ H _ I h) λc s1 ⟨H1,I1,q1⟩=>?_);cases c with
 |true=>exact⟨H1,I1,q1⟩
 |false=>exact hb wh Ψ s1 σ H1 Q I1 q1
theorem aL4(ha:PT X a tA):PT X (.UnaryOp .Not a pos) (aR0 tA):=by
 intro Ψ s σ H Q I h;exact isTrue_not (ha Ψ s σ H (λc H1=>Q (!c) H1) I h)
noncomputable def aP1(ta tb:TE):TE:=λσ H Q=>ta σ H λx H1=>∃c,x=.bl c/\if c=af then tb σ H1 Q else Q (.bl ai) H1
theorem aL5{op}(h:PE X a t):PE X (.BoolOp op [a] pos) t:=λΨ s σ H Q I hw=>BoolOp_one (h Ψ s σ H Q I hw)
theorem aL6(ha:PE X a ta)(hb:PE X (.BoolOp .And (b::rest) pos) tb):PE X (.BoolOp .And (a::b::rest) pos) (aP1 ta tb):=by
 intro Ψ s σ H Q I h;refine BoolOp_and (thn (ha Ψ s σ H _ I h) λv s1 ⟨x,H1,I1,r1,q1⟩=>?_);obtain⟨c,rfl,q1⟩:=q1;cases r1;refine ye ?_;cases c with
 |true=>exact hb Ψ s1 σ H1 Q I1 q1
 |false=>exact⟨.bl ai,H1,I1,rfl,q1⟩
end
def SqL(K:bj)(H:Hp)(a:am)(xs:aa V):Prop:=
 Rd H a (.lst xs)\/
  ∃(o:bg)(its:aE ak)(n:ag),K.lookup a=ae o/\o.cls=.type "list"/\o.dict=aj/\o.data=.seq its n/\its.size<=aT/\Vals xs its.toList
def SqT(K:bj)(H:Hp)(a:am)(xs:aa V):Prop:=
 Rd H a (.tup xs)\/
  ∃(o:bg)(its:aE ak)(n:ag),K.lookup a=ae o/\o.cls=.type "tuple"/\o.data=.seq its n/\its.size<=aT/\Vals xs its.toList
noncomputable def aR1:ak->aq V
 |.none=>ae .non
 |.bool b=>ae (.bl b)
 |.int i _=>ae (.int i)
 |.str x _=>ae (.str x)
 |.bytes b _=>ae (.byt b)
 |.float b _=>ae (.flt b)
 |.ref a=>ae (.ref a)
 |.type n=>ae (.ty n)
 |_=>aj
theorem RelV.abs(r:RelV x u):aR1 u=ae x:=by
 cases x with
 |non=>cases r;rfl
 |bl _=>cases r;rfl
 |int _=>obtain⟨t,rfl⟩:=r;rfl
 |str _=>obtain⟨t,rfl⟩:=r;rfl
 |byt _=>obtain⟨t,rfl⟩:=r;rfl
 |flt _=>obtain⟨t,rfl⟩:=r;rfl
 |ref _=>cases r;rfl
 |ty _=>cases r;rfl
theorem RelV.inj(r:RelV x u)(q:RelV y u):x=y:=c9 (r.abs.symm.trans q.abs)
theorem Vals.inj:∀{xs ys:aa V}{us:aa ak},Vals xs us->Vals ys us->xs=ys
 |_,_,_,.nil,.nil=>rfl
 |_,_,_,.cons r t,.cons r' t'=>by rw[r.inj r',Vals.inj t t']
section
variable {X:Cx} {Ψ:aa (am×bg)} {σ:St} {H:Hp} {s:ar} {a:am} {xs ys:aa V}
theorem SqL.of{K:bj}(h:H a=ae (.lst xs)):SqL K H a xs:=.inl (.inl h)
theorem SqT.of{K:bj}(h:H a=ae (.tup xs)):SqT K H a xs:=.inl (.inl h)
theorem Inv.list(I:Inv X Ψ σ H s)(h:SqL X.K H a xs):∃its:aa ak,Vals xs its/\PlainL s.heap a its.toArray/\xs.length<=aT:=by
 rcases h with h|⟨o,its,n,hk,hc,hd,hs,hz,r⟩
 ·obtain⟨z,its,n,r,e⟩:=h.ok I.hok;exact⟨its,r,⟨_,n,e,rfl,rfl,rfl⟩,z⟩
 ·refine⟨its.toList,r,⟨o,n,I.kIn a o hk,hc,hd,by simpa using hs⟩,?_⟩;have e:=r.length;simp only[kz] at e;lia
theorem Inv.tuple(I:Inv X Ψ σ H s)(h:SqT X.K H a xs):∃its:aa ak,Vals xs its/\lw s.heap a its.toArray/\xs.length<=aT:=by
 rcases h with h|⟨o,its,n,hk,hc,hs,hz,r⟩
 ·obtain⟨z,its,r,p⟩:=h.ok I.hok;exact⟨its,r,p.tup,z⟩
 ·refine⟨its.toList,r,⟨o,I.kIn a o hk,hc,n,by simpa using hs⟩,?_⟩;have e:=r.length;simp only[kz] at e;lia
theorem Inv.aE9(I:Inv X Ψ σ H s)(h:SqL X.K H a xs)(h':SqL X.K H a ys):xs=ys:=by
 obtain⟨its,r,⟨o,n,e,_,_,d⟩,_⟩:=I.list h;obtain⟨its',r',⟨o',n',e',_,_,d'⟩,_⟩:=I.list h';rw[e] at e';cases e';rw[d] at d';injection d' with d1 _
 have:its=its':=by simpa using di Bb d1
 subst this;exact r.inj r'
theorem Inv.aAa(I:Inv X Ψ σ H s)(h:SqT X.K H a xs)(h':SqT X.K H a ys):xs=ys:=by
 obtain⟨its,r,⟨o,e,_,n,d⟩,_⟩:=I.tuple h;obtain⟨its',r',⟨o',e',_,n',d'⟩,_⟩:=I.tuple h';rw[e] at e';cases e';rw[d] at d';injection d' with d1 _
 have:its=its':=by simpa using di Bb d1
 subst this;exact r.inj r'
end
noncomputable abbrev Cx.wish(X:Cx)(E:ak->ar->Prop):Cx:={X with xe:=E}
noncomputable abbrev Cx.nox(X:Cx):Cx:=X.wish λ_ _=>cg
theorem Cx.Ok.wish{X:Cx}(ok:X.Ok)(E:ak->ar->Prop):(X.wish E).Ok:=
 ⟨ok.mod,ok.kind,ok.glob,ok.blt,ok.above,ok.inj,ok.has,ok.cab,ok.hd,ok.frames,ok.stk,ok.exf,ok.bs,ok.bsz,ok.noex,ok.exfs,ok.YF,ok.frf⟩
theorem Cx.Ok.lF{X:Cx}(ok:(X.wish E).Ok):X.Ok:=
 ⟨ok.mod,ok.kind,ok.glob,ok.blt,ok.above,ok.inj,ok.has,ok.cab,ok.hd,ok.frames,ok.stk,ok.exf,ok.bs,ok.bsz,ok.noex,ok.exfs,ok.YF,ok.frf⟩
section
theorem Inv.wish(I:Inv X Ψ σ H s)(E:ak->ar->Prop):Inv (X.wish E) Ψ σ H s:=⟨I.ok.wish E,I.os,I.bare,I.base,I.loc,I.cell,I.free,I.freeC,I.pin,I.hok,I.len⟩
theorem Inv.lF(I:Inv (X.wish E) Ψ σ H s):Inv X Ψ σ H s:=⟨I.ok.lF,I.os,I.bare,I.base,I.loc,I.cell,I.free,I.freeC,I.pin,I.hok,I.len⟩
theorem SP.lF(h:SP (X.wish E) Ψ D f s'):SP X Ψ D f s':=by
 cases f with
 |next=>obtain⟨σ',H',I,q⟩:=h;exact⟨σ',H',I.lF,q⟩
 |brk=>obtain⟨σ',H',I,q⟩:=h;exact⟨σ',H',I.lF,q⟩
 |cont=>obtain⟨σ',H',I,q⟩:=h;exact⟨σ',H',I.lF,q⟩
 |ret u=>obtain⟨v,σ',H',I,r,q⟩:=h;exact⟨v,σ',H',I.lF,r,q⟩
theorem PSs.nox{st:aa bq}(h:PSs X.nox st t):PSs X st t:=λΨ s σ H D I hw=>
 dA (h Ψ s σ H D (I.wish _) hw) (λ_ _ q=>q.lF) λ_ _ z=>dg z
end
section
variable {X:Cx} {st:bq} {rest:aa bq} {t u:TS} {e:Expr} {te:TE} {pos:bX}
noncomputable def aP2:TS:=λD σ H=>D.nx σ H
noncomputable def aOs(t u:TS):TS:=λD σ H=>t {D with nx:=u D} σ H
theorem aHg:PSs X [] aP2:=λ_ _ σ H _ I h=>lS ⟨σ,H,I,h⟩
theorem xT(h1:PS X st t)(h2:PSs X rest u):PSs X (st::rest) (aOs t u):=by
 intro Ψ s σ H D I h;refine lT (thn (h1 Ψ s σ H {D with nx:=u D} I h) λf s1 q=>?_);cases f with
 |next=>
  obtain⟨σ',H',I',q⟩:=q;exact h2 Ψ s1 σ' H' D I' q
 |ret v=>exact q
 |brk=>exact q
 |cont=>exact q
theorem yE(h1:PS X st t):PSs X [st] t:=by
 intro Ψ s σ H D I h;refine lT (thn (h1 Ψ s σ H D I h) λf s1 q=>?_);cases f with
 |next=>exact lS q
 |ret v=>exact q
 |brk=>exact q
 |cont=>exact q
theorem Inv.quiet(I:Inv X Ψ σ H s):Bc X.env=ai:=by simp[Bc,I.ok.kind]
noncomputable def aL7(te:TE):TS:=λD σ H=>te σ H λ_ H1=>D.nx σ H1
theorem yF(he:PE X e te)(hs:eB e aj pos.line X.env=pure ai:=by rfl):PS X (.Expr e pos) (aL7 te):=by
 intro Ψ s σ H D I h;exact yf (thn (he Ψ s σ H _ I h) λv s1 ⟨x,H1,I1,r1,q1⟩=>⟨σ,H1,I1,q1⟩) I.quiet hs
noncomputable def aR2(te:TE):TS:=λD σ H=>te σ H D.rt
theorem aGd(he:PE X e te):PS X (.Return (ae e) pos) (aR2 te):=by
 intro Ψ s σ H D I h;exact wpAny_Return_some (thn (he Ψ s σ H _ I h) λv s1 ⟨x,H1,I1,r1,q1⟩=>⟨x,σ,H1,I1,r1,q1⟩)
noncomputable def aR3(c:TT)(t u:TS):TS:=λD σ H=>c σ H λb H1=>if b=af then t D σ H1 else u D σ H1
theorem aHh(hc:PT X c tc)(ha:PSs X a t)(hb:PSs X b u):PS X (.If c a b pos) (aR3 tc t u):=by
 intro Ψ s σ H D I h;refine wpAny_If (thn (hc Ψ s σ H _ I h) λd s1 ⟨H1,I1,q1⟩=>?_);cases d with
 |true=>exact ha Ψ s1 σ H1 D I1 q1
 |false=>exact hb Ψ s1 σ H1 D I1 q1
end
abbrev TG:=V->St->Hp->(St->Hp->Prop)->Prop
abbrev TGs:=aa V->St->Hp->(St->Hp->Prop)->Prop
def PG(X:Cx)(target:Expr)(t:TG):Prop:=
 ∀(Ψ:aa (am×bg))(s:ar)(σ:St)(H:Hp)(v:V)(u:ak)(Q:St->Hp->Prop),Inv X Ψ σ H s->RelV v u->t v σ H Q->
  ϑ (aw X.prog X.w) X.A (kA target X.env u) (λ_ s'=>∃σ' H',Inv X Ψ σ' H' s'/\Q σ' H') X.xe s
def PGs(X:Cx)(ts:aa Expr)(t:TGs):Prop:=
 ∀(Ψ:aa (am×bg))(s:ar)(σ:St)(H:Hp)(vs:aa V)(us:aa ak)(Q:St->Hp->Prop),Inv X Ψ σ H s->Vals vs us->t vs σ H Q->
  ϑ (aw X.prog X.w) X.A (yg ((kB ts X.env).map (·.2)) us) (λ_ s'=>∃σ' H',Inv X Ψ σ' H' s'/\Q σ' H') X.xe s
section
variable {X:Cx}
noncomputable def xG(i:ag):TG:=λv σ H Q=>Q (σ.set i (ae v)) H
theorem bJ(hN:X.N.Nodup)(hi:X.N[i]?=ae x)(hx:Loc X.env.scope x)(hf:zFn X x:=by first|exact .inl rfl|exact .inr rfl|assumption):PG X (.Name x pos) (xG i):=by
 intro Ψ s σ H v u Q I r h;exact wpAny_assign_Name (xR I hN hi hx r (λs' I'=>⟨_,H,I',h⟩) hf)
noncomputable def aQj:TGs:=λvs σ H Q=>vs=[]/\Q σ H
noncomputable def aL8(t:TG)(u:TGs):TGs:=λvs σ H Q=>∃v r,vs=v::r/\t v σ H λσ' H'=>u r σ' H' Q
theorem lD:PGs X [] aQj:=by
 intro Ψ s σ H vs us Q I r h;obtain⟨e,h⟩:=h;subst e;cases r;exact Bd ⟨σ,H,I,h⟩
theorem cH(h1:PG X e t)(h2:PGs X es u)
 (hs:(kB (e::es) X.env).map (·.2)=kA e X.env::(kB es X.env).map (·.2):=by rfl):PGs X (e::es) (aL8 t u):=by
 intro Ψ s σ H vs us Q I r h;obtain⟨v,vr,e1,h⟩:=h;subst e1;cases r with
 |cons r rr=>
  rw[hs];refine yh (thn (h1 Ψ s σ H _ _ _ I r h) λ_ s1 ⟨σ1,H1,I1,q1⟩=>?_);exact h2 Ψ s1 σ1 H1 _ _ Q I1 rr q1
noncomputable def aP3(K:bj)(n:ag)(t:TGs):TG:=λv σ H Q=>∃a xs,v=.ref a/\SqT K H a xs/\xs.length=n/\t xs σ H Q
theorem o7(hc:X.calm=af)(h:PGs X es t)
 (hn:(kB es X.env).length=n:=by rfl)(hst:(kB es X.env).findIdx? (·.1)=aj:=by rfl):PG X (.Tuple es k pos) (aP3 X.K n t):=by
 intro Ψ s σ H v u Q I r hw;obtain⟨a,xs,e1,hq,hl,hw⟩:=hw;subst e1;cases r;obtain⟨its,rv,ht,hz⟩:=I.tuple hq;refine assign_Tuple_tuple (I.ok.hd hc) ht (by simp[hn,<-hl,rv.length]) hst λh' hx=>?_
 have I1:Inv X Ψ σ H {s with heap:=h'}:=I.kept λb o e=>hx b o (cu (bn e)) e
 exact h Ψ _ σ H xs _ Q I1 (by simpa using rv) hw
noncomputable def aHi(te:TE)(g:TG):TS:=λD σ H=>te σ H λx H1=>g x σ H1 D.nx
theorem aL9(he:PE X e te)(hg:PG X tg g)(hs:sK [tg] e pos.line X.env=pure ai:=by rfl)(hw:sL [tg] e X.env=pure aj:=by rfl)
 (h1:(kB [tg] X.env).map (·.2)=[kA tg X.env]:=by rfl):PS X (.Assign [tg] e pos) (aHi te g):=by
 intro Ψ s σ H D I h;refine wpAny_Assign_stores (thn (he Ψ s σ H _ I h) λv s1 ⟨x,H1,I1,r1,q1⟩=>?_) hs hw;rw[h1];exact thn (hg Ψ s1 σ H1 x v _ I1 r1 q1) λ_ s2 q=>q
theorem LR(hN:X.N.Nodup)(hi:X.N[i]?=ae x)(hx:Loc X.env.scope x)(he:PE X e te)(hs:zSw X e x pos' pos:=by rfl)(hf:zFn X x:=by first|exact .inl rfl|exact .inr rfl|assumption) :
  PS X (.Assign [.Name x pos'] e pos) (aHi te (xG i)):=by
 intro Ψ s σ H D I h;refine wpAny_Assign_Name (thn (he Ψ s σ H _ I h) λv s1 ⟨y,H1,I1,r1,q1⟩=>?_) hs;exact xR I1 hN hi hx r1 (λs2 I2=>⟨_,H1,I2,q1⟩) hf
noncomputable def aR4(i j:ag)(ta:TA):TS:=λD σ H=>ta σ H λvs H1=>∃v w,vs=[v,w]/\D.nx ((σ.set i (ae v)).set j (ae w)) H1
theorem aLa{kt k2 pt2}(hc:X.calm=af)(hN:X.N.Nodup)(hi:X.N[i]?=ae x)(hj:X.N[j]?=ae y)(hij:i≠j)
 (hx:X.env.scope.names.lookup x=ae .local)(hy:X.env.scope.names.lookup y=ae .local)(ha:PA X [a,b] ta)
 (hw:sL [.Tuple [.Name x px,.Name y py] kt pt] (.Tuple [a,b] k2 pt2) X.env=pure (ae [x,y]))
 (hs:sK [.Tuple [.Name x px,.Name y py] kt pt] (.Tuple [a,b] k2 pt2) pos.line X.env=pure ai:=by rfl) :
  PS X (.Assign [.Tuple [.Name x px,.Name y py] kt pt] (.Tuple [a,b] k2 pt2) pos) (aR4 i j ta):=by
 intro Ψ s σ H D I h;rw[exec_Assign_arm];refine ao (ju ?_);rw[hs];refine ao (aI ?_);rw[ax 0x4];refine ao (Tuple_ (thn (ha _ Ψ s σ H _ I h) λus s1 ⟨vs,H1,I1,r1,q1⟩=>?_));obtain⟨v,w,e1,q1⟩:=q1;subst e1;obtain⟨u1,u2,rfl,rv,rw'⟩:∃u1 u2,us=[u1,u2]/\RelV v u1/\RelV w u2:=by
  cases r1 with
  |cons p q=>
   cases q with
   |cons p' q'=>
    cases q';exact⟨_,_,rfl,p,p'⟩
 refine gu ?_ (by show 2<=aT;decide);have I2:Inv X Ψ σ H1 {s1 with heap:=s1.heap.push {cls:=.type "tuple",data:=.seq [u1,u2].toArray}}:=I1.kept λb o e=>br _ e
 rw[hw];refine ao (aI ?_);show ϑ (aw X.prog X.w) X.A (do jv "assign.swapped-stores";let items <- unpackItems (.ref s1.heap.objs.size) 2 aj;yg [λv=>sM X.env y v,λv=>sM X.env x v] items.reverse;pure Flow.next) _ _ _;refine ao (jw (ao (unpackItems_tuple (items:=#[u1,u2]) (I.ok.hd hc) (IsTup.new s1.heap _) λh' hx'=>?_)));have I3:=I2.kept (t':=s1.toks) λb o e=>hx' b o (cu (bn e)) e
 show ϑ _ _ (yg [λv=>sM X.env y v,λv=>sM X.env x v] [u2,u1] >>= λ_=>pure Flow.next) _ _ _;refine ao (yh (Be (xR I3 hN hj (.inl hy) rw' (λs2 I4=>?_) (.inr hy))));refine yh (Be (xR I4 hN hi (.inl hx) rv (λs3 I5=>Bd (aI ?_)) (.inr hx)));rw[List.set_comm _ _ (Ne.symm hij)] at I5;exact⟨_,H1,I5,q1⟩
end
section
def aLb(c:TT)(tb:TS):TS:=λD σ H=>∃W:ag->St->Hp->Prop,(∃m,W m σ H)/\∀m σ H,W m σ H->
 c σ H λb H1=>if b=af then ∃N:St->Hp->Prop,(∀σ' H',N σ' H'->∃m',m'<m/\W m' σ' H')/\tb {D with nx:=N,ct:=N,bk:=D.nx} σ H1 else D.nx σ H1
theorem U8(hp:nN (aw X.prog X.w) X.A X.env X.xe)(hc:PT X c tc)(hb:PSs X body tb):PS X (.While c body [] pos) (aLb tc tb):=by
 intro Ψ s σ H D I h;obtain⟨W,⟨m0,w0⟩,turn⟩:=h;refine wpAny_While (codeAny_whileLoop (λn s'=>∃σ' H',Inv X Ψ σ' H' s'/\W n σ' H') ?_ m0 ⟨σ,H,I,w0⟩);rintro n s1 ⟨σ1,H1,I1,w1⟩;refine kC hp (thn (hc Ψ s1 σ1 H1 _ I1 (turn n σ1 H1 w1)) λb s2 ⟨H2,I2,q2⟩=>?_);cases b with
 |true=>
  obtain⟨N,hN,q2⟩:=q2;rw[av rfl];refine kC hp (thn (hb Ψ s2 σ1 H2 _ I2 q2) λf s3 q3=>?_);cases f with
  |next=>
   obtain⟨σ3,H3,I3,n3⟩:=q3;obtain⟨m',hm,w3⟩:=hN σ3 H3 n3;exact⟨m',hm,σ3,H3,I3,w3⟩
  |cont=>
   obtain⟨σ3,H3,I3,n3⟩:=q3;obtain⟨m',hm,w3⟩:=hN σ3 H3 n3;exact⟨m',hm,σ3,H3,I3,w3⟩
  |brk=>exact q3
  |ret v=>exact q3
 |false=>
  rw[ax nS];exact lS ⟨σ1,H2,I2,q2⟩
end
structure It where
 go:ag->Hp->Prop
 yld:ag->Hp->V->Hp->Prop
 stop:ag->Hp->Prop
def aA3(X:Cx)(Ψ:aa (am×bg))(H:Hp)(b:am):Prop:=
 H b=aj/\b≠X.env.locals/\b∉X.fs/\(b∈X.ex\/X.s₀.heap.objs.size<=b)/\(∀x c,X.env.cells.lookup x=ae c->c≠b)/\∀p∈X.pn++Ψ,p.1≠b
theorem Inv.aGe(I:Inv X Ψ σ H s)(hb:s.heap.objs.size<=b)(hn:H' b=aj):aA3 X Ψ H' b:=by
 refine⟨hn,gS (c_ I.lt hb),I.aQi hb,.inr (dj I.sz hb),λx c e z=>?_,λp hp z=>?_⟩
 ·obtain⟨v,q⟩:=I.cell x c e;exact bf (c_ q.lt (by rw[z];exact hb)) (fR _)
 ·exact bf (c_ (bn (I.pin p hp).1) (by rw[z];exact hb)) (fR _)
structure Turn(P:bh)(w:bd)(K:bj)(tg:Expr)(J:It)(fp:aa am)(it:am)(tn:ag->ay->Prop):Prop where
 mem:it∈fp
 obj:∀i h,tn i h->∀b∈fp,∃o,h.get? b=ae o/\∀v,o.data≠.cell v
 keep:∀i h h',tn i h->(∀b∈fp,∀o,h.get? b=ae o->h'.get? b=ae o)->tn i h'
 item:∀(X:Cx),X.prog=P->X.w=w->X.K=K->X.calm=af->∀(i:ag)(Ψ:aa (am×bg))(s:ar)(σ:St)(H:Hp)(E:ak->ar->Prop),Inv X Ψ σ H s->(∀b∈fp,aA3 X Ψ H b)->tn i s.heap->J.go i H->
  ϑ (aw P w) X.A (fz (.ref it)) (λr s1=>∃u,r=ae u/\
   ϑ (aw P w) X.A (nV tg (.ref it) u) (λ_ s2=>∃x H',Inv X Ψ σ H' s2/\RelV x u/\J.yld i H x H'/\tn (i+1) s2.heap/\∀b∈fp,H' b=aj) E s1) E s
 done:∀(X:Cx),X.prog=P->X.w=w->X.K=K->X.calm=af->∀(i:ag)(Ψ:aa (am×bg))(s:ar)(σ:St)(H:Hp)(E:ak->ar->Prop),Inv X Ψ σ H s->(∀b∈fp,aA3 X Ψ H b)->tn i s.heap->J.stop i H->
  ϑ (aw P w) X.A (fz (.ref it)) (λr s1=>r=aj/\Inv X Ψ σ H s1) E s
 self:∀(A:bS)(i:ag)(s:ar)(Q:ak->ar->Prop)(E:ak->ar->Prop),tn i s.heap->Q (.ref it) s->ϑ (aw P w) A (i7 (.ref it)) Q E s
abbrev TI:=St->Hp->(It->Hp->Prop)->Prop
def PIE(X:Cx)(Ψ:aa (am×bg))(σ:St)(tg:Expr)(R:It->Hp->Prop)(itv:ak)(s2:ar):Prop:=
 ∃(it:am)(fp:aa am)(tn:ag->ay->Prop)(J:It)(H':Hp),itv=.ref it/\Inv X Ψ σ H' s2/\Turn X.prog X.w X.K tg J fp it tn/\tn 0 s2.heap/\(∀b∈fp,aA3 X Ψ H' b)/\R J H'
def PI(X:Cx)(tg iter:Expr)(wi:TI):Prop:=
 ∀(Ψ:aa (am×bg))(s:ar)(σ:St)(H:Hp)(R:It->Hp->Prop),Inv X Ψ σ H s->wi σ H R->
  ϑ (aw X.prog X.w) X.A (eval iter X.env) (λv s1=>ϑ (aw X.prog X.w) X.A (i7 v) (PIE X Ψ σ tg R) X.xe s1) X.xe s
theorem YG(ho:s.heap.get? it=ae o)(hc:o.cls=.type n)(hd:o.data=.fields vs)
 (hn:["enumerate","zip","dict_itemiterator","dict_reverseitemiterator","odict_iterator","itertools.zip_longest","itertools.pairwise"].contains n=ai)(hQ:Q () s):ϑ M A (nV tg (.ref it) u) Q E s:= by
  unfold nV;cases tg<;>first
    |exact aI hQ
    | (cases u<;>first
        |exact aI hQ
        | (refine ao (wpAny_load ho ?_)
           rw[hc,hd];show ϑ M A (if (["enumerate","zip","dict_itemiterator","dict_reverseitemiterator","odict_iterator","itertools.zip_longest","itertools.pairwise"].contains n&&vs[0]?==ae (cw _))=af then _ else _) Q E s;rw[ax (by intro h;rw[hn,Bool.false_and] at h;cases h)];exact aI hQ))
noncomputable def Itl(K:bj)(a:am):It:=
 ⟨λi H=>∃xs x,SqL K H a xs/\xs[i]?=ae x,λi H x H'=>H'=H/\∀xs,SqL K H a xs->xs[i]?=ae x,λi H=>∃xs,SqL K H a xs/\xs.length<=i⟩
noncomputable def Itt(K:bj)(a:am):It:=
 ⟨λi H=>∃xs x,SqT K H a xs/\xs[i]?=ae x,λi H x H'=>H'=H/\∀xs,SqT K H a xs->xs[i]?=ae x,λi H=>∃xs,SqT K H a xs/\xs.length<=i⟩
noncomputable def Itr(lo:ah)(n:ag):It:=⟨λi _=>i<n,λi H x H'=>H'=H/\x=.int (lo+i),λi _=>n<=i⟩
theorem aAb{K:bj}(a it:am):Turn P w K tg (Itl K a) [it] it (λi h=>h.IsListIter it a i) where
 mem:=by simp
 obj:=λi h st b hb=>by
  have e:b=it:=by simpa using hb
  subst e;obtain⟨o,e,c,d⟩:=st;exact⟨o,e,λv z=>by rw[d] at z;cases z⟩
 keep:=λi h h' st k=>st.at λo e=>k it 0x2 o e
 item:=by
  intro X hP hw hK hc i Ψ s σ H E I hf st hg;subst hP hw hK;obtain⟨xs,x,hq,hx⟩:=hg;obtain⟨its,rv,p,hz⟩:=I.list hq;obtain⟨u,hu,ru⟩:=rv.get hx;obtain⟨f0,f1,f2,f3,f4,f5⟩:=hf it 0x2;refine Bf st p.isList (by simpa using hu) λh' st' sb=>?_
  have I1:Inv X Ψ σ H {s with heap:=h'}:=I.turned (λb o hb e=>(sb.2 b hb).trans e) f0 f1 f3 f4 f5;obtain⟨o,e,c,d⟩:=id st';exact⟨u,rfl,YG e c d 0x4 ⟨x,H,I1,ru,⟨rfl,λys hy=>by rw[I.aE9 hy hq];exact hx⟩,st',λb hb=>(hf b hb).1⟩⟩
 done:=by
  intro X hP hw hK hc i Ψ s σ H E I hf st hg;subst hP hw hK;obtain⟨xs,hq,hx⟩:=hg;obtain⟨its,rv,p,hz⟩:=I.list hq;obtain⟨f0,f1,f2,f3,f4,f5⟩:=hf it 0x2;have hl:=rv.length;exact Bg (I.ok.hd hc) st p.isList (by simp;lia) λh' eb=>⟨rfl,I.turned (λb o hb e=>eb b o hb e) f0 f1 f3 f4 f5⟩
 self:=λ_ _ _ _ _ st h=>wpAny_pyIter_listiter st h
theorem YH{K:bj}(a it:am):Turn P w K tg (Itt K a) [it] it (λi h=>h.IsTupleIter it a i) where
 mem:=by simp
 obj:=λi h st b hb=>by
  have e:b=it:=by simpa using hb
  subst e;obtain⟨o,e,c,d⟩:=st;exact⟨o,e,λv z=>by rw[d] at z;cases z⟩
 keep:=λi h h' st k=>st.at λo e=>k it 0x2 o e
 item:=by
  intro X hP hw hK hc i Ψ s σ H E I hf st hg;subst hP hw hK;obtain⟨xs,x,hq,hx⟩:=hg;obtain⟨its,rv,p,hz⟩:=I.tuple hq;obtain⟨u,hu,ru⟩:=rv.get hx;obtain⟨f0,f1,f2,f3,f4,f5⟩:=hf it 0x2;refine Bh st (show s.heap.IsTuple a its.toArray from p) (by simpa using hu) λh' st' sb=>?_
  have I1:Inv X Ψ σ H {s with heap:=h'}:=I.turned (λb o hb e=>(sb.2 b hb).trans e) f0 f1 f3 f4 f5;obtain⟨o,e,c,d⟩:=id st';exact⟨u,rfl,YG e c d 0x4 ⟨x,H,I1,ru,⟨rfl,λys hy=>by rw[I.aAa hy hq];exact hx⟩,st',λb hb=>(hf b hb).1⟩⟩
 done:=by
  intro X hP hw hK hc i Ψ s σ H E I hf st hg;subst hP hw hK;obtain⟨xs,hq,hx⟩:=hg;obtain⟨its,rv,p,hz⟩:=I.tuple hq;obtain⟨f0,f1,f2,f3,f4,f5⟩:=hf it 0x2;have hl:=rv.length;exact Bi (I.ok.hd hc) st (show s.heap.IsTuple a its.toArray from p) (by simp;lia) λh' eb=>⟨rfl,I.turned (λb o hb e=>eb b o hb e) f0 f1 f3 f4 f5⟩
 self:=λ_ _ _ _ _ st h=>wpAny_pyIter_tupleiter st h
theorem YJ{K:bj}(it:am)(lo:ah)(n:ag):Turn P w K tg (Itr lo n) [it] it (λi h=>sN h it (lo+(i:ag)*1) ((n:ah)-(i:ag)) 1) where
 mem:=by simp
 obj:=λi h st b hb=>by
  have e:b=it:=by simpa using hb
  subst e;exact⟨_,st,λv z=>by
   have z':sP _=sQ v:=z;cases z'⟩
 keep:=λi h h' st k=>k it 0x2 _ st
 item:=by
  intro X hP hw hK hc i Ψ s σ H E I hf st hg;subst hP hw hK;obtain⟨f0,f1,f2,f3,f4,f5⟩:=hf it 0x2;have W:=Bj (prog:=X.prog) (w:=X.w) (I.ok.hd hc) it lo 1 n;refine W.item i s _ _ hg st λv h' tk hv st' kk=>?_
  obtain⟨t,rfl⟩:=hv;have I1:Inv X Ψ σ H {s with heap:=h',toks:=tk}:=I.turned (λb o hb e=>kk b o (by simpa using hb) e) f0 f1 f3 f4 f5;refine⟨_,rfl,YG st' rfl rfl 0x4 ⟨.int (lo+i),H,I1,⟨t,?_⟩,⟨rfl,rfl⟩,st',λb hb=>(hf b hb).1⟩⟩;rw[Int.mul_one]
 done:=by
  intro X hP hw hK hc i Ψ s σ H E I hf st hg;subst hP hw hK;obtain⟨f0,f1,f2,f3,f4,f5⟩:=hf it 0x2;exact Bk (I.ok.hd hc) st (by have:n<=i:=hg;lia) λh' eb=>⟨rfl,I.turned (λb o hb e=>eb b o hb e) f0 f1 f3 f4 f5⟩
 self:=λ_ _ _ _ _ st h=>Bl st h
section
theorem U9{lo hi:ah}{t u v:fw}{tk:ag}(I:Inv X Ψ σ H s)(h1:-(2 ^ 62)<=lo)(h2:lo<2 ^ 62)(h3:-(2 ^ 62)<=hi)(h4:hi<2 ^ 62)
 (q:R (Itr lo (hi-lo).toNat) H):ϑ (aw X.prog X.w) X.A (i7 (.ref s.heap.objs.size)) (PIE X Ψ σ tg R) E {s with heap:=s.heap.push {cls:=.type "range",data:=.fields #[.int lo t,.int hi u,.int 1 v]},toks:=tk}:=by
 refine Bm (Bn ..) (small_one h1 h2 h3 h4) ?_;have I1:Inv X Ψ σ H {s with heap:=s.heap.push {cls:=.type "range",data:=.fields #[.int lo t,.int hi u,.int 1 v]},toks:=tk}:=I.kept λb o e=>br _ e
 refine⟨(s.heap.push {cls:=.type "range",data:=.fields #[.int lo t,.int hi u,.int 1 v]}).objs.size,[(s.heap.push {cls:=.type "range",data:=.fields #[.int lo t,.int hi u,.int 1 v]}).objs.size],_,_,H,rfl,
  I1.kept λb o e=>br _ e,YJ _ lo (hi-lo).toNat,?_,λb hb=>?_,q⟩
 ·have e1:lo+((0:ag):ah)*1=lo:=by simp
  have e2:(((hi-lo).toNat:ag):ah)-((0:ag):ah)=sR lo hi 1:=by rw[rangeSize_one];split<;>lia
  show sN _ _ (lo+((0:ag):ah)*1) ((((hi-lo).toNat:ag):ah)-((0:ag):ah)) 1;rw[e1,e2];exact cx _ rfl
 ·have e:b=(s.heap.push {cls:=.type "range",data:=.fields #[.int lo t,.int hi u,.int 1 v]}).objs.size:=by simpa using hb
  subst e;exact I1.aGe (ba _) (I1.hok.fresh (ba _))
def aP4(ta:TA):TI:=λσ H R=>ta σ H λvs H1=>∃j:ah,vs=[.int j]/\-(2 ^ 62)<=j/\j<2 ^ 62/\R (Itr 0 j.toNat) H1
def aP5(ta:TA):TI:=λσ H R=>ta σ H λvs H1=>∃i j:ah,vs=[.int i,.int j]/\(-(2 ^ 62)<=i/\i<2 ^ 62/\-(2 ^ 62)<=j/\j<2 ^ 62)/\R (Itr i (j-i).toNat) H1
theorem aAc{p pos:bX}(hg:Gl X "range")(hm:X.mg "range"=aj)(ha:PA X [a] ta)(hs:cf [a] X.env=[(ai,eval a X.env)]:=by rfl):PI X tg (.Call (.Name "range" p) [a] [] pos) (aP4 ta):=by
 intro Ψ s σ H R I h;refine sT (nA I hg hm yi (iA (thn (ha pos Ψ s σ H _ I h) λus s1 ⟨vs,H1,I1,r1,q1⟩=>?_) hs rfl));obtain⟨j,e,q1,q2,q⟩:=q1;subst e;cases r1 with
 |cons r rr=>
  cases rr;obtain⟨t,rfl⟩:=r;exact call_range_1 (U9 I1 0x1 0x1 q1 q2 (by simpa using q))
theorem aAd(hg:Gl X "range")(hm:X.mg "range"=aj)(ha:PA X [a,b] ta)(hs:cf [a,b] X.env=[(ai,eval a X.env),(ai,eval b X.env)]:=by rfl)(hs2:cf [b] X.env=[(ai,eval b X.env)]:=by rfl) :
  PI X tg (.Call (.Name "range" p) [a,b] [] pos) (aP5 ta):=by
 intro Ψ s σ H R I h;refine sT (nA I hg hm yi (iA (thn (ha pos Ψ s σ H _ I h) λus s1 ⟨vs,H1,I1,r1,q1⟩=>?_) (by rw[hs,hs2]) (by rw[hs2];rfl)));obtain⟨i,j,e,⟨q1,q2,q3,q4⟩,q⟩:=q1;subst e;cases r1 with
 |cons r rr=>
  cases rr with
  |cons r' rr=>
   cases rr;obtain⟨t,rfl⟩:=r;obtain⟨t',rfl⟩:=r';exact call_range_2 (U9 I1 q1 q2 q3 q4 q)
def aR5(wi:TI)(g:TG)(tb:TS):TS:=λD σ H=>wi σ H λJ H1=>∃W:ag->ag->St->Hp->Prop,(∃m,W 0 m σ H1)/\∀i m σ H,W i m σ H->
 (J.stop i H/\D.nx σ H)\/(J.go i H/\∃N:St->Hp->Prop,(∀σ' H',N σ' H'->∃m',m'<m/\W (i+1) m' σ' H')/\∀x H',J.yld i H x H'->g x σ H' λσ2 H2=>tb {D with nx:=N,ct:=N,bk:=D.nx} σ2 H2)
noncomputable def yG(fp:aa am)(h:ay):aa (am×bg):=fp.filterMap λb=>(h.get? b).map λo=>(b,o)
theorem oK(hb:b∈fp)(e:h.get? b=ae o):(b,o)∈yG fp h:=s_.mpr ⟨b,hb,by rw[e];rfl⟩
theorem aAe(hp:p∈yG fp h):p.1∈fp/\h.get? p.1=ae p.2:=by
 obtain⟨b,hb,e⟩:=s_.mp hp;cases q:h.get? b with
 |none=>rw[q] at e;cases e
 |some o=>
  rw[q] at e;have e':(b,o)=p:=c9 e;subst e';exact⟨hb,q⟩
theorem Inv.pinned(I:Inv X Ψ σ H s)(hf:∀b∈fp,aA3 X Ψ H b)(ho:∀b∈fp,∃o,s.heap.get? b=ae o/\∀v,o.data≠.cell v):Inv X (Ψ++yG fp s.heap) σ H s:=
 I.RG λp hp=>(e5.mp hp).elim (λz=>I.pin p (fA _ z)) λz=>by
  obtain⟨hb,e⟩:=aAe z;obtain⟨f0,f1,f2,_⟩:=hf p.1 hb;obtain⟨o,e',d⟩:=ho p.1 hb;rw[e] at e';cases e';exact⟨e,f0,f1,f2,d⟩
theorem Inv.t_(I:Inv X (Ψ++pl) σ H s):Inv X Ψ σ H s:=I.RG λp hp=>I.pin p (fA _ (i6 _ hp))
theorem aAf(hp:nN (aw X.prog X.w) X.A X.env X.xe)(hc:X.calm=af)(hi:PI X tg iter wi)(hg:PG X tg g)(hb:PSs X body tb)
 (hs:∀x,e6 iter X.env x=pure x:=by intro _;rfl):PS X (.For tg iter body [] pos) (aR5 wi g tb):=by
 intro Ψ s σ H D I h;refine wpAny_For (thn (hi Ψ s σ H _ I h) λv s1 h1=>thn h1 λitv s2 h2=>?_) hs;obtain⟨it,fp,tn,J,H2,e,I2,T,st2,f2,W,⟨m0,w0⟩,turn⟩:=h2;subst e
 -- what stays af of the iterator's objects through the loop
 have stat:∀{H':Hp},(∀b∈fp,H' b=aj)->∀b∈fp,aA3 X Ψ H' b:=λhn b hb=>⟨hn b hb,(f2 b hb).2⟩
 refine codeAny_forLoop_any (λn s'=>∃i σ' H',Inv X Ψ σ' H' s'/\tn i s'.heap/\(∀b∈fp,H' b=aj)/\W i n σ' H') ?_ m0 ⟨0,σ,H2,I2,st2,λb hb=>(f2 b hb).1,w0⟩;rintro n s3 ⟨i,σ3,H3,I3,st3,fr3,w3⟩;rcases turn i n σ3 H3 w3 with ⟨stop,qn⟩|⟨go,N,hN,step⟩
 ·refine kC hp (thn (T.done X rfl rfl rfl hc i Ψ s3 σ3 H3 X.xe I3 (stat fr3) st3 stop) λr s4 ⟨hr,I4⟩=>?_);subst hr;exact lS ⟨σ3,H3,I4,qn⟩
 ·refine kC hp (thn (T.item X rfl rfl rfl hc i Ψ s3 σ3 H3 X.xe I3 (stat fr3) st3 go) λr s4 ⟨u,hr,h4⟩=>?_);subst hr;refine kC hp (thn h4 λ_ s5 ⟨x,H5,I5,r5,y5,st5,fr5⟩=>?_);have I5':=I5.pinned (stat fr5) (T.obj _ _ st5);refine kC hp (thn (hg _ s5 σ3 H5 x u _ I5' r5 (step x H5 y5)) λ_ s6 ⟨σ6,H6,I6,q6⟩=>?_);refine kC hp (thn (hb _ s6 σ6 H6 _ I6 q6) λf s7 q7=>?_);have again:∀{σ7:St}{H7:Hp},Inv X (Ψ++yG fp s5.heap) σ7 H7 s7->N σ7 H7->∃m,m<n/\∃i σ' H',Inv X Ψ σ' H' s7/\tn i s7.heap/\(∀b∈fp,H' b=aj)/\W i m σ' H':=λ{σ7 H7} I7 n7=>by
   obtain⟨m',hm,w7⟩:=hN σ7 H7 n7;refine⟨m',hm,i+1,σ7,H7,I7.t_,T.keep _ _ _ st5 λb hb o e=>(I7.pin (b,o) (fA _ (fA _ (oK hb e)))).1,λb hb=>?_,w7⟩;obtain⟨o,e,d⟩:=T.obj _ _ st5 b hb;exact(I7.pin (b,o) (fA _ (fA _ (oK hb e)))).2.1
  cases f with
  |next=>obtain⟨σ7,H7,I7,n7⟩:=q7;exact again I7 n7
  |cont=>obtain⟨σ7,H7,I7,n7⟩:=q7;exact again I7 n7
  |brk=>obtain⟨σ7,H7,I7,q7⟩:=q7;exact⟨σ7,H7,I7.t_,q7⟩
  |ret v=>obtain⟨x7,σ7,H7,I7,r7,q7⟩:=q7;exact⟨x7,σ7,H7,I7.t_,r7,q7⟩
end
abbrev R2:=V->V->Hp->VK->Prop
def OpR(X:Cx)(f:ak->ak->Sem ak)(r:R2):Prop:=
 ∀(Ψ:aa (am×bg))(s:ar)(σ:St)(H:Hp)(x y:V)(v u:ak)(Q:VK),Inv X Ψ σ H s->RelV x v->RelV y u->r x y H Q->
  ϑ (aw X.prog X.w) X.A (f v u) (EP X Ψ σ Q) X.xe s
def UnR(X:Cx)(f:ak->Sem ak)(r:V->Hp->VK->Prop):Prop:=
 ∀(Ψ:aa (am×bg))(s:ar)(σ:St)(H:Hp)(x:V)(v:ak)(Q:VK),Inv X Ψ σ H s->RelV x v->r x H Q->
  ϑ (aw X.prog X.w) X.A (f v) (EP X Ψ σ Q) X.xe s
def l_(X:Cx)(f:ak)(r:aa V->Hp->VK->Prop):Prop:=
 ∀(Ψ:aa (am×bg))(s:ar)(σ:St)(H:Hp)(xs:aa V)(us:aa ak)(Q:VK),Inv X Ψ σ H s->Vals xs us->r xs H Q->
  ϑ (aw X.prog X.w) X.A (call f us) (EP X Ψ σ Q) X.xe s
def aR6(X:Cx)(r:V->Hp->(au->Hp->Prop)->Prop):Prop:=
 ∀(Ψ:aa (am×bg))(s:ar)(σ:St)(H:Hp)(x:V)(v:ak)(Q:au->Hp->Prop),Inv X Ψ σ H s->RelV x v->r x H Q->
  ϑ (aw X.prog X.w) X.A (truthy v) (TP X Ψ σ Q) X.xe s
noncomputable def tOp(r:R2)(ta tb:TE):TE:=λσ H Q=>ta σ H λx H1=>tb σ H1 λy H2=>r x y H2 Q
noncomputable def tUn(r:V->Hp->VK->Prop)(ta:TE):TE:=λσ H Q=>ta σ H λx H1=>r x H1 Q
noncomputable def rI(C:ah->ah->Prop)(g:ah->ah->V):R2:=λx y H Q=>∃i j,x=.int i/\y=.int j/\C i j/\Q (g i j) H
noncomputable def rI0(g:ah->ah->V):R2:=λx y H Q=>∃i j,x=.int i/\y=.int j/\Q (g i j) H
def rU(g:ah->V):V->Hp->VK->Prop:=λx H Q=>∃i,x=.int i/\Q (g i) H
section
variable {a b:Expr}
theorem aP6(ha:PE X a ta)(hb:PE X b tb){R:V->V->Hp->Prop}(I:Inv X Ψ σ H s)
 (h:ta σ H λx H1=>tb σ H1 λy H2=>R x y H2){Q:ak->ar->Prop}{f:ak->ak->Sem ak}
 (hf:∀v u s2 x y H2,Inv X Ψ σ H2 s2->RelV x v->RelV y u->R x y H2->ϑ (aw X.prog X.w) X.A (f v u) Q X.xe s2) :
  ϑ (aw X.prog X.w) X.A (eval a X.env) (λv s₁=>ϑ (aw X.prog X.w) X.A (eval b X.env) (λu s₂=>ϑ (aw X.prog X.w) X.A (f v u) Q X.xe s₂) X.xe s₁) X.xe s:=by
 refine thn (ha Ψ s σ H _ I h) λv s1 ⟨x,H1,I1,r1,q1⟩=>?_
 refine thn (hb Ψ s1 σ H1 _ I1 q1) λu s2 ⟨y,H2,I2,r2,q2⟩=>?_
 exact hf v u s2 x y H2 I2 r1 r2 q2
theorem aP7(ho:OpR X (e9 op) r)(ha:PE X a ta)(hb:PE X b tb):PE X (.BinOp a op b pos) (tOp r ta tb):=by
 intro Ψ s σ H Q I h;exact wpAny_BinOp (aP6 ha hb I h λv u s2 x y H2 I2 rx ry q=>ho Ψ s2 σ H2 x y v u Q I2 rx ry q)
theorem aP8(ho:UnR X (uS op) r)(ha:PE X a ta):PE X (.UnaryOp op a pos) (tUn r ta):=by
 intro Ψ s σ H Q I h;exact UnaryOp_ (thn (ha Ψ s σ H _ I h) λv s1 ⟨x,H1,I1,r1,q1⟩=>ho Ψ s1 σ H1 x v Q I1 r1 q1)
theorem opI{g:ah->ah->ah}
 (jv:∀(i j:ah) (t u:fw) (s:ar) (Q:ak->ar->Prop) (E:ak->ar->Prop),C i j->Q (.int (g i j) s.toks) {s with toks:=s.toks+1}->ϑ (aw X.prog X.w) X.A (f (.int i t) (.int j u)) Q E s) :
  OpR X f (rI C λi j=>.int (g i j)):=by
 intro Ψ s σ H x y v u Q I rx ry h;obtain⟨i,j,rfl,rfl,hc,q⟩:=h;obtain⟨t,rfl⟩:=rx;obtain⟨t',rfl⟩:=ry;exact jv i j t t' s _ _ hc ⟨.int (g i j),H,I.tok _,⟨_,rfl⟩,q⟩
theorem aQk{g:ah->ah->ah}
 (jv:∀(i j:ah) (t u:fw) (s:ar) (Q:ak->ar->Prop) (E:ak->ar->Prop),Q (.int (g i j) s.toks) {s with toks:=s.toks+1}->ϑ (aw X.prog X.w) X.A (f (.int i t) (.int j u)) Q E s) :
  OpR X f (rI0 λi j=>.int (g i j)):=by
 intro Ψ s σ H x y v u Q I rx ry h;obtain⟨i,j,rfl,rfl,q⟩:=h;obtain⟨t,rfl⟩:=rx;obtain⟨t',rfl⟩:=ry;exact jv i j t t' s _ _ ⟨.int (g i j),H,I.tok _,⟨_,rfl⟩,q⟩
def aR7(i j:ah):Prop:=0<j/\j<1073741824
def aR8(i j:ah):Prop:=0<=j/\j<=1000000/\i.natAbs<2 ^ 64
def aP9(i j:ah):Prop:=(-(2 ^ 64)<i/\i<2 ^ 64)\/(-(2 ^ 64)<j/\j<2 ^ 64)
theorem aP9.ok(h:aP9 i j):IntMulOk i j:=by
 rcases h with ⟨h1,h2⟩|⟨h1,h2⟩
 ·exact .of_left (Bo h1 h2)
 ·exact .of_right (Bo h1 h2)
theorem aLc:OpR X (e9 .Add) (rI0 λi j=>.int (i+j)):=aQk λ_ _ _ _ _ _ _ q=>add_int q
theorem aLd:OpR X (e9 .Sub) (rI0 λi j=>.int (i-j)):=aQk λ_ _ _ _ _ _ _ q=>sub_int q
theorem aLe:OpR X (e9 .Mult) (rI aP9 λi j=>.int (i*j)):=opI λ_ _ _ _ _ _ _ hc q=>mul_int q hc.ok
theorem aHj:OpR X (e9 .FloorDiv) (rI aR7 λi j=>.int (i / j)):=opI λi j _ _ _ _ _ hc q=>by
 have h1:(0:ah)<j:=hc.1;have h2:j<1073741824:=hc.2;exact floordiv_int 0x1 (by rw[Int.fdiv_eq_ediv_of_nonneg i 0x1];exact q) (.inl (Bp 0x1))
theorem aLf:OpR X (e9 .Mod) (rI (λ_ j=>0<j) λi j=>.int (i % j)):=opI λi j _ _ _ _ _ hc q=>by
 have h1:(0:ah)<j:=hc;exact mod_int' 0x1 (by rw[Int.fmod_eq_emod_of_nonneg i 0x1];exact q)
theorem aLg:OpR X (e9 .Pow) (rI aR8 λi j=>.int (i ^ j.toNat)):=opI λ_ _ _ _ _ _ _ hc q=>pow_int_small hc.1 hc.2.1 hc.2.2 q
theorem unI{g:ah->ah}
 (jv:∀(i:ah) (t:fw) (s:ar) (Q:ak->ar->Prop) (E:ak->ar->Prop),Q (.int (g i) s.toks) {s with toks:=s.toks+1}->ϑ (aw X.prog X.w) X.A (f (.int i t)) Q E s) :
  UnR X f (rU λi=>.int (g i)):=by
 intro Ψ s σ H x v Q I rx h;obtain⟨i,rfl,q⟩:=h;obtain⟨t,rfl⟩:=rx;exact jv i t s _ _ ⟨.int (g i),H,I.tok _,⟨_,rfl⟩,q⟩
theorem aLh:UnR X (uS .USub) (rU λi=>.int (-i)):=unI λ_ _ _ _ _ q=>neg_int q
end
section
variable {X:Cx} {a b c:Expr} {ta tb:TE} {pos:bX}
theorem aLi(I:Inv X Ψ σ H s)(q:Q (.bl k) H)(e:k=k'):EP X Ψ σ Q (.bool k') s:=by
 subst e;exact⟨.bl k,H,I,rfl,q⟩
theorem aAg:OpR X (dw .In) (λx y H Q=>∃i j,x=.str i/\y=.str j/\Q (.bl (!(Bq j i 0 j.length 1).isEmpty)) H):=by
 intro Ψ s σ H x y v u Q I rx ry h;obtain⟨i,j,rfl,rfl,q⟩:=h;obtain⟨t,rfl⟩:=rx;obtain⟨t',rfl⟩:=ry;exact in_str (aLi I q rfl)
theorem cF(b:Expr)(h:op≠.In:=by decide)(h2:op≠.NotIn:=by decide):kF op b=ai:=by
 have e1:(op==CmpOp.In)=ai:=by cases op<;>first|rfl|exact bf rfl h
 have e2:(op==CmpOp.NotIn)=ai:=by cases op<;>first|rfl|exact bf rfl h2
 cases b<;>simp[kF,e1,e2]
theorem aHk(ho:OpR X (dw op) r)(ha:PE X a ta)(hb:PE X b tb)(hm:kF op b=ai):PE X (.Compare a [op] [b] pos) (tOp r ta tb):=by
 intro Ψ s σ H Q I h;exact wpAny_Compare1 (aP6 ha hb I h λv u s2 x y H2 I2 rx ry q=>ho Ψ s2 σ H2 x y v u Q I2 rx ry q) hm
noncomputable def aPa(t:TE):TT:=λσ H Q=>t σ H λx H'=>∃k,x=.bl k/\Q k H'
theorem aAh(ho:OpR X (dw op) r)(ha:PE X a ta)(hb:PE X b tb)(hm:kF op b=ai):PT X (.Compare a [op] [b] pos) (aPa (tOp r ta tb)):=by
 intro Ψ s σ H Q I h;refine wpAny_isTrue_Compare1 (thn (ha Ψ s σ H _ I h) λv s1 ⟨x,H1,I1,r1,q1⟩=>thn (hb Ψ s1 σ H1 _ I1 q1) λu s2 ⟨y,H2,I2,r2,q2⟩=>
  thn (ho Ψ s2 σ H2 x y v u _ I2 r1 r2 q2) λc s3 ⟨z,H3,I3,r3,k,e,q3⟩=>?_) hm
 subst e;cases r3;exact ye ⟨H3,I3,q3⟩
def aPb(K:bj)(x:V)(H:Hp)(k:au):Prop:=
 match x with
 |.non=>k=ai
 |.bl b=>k=b
 |.int i=>k=(i !=0)
 |.str y=>y.length<=aT/\k=((y.length:ah)!=0)
 |.byt y=>y.size<=aT/\k=((y.size:ah)!=0)
 |.ref p=>(∃xs,SqL K H p xs/\k=!xs.isEmpty)\/(∃xs,SqT K H p xs/\k=!xs.isEmpty)\/∃kvs,H p=ae (.dK kvs)/\k=!kvs.isEmpty
 |_=>cg
theorem YK(r:KV kvs vs):(!vs.isEmpty)=!kvs.isEmpty:=by
 cases r<;>rfl
theorem DN(r:Vals xs its):(!its.toArray.isEmpty)=!xs.isEmpty:=by
 cases r<;>simp
theorem DP:(aT:ag)<2 ^ 63:=by rw[dk];decide
theorem aLj:aR6 X (λx H Q=>∃k,aPb X.K x H k/\Q k H):=by
 intro Ψ s σ H x v Q I rx h;obtain⟨k,e,q⟩:=h;have hl:=DP;have hs:aT=16777216:=dk;cases x with
 |non=>
  cases rx;have e':k=ai:=e;subst e';exact truthy_none ⟨H,I,q⟩
 |bl b=>
  cases rx;have e':k=b:=e;subst e';exact ye ⟨H,I,q⟩
 |int i=>
  obtain⟨t,rfl⟩:=rx;have e':k=(i !=0):=e;subst e';exact PySem.P.truthy_int ⟨H,I,q⟩
 |str y=>
  obtain⟨t,rfl⟩:=rx;obtain⟨hy,e'⟩:y.length<=aT/\k=((y.length:ah)!=0):=e;subst e';exact PySem.P.truthy_str 0x1 ⟨H,I.tok _,q⟩
 |byt y=>
  obtain⟨t,rfl⟩:=rx;obtain⟨hy,e'⟩:y.size<=aT/\k=((y.size:ah)!=0):=e;subst e';exact PySem.W.truthy_bytes 0x1 ⟨H,I.tok _,q⟩
 |ref p=>
  cases rx;have e':(∃xs,SqL X.K H p xs/\k=!xs.isEmpty)\/(∃xs,SqT X.K H p xs/\k=!xs.isEmpty)\/∃kvs,H p=ae (.dK kvs)/\k=!kvs.isEmpty:=e;rcases e' with ⟨xs,hx,e'⟩|⟨xs,hx,e'⟩|⟨kvs,hx,e'⟩
  ·subst e';obtain⟨its,r,pl,hz⟩:=I.list hx;have hlen:=r.length;exact wpAny_truthy_list pl.isList (by simp only[cm];lia) ⟨H,I.tok _,by rw[DN r];exact q⟩
  ·subst e';obtain⟨its,r,pl,hz⟩:=I.tuple hx;have hlen:=r.length;exact truthy_tuple pl (by simp only[cm];lia) ⟨H,I.tok _,by rw[DN r];exact q⟩
  ·subst e';obtain⟨hz,hS,vs,r,m⟩:kvs.length<=aT/\(p==fy)=ai/\∃vs,KV kvs vs/\s.heap.DictOf (cC X.prog X.w) p vs:=I.hok p _ hx;have hlen:kvs.length=vs.length:=jr r;exact wpAny_truthy_dict hS m 0x1 ⟨H,I.tok _,by rw[YK r];exact q⟩
 |_=>exact(show cg from e).elim
theorem aEa(ha:PE X a ta)(he:∀whole,sD a X.env whole=(do let v <- whole;yj a.pos;l8 [v] (truthy v))) :
  PT X a (λσ H Q=>ta σ H λx H'=>∃k,aPb X.K x H' k/\Q k H'):=by
 intro Ψ s σ H Q I h;exact isTrue_plain (thn (ha Ψ s σ H _ I h) λv s1 ⟨x,H1,I1,r1,q1⟩=>aLj Ψ s1 σ H1 x v Q I1 r1 q1) (he _)
theorem YL:OpR X (e9 .Add) (λx y H Q=>∃i j,x=.str i/\y=.str j/\i.length+j.length<=aT/\Q (.str (i++j)) H):=by
 intro Ψ s σ H x y v u Q I rx ry h;obtain⟨i,j,rfl,rfl,hz,q⟩:=h;obtain⟨t,rfl⟩:=rx;obtain⟨t',rfl⟩:=ry;exact add_str (λt' tk=>⟨.str (i++j),H,I.tok _,⟨_,rfl⟩,q⟩) hz
theorem vals1(r:Vals [x] us):∃u,us=[u]/\RelV x u:=by
 cases r with
 |cons r1 r2=>cases r2;exact⟨_,rfl,r1⟩
end
theorem aA2.some_of(r:aA2 (ae v) o):∃u,o=ae u/\RelV v u:=by
 cases o with
 |none=>exact(show cg from r).elim
 |some u=>exact⟨u,rfl,r⟩
structure nH(k:ag)(A:bS):Prop where
 hd:A.handled=aj
 dp:A.depth+3*k+5<Br
 un:A.units+16*k+200<cr
theorem nH.mono(r:nH k A)(h:j<=k):nH j A:=⟨r.hd,by have:=r.dp;lia,by have:=r.un;lia⟩
theorem nH.deeper(r:nH (k+1) A)(env:cv):nH k (A.deeper env):=
 ⟨r.hd,by have:=r.dp;show A.depth+1+3*k+5<_;lia,by have:=r.un;show A.units+3+16*k+200<_;lia⟩
theorem YM{A:bS}:(A.under (.builtin "type.__call__" ⟨.ref C::us,kw⟩)).depth=A.depth+1:=by
 first|rfl|simp[yk,Code.weight,Code.isCreation,Code.isGuard,Code.isCaller,Bu,ym,guardIds]
theorem YQ{A:bS}:(A.under (.builtin "type.__call__" ⟨.ref C::us,kw⟩)).units=A.units+1:=by
 first|rfl|simp[yk,Code.cUnits,Bu,ym]
theorem nH.make(r:nH (k+1) A)(C:am)(us:aa ak)(kw:aa (Str×ak)):nH k (A.under (.builtin "type.__call__" ⟨.ref C::us,kw⟩)):=
 ⟨r.hd,by have:=r.dp;rw[YM];lia,by have:=r.un;rw[YQ];lia⟩
theorem nH.depth(r:nH k A):A.depth<Br:=by have:=r.dp;lia
theorem nH.units(r:nH k A):A.units+64<cr:=by have:=r.un;lia
noncomputable def aQl:TA:=λ_ H Q=>Q [] H
noncomputable def aHl(ta:TE)(tr:TA):TA:=λσ H Q=>ta σ H λx H1=>tr σ H1 λxs H2=>Q (x::xs) H2
section
variable {t:TA}
theorem j8:PA X [] aQl:=λ_ _ _ _ H Q I h=>nX ⟨[],H,I,.nil,h⟩
theorem eQ(ha:PE X e te)(hr:PA X es t)(hs:zSE X e es:=by rfl):PA X (e::es) (aHl te t):=by
 intro pos Ψ s σ H Q I h;rw[hs];show ϑ _ _ (lI ((ai,eval e X.env)::eW pos (cf es X.env))) _ _ s;refine n4 (thn (ha Ψ s σ H _ I h) λu s1 ⟨x,H1,I1,r1,q1⟩=>?_);exact thn (hr pos Ψ s1 σ H1 _ I1 q1) λus s2 ⟨xs,H2,I2,r2,q2⟩=>⟨x::xs,H2,I2,.cons r1 r2,q2⟩
def aR9(t:TA):TE:=λσ H Q=>t σ H λxs H1=>xs.length<=aT/\∀p,H1 p=aj->Q (.ref p) (upd H1 p (.tup xs))
def aRa(t:TA):TE:=λσ H Q=>t σ H λxs H1=>xs.length<=aT/\∀p,H1 p=aj->Q (.ref p) (upd H1 p (.lst xs))
theorem aLk{x1}(h:PA X es t):PE X (.Tuple es x1 pos) (aR9 t):=by
 intro Ψ s σ H Q I hq;refine wpAny_Tuple_spliced (thn (h pos Ψ s σ H _ I hq) λus s1 ⟨xs,H1,I1,r,z,q⟩=>⟨by rw[<-r.length];exact z,?_⟩);have hf:H1 s1.heap.objs.size=aj:=I1.hok.fresh (ba _);refine⟨.ref s1.heap.objs.size,upd H1 s1.heap.objs.size (.tup xs),I1.laid (λb u e=>br _ e) (ba _) ?_,rfl,q _ hf⟩;exact⟨z,us,r,⟨_,cx _ rfl,rfl,_,rfl⟩⟩
theorem aAi(h:PA X es t):PE X (.List es pos) (aRa t):=by
 intro Ψ s σ H Q I hq;refine wpAny_List_spliced (thn (h pos Ψ s σ H _ I hq) λus s1 ⟨xs,H1,I1,r,z,q⟩=>⟨by rw[<-r.length];exact z,?_⟩);have hf:H1 s1.heap.objs.size=aj:=I1.hok.fresh (ba _);refine⟨.ref s1.heap.objs.size,upd H1 s1.heap.objs.size (.lst xs),I1.laid (λb u e=>br _ e) (ba _) ?_,rfl,q _ hf⟩;exact⟨z,us,0,r,cx _ rfl⟩
end
abbrev Sp:=aa V->Hp->VK->XK->Prop
abbrev CXT:=aa cv->Hp->ar->XK->ak->ar->Prop
structure aHm(P:bh)(w:bd)(K:bj)(mg:Str->aq ak)(base:ay)(A:bS)(outer:aa cv)(s:ar)(H:Hp):Prop where
 frames:A.frames=ae outer
 mod:Mod K mg base
 bs:∀b o,base.get? b=ae o->s.heap.get? b=ae o/\H b=aj
 bsz:base.objs.size<=s.heap.objs.size
 YF:s.heap.FunFrames base outer
 frf:∀b∈frs outer,H b=aj
 hok:HOk P w H s.heap
 bare:iz s.gens
def CE(outer:aa cv)(P:bh)(w:bd)(H:Hp)(s:ar)(Q:VK)(u:ak)(s':ar):Prop:=
 ∃v H',s'.os=s.os/\iz s'.gens/\Un (frs outer) [] H H' s.heap s'.heap/\HOk P w H' s'.heap/\RelV v u/\Q v H'
def CR(CX:CXT)(outer:aa cv)(P:bh)(w:bd)(H:Hp)(s:ar)(Q:VK)(E:XK)(r:Result)(s':ar):Prop:=
 match r with
 |.ok (.ret u)=>CE outer P w H s Q u s'
 |.ok _=>cg
 |.error e=>CX outer H s E e s'
structure xU(P:bh)(w:bd)(K:bj)(mg:Str->aq ak)(base:ay)(CX:CXT)(k:ag)(f:am)(fd:cj)(ps:aa Str)(sp:Sp):Prop where
 len:∀vs H Q E,sp vs H Q E->vs.length=ps.length
 run:∀(A:bS)(outer:aa cv)(s:ar)(H:Hp)(args:Args)(us:aa ak)(vs:aa V)(Q:VK)(E:XK),nH k A->aHm P w K mg base A outer s H->kG s fd args (ps.zip us)->Vals vs us->sp vs H Q E->
  codeAny (aw P w) A (.call (.ref f) args) (CR CX outer P w H s Q E) s
theorem aHm.make{K:bj}{base:ay}{A:bS}{outer:aa cv}{s:ar}{H:Hp}(e:aHm P w K mg base A outer s H)(C:am)(us:aa ak)(kw:aa (Str×ak)) :
  aHm P w K mg base (A.under (.builtin "type.__call__" ⟨.ref C::us,kw⟩)) outer s H:=⟨by first|exact e.frames|(simpa[yk,Code.envs,ym,pushEnvs] using e.frames),e.mod,e.bs,e.bsz,e.YF,e.frf,e.hok,e.bare⟩
section
theorem Inv.env0(I:Inv X Ψ σ H s):aHm X.prog X.w X.K X.mg X.base X.A X.stack s H:=
 ⟨I.ok.frames,I.ok.mod,I.bs,dj I.ok.bsz I.sz,I.stack,I.GP,I.hok,I.bare⟩
theorem Inv.after(I:Inv X Ψ σ H s)(h:CE X.stack X.prog X.w H s Q u s'):EP X Ψ σ Q u s':=by
 obtain⟨v,H',os,bare,un,hok,r,q⟩:=h;obtain⟨hh,g,d,t,os'⟩:=s';obtain rfl:os'=s.os:=os;exact⟨v,H',I.call un hok bare (λb z=>bf z 0x2),r,q⟩
end
noncomputable def aPc(sp:Sp)(dvs:aa V)(E:XK)(t:TA):TE:=λσ H Q=>t σ H λvs H1=>sp (vs++dvs) H1 Q E
def Binds(K:bj)(fd:cj)(ps:aa Str)(ds:aa ak):Prop:=
 ∀(s:ar)(us:aa ak),K.In s.heap->(us++ds).length=ps.length->kG s fd ⟨us,[]⟩ (ps.zip (us++ds))
theorem Binds.all{K:bj}(h:∀us:aa ak,us.length=ps.length->bindArgs fd ⟨us,[]⟩=pure (ps.zip us)):Binds K fd ps []:=λs us _ hl=>by
 rw[eD] at hl ⊢;exact .of_eq (h us hl)
def U_(CX:CXT)(X:Cx)(E:XK):Prop:=∀(Ψ:aa (am×bg))(σ:St)(H:Hp)(s:ar)(e:ak)(s':ar),Inv X Ψ σ H s->CX X.stack H s E e s'->X.xe e s'
section
variable {f:am} {e:Expr}
theorem aLl(F:xU X.prog X.w X.K X.mg X.base CX k f fd ps sp)(hr:nH k X.A)(hb:Binds X.K fd ps ds)(hd:Vals dvs ds)(hx:U_ CX X E)
 (I:Inv X Ψ σ H s)(r:Vals vs us)(h:sp (vs++dvs) H Q E):ϑ (aw X.prog X.w) X.A (call (.ref f) us) (EP X Ψ σ Q) X.xe s:=by
 have r2:Vals (vs++dvs) (us++ds):=r.append hd;have hl:(us++ds).length=ps.length:=by rw[<-r2.length];exact F.len _ _ _ _ h
 refine jx (jy (F.run X.A X.stack s H ⟨us,[]⟩ (us++ds) (vs++dvs) Q E hr I.env0 (hb s us I.kIn hl) r2 h) λr s' hq=>?_);cases r with
 |error e=>exact hx Ψ σ H s e s' I hq
 |ok fl=>
  cases fl with
  |ret u=>exact I.after hq
  |next=>exact dg hq
  |brk=>exact dg hq
  |cont=>exact dg hq
theorem RJ(F:xU X.prog X.w X.K X.mg X.base CX k f fd ps sp)(hr:nH k X.A)(hg:Gl X x)(hm:X.mg x=ae (.ref f))(hk:jz X.K (.ref f)=af)(hb:Binds X.K fd ps ds)(hd:Vals dvs ds)(hx:U_ CX X E)
 (ha:PA X (e::es) t)(hdb:nDb x:=by decide)(he:zSE X e es:=by rfl)(hpl:zSP X pos es:=by rfl) :
  PE X (.Call (.Name x p) (e::es) [] pos) (aPc sp dvs E t):=by
 intro Ψ s σ H Q I h;refine ik (lC I hg hm ?_ hdb);refine Bv I.ok.mod.kin hk (thn (ha pos Ψ s σ H _ I h) λus s1 ⟨vs,H1,I1,r,q⟩=>⟨I1.kIn,?_⟩) he hpl;exact aLl F hr hb hd hx I1 r q
end
structure bY(N P:aa Str)(sc:dL):Prop where
 kind:sc.kind=.function
 co:sc.isCoroutine=ai
 gen:sc.isGenerator=ai
 nd:N.Nodup
 pre:N.take P.length=P
 par:∀x∈P,sc.names.lookup x=ae .local\/sc.names.lookup x=ae .cell
 nofree:∀y∈sc.names,y.2≠.free
theorem L_{kindOf:Str->aq iE}:∀{binds:aa (Str×ak)}{m:Str->aq ak},(∀v,(x,v)∉binds)->jI kindOf binds m x=m x
 |[],_,_=>rfl
 | (n,v)::r,m,h=>by
  unfold jI;rw[L_ λw hw=>h w (bw _ hw)];split
  ·have:x≠n:=by rintro rfl;exact h v bo
   simp[this]
  ·rfl
theorem MF{kindOf:Str->aq iE}:∀{binds:aa (Str×ak)}{m:Str->aq ak},(∀v,(x,v)∉binds)->jS kindOf binds m x=m x
 |[],_,_=>rfl
 | (n,v)::r,m,h=>by
  unfold jS;rw[MF λw hw=>h w (bw _ hw)];split
  ·rfl
  ·have:x≠n:=by rintro rfl;exact h v bo
   simp[this]
theorem MJ{kindOf:Str->aq iE}:∀{P:aa Str}{vs:aa ak}{i:ag}{m:Str->aq ak},P.Nodup->P[i]?=ae x->vs[i]?=ae v->kindOf x=ae .local->
  jI kindOf (P.zip vs) m x=ae v
 |[],_,_,_,_,h,_,_=>by simp at h
 |_::_,[],_,_,_,_,h,_=>by simp at h
 |p::P,w::vs,0,m,nd,h1,h2,hk=>by
  simp at h1 h2;subst h1;subst h2;show jI kindOf ((p,w)::P.zip vs) m p=_;unfold jI;rw[L_ λv hv=>(fE.mp nd).1 (yn hv).1,av hk];simp
 |p::P,w::vs,i+1,m,nd,h1,h2,hk=>by
  show jI kindOf ((p,w)::P.zip vs) m x=_;unfold jI;exact MJ (fE.mp nd).2 (by simpa using h1) (by simpa using h2) hk
theorem MK{kindOf:Str->aq iE}:∀{P:aa Str}{vs:aa ak}{i:ag}{m:Str->aq ak},P.Nodup->P[i]?=ae x->vs[i]?=ae v->kindOf x≠ae .local->
  jS kindOf (P.zip vs) m x=ae v
 |[],_,_,_,_,h,_,_=>by simp at h
 |_::_,[],_,_,_,_,h,_=>by simp at h
 |p::P,w::vs,0,m,nd,h1,h2,hk=>by
  simp at h1 h2;subst h1;subst h2;show jS kindOf ((p,w)::P.zip vs) m p=_;unfold jS;rw[MF λv hv=>(fE.mp nd).1 (yn hv).1,ax hk];simp
 |p::P,w::vs,i+1,m,nd,h1,h2,hk=>by
  show jS kindOf ((p,w)::P.zip vs) m x=_;unfold jS;exact MK (fE.mp nd).2 (by simpa using h1) (by simpa using h2) hk
noncomputable def start(N:aa Str)(vs:aa V):St:=vs.map ae++b9 (N.length-vs.length) aj
noncomputable def lE(CX:CXT)(P:bh)(w:bd)(K:bj)(mg:Str->aq ak)(base:ay)(N:aa Str)(qual:Str)(scope:dL)(f:am)(cd:ak)(A:bS)(outer:aa cv)(s:ar)(H:Hp)(E:XK):Cx where
 prog:=P
 w:=w
 K:=K
 mg:=mg
 base:=base
 A:=A.deeper (cS qual scope s.heap.objs.size f cd)
 N:=N
 s₀:=s
 H₀:=H
 env:=cS qual scope s.heap.objs.size f cd
 outer:=outer
 stack:=cS qual scope s.heap.objs.size f cd::outer
 ex:=[]
 calm:=af
 fn:=λ_=>af
 pn:=[]
 xe:=λe s'=>ϑ (aw P w) (A.deeper (cS qual scope s.heap.objs.size f cd)) (leaving (cS qual scope s.heap.objs.size f cd) e) (λ_ s''=>CX outer H s E e s'') (λe' s''=>CX outer H s E e' s'') s'
theorem VB{sc:dL}(h:sc.names.lookup x=ae .cell):∃c,(yo n sc.names []).lookup x=ae c:=by
 have q:=Bw sc.names n [] (.inl h);exact vb.mp q
theorem aAj{CX:CXT}{P:bh}{w:bd}{K:bj}{mg:Str->aq ak}{base:ay}{N ps:aa Str}{qual:Str}{scope:dL}{f:am}{cd:ak}{A:bS}{outer:aa cv}{s s1:ar}{H:Hp}{E:XK}{us:aa ak}{vs:aa V}
 (S:bY N ps scope)(hd:A.handled=aj)(e0:aHm P w K mg base A outer s H)(hl:vs.length=ps.length)(r:Vals vs us)
 (x:InCallC s s.heap.objs.size (jI (cS qual scope s.heap.objs.size f cd).kindOf (ps.zip us) λ_=>aj) (yo (s.heap.objs.size+1) scope.names []) (jS (cS qual scope s.heap.objs.size f cd).kindOf (ps.zip us) λ_=>aj) s1) :
  Inv (lE CX P w K mg base N qual scope f cd A outer s H E) [] (start N vs) H s1:=by
 have hpl:ps.length<=N.length:=by have:=di n9 S.pre;rw[vc] at this;lia
 obtain⟨h1,tk,rfl,hk⟩:=x.done;have noA:∀b:am,b∉(lE CX P w K mg base N qual scope f cd A outer s H E).ex:=λb z=>bf (show b∈([]:aa am) from z) 0x2
 refine⟨⟨e0.mod,S.kind,rfl,rfl,ba _,λy z c h1 h2=>?_,λy hy=>?_,λy c _ h=>?_,λ_=>hd,Around.frames_deeper e0.frames,.inr ⟨rfl,rfl⟩,λb z=>bf z (noA b),e0.bs,e0.bsz,λb _ _=>noA b,λb z=>bf z (noA b),e0.YF,e0.frf⟩,
  rfl,e0.bare,Un.kept hk,⟨_,x.toInCall.ns,λi y v h1 h2 h3=>?_⟩,λy c h=>⟨_,x.cell y c h⟩,e0.hok.fresh (ba _),λy c h=>?_,λp hp=>bf (show p∈([]:aa (am×bg)) from hp) 0x2,e0.hok.kept hk,?_⟩
 ·exact name_of_addr x.apart (ma h1) (ma h2)
 ·have hy:scope.names.lookup y=ae .cell\/scope.names.lookup y=ae .free:=hy;rcases hy with hy|hy
  ·exact VB hy
  ·exact bf rfl (S.nofree _ (ma hy))
 ·exact ii (x.above y c (ma h))
 ·have hi:i<vs.length:=by
   unfold start at h2;by_cases hi:i<vs.length
   ·exact hi
   ·rw[hI (by simpa using hi)] at h2;rw[kH] at h2;split at h2<;>cases h2
  have ha:vs[i]?=ae v:=by
   unfold start at h2;rw[kK (by simpa using hi),io] at h2;cases e:vs[i]? with
   |none=>rw[e] at h2;cases h2
   |some a=>rw[e] at h2;cases h2;rfl
  obtain⟨u,hu,rv⟩:=r.get ha;have hp:ps[i]?=ae y:=by
   rw[<-S.pre,List.getElem?_take_of_lt 0x1];exact h1
  have ndP:ps.Nodup:=by rw[<-S.pre];exact S.nd.sublist (List.take_sublist _ _)
  refine⟨u,rv,?_⟩;rcases S.par y (vd hp) with k|k
  ·exact .inl ⟨k,MJ ndP hp hu k⟩
  ·obtain⟨c,e⟩:=VB k;refine .inr ⟨.inl k,c,e,?_⟩;have q:=x.cell y c e;rw[MK ndP hp hu (by show scope.names.lookup y≠_;rw[k];decide)] at q;exact q
 ·exact e0.hok.fresh (ii (x.above y c (ma h)))
 ·unfold start;show _=N.length;rw[bp,az,vf];lia
theorem aHn{w:bd}{K:bj}{mg:Str->aq ak}{base:ay}{k:ag}{f:am}{name qual:Str}{params:Arguments}{body:aa bq}{scope:dL}{dV kV doc pm cdv ct oc:ak}{an od:aq am}
 {osl:aE (aq ak)}{N ps:aa Str}{sp:Sp}(lk:K.lookup f=ae ⟨oc,od,.func (kL name qual params body scope dV kV doc pm an cdv ct),osl⟩)(hcd:vg K cdv qual=af)(S:bY N ps scope)
 (len:∀vs H Q E,sp vs H Q E->vs.length=ps.length)
 (hbody:∀(A:bS) (outer:aa cv) (s:ar) (H:Hp) (vs:aa V) (Q:VK) (E:XK),nH k (A.deeper (cS qual scope s.heap.objs.size f cdv))->sp vs H Q E->
   ∃t,PSs (lE CX P w K mg base N qual scope f cdv A outer s H E) body t/\t {nx:=λ_ H'=>Q .non H',rt:=Q} (start N vs) H) :
  xU P w K mg base CX (k+1) f (kL name qual params body scope dV kV doc pm an cdv ct) ps sp:=by
 refine⟨len,λA outer s H args us vs Q E hr e0 hb r hsp=>?_⟩;have hl:=len _ _ _ _ hsp;have KX:K.In s.heap:=e0.mod.kin.keeps λb o e=>(e0.bs b o e).1
 have lim:s.heap.NoLimit:=e0.mod.nolimit.keeps λb o e=>(e0.bs b o e).1
 have hkind:∀y∈ps.zip us,scope.names.lookup y.1=ae .local\/(scope.names.lookup y.1=ae .cell/\((yo (s.heap.objs.size+1) scope.names []).lookup y.1).isSome=af):=λ⟨n,v⟩ hy=>by
  rcases S.par n (yn hy).1 with q|q
  ·exact .inl q
  ·exact .inr ⟨q,Bw _ _ _ (.inl q)⟩
 refine codeAny_call_function hr.depth (KX _ _ lk) rfl S.co S.gen rfl (PySem.W.codeRec_of KX hcd) (hb _ _ _ _ ?_);refine wpAny_newFunctionEnv_cells S.kind hkind λenv he s1 x=>?_
 subst he;refine⟨lim.keeps x.toInCall.keep,codeAny_func ?_⟩;obtain⟨t,ht,hq⟩:=hbody A outer s H vs Q E (hr.deeper _) hsp;have I:Inv (lE CX P w K mg base N qual scope f cdv A outer s H E) [] (start N vs) H s1:=aAj S hr.hd e0 hl r x;refine dA (ht [] s1 (start N vs) H _ I hq) (λfl s' hs=>?_) λe s' hs=>hs
 have fin:∀{σ':St}{H':Hp}{v:V}{u:ak},Inv (lE CX P w K mg base N qual scope f cdv A outer s H E) [] σ' H' s'->RelV v u->Q v H'->CE outer P w H s Q u s':=
  λ{σ' H' v u} J rv q=>⟨v,H',J.os,J.bare,J.base,J.hok,rv,q⟩
 cases fl with
 |ret u=>
  obtain⟨v,σ',H',J,rv,q⟩:=hs;exact fin J rv q
 |next=>
  obtain⟨σ',H',J,q⟩:=hs;exact fin (v:=V.non) J rfl q
 |brk=>
  obtain⟨_,_,_,q⟩:=hs;exact dg q
 |cont=>
  obtain⟨_,_,_,q⟩:=hs;exact dg q
section
variable {e:Expr} {t:TA} {id T:fN} {r:aa V->Hp->VK->Prop}
noncomputable def tCB(r:aa V->Hp->VK->Prop)(t:TA):TE:=λσ H Q=>t σ H λvs H1=>r vs H1 Q
theorem GR(hc:l_ X (.builtin id) r)(hg:Gl X x)(hm:X.mg x=aj)(hv:em x=ae (.builtin id))(ha:PA X (e::es) t)(hn:x ≠ "__name__":=by decide)(hdb:nDb x:=by decide)
 (he:zSE X e es:=by rfl)(hpl:zSP X pos es:=by rfl):PE X (.Call (.Name x p) (e::es) [] pos) (tCB r t):=by
 intro Ψ s σ H Q I h;refine ik (nA I hg hm hv ?_ hn hdb);exact Bx (thn (ha pos Ψ s σ H _ I h) λus s1 ⟨vs,H1,I1,r1,q1⟩=>hc Ψ s1 σ H1 vs us Q I1 r1 q1) he hpl
theorem MN(hc:l_ X (.type T) r)(hg:Gl X x)(hm:X.mg x=aj)(hv:em x=ae (.type T))(ha:PA X (e::es) t)(hn:x ≠ "__name__":=by decide)(hdb:nDb x:=by decide)
 (he:zSE X e es:=by rfl)(hpl:zSP X pos es:=by rfl):PE X (.Call (.Name x p) (e::es) [] pos) (tCB r t):=by
 intro Ψ s σ H Q I h;refine ik (nA I hg hm hv ?_ hn hdb);exact iA (thn (ha pos Ψ s σ H _ I h) λus s1 ⟨vs,H1,I1,r1,q1⟩=>hc Ψ s1 σ H1 vs us Q I1 r1 q1) he hpl
end
end L2
namespace HT
open PySem PyProof.Rows
section
variable {prog:bh} {w:bd} {A:bS} {E:ak->ar->Prop} {s:ar}
theorem aHo(ht:lw s.heap t vs.toArray)(hb:lw s.heap b ws.toArray)(hv:vs≠[])
 (h1:ws=[]->Q (.ref t) s)(h2:ws≠[]->Q (.ref s.heap.objs.size) {s with heap:=s.heap.push {cls:=.type "tuple",data:=.seq (vs++ws).toArray}})
 (hsz:vs.length+ws.length<=aT):ϑ (aw prog w) A (e9 .Add (.ref t) (.ref b)) Q E s:=by
 obtain⟨⟨cls,dd,data,sl⟩,ho,hc,n,hd⟩:=id ht;obtain⟨⟨cls2,dd2,data2,sl2⟩,ho2,hc2,n2,hd2⟩:=id hb;simp only at hc hd hc2 hd2;subst hc hd hc2 hd2;have e:vs.toArray++ws.toArray=(vs++ws).toArray:=by simp
 by_cases hw:ws=[]
 ·exact yp ⟨_,ho,rfl⟩ ⟨_,ho2,rfl⟩ yq yr yt yu (yw _ _)
   (tuple_addW1 t b vs.toArray ws.toArray n n2 dd dd2 sl sl2 (by simpa using hv) (by simp[hw])) ⟨ho,ho2,h1 hw⟩
 ·refine yp ⟨_,ho,rfl⟩ ⟨_,ho2,rfl⟩ yq yr yt yu (yw _ _)
   (tuple_addW2 t b vs.toArray ws.toArray n n2 dd dd2 sl sl2 (by simpa using hv) (by simpa using hw) (by rw[cm,cm];exact hsz)) ⟨ho,ho2,?_⟩
  rw[e];exact h2 hw
noncomputable def sIx(n d:ag):aq ah->ag
 |none=>d
 |some v=>if v<0 then (v+(n:ah)).toNat else min v.toNat n
theorem aLm(n d:ag)(hd:d<=n)(o:aq ah):sIx n d o<=n:=by
 cases o with
 |none=>exact hd
 |some v=>
  show(if v<0 then (v+(n:ah)).toNat else min v.toNat n)<=n;by_cases hv:v<0
  ·rw[av hv];lia
  ·rw[ax hv];exact Nat.min_le_right _ _
theorem aAk(v:ah)(n d:ag):(if v<0 then max (v+(n:ah)) 0 else min v (n:ah))=((sIx n d (ae v):ag):ah):=by
 show(if v<0 then max (v+(n:ah)) 0 else min v (n:ah))=(((if v<0 then (v+(n:ah)).toNat else min v.toNat n):ag):ah);by_cases hv:v<0
 ·simp only[av hv];lia
 ·simp only[ax hv];lia
theorem YS(lo hi:aq ah)(n:ag):yx lo hi 1 (n:ah)=(((sIx n 0 lo:ag):ah),((sIx n n hi:ag):ah)):=by
 have h1:¬((1:ah)<0):=by lia
 unfold yx;simp only[h1,fF];refine Prod.ext ?_ ?_
 ·cases lo with
  |none=>rfl
  |some v=>exact aAk v n 0
 ·cases hi with
  |none=>rfl
  |some v=>exact aAk v n n
theorem YT(i j:ag):vh (i:ah) (j:ah) 1=j-i:=by
 unfold vh;have h1:(1:ah) > 0:=by lia
 simp only[h1,eI,Int.ediv_one];split<;>lia
theorem DQ(p:i8 v o)(h:Q o s):ϑ (aw prog w) A (Ef v) Q E s:=by
 cases p with
 |none=>exact By h
 |int i t=>exact slicePart_int h
theorem xH{lo hi:aq ah}{Q:ah×ah×ag->ar->Prop}(hs:s.heap.IsSliceOf sl vl vu .none)(pl:i8 vl lo)(pu:i8 vu hi)
 (h:Q (((sIx n 0 lo:ag):ah),1,sIx n n hi-sIx n 0 lo) s):ϑ (aw prog w) A (Bz (.ref sl) (pure (n:ah))) Q E s:=by
 obtain⟨os,hos,hcs,hds⟩:=id hs;unfold Bz Eg;refine ao (ao (dh hos hds rfl (ao (dh hos hds rfl (ao (dh hos hds rfl (aI ?_)))))));refine ao (By ?_);show ϑ _ _ (if ((1:ah)==0)=af then _ else _) _ _ s;rw[ax 0x4];refine ao (DQ pl (ao (DQ pu (ao (aI ?_)))));show ϑ _ _ (match yx lo hi 1 (n:ah) with|(lo,hi)=>pure (lo,(1:ah),vh lo hi 1)) _ _ s;rw[YS lo hi n];show ϑ _ _ (pure (((sIx n 0 lo:ag):ah),(1:ah),vh ((sIx n 0 lo:ag):ah) ((sIx n n hi:ag):ah) 1)) _ _ s;rw[YT];exact aI h
theorem aEb(xs:aE ak)(i k:ag):((bz k).filterMap λ(m:ag)=>xs[((i:ah)+(m:ah)*1).toNat]?).toArray=((xs.toList.drop i).take k).toArray:=by
 have e:(λ(m:ag)=>xs[((i:ah)+(m:ah)*1).toNat]?)=λm=>xs[i+m]?:=by
  funext m
  have:((i:ah)+(m:ah)*1).toNat=i+m:=by lia
  rw[this]
 rw[e];have:=pick_run xs i k;rw[BA] at this;have e2:((λx=>xs[x]?) ∘ λx=>i+x)=λm=>xs[i+m]?:=rfl
 rw[e2] at this;rw[this]
theorem vR{lo hi:aq ah}{Q:ak->ar->Prop}(ht:lw s.heap t items)(hs:s.heap.IsSliceOf sl vl vu .none)(pl:i8 vl lo)(pu:i8 vu hi)
 (hw:¬(sIx items.size 0 lo=0/\sIx items.size items.size hi=items.size))
 (h:Q (.ref s.heap.objs.size) {s with heap:=s.heap.push {cls:=.type "tuple",data:=.seq ((items.toList.drop (sIx items.size 0 lo)).take (sIx items.size items.size hi-sIx items.size 0 lo)).toArray}})
 (hsz:items.size<=aT):ϑ (aw prog w) A (kM (.ref t) (.ref sl)) Q E s:=by
 have htake:sizeOk (.seq ((items.toList.drop (sIx items.size 0 lo)).take (sIx items.size items.size hi-sIx items.size 0 lo)).toArray):=by
  show((items.toList.drop (sIx items.size 0 lo)).take (sIx items.size items.size hi-sIx items.size 0 lo)).toArray.size<=aT;rw[cm,vc,yz,kz];lia
 have hj:sIx items.size items.size hi<=items.size:=aLm _ _ (ba _) hi;obtain⟨os,hos,hcs,hds⟩:=id hs;have hTs:s.TypeIs (.ref sl) "slice":=⟨os,hos,hcs⟩
 unfold kM
 try with_reducible refine eJ ?_
 first|refine ao (aI ?_)|skip
 refine ao (wpAny_sequenceKey ht.typeIs 0x4 ?_);refine ao (i9 ht.typeIs og
  (ip og ht.typeIs entry_tuple_getitem ?_ (args_tuple_getitem _ _)))
 show ϑ _ _ (Eh (.ref t) >>= _) _ _ s;refine ao (tupleItemsOf_ ht ?_);refine ao (me hTs ?_);rw[av 0x4];refine ao (xH hs pl pu ?_);have hno:¬((((sIx items.size 0 lo:ag):ah)==0&&(1:ah)==1&&(sIx items.size items.size hi-sIx items.size 0 lo)==items.size)=af):=by
  intro q;rw[bc,bc] at q;have q1:((sIx items.size 0 lo:ag):ah)=0:=eq_of_beq q.1.1;have q2:sIx items.size items.size hi-sIx items.size 0 lo=items.size:=eq_of_beq q.2;exact hw ⟨by lia,by lia⟩
 show ϑ _ _ (if (((sIx items.size 0 lo:ag):ah)==0&&(1:ah)==1&&(sIx items.size items.size hi-sIx items.size 0 lo)==items.size)=af then _ else _) _ _ s;rw[ax hno,aEb]
 first
  |exact ao (gu (aI ⟨_,rfl,aI h⟩) htake)
  |exact ao (gu (ao (aI (aI ⟨_,rfl,aI h⟩))) htake)
  |exact ao (ao (gu (aI (aI ⟨_,rfl,aI h⟩)) htake))
  |exact ao (ao (gu (aI ⟨_,rfl,aI h⟩) htake))
end
end HT
namespace L2
open PySem PySem.Spec PyProof.Rows
abbrev TO:=St->Hp->(aq ah->Hp->Prop)->Prop
def PO(X:Cx)(e:aq Expr)(t:TO):Prop:=
 ∀(Ψ:aa (am×bg))(s:ar)(σ:St)(H:Hp)(Q:aq ah->Hp->Prop),Inv X Ψ σ H s->t σ H Q->
  ϑ (aw X.prog X.w) X.A (evalPart e X.env) (λu s'=>∃o H',Inv X Ψ σ H' s'/\i8 u o/\Q o H') X.xe s
noncomputable def aHp:TO:=λ_ H Q=>Q aj H
noncomputable def aPd(t:TE):TO:=λσ H Q=>t σ H λx H1=>∃i,x=.int i/\Q (ae i) H1
section
variable {X:Cx} {te:TE} {lo hi:aq Expr} {tl th:TO}
theorem aHq:PO X aj aHp:=by
 intro Ψ s σ H Q I h;rw[yA];exact aI ⟨aj,H,I,.none,h⟩
theorem aAl(h:PE X e te):PO X (ae e) (aPd te):=by
 intro Ψ s σ H Q I hw;rw[evalPart_some];refine thn (h Ψ s σ H _ I hw) λu s1 ⟨x,H1,I1,r1,q1⟩=>?_
 obtain⟨i,rfl,q⟩:=q1;obtain⟨t,rfl⟩:=r1;exact⟨ae i,H1,I1,.int i t,q⟩
def SlR(X:Cx)(r:V->aq ah->aq ah->Hp->VK->Prop):Prop:=
 ∀(Ψ:aa (am×bg))(s:ar)(σ:St)(H:Hp)(x:V)(v vl vu:ak)(lo hi:aq ah)(sl:am)(Q:VK),Inv X Ψ σ H s->RelV x v->s.heap.IsSliceOf sl vl vu .none->i8 vl lo->i8 vu hi->r x lo hi H Q->
  ∃T id,ja (.type T) "__getitem__"=pure (ae (.builtin id))/\s.TypeIs v T/\ϑ (aw X.prog X.w) X.A (kM v (.ref sl)) (EP X Ψ σ Q) X.xe s
noncomputable def tSl(r:V->aq ah->aq ah->Hp->VK->Prop)(te:TE)(tl th:TO):TE:=λσ H Q=>te σ H λx H1=>tl σ H1 λl H2=>th σ H2 λu H3=>r x l u H3 Q
theorem aEc(hr:SlR X r)(he:PE X e te)(hl:PO X lo tl)(hu:PO X hi th):PE X (.Subscript e (.Slice lo hi aj p2) pos) (tSl r te tl th):=by
 intro Ψ s σ H Q I h;refine yB (thn (he Ψ s σ H _ I h) λv s1 ⟨x,H1,I1,r1,q1⟩=>?_);refine BB (thn (hl Ψ s1 σ H1 _ I1 q1) λvl s2 ⟨l,H2,I2,pl,q2⟩=>thn (hu Ψ s2 σ H2 _ I2 q2) λvu s3 ⟨u,H3,I3,pu,q3⟩=>?_);rw[yA];refine aI ?_;have I4:Inv X Ψ σ H3 {s3 with heap:=s3.heap.push {cls:=.type "slice",data:=.fields #[vl,vu,.none]}}:=I3.kept λb ob q=>br _ q
 obtain⟨T,id,hT,ht,hg⟩:=hr Ψ {s3 with heap:=s3.heap.push {cls:=.type "slice",data:=.fields #[vl,vu,.none]}} σ H3 x v vl vu l u s3.heap.objs.size Q I4 r1 (BC ..) pl pu q3;show ϑ (aw X.prog X.w) X.A (vi e (.Slice lo hi aj p2) v (.ref s3.heap.objs.size)) (EP X Ψ σ Q) X.xe {s3 with heap:=s3.heap.push {cls:=.type "slice",data:=.fields #[vl,vu,.none]}};exact yT ht hT hg 0x5
noncomputable def aEd(xs:aa V)(lo hi:aq ah):aa V:=(xs.drop (HT.sIx xs.length 0 lo)).take (HT.sIx xs.length xs.length hi-HT.sIx xs.length 0 lo)
theorem yH(xs:aa V)(lo hi:aq ah):(aEd xs lo hi).length<=xs.length:=by
 unfold aEd;rw[vc,yz];lia
def aRb(K:bj):V->aq ah->aq ah->Hp->VK->Prop:=λx lo hi H Q=>∃a xs,x=.ref a/\SqT K H a xs/\
 ¬(HT.sIx xs.length 0 lo=0/\HT.sIx xs.length xs.length hi=xs.length)/\∀p,H p=aj->Q (.ref p) (upd H p (.tup (aEd xs lo hi)))
theorem aLn:SlR X (aRb X.K):=by
 intro Ψ s σ H x v vl vu lo hi sl Q I rx hs pl pu h;obtain⟨a,xs,rfl,hx,hw,q⟩:=h;cases rx;obtain⟨its,r,ht,hz⟩:=I.tuple hx;have hlen:its.toArray.size=xs.length:=by rw[cm];exact r.length.symm
 refine⟨"tuple",_,og.lookup,ht.typeIs,?_⟩;refine HT.vR ht hs pl pu (by rw[hlen];exact hw) ?_ (by rw[hlen];exact hz);rw[hlen];refine⟨.ref s.heap.objs.size,_,I.laid (λb ob q=>br _ q) (ba _) ?_,rfl,q _ (I.hok.fresh (ba _))⟩;exact⟨dj (yH xs lo hi) hz,_,(r.drop (HT.sIx xs.length 0 lo)).take (HT.sIx xs.length xs.length hi-HT.sIx xs.length 0 lo),j7.new _ _⟩
def aPe(K:bj):R2:=λx y H Q=>∃a b xs ys,x=.ref a/\y=.ref b/\SqT K H a xs/\SqT K H b ys/\xs≠[]/\xs.length+ys.length<=aT/\
 (ys=[]->Q (.ref a) H)/\(ys≠[]->∀p,H p=aj->Q (.ref p) (upd H p (.tup (xs++ys))))
theorem Vals.yI(r:Vals xs us):us=[]↔xs=[]:=by
 cases r with
 |nil=>simp
 |cons _ _=>simp
theorem aHr:OpR X (e9 .Add) (aPe X.K):=by
 intro Ψ s σ H x y v u Q I rx ry h;obtain⟨a,b,xs,ys,rfl,rfl,ha,hb,hx,hz,q1,q2⟩:=h;cases rx;cases ry;obtain⟨its,r1,p1,_⟩:=I.tuple ha;obtain⟨its2,r2,p2,_⟩:=I.tuple hb;refine HT.aHo p1 p2 (λz=>hx (r1.yI.mp z)) (λz=>⟨.ref a,H,I,rfl,q1 (r2.yI.mp z)⟩) (λz=>?_) (by rw[<-r1.length,<-r2.length];exact hz);refine⟨.ref s.heap.objs.size,_,I.laid (λb ob q=>br _ q) (ba _) ?_,rfl,q2 (λw=>z (r2.yI.mpr w)) _ (I.hok.fresh (ba _))⟩;exact⟨by rw[bp];exact hz,_,r1.append r2,j7.new _ _⟩
end
noncomputable def ixN(n:ag)(i:ah):aq ag:=if 0<=i then (if i<n then ae i.toNat else aj) else if -(n:ah)<=i then ae (i+n).toNat else aj
def atI{α:Type}(xs:aa α)(i:ah):aq α:=(ixN xs.length i).bind λj=>xs[j]?
theorem aHs(h:ixN n i=ae j):mf i n=ae j/\j<n/\-(n:ah)<=i/\i<n:=by
 unfold ixN at h;by_cases h0:0<=i
 ·rw[av h0] at h;by_cases h1:i<n
  ·rw[av h1] at h;have e:i.toNat=j:=c9 h;exact⟨by rw[BD h0 h1,e],by lia,by lia,h1⟩
  ·rw[ax h1] at h;cases h
 ·rw[ax h0] at h;by_cases h1:-(n:ah)<=i
  ·rw[av h1] at h;have e:(i+n).toNat=j:=c9 h;exact⟨by rw[seqIndex_neg 0x1 h1,e],by lia,h1,by lia⟩
  ·rw[ax h1] at h;cases h
theorem RK(h:atI xs i=ae v):∃j,mf i xs.length=ae j/\xs[j]?=ae v/\j<xs.length/\-(xs.length:ah)<=i/\i<xs.length:=by
 unfold atI at h;cases e:ixN xs.length i with
 |none=>rw[e] at h;cases h
 |some j=>
  rw[e] at h;obtain⟨h1,h2,h3,h4⟩:=aHs e;exact⟨j,h1,h,h2,h3,h4⟩
def GX(b:Expr):Prop:=∀o i,vj b ai o i=yY [o,i] (kM o i)
def IxR(X:Cx)(r:R2):Prop:=
 ∀(value slice:Expr)(Ψ:aa (am×bg))(s:ar)(σ:St)(H:Hp)(x y:V)(v u:ak)(Q:VK),Inv X Ψ σ H s->RelV x v->RelV y u->r x y H Q->
  vj slice ai v u=yY [v,u] (kM v u)->ϑ (aw X.prog X.w) X.A (vi value slice v u) (EP X Ψ σ Q) X.xe s
def MtR(X:Cx)(id:fN)(r:V->aa V->Hp->VK->Prop):Prop:=
 ∀(Ψ:aa (am×bg))(s:ar)(σ:St)(H:Hp)(x:V)(xs:aa V)(v:ak)(us:aa ak)(Q:VK),Inv X Ψ σ H s->RelV x v->Vals xs us->r x xs H Q->
  ϑ (aw X.prog X.w) X.A (call (.builtin id) (v::us)) (EP X Ψ σ Q) X.xe s
section
variable {X:Cx} {a b:Expr} {ta tb:TE} {pos:bX}
theorem aLo(hr:IxR X r)(ha:PE X a ta)(hb:PE X b tb)(hs:GX b):PE X (.Subscript a b pos) (tOp r ta tb):=by
 intro Ψ s σ H Q I h;exact yB (aP6 ha hb I h λv u s2 x y H2 I2 rx ry q=>hr a b Ψ s2 σ H2 x y v u Q I2 rx ry q (hs _ _))
def aRc(K:bj):R2:=λx y H Q=>∃p xs i v,x=.ref p/\y=.int i/\SqL K H p xs/\atI xs i=ae v/\Q v H
def aRd(K:bj):R2:=λx y H Q=>∃p xs i v,x=.ref p/\y=.int i/\SqT K H p xs/\atI xs i=ae v/\Q v H
def aRe:R2:=λx y H Q=>∃z i c,x=.str z/\y=.int i/\z.length<=aT/\atI z.cps.toList i=ae c/\Q (.str ⟨#[c]⟩) H
theorem RL:IxR X (aRc X.K):=by
 intro value slice Ψ s σ H x y v u Q I rx ry h hs;obtain⟨p,xs,i,z,rfl,rfl,hq,he,q⟩:=h;cases rx;obtain⟨t,rfl⟩:=ry;obtain⟨its,r,pl,hz⟩:=I.list hq;obtain⟨j,h1,h2,h3,h4,h5⟩:=RK he;obtain⟨w,ew,rw'⟩:=r.get h2;have hl:=r.length;have hn:=DP;have fin:EP X Ψ σ Q w s:=⟨z,H,I,rw',q⟩
 by_cases h0:0<=i
 ·have hj:i.toNat=j:=by
   rw[BD h0 h5] at h1;exact c9 h1
  exact item_listR pl.isList h0 0x1 (by rw[hj];simpa using ew) fin hs
 ·have hj:(i+(its.toArray.size:ah)).toNat=j:=by
   rw[seqIndex_neg 0x1 h4] at h1;rw[cm,<-hl];exact c9 h1
  exact BE pl.isList.typeIs za.lookup
   (wpAny_getItem_list_neg pl.isList 0x1 (by rw[cm]<;>lia) 0x1 (by rw[hj];simpa using ew) ⟨rfl,fin⟩) hs
theorem aLp:IxR X (aRd X.K):=by
 intro value slice Ψ s σ H x y v u Q I rx ry h hs;obtain⟨p,xs,i,z,rfl,rfl,hq,he,q⟩:=h;cases rx;obtain⟨t,rfl⟩:=ry;obtain⟨its,r,pl,hz⟩:=I.tuple hq;obtain⟨j,h1,h2,h3,h4,h5⟩:=RK he;obtain⟨w,ew,rw'⟩:=r.get h2;have hl:=r.length;have hn:=DP;have fin:EP X Ψ σ Q w s:=⟨z,H,I,rw',q⟩
 exact BE pl.typeIs slot_tuple_getitem.lookup
  (getItem_tuple pl 0x1 0x1 (by rw[cm,<-hl];exact h1) (by simpa using ew) ⟨rfl,fin⟩) hs
theorem aLq:IxR X aRe:=by
 intro value slice Ψ s σ H x y v u Q I rx ry h hs;obtain⟨z,i,c,rfl,rfl,hz,he,q⟩:=h;obtain⟨t,rfl⟩:=rx;obtain⟨t',rfl⟩:=ry;obtain⟨j,h1,h2,h3,h4,h5⟩:=RK he;have hl:z.cps.toList.length=z.length:=by simp[Str.length]
 rw[hl] at h1 h4 h5;have hn:=DP;exact yT (zb s z t) slot_str_getitem.lookup (getItem_str (by
  have e1:ϒ (i < -(2 ^ 63:ah))=ai:=c8 0x1;have e2:ϒ (i >= 2 ^ 63)=ai:=c8 0x1;rw[e1,e2,zc]) (by rw[h1];simpa using h2) ⟨.str ⟨#[c]⟩,H,I.tok _,⟨_,rfl⟩,q⟩) hs
theorem MP(lo hi:aq ah)(n:ag):(j3 lo hi aj n).1=((HT.sIx n 0 lo:ag):ah)/\(j3 lo hi aj n).2.1=((HT.sIx n n hi:ag):ah)/\(j3 lo hi aj n).2.2=1:=by
 refine⟨?_,?_,rfl⟩
 ·cases lo with
  |none=>simp[j3,HT.sIx]
  |some i=>
   simp only[j3,HT.sIx,BF,show(1:ah) > 0 by decide,eI];by_cases h:i<0
   ·simp only[h,eI]<;>lia
   ·simp only[h,fF]<;>lia
 ·cases hi with
  |none=>simp[j3,HT.sIx]
  |some i=>
   simp only[j3,HT.sIx,BF,show(1:ah) > 0 by decide,eI];by_cases h:i<0
   ·simp only[h,eI]<;>lia
   ·simp only[h,fF]<;>lia
theorem GZ(its:aa ak)(lo hi:aq ah):vk its.toArray lo hi aj=((its.drop (HT.sIx its.length 0 lo)).take (HT.sIx its.length its.length hi-HT.sIx its.length 0 lo)).toArray:=by
 obtain⟨h1,h2,h3⟩:=MP lo hi its.toArray.size;unfold vk;rw[h1,h2,h3];simp only[sliceRange_one,pick_run,cm]<;>rfl
def aRf(K:bj):V->aq ah->aq ah->Hp->VK->Prop:=λx lo hi H Q=>∃a xs,x=.ref a/\SqL K H a xs/\∀p,H p=aj->Q (.ref p) (upd H p (.lst (aEd xs lo hi)))
theorem aAm:SlR X (aRf X.K):=by
 intro Ψ s σ H x v vl vu lo hi sl Q I rx hs pl pu h;obtain⟨a,xs,rfl,hx,q⟩:=h;cases rx;obtain⟨its,r,ht,hz⟩:=I.list hx;have hlen:=r.length;refine⟨"list",_,za.lookup,ht.isList.typeIs,?_⟩;refine BG ht.isList hs pl pu .none 0x2 ?_ (by rw[cm]<;>lia);rw[GZ,<-hlen];refine⟨.ref s.heap.objs.size,_,I.laid (λb ob q=>br _ q) (ba _) ?_,rfl,q _ (I.hok.fresh (ba _))⟩;exact⟨dj (yH xs lo hi) hz,_,0,(r.drop (HT.sIx xs.length 0 lo)).take (HT.sIx xs.length xs.length hi-HT.sIx xs.length 0 lo),cx _ rfl⟩
theorem j9:l_ X (.builtin "len") (λxs H Q=>∃p ys,xs=[.ref p]/\(SqL X.K H p ys\/SqT X.K H p ys)/\Q (.int ys.length) H):=by
 intro Ψ s σ H xs us Q I r h;obtain⟨p,ys,rfl,hq,q⟩:=h;obtain⟨u,rfl,rx⟩:=vals1 r;cases rx;have hn:=DP;rcases hq with hq|hq
 ·obtain⟨its,r',pl,hz⟩:=I.list hq;have hlen:=r'.length;exact Calls.call_len_list pl.isList (by simp only[cm]<;>lia) ⟨.int ys.length,H,I.tok _,⟨s.toks+1,by rw[cm,hlen]⟩,q⟩
 ·obtain⟨its,r',pl,hz⟩:=I.tuple hq;have hlen:=r'.length;exact len_tuple pl (by simp only[cm]<;>lia) ⟨.int ys.length,H,I.tok _,⟨s.toks+1,by rw[cm,hlen]⟩,q⟩
theorem MT:l_ X (.builtin "len") (λxs H Q=>∃z,xs=[.str z]/\z.length<=aT/\Q (.int z.length) H):=by
 intro Ψ s σ H xs us Q I r h;obtain⟨z,rfl,hz,q⟩:=h;obtain⟨u,rfl,t,rfl⟩:=vals1 r;have hn:=DP;exact len_str 0x1 ⟨.int z.length,H,I.tok _,⟨_,rfl⟩,q⟩
theorem wF:l_ X (.type "list") (λxs H Q=>∃p ys,xs=[.ref p]/\(SqL X.K H p ys\/SqT X.K H p ys)/\∀l,H l=aj->Q (.ref l) (upd H l (.lst ys))):=by
 intro Ψ s σ H xs us Q I r h;obtain⟨p,ys,rfl,hq,q⟩:=h;obtain⟨u,rfl,rx⟩:=vals1 r;cases rx;have fin:∀(its:aa ak),Vals ys its->ys.length<=aT->∀(h':ay)(c':ag),(∀b o',s.heap.get? b=ae o'->h'.get? b=ae o')->
   h'.get? s.heap.objs.size=ae {cls:=.type "list",dict:=aj,data:=.seq its.toArray c',slots:=#[]}->EP X Ψ σ Q (.ref s.heap.objs.size) {s with heap:=h'}:=λits r' hz h' c' kp e=>
  ⟨.ref s.heap.objs.size,_,I.laid kp (ba _) (show gC X.prog X.w _ h' _ (.lst ys) from ⟨hz,its,c',r',e⟩),rfl,q _ (I.hok.fresh (ba _))⟩
 rcases hq with hq|hq
 ·obtain⟨its,r',pl,hz⟩:=I.list hq;have hlen:=r'.length;obtain⟨o,ho,hc,n,hd⟩:=pl.isList;exact BH p (.inl rfl) ho hc hd (λh' c' kp e=>fin its r' hz h' c' kp e) (by simp only[cm]<;>lia)
 ·obtain⟨its,r',pl,hz⟩:=I.tuple hq;have hlen:=r'.length;obtain⟨o,ho,hc,n,hd⟩:=pl;exact BH p (.inr rfl) ho hc hd (λh' c' kp e=>fin its r' hz h' c' kp e) (by simp only[cm]<;>lia)
theorem uT:l_ X (.type "tuple") (λxs H Q=>∃p ys,xs=[.ref p]/\((SqL X.K H p ys/\∀l,H l=aj->Q (.ref l) (upd H l (.tup ys)))\/(SqT X.K H p ys/\Q (.ref p) H))):=by
 intro Ψ s σ H xs us Q I r h;obtain⟨p,ys,rfl,h⟩:=h;obtain⟨u,rfl,rx⟩:=vals1 r;cases rx;rcases h with ⟨hq,q⟩|⟨hq,q⟩
 ·obtain⟨its,r',pl,hz⟩:=I.list hq;have hlen:=r'.length;refine call_tuple_list pl.isList (λh' kp=>?_) (by simp only[cm]<;>lia);have I1:Inv X Ψ σ H {s with heap:=h'}:=I.kept kp;have I2:Inv X Ψ σ (upd H h'.objs.size (.tup ys)) {s with heap:=h'.push {cls:=.type "tuple",data:=.seq its.toArray}}:=
   I1.laid (λb o e=>br _ e) (ba _) (show gC X.prog X.w _ _ _ (.tup ys) from ⟨hz,its,r',j7.new _ _⟩)
  exact⟨.ref h'.objs.size,_,I2,rfl,q _ (I1.hok.fresh (ba _))⟩
 ·obtain⟨its,r',pl,hz⟩:=I.tuple hq;exact call_tuple_same pl ⟨.ref p,H,I,rfl,q⟩
def tyV(K:bj)(T:fN)(x:V)(H:Hp):Prop:=match x with
 |.str _=>T="str"
 |.int _=>T="int"
 |.ref p=>(T="list"/\∃xs,SqL K H p xs)\/(T="tuple"/\((∃o,K.lookup p=ae o/\o.cls=.type "tuple"/\o.dict=aj)\/∃xs,H p=ae (.tup xs)))\/
   (T="dict"/\((∃kvs,H p=ae (.dK kvs))\/∃kvs,H p=ae (.dT kvs)))\/(T="set"/\∃S n,H p=ae (.set S n))
 |_=>cg
theorem aGf(I:Inv X Ψ σ H s)(r:RelV x v)(ty:tyV X.K T x H) :
  s.TypeIs v T/\∀a,v=.ref a->∃ob,s.heap.get? a=ae ob/\ob.dict=aj:=by
 cases x with
 |str z=>
  obtain⟨t,rfl⟩:=r;cases (show T="str" from ty);exact⟨zb s z t,λ_ e=>nomatch e⟩
 |int i=>
  obtain⟨t,rfl⟩:=r;cases (show T="int" from ty);exact⟨typeIs_int s i t,λ_ e=>nomatch e⟩
 |ref p=>
  cases r;rcases ty with ⟨rfl,xs,hq⟩|⟨rfl,⟨o,hk,hc,hd⟩|⟨xs,hk⟩⟩|⟨rfl,hk⟩|⟨rfl,S,n,hk⟩
  ·obtain⟨its,_,pl,_⟩:=I.list hq;refine⟨pl.isList.typeIs,λa e=>?_⟩;cases e;obtain⟨o,n,e,c,hd,_⟩:=pl;exact⟨o,e,hd⟩
  ·refine⟨⟨o,I.kIn p o hk,hc⟩,λa e=>?_⟩;cases e;exact⟨o,I.kIn _ o hk,hd⟩
  ·obtain⟨_,its,_,pl⟩:=I.hok p _ hk;refine⟨(j7.tup pl).typeIs,λa e=>?_⟩;cases e;exact j7.bare pl
  ·have z:∃o,s.heap.get? p=ae o/\o.ExactDict:=by
    rcases hk with ⟨kvs,hk⟩|⟨kvs,hk⟩
    ·obtain⟨_,_,_,_,o,_,_,e,ex,_⟩:=I.hok p _ hk;exact⟨o,e,ex⟩
    ·obtain⟨_,_,_,_,o,_,_,e,ex,_⟩:=I.hok p _ hk;exact⟨o,e,ex⟩
   obtain⟨o,e,ex⟩:=z;refine⟨⟨o,e,ex.1⟩,λa e2=>?_⟩;cases e2;exact⟨o,e,ex.2.1⟩
  ·obtain⟨o,_,_,_,e,ex,_⟩:=I.hok p _ hk;refine⟨⟨o,e,ex.1⟩,λa e2=>?_⟩;cases e2;exact⟨o,e,ex.2.1⟩
 |_=>exact dg ty
noncomputable def aRg(K:bj)(T:fN)(r:V->aa V->Hp->VK->Prop)(to:TE):TE:=λσ H Q=>to σ H λx H1=>tyV K T x H1/\r x [] H1 Q
noncomputable def tBM(K:bj)(T:fN)(r:V->aa V->Hp->VK->Prop)(to:TE)(t:TA):TE:=λσ H Q=>to σ H λx H1=>tyV K T x H1/\t σ H1 λxs H2=>r x xs H2 Q
variable {o e:Expr} {es:aa Expr} {to:TE} {t:TA} {name:Str} {apos cpos:bX} {T id:fN} {r:V->aa V->Hp->VK->Prop}
theorem aLr(pa:zd T)(slot:kN T name id)(hty:iF (.builtin id)=pure (.type "method_descriptor"))(hm:MtR X id r)(ho:PE X o to)
 (hbase:jb o name X.env (eval o X.env)=eval o X.env:=by rfl)(hline:(apos.endLine==cpos.line)=af:=by rfl):PE X (.Call (.Attribute o name apos) [] [] cpos) (aRg X.K T r to):=by
 intro Ψ s σ H Q I h;refine wpAny_Call_method0_late hbase hline (thn (ho Ψ s σ H _ I h) λv s1 ⟨x,H1,I1,r1,ty,q1⟩=>?_);obtain⟨h1,h2⟩:=aGf I1 r1 ty;exact⟨T,id,pa,slot,hty,h1,h2,BI rfl (PySem.evalArgs_none (hm Ψ s1 σ H1 x [] v [] Q I1 r1 .nil q1))⟩
theorem YW(pa:zd T)(slot:kN T name id)(hty:iF (.builtin id)=pure (.type "method_descriptor"))(hm:MtR X id r)(ho:PE X o to)(ha:PA X (e::es) t)
 (hbase:jb o name X.env (eval o X.env)=eval o X.env:=by rfl)
 (hfew:zFw X cpos (e::es):=by rfl)
 (hline:(apos.endLine==cpos.line)=af:=by rfl)(hs:zSE X e es:=by rfl)(hplain:zSP X cpos es:=by rfl) :
  PE X (.Call (.Attribute o name apos) (e::es) [] cpos) (tBM X.K T r to t):=by
 intro Ψ s σ H Q I h;refine wpAny_Call_method_late hbase hfew hline rfl (thn (ho Ψ s σ H _ I h) λv s1 ⟨x,H1,I1,r1,ty,q1⟩=>?_);obtain⟨h1,h2⟩:=aGf I1 r1 ty;refine⟨T,id,pa,slot,hty,h1,h2,?_⟩;have hA:=ha cpos Ψ s1 σ H1 _ I1 q1;rw[hs] at hA ⊢;refine BI (by show(ai||(eW cpos (cf es X.env)).any (·.1))=ai;rw[hplain]<;>rfl) (ze ?_);exact thn hA λus s2 ⟨vs,H2,I2,r2,q2⟩=>hm Ψ s2 σ H2 x vs v us Q I2 r1 r2 q2
end
def MtM(X:Cx)(id:fN)(r:V->aa V->Hp->VK->Prop):Prop:=
 ∀(Ψ:aa (am×bg))(s:ar)(σ:St)(H:Hp)(x:V)(xs:aa V)(v:ak)(us:aa ak)(Q:VK),Inv X Ψ σ H s->RelV x v->Vals xs us->r x xs H Q->
  ϑ (aw X.prog X.w) X.A (call (.builtin id) (v::us)) (EP X Ψ σ Q) X.xe s
theorem Vals.one:∀{x:V}{us:aa ak},Vals [x] us->∃u,us=[u]/\RelV x u
 |_,_,.cons r .nil=>⟨_,rfl,r⟩
theorem Vals.zero:∀{us:aa ak},Vals [] us->us=[]
 |_,.nil=>rfl
theorem Vals.dropLast(h:Vals xs us):Vals xs.dropLast us.dropLast:=by
 induction h with
 |nil=>exact .nil
 |cons r t ih=>
  cases t with
  |nil=>exact .nil
  |cons q t'=>exact .cons r ih
theorem Vals.eraseIdx:∀{xs:aa V}{us:aa ak}(i:ag),Vals xs us->Vals (xs.eraseIdx i) (us.eraseIdx i)
 |_,_,_,.nil=>.nil
 |_,_,0,.cons _ t=>t
 |_,_,i+1,.cons r t=>.cons r (Vals.eraseIdx i t)
theorem Vals.reverse(h:Vals xs us):Vals xs.reverse us.reverse:=by
 induction h with
 |nil=>exact .nil
 |cons r t ih=>rw[gw,gw];exact Vals.append ih (.cons r .nil)
theorem YX(l:aa α):l.eraseIdx (l.length-1)=l.dropLast:=by
 induction l with
 |nil=>rfl
 |cons a r ih=>
  cases r with
  |nil=>rfl
  |cons b r=>
   have e:(a::b::r).length-1=((b::r).length-1)+1:=by
    have h1:(a::b::r).length=r.length+2:=rfl;have h2:(b::r).length=r.length+1:=rfl;lia
   rw[e,List.eraseIdx_cons_succ,ih]
   all_goals rfl
theorem M3:∀(l:aa α)(i:ag),(l.eraseIdx i).length<=l.length
 |[],_=>ba _
 |_::_,0=>iu _
 |_::r,i+1=>Nat.succ_le_succ (M3 r i)
section
theorem Inv.aOt{its its':aa ak}(I:Inv X Ψ σ H s)(hH:H l=ae (.lst xs))
 (e:s.heap.get? l=ae {cls:=.type "list",data:=.seq its.toArray n})(hf:f its.toArray=its'.toArray)(hv:Vals ys its')(hz:ys.length<=aT) :
  Inv X Ψ σ (upd H l (.lst ys)) {s with heap:=s.heap.update l (eL f),toks:=t'}:=by
 have q:=Ei e f;rw[hf] at q;refine I.write (by rw[hH];exact trivial) (.inl rfl) (λb' u hb hu=>(jc s.heap (eL f) (Ne.symm hb)).trans hu) ⟨_,q⟩ ?_;exact⟨hz,its',_,hv,q⟩
theorem Inv.aRh(I:Inv X Ψ σ H s)(hv:Vals ys its)(hz:ys.length<=aT) :
  Inv X Ψ σ (upd H s.heap.objs.size (.lst ys)) {s with heap:=s.heap.push {cls:=.type "list",data:=.seq its.toArray},toks:=t'}:=
 I.laid (λ_ _ q=>br _ q) (ba _) ⟨hz,its,0,hv,cx _ rfl⟩
theorem Inv.fresh(I:Inv X Ψ σ H s):H s.heap.objs.size=aj:=I.hok.fresh (ba _)
theorem Inv.aLs(I:Inv X Ψ σ H s)(hH:H l=ae (.lst xs)):xs.length<=aT/\∃(its:aa ak)(n:ag),Vals xs its/\xs.length=its.length/\s.heap.get? l=ae {cls:=.type "list",data:=.seq its.toArray n}:=by
 obtain⟨z,its,n,r,e⟩:=I.hok l _ hH;exact⟨z,its,n,r,r.length,e⟩
theorem aEe(h:n<=aT):vm n=ai:=by
 unfold vm;exact c8 0x1
end
section
variable {X:Cx}
def aHt:V->aa V->Hp->VK->Prop:=λx vs H Q=>∃l xs y,x=.ref l/\vs=[y]/\H l=ae (.lst xs)/\xs.length<aT/\Q .non (upd H l (.lst (xs++[y])))
theorem yJ:MtM X "list.append" aHt:=by
 intro Ψ s σ H x vs v us Q I rx rv h;obtain⟨l,xs,y,rfl,rfl,hH,hz,q⟩:=h;cases rx;obtain⟨u,rfl,ru⟩:=rv.one;obtain⟨z,its,n,r,hl,e⟩:=I.aLs hH;refine jd zf ⟨_,e,rfl⟩ F.entry_list_append (F.args_list_append_2 _ _) (PySem.list_append l its.toArray n u (by rw[cm];lia)) ⟨e,?_⟩;refine⟨.non,_,I.aOt hH e 0x2 (r.append (.cons ru .nil)) ?_,rfl,q⟩;rw[bp,zg];lia
def aHu:V->aa V->Hp->VK->Prop:=λx vs H Q=>∃l b xs zs,x=.ref l/\vs=[.ref b]/\H l=ae (.lst xs)/\H b=ae (.lst zs)/\xs.length+zs.length<=aT/\Q .non (upd H l (.lst (xs++zs)))
theorem aAn:MtM X "list.extend" aHu:=by
 intro Ψ s σ H x vs v us Q I rx rv h;obtain⟨l,b,xs,zs,rfl,rfl,hH,hB,hz,q⟩:=h;cases rx;obtain⟨u,rfl,ru⟩:=rv.one;cases ru;obtain⟨z,its,n,r,hl,e⟩:=I.aLs hH;obtain⟨z2,its2,n2,r2,hl2,e2⟩:=I.aLs hB;have hsz:its.toArray.size+its2.toArray.size<=aT:=by rw[cm,cm];lia
 have hlong:¬(!its.toArray.isEmpty&&vm (its.toArray.size+its2.toArray.size))=af:=by
  rw[aEe hsz,BM];exact nS
 refine jd BN ⟨_,e,rfl⟩ F.entry_list_extend (F.args_list_extend_2 _ _)
  (Ej l its.toArray n b its2.toArray n2 hlong (by rw[cm];lia) 0x1) ⟨e,e2,?_⟩
 refine⟨.non,_,I.aOt hH e 0x2 (r.append r2) ?_,rfl,q⟩;rw[bp];lia
def aRi:V->aa V->Hp->VK->Prop:=λx vs H Q=>∃l xs y,x=.ref l/\vs=[]/\H l=ae (.lst xs)/\xs[xs.length-1]?=ae y/\Q y (upd H l (.lst xs.dropLast))
theorem aLt:MtM X "list.pop" aRi:=by
 intro Ψ s σ H x vs v us Q I rx rv h;obtain⟨l,xs,y,rfl,rfl,hH,hy,q⟩:=h;cases rx;have hus:=rv.zero;subst hus;obtain⟨z,its,n,r,hl,e⟩:=I.aLs hH;obtain⟨u,hu,ru⟩:=r.get hy;have hy':its.toArray[its.toArray.size-1]?=ae u:=by
  show its.toArray[its.length-1]?=ae u;rw[<-kP,<-hl];exact hu
 refine jd oh ⟨_,e,rfl⟩ BO (F.args_list_pop_1 _) (Ek l its.toArray n u hy' (by rw[cm];lia)) ⟨e,?_⟩;refine⟨y,_,I.aOt hH e ?_ r.dropLast ?_,ru,q⟩
 ·show its.toArray.eraseIdxIfInBounds (its.toArray.size-1)=its.dropLast.toArray;rw[cm,BQ,YX]
 ·rw[List.length_dropLast];lia
def aLu:V->aa V->Hp->VK->Prop:=λx vs H Q=>∃l xs i k y,x=.ref l/\vs=[.int i]/\H l=ae (.lst xs)/\-(2 ^ 63)<=i/\i<2 ^ 63/\mf i xs.length=ae k/\xs[k]?=ae y/\Q y (upd H l (.lst (xs.eraseIdx k)))
theorem VD:MtM X "list.pop" aLu:=by
 intro Ψ s σ H x vs v us Q I rx rv h;obtain⟨l,xs,i,k,y,rfl,rfl,hH,h1,h2,hk,hy,q⟩:=h;cases rx;obtain⟨u,rfl,ru⟩:=rv.one;obtain⟨t,rfl⟩:=ru;obtain⟨z,its,n,r,hl,e⟩:=I.aLs hH;obtain⟨w,hw,rw'⟩:=r.get hy;refine jd oh ⟨_,e,rfl⟩ BO (F.args_list_pop_2 _ _)
  (El l its.toArray n i t k w (fitsIndex_both h1 h2) (by rw[cm,<-hl];exact hk) (by rw[<-kP];exact hw) (by rw[cm];lia)) ⟨e,?_⟩
 refine⟨y,_,I.aOt hH e ?_ (r.eraseIdx k) ?_,rw',q⟩
 ·show its.toArray.eraseIdxIfInBounds k=(its.eraseIdx k).toArray;rw[BQ]
 ·have:=M3 xs k;lia
end
section
variable {κ:Type} [d4 κ]
noncomputable def DR(kvs:aa (κ×V))(k:κ):aq V:=(kvs.find? λkv=>ϒ (kv.1=k)).map (·.2)
noncomputable def putK(kvs:aa (κ×V))(k:κ)(v:V):aa (κ×V):=
 if (kvs.any λkv=>ϒ (kv.1=k))=af then kvs.map (λkv=>if kv.1=k then (kv.1,v) else kv) else kvs++[(k,v)]
theorem uU{k:κ}(e:p.1=k):DR (p::r) k=ae p.2:=by simp[DR,mh,e]
theorem uV{k:κ}(e:¬p.1=k):DR (p::r) k=DR r k:=by simp[DR,mh,e]
theorem uW(k:κ):∀kvs:aa (κ×V),(kvs.any λkv=>ϒ (kv.1=k))=(DR kvs k).isSome
 |[]=>rfl
 |p::r=>by
  rw[mi];by_cases e:p.1=k
  ·simp only[uU e,cb e,BS,Option.isSome_some]
  ·rw[uV e,c8 e,zh];exact uW k r
theorem sI(kvs:aa (κ×V))(k:κ)(v:V):(putK kvs k v).length<=kvs.length+1:=by
 unfold putK;split
 ·rw[az];lia
 ·rw[bp,aS,dQ];lia
theorem aEf{k:κ}(v:V)(h:DR kvs k=aj):putK kvs k v=kvs++[(k,v)]:=by
 unfold putK;rw[uW,h];exact ax 0x4
theorem aA2.nM(r:aA2 o u):o.isSome=u.isSome:=by
 cases o with
 |none=>cases u with
  |none=>rfl
  |some _=>exact(show cg from r).elim
 |some _=>cases u with
  |none=>exact(show cg from r).elim
  |some _=>rfl
theorem aA2.getD(r:aA2 o u)(rd:RelV d d'):RelV (o.getD d) (u.getD d'):=by
 cases o with
 |none=>cases u with
  |none=>exact rd
  |some _=>exact(show cg from r).elim
 |some _=>cases u with
  |none=>exact(show cg from r).elim
  |some _=>exact r
theorem KV.val(r:KV kvs vs)(k:κ):aA2 (DR kvs k) (mj vs k):=by
 unfold KV at r;induction r with
 |nil=>exact True.intro
 |@cons p q ps qs h t ih=>
  obtain⟨h1,h2⟩:=h;by_cases e:p.1=k
  ·have e':q.1=k:=h1.symm.trans e;have b:mj (q::qs) k=ae q.2:=by simp[mj,mh,e']
   rw[uU e,b];exact h2
  ·have e':¬q.1=k:=λz=>e (h1.trans z)
   have b:mj (q::qs) k=mj qs k:=by simp[mj,mh,e']
   rw[uV e,b];exact ih
theorem KV.any(r:KV kvs vs)(k:κ):(kvs.any λkv=>ϒ (kv.1=k))=vs.any λkv=>ϒ (kv.1=k):=by
 unfold KV at r;induction r with
 |nil=>rfl
 |cons h t ih=>rw[mi,mi,ih,h.1]
theorem KV.repl(r:KV kvs vs)(k:κ)(ry:RelV y u) :
  KV (kvs.map λkv=>if kv.1=k then (kv.1,y) else kv) (vs.map λkv=>if kv.1=k then (kv.1,u) else kv):=by
 unfold KV at r ⊢;induction r with
 |nil=>exact .nil
 |@cons p q ps qs h t ih=>
  rw[bu,bu];refine .cons ?_ ih;obtain⟨h1,h2⟩:=h;by_cases e:p.1=k
  ·rw[av e,av (h1.symm.trans e)];exact⟨h1,ry⟩
  ·rw[ax e,ax (λz=>e (h1.trans z))];exact⟨h1,h2⟩
theorem KV.put(r:KV kvs vs)(k:κ)(ry:RelV y u):KV (putK kvs k y) (je vs k u):=by
 unfold putK je;rw[r.any k];by_cases e:(vs.any λkv=>ϒ (kv.1=k))=af
 ·rw[av e,av e];exact r.repl k ry
 ·rw[ax e,ax e];exact BU r ⟨rfl,ry⟩
theorem KV.length(r:KV kvs vs):kvs.length=vs.length:=jr r
end
theorem xJ(r:RelV (kV k) u):(cC P w).is k u=af:=by
 cases k with
 |inl i=>obtain⟨t,e⟩:=(show ∃t,u=xE i t from r);subst e;exact RB P w i t
 |inr x=>obtain⟨t,e⟩:=(show ∃t,u=nK x t from r);subst e;exact RC P w x t
theorem M4:∀{ks:aa Key}{us:aa ak},Vals (ks.map kV) us->ItemsAre (cC P w) ks us
 |[],_,r=>by rw[gx] at r;cases r;exact .nil
 |k::ks,_,r=>by
  rw[bu] at r;cases r with
  |cons h t=>exact .cons (xJ h) (M4 t)
abbrev KT(H:Hp):aa (aa Key×V)->aa (aa Key×am×ak)->Prop:=ky λp q=>p.1=q.1/\H q.2.1=ae (.tup (p.1.map kV))/\RelV p.2 q.2.2
theorem KT.val(r:KT H kvs xs)(k:aa Key):aA2 (DR kvs k) ((ka xs k).map (·.2)):=by
 induction r with
 |nil=>exact True.intro
 |@cons p q ps qs h t ih=>
  obtain⟨h1,_,h2⟩:=h;by_cases e:p.1=k
  ·have e':q.1=k:=h1.symm.trans e;have b:ka (q::qs) k=ae q.2:=by simp[ka,mh,e']
   rw[uU e,b];exact h2
  ·have e':¬q.1=k:=λz=>e (h1.trans z)
   have b:ka (q::qs) k=ka qs k:=by simp[ka,mh,e']
   rw[uV e,b];exact ih
theorem KT.repl(r:KT H kvs xs)(k:aa Key)(ry:RelV y u) :
  KT H (kvs.map λkv=>if kv.1=k then (kv.1,y) else kv) (xs.map (putAt k u)):=by
 induction r with
 |nil=>exact .nil
 |@cons p q ps qs h t ih=>
  rw[bu,bu];refine .cons ?_ ih;obtain⟨h1,h2,h3⟩:=h;unfold putAt;by_cases e:p.1=k
  ·rw[av e,av (h1.symm.trans e)];exact⟨h1,h2,ry⟩
  ·rw[ax e,ax (λz=>e (h1.trans z))];exact⟨h1,h2,h3⟩
theorem KT.put(r:KT H kvs xs)(k:aa Key)(hb:H b=ae (.tup (k.map kV)))(ry:RelV y u) :
  KT H (putK kvs k y) (storedH xs k b u):=by
 have e:(kvs.any λkv=>ϒ (kv.1=k))=(ka xs k).isSome:=by
  rw[uW,(r.val k).nM,zi]
 unfold putK storedH;rw[e];by_cases q:(ka xs k).isSome=af
 ·rw[av q,av q];exact r.repl k ry
 ·rw[ax q,ax q];exact BU r ⟨rfl,hb,ry⟩
theorem KT.keeps(r:KT H kvs xs)(ht:∀b ys,H b=ae (.tup ys)->H' b=ae (.tup ys)):KT H' kvs xs:=
 Paired.aOy r λ_ _ z=>⟨z.1,ht _ _ z.2.1,z.2.2⟩
section
variable {a:am}
theorem aLv(ok:HOk P w H h)(e:Rd H a u):gC P w H h a u:=e.ok ok
theorem RM(ok:HOk P w H h)(e:Rd H a (.dK kvs)):kvs.length<=aT/\(a==fy)=ai/\∃vs,KV kvs vs/\h.DictOf (cC P w) a vs:=
 show gC P w H h a (.dK kvs) from aLv ok e
theorem RN(ok:HOk P w H h)(e:H a=ae (.dK kvs)):kvs.length<=aT/\(a==fy)=ai/\∃vs,KV kvs vs/\h.DictOf (cC P w) a vs:=RM ok (.inl e)
theorem yK(ok:HOk P w H h)(e:H a=ae (.tup (ks.map kV))):(js (cC P w)).is h ks a:=by
 obtain⟨_,its,r,o,h1,h2,n,h3⟩:=(show gC P w H h a (.tup (ks.map kV)) from ok a _ e)
 exact⟨o,its.toArray,n,h1,h2,di (·.1) h3,by simpa using M4 r⟩
theorem RP(ok:HOk P w H h)(e:Rd H a (.dT kvs)):kvs.length<=aT/\(a==fy)=ai/\
  ∃xs,KT H kvs xs/\h.DictOfH (js (cC P w)) a xs:=by
 obtain⟨z,y,xs,r,o,es,ep,h1,h2,h3,h4,h5⟩:=(show gC P w H h a (.dT kvs) from aLv ok e)
 refine⟨z,y,xs,r,o,es,ep,h1,h2,h3,h4,λx hx=>?_,h5⟩;have all:∀{l:aa (aa Key×V)}{m:aa (aa Key×am×ak)},KT H l m->∀x∈m,(js (cC P w)).is h x.1 x.2.1:=by
  intro l m q;induction q with
  |nil=>intro x hx;exact nomatch hx
  |@cons p q ps qs hq t ih=>
   intro x hx;rcases bP.mp hx with e|hx
   ·subst e;exact yK ok (by rw[<-hq.1];exact hq.2.1)
   ·exact ih x hx
 exact all r x hx
theorem aHv(ok:HOk P w H h)(e:H a=ae (.dT kvs)):kvs.length<=aT/\(a==fy)=ai/\
  ∃xs,KT H kvs xs/\h.DictOfH (js (cC P w)) a xs:=RP ok (.inl e)
end
def YZ(H:Hp)(a:am)(y:V)(r:aq V):Prop:=
 (∃kvs k,Rd H a (.dK kvs)/\y=kV k/\r=DR kvs k)\/∃kvs k b,Rd H a (.dT kvs)/\y=.ref b/\H b=ae (.tup (k.map kV))/\r=DR kvs k
def aGg(H:Hp)(a:am)(y v:V)(H':Hp):Prop:=
 (∃kvs k,H a=ae (.dK kvs)/\y=kV k/\kvs.length<aT/\H'=upd H a (.dK (putK kvs k v)))\/
 ∃kvs k b,H a=ae (.dT kvs)/\y=.ref b/\H b=ae (.tup (k.map kV))/\kvs.length<aT/\H'=upd H a (.dT (putK kvs k v))
theorem YZ.k{k:Key}(e:H a=ae (.dK kvs)):YZ H a (kV k) (DR kvs k):=.inl ⟨kvs,k,.inl e,rfl,rfl⟩
theorem YZ.t{k:aa Key}(e:H a=ae (.dT kvs))(eb:H b=ae (.tup (k.map kV))):YZ H a (.ref b) (DR kvs k):=.inr ⟨kvs,k,b,.inl e,rfl,eb,rfl⟩
theorem aGg.k{k:Key}{v:V}(e:H a=ae (.dK kvs))(hl:kvs.length<aT):aGg H a (kV k) v (upd H a (.dK (putK kvs k v))):=.inl ⟨kvs,k,e,rfl,hl,rfl⟩
theorem aGg.t{H:Hp}{a b:am}{kvs:aa (aa Key×V)}{k:aa Key}{v:V}(e:H a=ae (.dT kvs))(eb:H b=ae (.tup (k.map kV)))(hl:kvs.length<aT) :
  aGg H a (.ref b) v (upd H a (.dT (putK kvs k v))):=.inr ⟨kvs,k,b,e,rfl,eb,hl,rfl⟩
section
variable {a:am} {y v:V}
theorem Inv.big(I:Inv X Ψ σ H s):fy<s.heap.objs.size:=by
 have h:bi<s.heap.objs.size:=(I.mod.glob.keeps I.bk).lt;exact Nat.lt_trans 0x4 h
theorem aAo(hu:A.units+1<cr)(I:Inv X Ψ σ H s)(g:YZ H a y (ae v))(ry:RelV y u)(h:∀w' s',Inv X Ψ σ H s'->RelV v w'->Q w' s') :
  ϑ (aw X.prog X.w) A (kM (.ref a) u) Q E s:=by
 rcases g with ⟨kvs,k,e,ey,l⟩|⟨kvs,k,b,e,ey,eb,l⟩
 ·subst ey;obtain⟨z,hd,vs,rel,dd⟩:=RM I.hok e;obtain⟨w',hw,rw'⟩:=aA2.some_of (by rw[l];exact rel.val k);exact wpAny_getItem_of (xJ ry) dd.mapOf hw (h w' _ (I.tok _) rw')
 ·subst ey;cases (show u=cK b from ry);obtain⟨z,hd,xs,rel,dd⟩:=RP I.hok e;obtain⟨w',hw,rw'⟩:=aA2.some_of (by rw[l];exact rel.val k);obtain⟨p,hp,hp2⟩:=mq.mp hw;refine wpAny_getItem_heap (mr hu) (yK I.hok eb) dd hp ?_;rw[hp2];exact h w' _ (I.tok _) rw'
theorem aRj(hu:A.units+1<cr)(I:Inv X Ψ σ H s)(g:YZ H a y o)(ry:RelV y u)(h:∀s',Inv X Ψ σ H s'->Q (.bool o.isSome) s') :
  ϑ (aw X.prog X.w) A (dw .In u (.ref a)) Q E s:=by
 rcases g with ⟨kvs,k,e,ey,l⟩|⟨kvs,k,b,e,ey,eb,l⟩
 ·subst ey;obtain⟨z,hd,vs,rel,dd⟩:=RM I.hok e;refine wpAny_in_of (xJ ry) hd dd.mapOf ?_;rw[<-(rel.val k).nM,<-l];exact h _ (I.tok _)
 ·subst ey;cases (show u=cK b from ry);obtain⟨z,hd,xs,rel,dd⟩:=RP I.hok e;refine wpAny_in_heap (mr hu) (yK I.hok eb) hd dd ?_;have q:=(rel.val k).nM;rw[zi] at q;rw[<-q,<-l];exact h _ (I.tok _)
theorem aHw(hu:A.units+1<cr)(I:Inv X Ψ σ H s)(g:YZ H a y o)(ry:RelV y u)(h:∀s',Inv X Ψ σ H s'->Q (.bool (!o.isSome)) s') :
  ϑ (aw X.prog X.w) A (dw .NotIn u (.ref a)) Q E s:=by
 rcases g with ⟨kvs,k,e,ey,l⟩|⟨kvs,k,b,e,ey,eb,l⟩
 ·subst ey;obtain⟨z,hd,vs,rel,dd⟩:=RM I.hok e;refine wpAny_notIn_of (xJ ry) hd dd.mapOf ?_;rw[<-(rel.val k).nM,<-l];exact h _ (I.tok _)
 ·subst ey;cases (show u=cK b from ry);obtain⟨z,hd,xs,rel,dd⟩:=RP I.hok e;refine wpAny_notIn_heap (mr hu) (yK I.hok eb) hd dd ?_;have q:=(rel.val k).nM;rw[zi] at q;rw[<-q,<-l];exact h _ (I.tok _)
theorem RQ(I:Inv X Ψ σ H s)(mu:Mut (H a))(hs:fS a s.heap h')(he:∃q,h'.get? a=ae q)(new:gC X.prog X.w (upd H a ob) h' a ob) :
  Inv X Ψ σ (upd H a ob) {s with heap:=h',toks:=t'}:=
 I.write mu (.inl rfl) (λb q hb z=>(hs.2 b hb).trans z) he new
theorem VF(z:kvs.length<=aT)(hd:(a==fy)=ai)(rel:KV kvs vs)(dd:h'.DictOf (cC P w) a vs) :
  gC P w H' h' a (.dK kvs):=⟨z,hd,vs,rel,dd⟩
theorem aAp(hu:A.units+1<cr)(I:Inv X Ψ σ H s)(g:aGg H a y v H')(ry:RelV y u)(rv:RelV v r)(h:∀s',Inv X Ψ σ H' s'->Q () s') :
  ϑ (aw X.prog X.w) A (setItem (.ref a) u r) Q E s:=by
 rcases g with ⟨kvs,k,e,ey,l,eH⟩|⟨kvs,k,b,e,ey,eb,l,eH⟩
 ·subst ey eH;obtain⟨z,hd,vs,rel,dd⟩:=RN I.hok e;have hz:vs.length<=aT:=by rw[<-rel.length];exact z
  have hl:(putK kvs k v).length<=aT:=by have:=sI kvs k v;lia
  refine wpAny_setItem_pairs (xJ ry) dd λh' dd' hs=>h _ ?_
  have he:∃q,h'.get? a=ae q:=let ⟨q,_,_,hq,_⟩:=dd';⟨q,hq⟩
  exact RQ I (by rw[e];exact True.intro) hs he (VF hl hd (rel.put k rv) dd')
 ·subst ey eH;cases (show u=cK b from ry);obtain⟨z,hd,xs,rel,dd⟩:=aHv I.hok e;have hz:xs.length<=aT:=by rw[<-jr rel];exact z
  have hl:(putK kvs k v).length<=aT:=by have:=sI kvs k v;lia
  refine wpAny_setItem_heap (mr hu) (yK I.hok eb) dd λh' dd' hs=>h _ ?_
  obtain⟨q,es,ep,hq,h2,h3,h4,_,h5⟩:=dd';refine RQ I (by rw[e];exact True.intro) hs ⟨q,hq⟩ ⟨hl,hd,_,(rel.put k eb rv).keeps λc ys ec=>?_,q,es,ep,hq,h2,h3,h4,h5⟩;rw[bF (aHc ec e (λz=>nomatch z))];exact ec
end
theorem RT(I:Inv X Ψ σ H s)(g:YZ H a y o):s.TypeIs (.ref a) "dict":=by
 rcases g with ⟨kvs,k,e,_,_⟩|⟨kvs,k,b,e,_,_,_⟩
 ·obtain⟨_,_,vs,_,dd⟩:=RM I.hok e;exact dd.typeIs
 ·obtain⟨_,_,xs,_,dd⟩:=RP I.hok e;exact dd.typeIs
theorem VG(h:ay)(hb:fy<h.objs.size):gC P w H (h.push {cls:=.type "dict",data:=.dict #[]}) h.objs.size (.dK []):=
 ⟨cq _,dS.mpr (Ne.symm (cu hb)),[],.nil,zj h⟩
def aLw:TE:=λ_ H Q=>∀p,H p=aj->Q (.ref p) (upd H p (.dK []))
section
theorem aEg:PE X (.Dict [] [] pos) aLw:=λΨ s σ H Q I h=>
 wpAny_Dict_empty ⟨.ref s.heap.objs.size,_,I.laid (λ_ _ q=>br _ q) (ba _) (VG s.heap I.big),rfl,h _ (I.hok.fresh (ba _))⟩
end
def aAq:aa (TE×TE)->St->Hp->(aa (V×V)->Hp->Prop)->Prop
 |[],_,H,Q=>Q [] H
 | (tk,tv)::r,σ,H,Q=>tk σ H λx H1=>tv σ H1 λy H2=>aAq r σ H2 λps H3=>Q ((x,y)::ps) H3
abbrev VV:aa (V×V)->aa (ak×ak)->Prop:=ky λp q=>RelV p.1 q.1/\RelV p.2 q.2
def PPs(X:Cx)(pos:bX)(keys:aa (aq Expr))(values:aa Expr)(trs:aa (TE×TE)):Prop:=
 ∀(Ψ:aa (am×bg))(s:ar)(σ:St)(H:Hp)(Q:aa (V×V)->Hp->Prop),Inv X Ψ σ H s->aAq trs σ H Q->
  ϑ (aw X.prog X.w) X.A (evalPairs (pairTrees keys values X.env pos)) (λvs s'=>∃ps H',Inv X Ψ σ H' s'/\VV ps vs/\Q ps H') X.xe s
theorem aHx:PPs X pos [] [] []:=λΨ s σ H Q I h=>pairTrees_nil_walk ⟨[],H,I,.nil,h⟩
theorem VH(hk:PE X k tk)(hv:PE X v tv)(hr:PPs X pos ks vs trs) :
  PPs X pos (ae k::ks) (v::vs) ((tk,tv)::trs):=λΨ s σ H Q I h=>
 pairTrees_cons_walk (thn (hk Ψ s σ H _ I h) λu s1 ⟨x,H1,I1,rx,q1⟩=>thn (hv Ψ s1 σ H1 _ I1 q1) λw2 s2 ⟨y,H2,I2,ry,q2⟩=>
  thn (hr Ψ s2 σ H2 _ I2 q2) λws s3 ⟨ps,H3,I3,rel,q3⟩=>⟨(x,y)::ps,H3,I3,.cons ⟨rx,ry⟩ rel,q3⟩)
def e_(kvs more:aa (Key×V)):aa (Key×V):=more.foldl (λacc kv=>putK acc kv.1 kv.2) kvs
theorem KV.merge:∀{more:aa (Key×V)}{rs:aa (Key×ak)}{kvs:aa (Key×V)}{vs:aa (Key×ak)},KV more rs->KV kvs vs->KV (e_ kvs more) (kQ vs rs):=by
 intro more rs kvs vs r;unfold KV at r;induction r generalizing kvs vs with
 |nil=>intro q;exact q
 |@cons p q ps qs h t ih=>
  intro r0;have e:KV (putK kvs p.1 p.2) (je vs q.1 q.2):=by
   have:=r0.put p.1 h.2;rw[<-h.1];exact this
  exact ih e
theorem iU:∀(more kvs:aa (Key×V)),(e_ kvs more).length<=kvs.length+more.length
 |[],kvs=>by show kvs.length<=kvs.length+0;lia
 |p::r,kvs=>by
  have h1:=iU r (putK kvs p.1 p.2);have h2:=sI kvs p.1 p.2;show(e_ (putK kvs p.1 p.2) r).length<=_;rw[aS];lia
theorem DW:∀{kvs:aa (Key×V)}{ws:aa (ak×ak)},VV (kvs.map λkv=>(kV kv.1,kv.2)) ws->∃rs,Carries (cC P w) ws rs/\KV kvs rs
 |[],_,r=>by rw[gx] at r;cases r;exact⟨[],True.intro,.nil⟩
 |p::kvs,_,r=>by
  rw[bu] at r;cases r with
  |@cons a b as bs h t=>
   obtain⟨rs,c,q⟩:=DW t;obtain⟨b1,b2⟩:=b;exact⟨(p.1,b2)::rs,⟨xJ h.1,rfl,c⟩,.cons ⟨rfl,h.2⟩ q⟩
def aPf(trs:aa (TE×TE)):TE:=λσ H Q=>∀p,H p=aj->aAq trs σ (upd H p (.dK [])) λps H2=>H2 p=ae (.dK [])/\∃kvs:aa (Key×V),ps=kvs.map (λkv=>(kV kv.1,kv.2))/\kvs.length<=15/\Q (.ref p) (upd H2 p (.dK (e_ [] kvs)))
theorem aHy(h:PPs X pos keys values trs)(hall:keys.all (·.isSome)=af)(hl:keys.length=values.length)(h0:keys≠[])
 (h15:keys.length<=15):PE X (.Dict keys values pos) (aPf trs):=by
 intro Ψ s σ H Q I q;have hn:=I.hok.fresh (ba s.heap.objs.size);have I1:=I.laid (t':=s.toks) (λ_ _ q=>br _ q) (ba _) (VG s.heap I.big);refine wpAny_Dict_walk (knd:=cC X.prog X.w) hall hl h0 h15 (thn (h Ψ _ σ _ _ I1 (q _ hn)) λws s2 ⟨ps,H2,I2,rel,e,kvs,ep,lk,q2⟩=>?_);subst ep;obtain⟨rs,c,rk⟩:=DW (P:=X.prog) (w:=X.w) rel;obtain⟨z,hd,vs0,r0,dd⟩:=RN I2.hok e;cases r0;refine⟨rs,c,dd,λh' dd' hs=>⟨.ref s.heap.objs.size,_,?_,rfl,q2⟩⟩;have hz:(e_ [] kvs).length<=aT:=by
  have h1:=iU kvs [];rw[dQ] at h1;rw[dk];lia
 have he:∃q,h'.get? s.heap.objs.size=ae q:=let ⟨q,_,_,hq,_⟩:=dd';⟨q,hq⟩
 exact RQ I2 (by rw[e];exact True.intro) hs he (VF hz hd (rk.merge .nil) dd')
section
variable {y d:V}
theorem aLx(hu:A.units+1<cr)(I:Inv X Ψ σ H s)(g:YZ H a y o)(ry:RelV y u)(h:∀w' s',Inv X Ψ σ H s'->RelV (o.getD .non) w'->Q w' s') :
  ϑ (aw X.prog X.w) A (call (.builtin "dict.get") [.ref a,u]) Q E s:=by
 rcases g with ⟨kvs,k,e,ey,l⟩|⟨kvs,k,b,e,ey,eb,l⟩
 ·subst ey;obtain⟨z,hd,vs,rel,dd⟩:=RM I.hok e;refine vn oj dd.typeIs vo (BY _ _) (meets_dict_get (cC X.prog X.w) a (xJ ry) hd) ⟨_,dd.mapOf,h _ _ (I.tok _) ?_⟩;rw[l];exact(rel.val k).getD rfl
 ·subst ey;cases (show u=cK b from ry);obtain⟨z,hd,xs,rel,dd⟩:=RP I.hok e;refine vn oj dd.typeIs vo (BY _ _) (meetsH_dict_get (js (cC X.prog X.w)) a b hd) ⟨mr hu,k,xs,yK I.hok eb,dd,h _ _ (I.tok _) ?_⟩;rw[l];exact(rel.val k).getD rfl
theorem aLy(hu:A.units+1<cr)(I:Inv X Ψ σ H s)(g:YZ H a y o)(ry:RelV y u)(rd:RelV d r)(h:∀w' s',Inv X Ψ σ H s'->RelV (o.getD d) w'->Q w' s') :
  ϑ (aw X.prog X.w) A (call (.builtin "dict.get") [.ref a,u,r]) Q E s:=by
 rcases g with ⟨kvs,k,e,ey,l⟩|⟨kvs,k,b,e,ey,eb,l⟩
 ·subst ey;obtain⟨z,hd,vs,rel,dd⟩:=RM I.hok e;refine vn oj dd.typeIs vo (B0 _ _ _) (meets_dict_get_default (cC X.prog X.w) a (xJ ry) hd r) ⟨_,dd.mapOf,h _ _ (I.tok _) ?_⟩;rw[l];exact(rel.val k).getD rd
 ·subst ey;cases (show u=cK b from ry);obtain⟨z,hd,xs,rel,dd⟩:=RP I.hok e;refine vn oj dd.typeIs vo (B0 _ _ _) (meetsH_dict_get_default (js (cC X.prog X.w)) a b hd r) ⟨mr hu,k,xs,yK I.hok eb,dd,h _ _ (I.tok _) ?_⟩;rw[l];exact(rel.val k).getD rd
end
end L2
namespace Att
open PySem PySem.W PySem.Calls PyProof.Rows
theorem yL:∀(ns:aa ah)(vs:aa ak),WellAll P h vs (ns.map B2)->ol vs ns:=by
 intro ns;induction ns with
 |nil=>
  intro vs w;rw[gx] at w;cases w;exact .nil
 |cons n ns ih=>
  intro vs w;rw[bu] at w;cases w with
  |cons a b=>
   cases a;exact .cons _ _ (ih _ b)
theorem aAr{l:OpenLaw}(hn:l.most=ae n)
 (hpre:l.row.toRowW.claim.pre args=af)(hwl:WellAll P h vals args) :
  ∃a vs ns,vals=[cK a]/\args=[WData.list (ns.map B2)]/\h.get? a=ae {cls:=.type "list",data:=.seq vs.toArray}/\ol vs ns/\ns.length<=n:=by
 have hsh:WShape.hasAll [] args [.list .int]=af:=(pre_splitW hpre).1;have hc:l.pre.holds [] {args:=args}=af:=(pre_splitW hpre).2;obtain⟨d,r,rfl,h1,h2⟩:=hasAllW_cons hsh;obtain rfl:=hasAllW_nil h2;obtain⟨xs,rfl,h3⟩:=hasW_list h1;obtain⟨ns,rfl⟩:=items_int h3;have hlen:ns.length<=n:=by
  unfold OpenLaw.pre at hc;have h4:(WTm.not (.lt (.lit (.int (n:ah))) (.len (.arg 0)))).holds [] {args:=[.list (ns.map .int)]}=af:=by
   have h4:=(holds_andW hc).1;rw[hn] at h4;exact h4
  have h5:=condW_of h4 (w_not (w_lt w_lit (w_len_list (w_arg rfl))));rw[az] at h5;refine B3 λq=>?_
  have q':(n:ah)<((ns.length:ag):ah):=by lia
  first
   | (rw[cb q'] at h5;exact bf h5 0x4)
   | (simp at h5;lia)
 cases hwl with
 |cons w1 w2=>
  cases w2;cases w1 with
  |list ho hall=>exact⟨_,_,ns,rfl,rfl,ho,yL ns _ hall,hlen⟩
theorem aAs(l:OpenLaw)(args:aa WData):l.row.toRowW.claim.post args (.bool af) args=af:=
 postW_of
  (show B4 [] (.bool af) .bool=af by first|rfl|decide|simp[B4,WShape.arms,WShape.armsAll])
  (show(WTm.eq .res (.lit (.bool af))).value [] {args:=args,res:=ae (.bool af),after:=args}=ae (.bool (af==af)) from w_eq_bool (w_res rfl) w_lit) rfl
theorem RV{l:OpenLaw}
 (hn:l.most=ae n)(hdf:d.params.defaults=[])
 (call:∀(w:bd) (s₀ s₁:ar) (mg mb:Str->aq ak) (fa:am) (o:bg) (pm cd doc:ak) (a:am) (vs:aa ak) (ns:aa ah),
   Ground q loose [] XP w s₀ mg mb s₁.heap->YP w s₁.heap->
   s₁.heap.get? fa=ae o->o.data=.func (docDef d.name d.params d.body d.scope pm cd doc)->s₁.heap.CodeRec cd d.name->mg d.name=ae (.ref fa)->
   s₁.heap.get? a=ae {cls:=.type "list",data:=.seq vs.toArray}->ol vs ns->ns.length<=n->s₁.gens=#[]->
   codeAny (aw l.prog w) kT (.call (.ref fa) ⟨[.ref a],[]⟩) (λr s'=>r=.ok (.ret (.bool af))/\OldK s₁.heap s'.heap/\s'.os=s₁.os/\iz s'.gens) s₁) :
  WalkO q loose XP YP l.row.toRowW d [] (λf vs=>zn f vs):=by
 intro w s₀ s₁ mg mb G Y fa o pm cd doc dV kV ho hd hcd hD hmg hg args vals as hpre hlay hrd hwl hlo;obtain rfl:dV=.none:=Dflts.none hD hdf;obtain rfl:kV=.none:=Dflts.noKw hD;obtain⟨a,vs,ns,rfl,rfl,hobj,hints,hlen⟩:=aAr hn hpre hwl;refine enter_call (jy (call w s₀ s₁ mg mb fa o pm cd doc a vs ns G Y ho (fd_plain hd) hcd hmg hobj hints hlen hg) λr s' hq=>?_);obtain⟨rfl,h2,h3,h4⟩:=hq;exact⟨.inl ⟨.bool af,.bool af,[],rfl,λ_=>rfl,.bool af,aAs l _,λ_=>⟨Em,λ_ hm=>(nomatch hm)⟩⟩,h2,h3,h4⟩
end Att
namespace L2
open PySem PySem.Spec PyProof.Rows
theorem M5:∀{vs:aa ak}{ns:aa ah},ol vs ns->Vals (ns.map V.int) vs
 |_,_,.nil=>.nil
 |_,_,.cons n t h=>.cons ⟨t,rfl⟩ (M5 h)
def Only(H:Hp):Prop:=∀b,H b=aj\/∃o xs,H b=ae (.frz o (.lst xs))
theorem aEh{K:bj}{mg mb:Str->aq ak}{CX:CXT}{k:ag}{fa a:am}{fd:cj}{x:Str}{sp:Sp}{s₁:ar}{vs:aa ak}{ns:aa ah}
 (KX:K.In s₁.heap)(hns:s₁.heap.Ns bi mg)(hb:s₁.heap.Ns ya mb)(hbb:∀x:Str,x ≠ "__name__"->mb x=em x)(hlim:s₁.heap.NoLimit)(hg:s₁.gens=#[])
 (ha:s₁.heap.get? a=ae {cls:=.type "list",data:=.seq vs.toArray})(hi:ol vs ns)(hl:ns.length<=aT)(hr:nH k kT)
 (F:∀base:ay,K.In base->base.Ns bi mg->xU P w K mg base CX k fa fd [x] sp)(hbind:∀(s:ar) (u:ak),kG s fd ⟨[u],[]⟩ [(x,u)])
 (hsp:∀H:Hp,Only H->SqL K H a (ns.map V.int)->sp [.ref a] H (λv _=>v=.bl af) λ_ _ _=>cg)
 (hCX:∀H e s',CX [] H s₁ (λ_ _ _=>cg) e s'->cg) :
  codeAny (aw P w) kT (.call (.ref fa) ⟨[.ref a],[]⟩) (λr s'=>r=.ok (.ret (.bool af))/\OldK s₁.heap s'.heap/\s'.os=s₁.os/\iz s'.gens) s₁:=by
 have rv:=M5 hi;have lenV:=hi.length
 -- from an abstract heap in which nothing but the script may be tracked
 have core:∀H:Hp,Only H->SqL K H a (ns.map V.int)->HOk P w H s₁.heap->(∀b,H b≠aj->b=a)->(H a≠aj->K.lookup a=aj)->
   codeAny (aw P w) kT (.call (.ref fa) ⟨[.ref a],[]⟩) (λr s'=>r=.ok (.ret (.bool af))/\OldK s₁.heap s'.heap/\s'.os=s₁.os/\iz s'.gens) s₁:=by
  intro H hO hS hok hA hK;have base_of:∀{b:am}{o:bg},s₁.heap.get? b=ae o->H b=aj->(aE7 s₁.heap H).get? b=ae o:=λe n=>aE8 e n
  have noA:∀{b:am}{o:bg}{es:aE jf}{ep:ag},s₁.heap.get? b=ae o->o.data=.dict es ep->H b=aj:=λ{b o es ep} e d=>by
   cases q:H b with
   |none=>rfl
   |some u=>
    have e':b=a:=hA b (by rw[q];simp);subst e';rw[ha] at e;cases e;have d':A5 vs.toArray _=Data.dict es ep:=d;cases d'
  have nsK:∀{b:am}{m:Str->aq ak},s₁.heap.Ns b m->(aE7 s₁.heap H).Ns b m:=λ{b m} ⟨o,es,ep,e,d,r⟩=>⟨o,es,ep,base_of e (noA e d),d,r⟩
  have hKb:K.In (aE7 s₁.heap H):=λb o e=>base_of (KX b o e) (by
   cases q:H b with
   |none=>rfl
   |some u=>
    have e':b=a:=hA b (by rw[q];simp);subst e';rw[hK (by rw[q];simp)] at e;cases e)
  have hM:Mod K mg (aE7 s₁.heap H):=⟨hKb,nsK hns,⟨mb,nsK hb,hbb⟩,let ⟨mc,h1,h2⟩:=hlim;⟨mc,nsK h1,h2⟩⟩
  have e0:aHm P w K mg (aE7 s₁.heap H) kT [] s₁ H:=⟨rfl,hM,λb o e=>aHd e,zo (aA8 _ _),trivial,λb hb=>bf (show b∈([]:aa am) from hb) 0x2,hok,.of_eq hg⟩
  refine jy ((F _ hKb (nsK hns)).run kT [] s₁ H ⟨[.ref a],[]⟩ [.ref a] [.ref a] _ _ hr e0 (hbind s₁ (.ref a)) (.cons rfl .nil) (hsp H hO hS)) λr s' h=>?_
  cases r with
  |error e=>exact(hCX H e s' h).elim
  |ok fl=>
   cases fl with
   |next=>exact dg h
   |brk=>exact dg h
   |cont=>exact dg h
   |ret u=>
    obtain⟨v,H',os,bare,un,hok',r',q⟩:=h;have q':v=.bl af:=q;subst q';obtain rfl:u=lv af:=r';refine⟨rfl,OldK.of_keep λb o e=>?_,os,bare⟩;cases q:H b with
    |none=>exact un.keep b o e q (by intro z;exact bf (show b∈([]:aa am) from z) 0x2) 0x2
    |some u=>
     rcases hO b with z|⟨ob,xs,z⟩
     ·rw[q] at z;cases z
     ·have z2:=un.frzs b ob _ z;obtain⟨e1,_⟩:=hok b _ z;obtain⟨e2,_⟩:=hok' b _ z2;rw[e] at e1;cases e1;exact e2
 cases hk:K.lookup a with
 |some o=>
  -- the script is one of the module's own objects
  have e:=KX a o hk;rw[ha] at e;cases e;refine core (λ_=>aj) (λ_=>.inl rfl) (.inr ⟨_,vs.toArray,_,hk,rfl,rfl,rfl,by rw[cm,lenV];exact hl,by simpa using rv⟩) (λb u z=>by have z':(aj:aq HO)=ae u:=z;cases z') (λb z=>bf rfl z) λz=>bf rfl z
 |none=>
  refine core (λb=>if b=a then ae (.frz {cls:=.type "list",data:=.seq vs.toArray} (.lst (ns.map V.int))) else aj) (λb=>?_) (.inl (.inr ⟨{cls:=.type "list",data:=.seq vs.toArray},av rfl⟩)) (λb u z=>?_) (λb z=>?_) λ_=>hk
  ·by_cases hb:b=a
   ·exact .inr ⟨_,_,av hb⟩
   ·exact .inl (ax hb)
  ·by_cases hb:b=a
   ·have z':=(av hb).symm.trans z;cases z';subst hb;exact⟨ha,by rw[az];exact hl,vs,_,rv,ha⟩
   ·have z':=(ax hb).symm.trans z;cases z'
  ·by_cases hb:b=a
   ·exact hb
   ·exact bf (ax hb) z
theorem aHz{l:PySem.W.OpenLaw}{YP:bd->ay->Prop}{d:DefRec}{K:Params->bj}{CX:bd->CXT}{sp:bd->Sp}{x:Str}
 (hn:l.most=ae n)(hn2:n<=aT)(hdf:d.params.defaults=[])(hr:nH k kT)
 (hY:∀(w:bd) (h:ay),YP w h->(K w.params).In h)
 (F:∀(w:bd) (mg:Str->aq ak) (fa:am) (h:ay),(K w.params).In h->h.Ns bi mg->mg d.name=ae (.ref fa)->
   ∃fd:cj,(∀(s:ar) (u:ak),kG s fd ⟨[u],[]⟩ [(x,u)])/\
    ∀base:ay,(K w.params).In base->base.Ns bi mg->xU l.prog w (K w.params) mg base (CX w) k fa fd [x] (sp w))
 (hsp:∀(w:bd) (H:Hp) (a:am) (ns:aa ah),ns.length<=n->Only H->SqL (K w.params) H a (ns.map V.int)->sp w [.ref a] H (λv _=>v=.bl af) λ_ _ _=>cg)
 (hCX:∀(w:bd) (H:Hp) (s:ar) (e:ak) (s':ar),CX w [] H s (λ_ _ _=>cg) e s'->cg) :
  PySem.W.WalkO q loose XP YP l.row.toRowW d [] (λf vs=>zn f vs):=by
 refine Att.RV hn hdf λw s₀ s₁ mg mb fa o pm cd doc a vs ns G Y ho hd hcd hmg hobj hints hlen hg=>?_
 have KX:=hY w _ Y;obtain⟨fd,hb,hF⟩:=F w mg fa _ KX G.T.g hmg;exact aEh KX G.T.g G.T.b G.T.builtins G.T.nolimit hg hobj hints (dj hlen hn2) hr hF hb (λH hO hS=>hsp w H a ns hlen hO hS) λH e s'=>hCX w H s₁ e s'
noncomputable def jN(s:bq):Arguments:=match s with
 |.FunctionDef _ a _ _ _ _ _ _ _ _=>a
 |_=>{posonlyargs:=[],args:=[],vararg:=aj,kwonlyargs:=[],kw_defaults:=[],kwarg:=aj,defaults:=[]}
noncomputable def fB(s:bq):aa bq:=match s with
 |.FunctionDef _ _ b _ _ _ _ _ _ _=>b
 |_=>[]
noncomputable def aO(s:bq):dL:=match s with
 |.FunctionDef _ _ _ _ _ _ sc _ _ _=>sc
 |_=>{kind:=.function,names:=[],isGenerator:=ai,isCoroutine:=ai}
noncomputable abbrev CX0:CXT:=λ_ _ _ _ _ _=>cg
noncomputable abbrev E0:XK:=λ_ _ _=>cg
theorem aLz:U_ CX0 X E0:=λ_ _ _ _ _ _ _ h=>h.elim
structure Fun(K:bj)(x qual:Str)(st:bq)(f:am)(fd:cj):Prop where
 ex:∃(oc:ak)(od:aq am)(kV doc pm:ak)(an:aq am)(cdv ct:ak)(osl:aE (aq ak)),
  fd=kL x qual (jN st) (fB st) (aO st) .none kV doc pm an cdv ct/\K.lookup f=ae ⟨oc,od,.func fd,osl⟩/\vg K cdv qual=af
 kp:jz K (.ref f)=af
section
variable {P:bh} {w:bd} {K:bj} {mg:Str->aq ak} {base:ay}
theorem Fun.ok{st:bq}{fd:cj}{N ps:aa Str}{k:ag}{sp:Sp}(F:Fun K x qual st f fd)(S:bY N ps (aO st))(len:∀vs H Q E,sp vs H Q E->vs.length=ps.length)
 (hbody:∀(cdv:ak) (A:bS) (outer:aa cv) (s:ar) (H:Hp) (vs:aa V) (Q:VK) (E:XK),nH k (A.deeper (cS qual (aO st) s.heap.objs.size f cdv))->sp vs H Q E->
   ∃t,PSs (lE CX0 P w K mg base N qual (aO st) f cdv A outer s H E).nox (fB st) t/\t {nx:=λ_ H'=>Q .non H',rt:=Q} (start N vs) H):xU P w K mg base CX0 (k+1) f fd ps sp:=by
 obtain⟨oc,od,kV,doc,pm,an,cdv,ct,osl,rfl,lk,hcd⟩:=F.ex;refine aHn lk hcd S len λA outer s H vs Q E hr hsp=>?_
 obtain⟨t,h,q⟩:=hbody cdv A outer s H vs Q E hr hsp;exact⟨t,h.nox,q⟩
theorem Fun.binds{st:bq}(F:Fun K x qual st f fd)
 (h:∀(kV doc pm:ak) (an:aq am) (cdv ct:ak) (us:aa ak),us.length=ps.length->bindArgs (kL x qual (jN st) (fB st) (aO st) .none kV doc pm an cdv ct) ⟨us,[]⟩=pure (ps.zip us)):Binds K fd ps []:=by
 obtain⟨oc,od,kV,doc,pm,an,cdv,ct,osl,rfl,lk,hcd⟩:=F.ex;exact .all (h kV doc pm an cdv ct)
theorem DX{st:bq}{oc:ak}{od an:aq am}{osl:aE (aq ak)}{kV doc pm cdv ct:ak}(l:K.lookup f=ae ⟨oc,od,.func (kL x qual (jN st) (fB st) (aO st) .none kV doc pm an cdv ct),osl⟩)
 (c:vg K cdv qual=af)(k:jz K (.ref f)=af):Fun K x qual st f (kL x qual (jN st) (fB st) (aO st) .none kV doc pm an cdv ct):=⟨⟨oc,od,kV,doc,pm,an,cdv,ct,osl,rfl,l,c⟩,k⟩
end
def cZ(H H':Hp):Prop:=∀b o,H b=ae o->H' b=ae o
theorem cZ.refl(H:Hp):cZ H H:=λ_ _ h=>h
theorem cZ.trans(a:cZ H H1)(b:cZ H1 H2):cZ H H2:=λc o h=>b c o (a c o h)
theorem cZ.free(e:cZ H H')(h:H' l=aj):H l=aj:=by
 cases q:H l with
 |none=>rfl
 |some o=>
  rw[e l o q] at h;cases h
section
variable [d4 κ]
theorem aEi{kvs:aa (κ×V)}{k:κ}(h:DR kvs k=aj):¬k∈kvs.map (·.1):=by
 intro m;obtain⟨p,hp,e⟩:=c6.mp m;have q:(kvs.any λkv=>ϒ (kv.1=k))=af:=B5.mpr ⟨p,hp,cb e⟩;rw[uW,h] at q;exact bf q 0x2
theorem aAt:∀{l:aa κ}{k:κ},l.Nodup->¬k∈l->(l++[k]).Nodup
 |[],k,_,_=>by simp
 |a::r,k,h,hk=>by
  obtain⟨h1,h2⟩:=fE.mp h;show(a::(r++[k])).Nodup;refine fE.mpr ⟨λm=>?_,aAt h2 λm=>hk (bP.mpr (Or.inr m))⟩;rcases e5.mp m with q|q
  ·exact h1 q
  ·exact hk (bP.mpr (ms (d6.mp q).symm))
theorem aI0{kvs:aa (κ×V)}{k:κ}(v:V)(hn:(kvs.map (·.1)).Nodup)(h:DR kvs k=aj):((putK kvs k v).map (·.1)).Nodup:=by
 rw[aEf v h,bE];exact aAt hn (aEi h)
end
end L2
namespace Mi
open PySem
inductive D where
 |uD|non|bl (b:au)|int (i:ah)|str (x:Str)
 |tup (xs:aa D)|lst (xs:aa D)|dct (kvs:aa (D×D))|scr (xs:aa D)|fdc (kvs:aa (D×D))|cel (a:ag) (xs:aa D)|exc (c:Str) (fs:aa (Str×Str))|ins (c:Str) (fs:aa (Str×D))|adr (a:ag)|dcl (a:ag) (kvs:aa (D×D))
 deriving Inhabited
mutual
noncomputable def D.pure:D->au
 |.tup xs=>D.bD xs
 |.lst _=>ai
 |.dct _=>ai
 |.uD=>ai
 |.scr xs=>D.bD xs
 |.fdc _=>ai
 |.cel _ _=>ai
 |.exc _ _=>ai
 |.ins _ _=>ai
 |.adr _=>ai
 |.dcl _ _=>ai
 |_=>af
noncomputable def D.bD:aa D->au
 |[]=>af
 |x::xs=>x.pure&&D.bD xs
end
mutual
noncomputable def eqD:D->D->au
 |.non,.non=>af
 |.bl a,.bl b=>a==b
 |.int a,.int b=>a==b
 |.bl a,.int b=>(if a then (1:ah) else 0)==b
 |.int a,.bl b=>a==(if b then (1:ah) else 0)
 |.str a,.str b=>a==b
 |.tup xs,.tup ys=>yM xs ys
 |.lst xs,.lst ys=>yM xs ys
 |_,_=>ai
noncomputable def yM:aa D->aa D->au
 |[],[]=>af
 |x::xs,y::ys=>eqD x y&&yM xs ys
 |_,_=>ai
end
theorem aM0(a b:ah):eqD (.int a) (.int b)=(a==b):=id rfl
theorem aM1(a b:Str):eqD (.str a) (.str b)=(a==b):=id rfl
theorem aM2(a:ah)(b:Str):eqD (.int a) (.str b)=ai:=id rfl
theorem aM3(a:Str)(b:ah):eqD (.str a) (.int b)=ai:=id rfl
theorem aM4(a b:aa D):eqD (.tup a) (.tup b)=yM a b:=id rfl
mutual
noncomputable def D.gB:ag->D->au
 |n+1,.tup xs=>D.eZ n xs
 |n+1,.lst xs=>D.eZ n xs
 |0,.tup _=>ai
 |0,.lst _=>ai
 |_,.dct _=>ai
 |_,.uD=>ai
 |_,.scr _=>ai
 |_,.fdc _=>ai
 |_,.cel _ _=>ai
 |_,.exc _ _=>ai
 |_,.ins _ _=>ai
 |_,.adr _=>ai
 |_,.dcl _ _=>ai
 |_,_=>af
noncomputable def D.eZ:ag->aa D->au
 |_,[]=>af
 |n,x::xs=>D.gB n x&&D.eZ n xs
end
inductive lG where|lt|le|gt|ge
 deriving d4
noncomputable def lG.int:lG->ah->ah->au
 |.lt,a,b=>ϒ (a<b)|.le,a,b=>ϒ (a<=b)|.gt,a,b=>ϒ (b<a)|.ge,a,b=>ϒ (b<=a)
noncomputable def lG.nat:lG->ag->ag->au
 |.lt,a,b=>ϒ (a<b)|.le,a,b=>ϒ (a<=b)|.gt,a,b=>ϒ (b<a)|.ge,a,b=>ϒ (b<=a)
noncomputable def aAu(a b:Str):au:=ϒ (a.cps.toList<b.cps.toList)
def lG.str:lG->Str->Str->au
 |.lt,a,b=>aAu a b|.le,a,b=>!aAu b a|.gt,a,b=>aAu b a|.ge,a,b=>!aAu a b
mutual
noncomputable def o8(o:lG):D->D->aq au
 |.int a,.int b=>ae (o.int a b)
 |.str a,.str b=>ae (o.str a b)
 |.tup xs,.tup ys=>nJ o xs ys
 |_,_=>aj
noncomputable def nJ(o:lG):aa D->aa D->aq au
 |[],ys=>ae (o.nat 0 ys.length)
 |x::xs,[]=>ae (o.nat (x::xs).length 0)
 |x::xs,y::ys=>if eqD x y then nJ o xs ys else o8 o x y
end
inductive Res(α:Type) where
 |ok (a:α)|err (c:Str) (as:aa D)|bad
noncomputable def Res.bind{α β:Type}:Res α->(α->Res β)->Res β
 |.ok a,f=>f a
 |.err c as,_=>.err c as
 |.bad,_=>.bad
noncomputable instance:Monad Res where
 pure:=.ok
 bind:=Res.bind
@[simp] theorem Res.bA(a:α)(f:α->Res β):((Res.ok a) >>= f)=f a:=rfl
@[simp] theorem Res.aOu(c:Str)(as:aa D)(f:α->Res β):((Res.err c as:Res α) >>= f)=.err c as:=rfl
@[simp] theorem Res.aOv(f:α->Res β):((Res.bad:Res α) >>= f)=.bad:=rfl
@[simp] theorem Res.pure_eq(a:α):(pure a:Res α)=.ok a:=rfl
theorem Res.aI1{f:α->Res β}(h:(m >>= f)=.ok b):∃a,m=.ok a/\f a=.ok b:=by
 cases m with
 |ok a=>exact⟨a,rfl,h⟩
 |err c as=>cases h
 |bad=>cases h
theorem bx{P:Prop}(h:(Res.bad:Res α)=.ok d):P:=by cases h
theorem fx0{P:Prop}(h:ai=af):P:=by cases h
theorem nx0{P:Prop}(h:(aj:aq α)=ae d):P:=by cases h
noncomputable def Res.ofOpt{α:Type}:aq α->Res α
 |some a=>.ok a
 |none=>.bad
@[simp] theorem Res.aKk(a:α):Res.ofOpt (ae a)=.ok a:=rfl
theorem Res.mD(h:Res.ofOpt o=.ok a):o=ae a:=by
 cases o with
 |none=>cases h
 |some b=>cases h;rfl
noncomputable def lim:ag:=1000000
inductive Bop where|add|sub|mul|fdiv|mod|pow
 deriving d4
inductive Cop where|eq|ne|ord (o:lG)|isin|notin|isN|notN
 deriving d4
noncomputable def lH(i:ah):au:=ϒ (-(2 ^ 64)<i)&&ϒ (i<2 ^ 64)
def bG:Bop->D->D->Res D
 |.add,.int a,.int b=>.ok (.int (a+b))
 |.sub,.int a,.int b=>.ok (.int (a-b))
 |.mul,.int a,.int b=>if lH a||lH b then .ok (.int (a*b)) else .bad
 |.fdiv,.int a,.int b=>if ϒ (0<b)&&ϒ (b<1073741824) then .ok (.int (a / b)) else .bad
 |.mod,.int a,.int b=>if ϒ (0<b) then .ok (.int (a % b)) else .bad
 |.pow,.int a,.int b=>if ϒ (0<=b)&&ϒ (b<=1000000)&&ϒ (a.natAbs<2 ^ 64) then .ok (.int (a ^ b.toNat)) else .bad
 |.add,.str a,.str b=>if ϒ (a.length+b.length<=lim) then .ok (.str (a++b)) else .bad
 |.add,.lst a,.lst b=>if ϒ (a.length+b.length<=lim)&&D.bD a&&D.bD b then .ok (.lst (a++b)) else .bad
 |_,_,_=>.bad
def aQm:D->Res au
 |.non=>.ok ai
 |.bl b=>.ok b
 |.int i=>.ok (i !=0)
 |.str x=>if ϒ (x.length<=lim) then .ok ((x.length:ah)!=0) else .bad
 |.tup xs=>.ok (!xs.isEmpty)
 |.lst xs=>.ok (!xs.isEmpty)
 |.dct kvs=>.ok (!kvs.isEmpty)
 |.uD=>.bad
 |.fdc _=>.bad
 |.cel _ _=>.bad
 |.exc _ _=>.bad
 |.ins _ _=>.bad
 |.adr _=>.bad
 |.dcl _ _=>.bad
 |.scr xs=>.ok (!xs.isEmpty)
noncomputable def mF:D->au
 |.int _=>af
 |.str _=>af
 |_=>ai
def keyOk:D->au
 |.int _=>af
 |.str _=>af
 |.tup xs=>xs.all mF
 |_=>ai
noncomputable def isTup:D->au
 |.tup _=>af
 |_=>ai
def d9:aa (D×D)->D->aq D
 |[],_=>aj
 | (k,v)::r,q=>if eqD k q then ae v else d9 r q
def putD:aa (D×D)->D->D->aa (D×D)
 |[],q,w=>[(q,w)]
 | (k,v)::r,q,w=>if eqD k q then (k,w)::r else (k,v)::putD r q w
def BR(kvs:aa (D×D))(k:D):au:=keyOk k&&kvs.all (λp=>isTup p.1==isTup k)
noncomputable def aZ:ag:=12
def cV:Cop->D->D->Res D
 |.eq,a,b=>if a.gB aZ&&b.gB aZ then .ok (.bl (eqD a b)) else .bad
 |.ne,a,b=>if a.gB aZ&&b.gB aZ then .ok (.bl (!eqD a b)) else .bad
 |.ord o,a,b=>if a.gB aZ&&b.gB aZ then (match o8 o a b with|some k=>.ok (.bl k)|none=>.bad) else .bad
 |.isin,a,.tup ys=>if a.gB aZ&&D.eZ aZ ys then .ok (.bl (ys.any λy=>eqD y a)) else .bad
 |.isin,a,.lst ys=>if a.gB aZ&&D.eZ aZ ys then .ok (.bl (ys.any λy=>eqD y a)) else .bad
 |.isin,a,.dct kvs=>if BR kvs a then .ok (.bl (d9 kvs a).isSome) else .bad
 |.notin,a,.tup ys=>if a.gB aZ&&D.eZ aZ ys then .ok (.bl (!(ys.any λy=>eqD y a))) else .bad
 |.notin,a,.lst ys=>if a.gB aZ&&D.eZ aZ ys then .ok (.bl (!(ys.any λy=>eqD y a))) else .bad
 |.notin,a,.dct kvs=>if BR kvs a then .ok (.bl (!(d9 kvs a).isSome)) else .bad
 |.isN,.scr _,.non=>.bad
 |.notN,.scr _,.non=>.bad
 |.isN,.fdc _,.non=>.bad
 |.notN,.fdc _,.non=>.bad
 |.isN,.cel _ _,.non=>.bad
 |.notN,.cel _ _,.non=>.bad
 |.isN,.non,.non=>.ok (.bl af)
 |.isN,a,.non=>.ok (.bl ai)
 |.notN,.non,.non=>.ok (.bl ai)
 |.notN,a,.non=>.ok (.bl af)
 |_,_,_=>.bad
noncomputable def ixD(n:ag)(i:ah):aq ag:=if 0<=i then (if i<n then ae i.toNat else aj) else if -(n:ah)<=i then ae (i+n).toNat else aj
def getD(d i:D):Res D:=
 match d,i with
 |.tup xs,.int i=>Res.ofOpt ((ixD xs.length i).bind λj=>xs[j]?)
 |.lst xs,.int i=>Res.ofOpt ((ixD xs.length i).bind λj=>xs[j]?)
 |.scr xs,.int i=>Res.ofOpt ((ixD xs.length i).bind λj=>xs[j]?)
 |.cel _ xs,.int i=>Res.ofOpt ((ixD xs.length i).bind λj=>xs[j]?)
 |.str x,.int i=>if ϒ (x.length<=lim) then Res.ofOpt (((ixD x.cps.toList.length i).bind λj=>x.cps.toList[j]?).map λc=>D.str ⟨#[c]⟩) else .bad
 |.dct kvs,k=>if keyOk k then Res.ofOpt (d9 kvs k) else .bad
 |.fdc kvs,k=>if keyOk k then Res.ofOpt (d9 kvs k) else .bad
 |_,_=>.bad
noncomputable def Y0(n d:ag):aq ah->ag
 |none=>d
 |some v=>if v<0 then (max (v+(n:ah)) 0).toNat else (min v (n:ah)).toNat
def cutD{α:Type}(xs:aa α)(lo hi:aq ah):aa α:=(xs.drop (Y0 xs.length 0 lo)).take (Y0 xs.length xs.length hi-Y0 xs.length 0 lo)
mutual
noncomputable def D.plain:D->au
 |.int _=>af
 |.str _=>af
 |.tup xs=>D.jO xs
 |_=>ai
noncomputable def D.jO:aa D->au
 |[]=>af
 |x::xs=>x.plain&&D.jO xs
end
mutual
noncomputable def enc:D->aa ah
 |.int i=>[0,i]
 |.str x=>1::(x.cps.toList.map (λ(c:ag)=>(c:ah)+1)++[0])
 |.tup xs=>2::Q7 xs
 |_=>[]
noncomputable def Q7:aa D->aa ah
 |[]=>[0]
 |x::xs=>1::(enc x++Q7 xs)
end
noncomputable def gR:D->ag
 |.int _=>1
 |.str _=>2
 |.tup (.int _::_)=>3
 |.tup (.str _::_)=>4
 |.tup (.tup _::_)=>5
 |_=>0
def cN(xs:aa D):au:=ϒ (xs.length<64)&&xs.all λa=>a.plain&&a.gB aZ&&gR a !=0&&gR a==gR (xs.headD .non)&&xs.all λb=>(o8 .lt a b).isSome
def leE(a b:D):au:=!ϒ (enc b<enc a)
def uX(xs:aa D):aa D:=xs.mergeSort leE
noncomputable def jP(i:ah):au:=ϒ (-(2 ^ 62)<=i)&&ϒ (i<2 ^ 62)
noncomputable def asB:D->Res au
 |.bl b=>.ok b
 |_=>.bad
noncomputable def asI:D->Res ah
 |.int i=>.ok i
 |_=>.bad
inductive Fl where
 |nx (ρ:aa D)|rt (d:D)|bk (ρ:aa D)|ct (ρ:aa D)
noncomputable def aRk:Fl->Res D
 |.rt d=>.ok d
 |.nx _=>.ok .non
 |_=>.bad
noncomputable abbrev FE:=aa D->Res D
noncomputable abbrev FT:=aa D->Res au
noncomputable abbrev FA:=aa D->Res (aa D)
noncomputable def fM(i:ag):FE:=λρ=>match ρ.getD i .uD with|.uD=>.bad|d=>.ok d
noncomputable def bC(d:D):FE:=λ_=>.ok d
abbrev cO:FE:= fM 0
abbrev cW:FE:= fM 1
abbrev d8:FE:= fM 2
abbrev dG:FE:= fM 3
abbrev lJ:FE:= fM 5
abbrev iR:FE:= fM 4
abbrev nO:FE:= fM 6
abbrev vP:FE:= fM 7
abbrev xK:FE:= fM 9
abbrev yN:FE:= fM 8
abbrev yO:FE:= fM 13
abbrev mG:FE:= fM 10
abbrev Y4:FE:= fM 15
abbrev j4:FE:= fM 17
abbrev iG:FE:= fM 11
abbrev lK:FE:= fM 12
abbrev bR:FE:= bC (.int 0)
abbrev iV:FE:= bC (.int 2147483647)
abbrev cR:FE:= bC (.int 1)
abbrev yP:FE:= bC (.int 104729)
abbrev G3:FE:= bC (.int 48271)
abbrev mH:FE:= bC (.int 2147483629)
abbrev G4:FE:= bC (.int 4)
abbrev M6:FE:= bC (.int 17)
abbrev aEj:FE:= bC (.int 5)
abbrev aI2:FE:= bC (.int 37)
abbrev M7:FE:= bC (.int 26)
abbrev iT:FE:= bC (.int 2)
abbrev aE2:FE:= bC (.int 8)
abbrev uY:FE:= bC (.int 3)
abbrev aPg:FE:= bC (.int 6)
abbrev aM5:FE:= bC (.int 7)
abbrev aI3:FE:= bC (.int 38)
abbrev aEk:FE:= bC (.int 12)
abbrev aI4:FE:= bC (.int 64)
abbrev aI5:FE:= bC (.int 20)
abbrev Y5:FE:= bC (.int 10)
abbrev VJ:FE:= bC (.int 500)
abbrev aAv:FE:= bC (.int 400)
abbrev aAw:FE:= bC (.int 66)
abbrev aEm:FE:= bC (.int 13)
noncomputable def b2(f:D->D->Res D)(a b:FE):FE:=λρ=>do let x <- a ρ;let y <- b ρ;f x y
noncomputable def b1(f:D->Res D)(a:FE):FE:=λρ=>do let x <- a ρ;f x
def bTB(a:FE):FT:=λρ=>do let x <- a ρ;asB x
noncomputable def aKl(a:FT):FT:=λρ=>do let x <- a ρ;pure (!x)
noncomputable def Y6(a b:FT):FT:=λρ=>do let x <- a ρ;if x then b ρ else pure ai
noncomputable def bOr(a b:FT):FT:=λρ=>do let x <- a ρ;if x then pure af else b ρ
def aAx(a b:FE):FE:=λρ=>do let x <- a ρ;let k <- asB x;if k then b ρ else pure (.bl ai)
noncomputable def aP:FA:=λ_=>.ok []
noncomputable def aC(a:FE)(b:FA):FA:=λρ=>do let x <- a ρ;let xs <- b ρ;pure (x::xs)
def cT(a:FA):FE:=λρ=>do let xs <- a ρ;if ϒ (xs.length<=lim) then pure (.tup xs) else .bad
def DY(a:FA):FE:=λρ=>do let xs <- a ρ;if ϒ (xs.length<=lim) then pure (.lst xs) else .bad
noncomputable def aM(f:aa D->Res D)(a:FA):FE:=λρ=>do let xs <- a ρ;f xs
noncomputable def bM(f:D->aa D->Res D)(o:FE)(a:FA):FE:=λρ=>do let x <- o ρ;let xs <- a ρ;f x xs
def G5(a:FE):aa D->Res (aq ah):=λρ=>do let x <- a ρ;let i <- asI x;pure (ae i)
noncomputable def G6:aa D->Res (aq ah):=λ_=>.ok aj
def aRl:D->Res au
 |.dct _=>.bad
 |.scr _=>.bad
 |.fdc _=>.bad
 |d=>aQm d
def bTr(a:FE):FT:=λρ=>do let x <- a ρ;aRl x
noncomputable def aOw:D->Res D
 |.int i=>.ok (.int (-i))
 |_=>.bad
def aKm:D->aq ah->aq ah->Res D
 |.lst xs,lo,hi=>if D.bD xs then .ok (.lst (cutD xs lo hi)) else .bad
 |.scr xs,lo,hi=>if D.bD xs then .ok (.lst (cutD xs lo hi)) else .bad
 |.tup xs,lo,hi=>if !D.bD xs||ϒ (Y0 xs.length 0 lo=0/\Y0 xs.length xs.length hi=xs.length) then .bad else .ok (.tup (cutD xs lo hi))
 |_,_,_=>.bad
def fJ:aa D->Res D
 |[.tup xs]=>.ok (.int xs.length)
 |[.lst xs]=>.ok (.int xs.length)
 |[.scr xs]=>.ok (.int xs.length)
 |[.cel _ xs]=>.ok (.int xs.length)
 |[.str x]=>if ϒ (x.length<=lim) then .ok (.int x.length) else .bad
 |_=>.bad
noncomputable def mJ(kvs:aa (D×D)):aa D:=kvs.map (·.1)
def Y7:aa D->Res D
 |[.tup xs]=>if D.bD xs then .ok (.lst xs) else .bad
 |[.lst xs]=>if D.bD xs then .ok (.lst xs) else .bad
 |[.dct kvs]=>if kvs.all (λp=>!isTup p.1) then .ok (.lst (mJ kvs)) else .bad
 |_=>.bad
noncomputable def fO:aa D->Res D
 |[.tup xs]=>.ok (.tup xs)
 |[.lst xs]=>.ok (.tup xs)
 |_=>.bad
def gY:aa D->Res D
 |[.lst xs]=>if cN xs then .ok (.lst (uX xs)) else .bad
 |_=>.bad
def aI6:D->aa D->Res D
 |.dct kvs,[k]=>if BR kvs k then .ok ((d9 kvs k).getD .non) else .bad
 |.dct kvs,[k,e]=>if BR kvs k then .ok ((d9 kvs k).getD e) else .bad
 |_,_=>.bad
noncomputable def bO(n:ag)(f:aa D->Res D):aa D->Res D:=λds=>if ϒ (ds.length=n) then f ds else .bad
noncomputable abbrev FI:=aa D->Res (aa D×au)
noncomputable def nP:D->Res (aa D)
 |.lst xs=>.ok xs
 |.tup xs=>.ok xs
 |_=>.bad
def vU:aa D->Res (aa D×au)
 |[.int n]=>if jP n then .ok ((bz n.toNat).map λ(k:ag)=>D.int (0+(k:ah)),af) else .bad
 |_=>.bad
def aAy:aa D->Res (aa D×au)
 |[.int a,.int b]=>if jP a&&jP b then .ok ((bz (b-a).toNat).map λ(k:ag)=>D.int (a+(k:ah)),af) else .bad
 |_=>.bad
noncomputable def lL(f:FA)(g:aa D->Res (aa D×au)):FI:=λρ=>do let xs <- f ρ;g xs
noncomputable def RW(n:ag)(ρ:aa D):aa D:=(bz n).map λi=>ρ.getD i .uD
noncomputable def lM:D->Res (aa D):=λd=>.ok [d]
noncomputable def aKn(m:ag):D->Res (aa D)
 |.tup ds=>if ϒ (ds.length=m) then .ok ds else .bad
 |_=>.bad
def iH(n:ag)(t:D->Res (aa D))(c:FT)(f:FE)(k:au)(ρ:aa D)(acc:aa D)(x:D):Res (aa D):=do
 let bs <- t x
 let ok <- c (RW n ρ++bs)
 if ok then (do
  let y <- f (RW n ρ++bs)
  if k||y.pure then pure (acc++[y]) else .bad)
 else pure acc
noncomputable def gD(g:aa D->D->Res (aa D)):aa D->aa D->Res (aa D)
 |acc,[]=>.ok acc
 |acc,x::xs=>do let a <- g acc x;gD g a xs
def fG(n:ag)(it:FI)(t:D->Res (aa D))(c:FT)(f:FE)(k:au):FE:=λρ=>do
 let xs <- it ρ
 if ϒ (xs.1.length<=lim) then (do
  let ys <- gD (iH n t c f k ρ) [] xs.1
  pure (.lst ys)) else .bad
noncomputable def g8:FT:=λ_=>.ok af
noncomputable abbrev FS:=aa D->Res Fl
def inner:D->au
 |.lst xs=>D.bD xs
 |.dct kvs=>D.bD (kvs.map (·.2))
 |.cel _ xs=>D.bD xs
 |.dcl _ kvs=>D.bD (kvs.map (·.2))
 |_=>ai
noncomputable def vV:FS:=λρ=>.ok (.nx ρ)
noncomputable def bN(f g:FS):FS:=λρ=>do
 let r <- f ρ
 match r with
 |.nx ρ'=>g ρ'
 |r=>.ok r
def bW(o:au)(i:ag)(f:FE)(k:au):FS:=λρ=>do
 let d <- f ρ
 if (if o then k&&inner d else k||d.pure) then .ok (.nx (ρ.set i d)) else .bad
noncomputable def sIf(c:FT)(f g:FS):FS:=λρ=>do
 let k <- c ρ
 if k then f ρ else g ρ
noncomputable def oM(f:FE)(k:au):FS:=λρ=>do
 let d <- f ρ
 if k||d.pure then .ok (.rt d) else .bad
def aAz(i:ag):FS:=λρ=>do
 let d <- fM i ρ
 .ok (.rt d)
noncomputable def rtX:ag:=1000000
noncomputable def M8(f:FE):FS:=λρ=>do
 let _ <- f ρ
 .ok (.nx ρ)
def BV(i:ag)(f:FE):FS:=λρ=>do
 let d <- f ρ
 match ρ.getD i .uD with
 |.lst xs=>if ϒ (xs.length<lim)&&d.pure then .ok (.nx (ρ.set i (.lst (xs++[d])))) else .bad
 |_=>.bad
def RX(i:ag)(f:FE)(g:FE):FS:=λρ=>do
 let d <- g ρ
 let k <- f ρ
 match ρ.getD i .uD with
 |.dct kvs=>if ϒ (kvs.length<lim)&&BR kvs k&&d.pure then .ok (.nx (ρ.set i (.dct (putD kvs k d)))) else .bad
 |_=>.bad
noncomputable def tg1(i:ag):D->aa D->Res (aa D):=λd ρ=>.ok (ρ.set i d)
noncomputable def aB0:aa ag->aa D->aa D->aa D
 |i::is,d::ds,ρ=>aB0 is ds (ρ.set i d)
 |_,_,ρ=>ρ
def tgN(is:aa ag):D->aa D->Res (aa D)
 |.tup ds,ρ=>if ϒ (ds.length=is.length) then .ok (aB0 is ds ρ) else .bad
 |_,_=>.bad
noncomputable def o9(t:D->aa D->Res (aa D))(body:FS):aa D->aa D->Res Fl
 |[],ρ=>.ok (.nx ρ)
 |x::xs,ρ=>do
  let ρ1 <- t x ρ
  let r <- body ρ1
  match r with
  |.nx ρ'=>o9 t body xs ρ'
  |.ct ρ'=>o9 t body xs ρ'
  |.bk ρ'=>.ok (.nx ρ')
  |.rt d=>.ok (.rt d)
def G7(it:FI)(t:D->aa D->Res (aa D))(body:FS):FS:=λρ=>do
 let xs <- it ρ
 if xs.2 then o9 t body xs.1 ρ else .bad
def xM(i:ag)(t:D->aa D->Res (aa D))(body:FS):FS:=λρ=>do
 let d <- fM i ρ
 let xs <- nP d
 o9 t body xs ρ
def fnS(n m:ag)(f:FS):aa D->Res D:=λds=>do
 let r <- f (ds++b9 (m-n) .uD)
 aRk r
mutual
theorem aGh(a b:D)(h1:a.plain=af)(h2:b.plain=af)(h:eqD a b=af):a=b:=by
 cases a with
 |int i=>
  cases b with
  |int j=>rw[eq_of_beq (show(i==j)=af from h)]
  |str _=>exact fx0 h
  |tup _=>exact fx0 h
  |_=>exact fx0 h2
 |str i=>
  cases b with
  |str j=>rw[eq_of_beq (show(i==j)=af from h)]
  |int _=>exact fx0 h
  |tup _=>exact fx0 h
  |_=>exact fx0 h2
 |tup xs=>
  cases b with
  |tup ys=>rw[aB1 xs ys h1 h2 h]
  |int _=>exact fx0 h
  |str _=>exact fx0 h
  |_=>exact fx0 h2
 |_=>exact fx0 h1
theorem aB1:∀(a b:aa D),D.jO a=af->D.jO b=af->yM a b=af->a=b
 |[],[],_,_,_=>rfl
 |x::xs,y::ys,h1,h2,h=>by
  rw[D.jO,bc] at h1 h2;rw[yM,bc] at h;rw[aGh x y h1.1 h2.1 h.1,aB1 xs ys h1.2 h2.2 h.2]
 |[],_::_,_,_,h=>by exact fx0 h
 |_::_,[],_,_,h=>by exact fx0 h
end
mutual
theorem VL(a:D)(h:a.plain=af):eqD a a=af:=by
 cases a with
 |int i=>exact fI i
 |str i=>exact fI i
 |tup xs=>exact M9 xs h
 |_=>exact fx0 h
theorem M9:∀(a:aa D),D.jO a=af->yM a a=af
 |[],_=>rfl
 |x::xs,h=>by
  rw[D.jO,bc] at h;rw[yM,VL x h.1,M9 xs h.2];rfl
end
theorem aB2:∀(a b:aa ag)(r t:aa ah),(a.map (λ(c:ag)=>(c:ah)+1)++[0])++r=(b.map (λ(c:ag)=>(c:ah)+1)++[0])++t->a=b/\r=t
 |[],[],r,t,h=>by simpa using h
 |[],c::b,r,t,h=>by
  simp only[gx,dy,fj,bu,kb] at h;lia
 |c::a,[],r,t,h=>by
  simp only[gx,dy,fj,bu,kb] at h;lia
 |c::a,d::b,r,t,h=>by
  simp only[fj,bu,kb] at h;obtain⟨e1,e2⟩:=aB2 a b r t h.2;exact⟨by rw[e1,show c=d by lia],e2⟩
mutual
theorem G8:∀(a b:D)(r t:aa ah),a.plain=af->b.plain=af->enc a++r=enc b++t->a=b/\r=t
 |.int i,b,r,t,_,h2,h=>by
  cases b<;>simp only[enc,D.plain,iL,fj,kb,dy] at h h2<;>try omega
  ·exact⟨by rw[h.2.1],h.2.2⟩
 |.str x,b,r,t,_,h2,h=>by
  cases b with
  |str y=>
   simp only[enc,fj,kb,true_and] at h;obtain⟨e1,e2⟩:=aB2 _ _ _ _ h;refine⟨?_,e2⟩;cases x;cases y;simp only[] at e1
   congr 2
   exact Array.toList_inj.mp e1
  |_=>simp[enc,D.plain] at h h2
 |.tup xs,b,r,t,h1,h2,h=>by
  cases b with
  |tup ys=>
   rw[D.plain] at h1 h2;simp only[enc,fj,kb,true_and] at h;obtain⟨e1,e2⟩:=VM xs ys r t h1 h2 h;exact⟨by rw[e1],e2⟩
  |_=>simp[enc,D.plain] at h h2
 |.uD,_,_,_,h,_,_=>by simp[D.plain] at h
 |.scr _,_,_,_,h,_,_=>by simp[D.plain] at h
 |.non,_,_,_,h,_,_=>by simp[D.plain] at h
 |.bl _,_,_,_,h,_,_=>by simp[D.plain] at h
 |.lst _,_,_,_,h,_,_=>by simp[D.plain] at h
 |.dct _,_,_,_,h,_,_=>by simp[D.plain] at h
theorem VM:∀(a b:aa D)(r t:aa ah),D.jO a=af->D.jO b=af->Q7 a++r=Q7 b++t->a=b/\r=t
 |[],[],r,t,_,_,h=>by simpa[Q7] using h
 |[],_::_,r,t,_,_,h=>by simp[Q7] at h
 |_::_,[],r,t,_,_,h=>by simp[Q7] at h
 |x::xs,y::ys,r,t,h1,h2,h=>by
  rw[D.jO,bc] at h1 h2;simp only[Q7,fj,kb,true_and,ke] at h;obtain⟨e1,e2⟩:=G8 x y _ _ h1.1 h2.1 h;obtain⟨e3,e4⟩:=VM xs ys r t h1.2 h2.2 e2;exact⟨by rw[e1,e3],e4⟩
end
theorem aI7(h1:a.plain=af)(h2:b.plain=af)(h:enc a=enc b):a=b:=(G8 a b [] [] h1 h2 (by rw[h])).1
theorem RZ(p:aa ah)(r t:aa ah):p++r<p++t↔r<t:=by
 induction p with
 |nil=>rfl
 |cons x p ih=>rw[fj,fj,ia];simp[ih]
theorem aGi:∀(u v r t:aa ah),(∀z,u++z≠v)->(∀z,v++z≠u)->(u++r<v++t↔u<v)
 |[],v,_,_,h,_=>bf rfl (h v)
 |u,[],_,_,_,h=>bf rfl (h u)
 |x::u,y::v,r,t,h1,h2=>by
  rw[fj,fj,ia,ia];by_cases e:x=y
  ·subst e;have:=aGi u v r t (λz hz=>h1 z (by rw[fj,hz])) (λz hz=>h2 z (by rw[fj,hz]));simp[this]
  ·simp[e]
theorem aB3:∀(a b:aa ag),(a.map (λ(c:ag)=>(c:ah)+1)++[0]<b.map (λ(c:ag)=>(c:ah)+1)++[0])↔a<b
 |[],[]=>by simp
 |[],c::b=>by
  simp only[gx,dy,bu,fj,ia,List.nil_lt_cons,iff_true]
  left;lia
 |c::a,[]=>by
  simp only[gx,dy,bu,fj,ia,List.not_lt_nil,iff_false,jg,not_and];exact⟨by lia,λh=>by lia⟩
 |c::a,d::b=>by
  simp only[bu,fj,ia,aB3 a b];constructor
  ·rintro(h|⟨h,k⟩)
   ·left;lia
   ·right;exact⟨by lia,k⟩
  ·rintro(h|⟨h,k⟩)
   ·left;lia
   ·right;exact⟨by lia,k⟩
mutual
theorem R0:∀(a b:D)(k:au),a.plain=af->b.plain=af->o8 .lt a b=ae k->k=ϒ (enc a<enc b)
 |.int i,.int j,k,_,_,h=>by
  rw[o8] at h;rw[<-c9 h];simp[enc,lG.int,ia]
 |.str x,.str y,k,_,_,h=>by
  rw[o8] at h;rw[<-c9 h];have:=aB3 x.cps.toList y.cps.toList;simp only[enc,lG.str,aAu,ia,true_and];simp[this]
 |.tup xs,.tup ys,k,h1,h2,h=>by
  rw[D.plain] at h1 h2;rw[o8] at h;rw[VN xs ys k h1 h2 h];simp[enc,ia]
 |.int _,.str _,_,_,_,h=>by exact nx0 h
 |.int _,.tup _,_,_,_,h=>by exact nx0 h
 |.int _,.uD,_,_,_,h=>by exact nx0 h
 |.int _,.scr _,_,_,_,h=>by exact nx0 h
 |.int _,.non,_,_,_,h=>by exact nx0 h
 |.int _,.bl _,_,_,_,h=>by exact nx0 h
 |.int _,.lst _,_,_,_,h=>by exact nx0 h
 |.int _,.dct _,_,_,_,h=>by exact nx0 h
 |.str _,.int _,_,_,_,h=>by exact nx0 h
 |.str _,.tup _,_,_,_,h=>by exact nx0 h
 |.str _,.uD,_,_,_,h=>by exact nx0 h
 |.str _,.scr _,_,_,_,h=>by exact nx0 h
 |.str _,.non,_,_,_,h=>by exact nx0 h
 |.str _,.bl _,_,_,_,h=>by exact nx0 h
 |.str _,.lst _,_,_,_,h=>by exact nx0 h
 |.str _,.dct _,_,_,_,h=>by exact nx0 h
 |.tup _,.int _,_,_,_,h=>by exact nx0 h
 |.tup _,.str _,_,_,_,h=>by exact nx0 h
 |.tup _,.uD,_,_,_,h=>by exact nx0 h
 |.tup _,.scr _,_,_,_,h=>by exact nx0 h
 |.tup _,.non,_,_,_,h=>by exact nx0 h
 |.tup _,.bl _,_,_,_,h=>by exact nx0 h
 |.tup _,.lst _,_,_,_,h=>by exact nx0 h
 |.tup _,.dct _,_,_,_,h=>by exact nx0 h
 |.uD,_,_,h,_,_=>by simp[D.plain] at h
 |.scr _,_,_,h,_,_=>by simp[D.plain] at h
 |.non,_,_,h,_,_=>by simp[D.plain] at h
 |.bl _,_,_,h,_,_=>by simp[D.plain] at h
 |.lst _,_,_,h,_,_=>by simp[D.plain] at h
 |.dct _,_,_,h,_,_=>by simp[D.plain] at h
theorem VN:∀(a b:aa D)(k:au),D.jO a=af->D.jO b=af->nJ .lt a b=ae k->k=ϒ (Q7 a<Q7 b)
 |[],[],k,_,_,h=>by rw[nJ] at h;rw[<-c9 h];simp[Q7,lG.nat]
 |[],y::ys,k,_,_,h=>by rw[nJ] at h;rw[<-c9 h];simp[Q7,lG.nat,ia]
 |x::xs,[],k,_,_,h=>by rw[nJ] at h;rw[<-c9 h];simp[Q7,lG.nat,ia]
 |x::xs,y::ys,k,h1,h2,h=>by
  rw[D.jO,bc] at h1 h2;rw[nJ] at h;simp only[Q7,ia,true_and,Int.lt_irrefl,false_or];cases e:eqD x y with
  |true=>
   rw[e,av rfl] at h;have:=aGh x y h1.1 h2.1 e;subst this;rw[VN xs ys k h1.2 h2.2 h];simp[RZ]
  |false=>
   rw[e,ax 0x2] at h;rw[R0 x y k h1.1 h2.1 h];have hne:x≠y:=λz=>by subst z;rw[VL x h1.1] at e;cases e
   have:=aGi (enc x) (enc y) (Q7 xs) (Q7 ys) (λz hz=>hne (G8 x y z [] h1.1 h2.1 (by simpa using hz)).1) (λz hz=>hne (G8 y x z [] h2.1 h1.1 (by simpa using hz)).1.symm);simp[this]
end
theorem aB4(a b c:D)(h1:leE a b=af)(h2:leE b c=af):leE a c=af:=by
 simp only[leE,jh,vp] at *;exact λh=>by
  rcases(inferInstance:Std.Trichotomous (α:=aa ah) (·<·)) with _
  exact h1 (B6 (B7.mp h2) h)
theorem aB5(a b:D):(leE a b||leE b a)=af:=by
 simp only[leE,iv,jh,vp];by_cases h:enc b<enc a
 ·right;exact List.lt_asymm h
 ·left;exact h
theorem oN(ds:aa D):(uX ds).Perm ds:=List.mergeSort_perm ds leE
theorem wG(ds:aa D):(uX ds).Pairwise λa b=>leE a b=af:=List.pairwise_mergeSort (λa b c=>aB4 a b c) (λa b=>aB5 a b) ds
theorem aB6{ds es:aa D}(hp:∀d∈ds,d.plain=af)(h:ds.Perm es)(h1:ds.Pairwise λa b=>leE a b=af)(h2:es.Pairwise λa b=>leE a b=af):ds=es:=by
 refine Eo (λa b ha hb h1 h2=>?_) h1 h2 h;simp only[leE,jh,vp] at h1 h2;exact aI7 (hp a ha) (hp b (h.mem_iff.mpr hb)) (List.le_antisymm h1 h2)
open L2
class KFrag where
 K:bj
variable [KFrag]
def aEn(H:Hp)(a:am)(xs:aa V):Prop:=(∃o,H a=ae (.frz o (.lst xs)))\/
 ∃(o:bg)(its:aE ak)(n:ag),KFrag.K.lookup a=ae o/\o.cls=.type "list"/\o.dict=aj/\o.data=.seq its n/\its.size<=aT/\Vals xs its.toList
theorem aEn.sq(h:aEn H a xs)(hK:KFrag.K=K):SqL K H a xs:=by
 subst hK;rcases h with ⟨o,h⟩|h
 ·exact .inl (.inr ⟨o,h⟩)
 ·exact .inr h
noncomputable def kD:Key->D
 |.inl i=>.int i
 |.inr x=>.str x
noncomputable def Y8:HO->au
 |.lst _=>af
 |.dK _=>af
 |.dT _=>af
 |_=>ai
def XO(a C:am)(dx:aq am)(h:ay):Prop:=∃o,h.get? a=ae o/\o.cls=.ref C/\o.dict=dx/\∃vs,o.data=.fields vs
def XD(dx:am)(fs:aa (Str×Str))(h:ay):Prop:=∃mA,h.Ns1 dx mA/\A6 mA (fs.map (·.1))/\∀f,match fs.lookup f with
 |some t=>∃tk,mA f=ae (.str t tk)
 |none=>mA f=aj
def XDs(H:Hp)(fs:aa (Str×Str)):aq am->Prop
 |none=>fs=[]
 |some d=>H d=ae (.ext (XD d fs))
mutual
inductive Rep(P:am->Prop)(H:Hp):V->D->Prop
 |non:Rep P H .non .non
 |bl (b:au):Rep P H (.bl b) (.bl b)
 |int (i:ah):Rep P H (.int i) (.int i)
 |str (x:Str):Rep P H (.str x) (.str x)
 |tup {a:am} {xs:aa V} {ds:aa D}:H a=ae (.tup xs)->bZ P H xs ds->Rep P H (.ref a) (.tup ds)
 |lst {a:am} {xs:aa V} {ds:aa D}:H a=ae (.lst xs)->P a->bZ P H xs ds->Rep P H (.ref a) (.lst ds)
 |cel {a:am} {xs:aa V} {ds:aa D}:H a=ae (.lst xs)->P a->bZ P H xs ds->Rep P H (.ref a) (.cel a ds)
 |frz {a:am} {xs:aa V} {ds:aa D}:aEn H a xs->bZ P H xs ds->Rep P H (.ref a) (.scr ds)
 |dK {a:am} {kvs:aa (Key×V)} {ds:aa (D×D)}:H a=ae (.dK kvs)->P a->j5 P H kvs ds->(kvs.map (·.1)).Nodup->Rep P H (.ref a) (.dct ds)
 |dT {a:am} {kvs:aa (aa Key×V)} {ds:aa (D×D)}:H a=ae (.dT kvs)->P a->sZ P H kvs ds->(kvs.map (·.1)).Nodup->Rep P H (.ref a) (.dct ds)
 |fdK {a:am} {o:bg} {kvs:aa (Key×V)} {ds:aa (D×D)}:H a=ae (.frz o (.dK kvs))->j5 P H kvs ds->(kvs.map (·.1)).Nodup->Rep P H (.ref a) (.fdc ds)
 |fdT {a:am} {o:bg} {kvs:aa (aa Key×V)} {ds:aa (D×D)}:H a=ae (.frz o (.dT kvs))->sZ P H kvs ds->(kvs.map (·.1)).Nodup->Rep P H (.ref a) (.fdc ds)
 |exc {a C:am} {dx:aq am} {c:Str} {fs:aa (Str×Str)}:vq KFrag.K bi c=ae (ae (.ref C))->H a=ae (.ext (XO a C dx))->XDs H fs dx->Rep P H (.ref a) (.exc c fs)
 |ins {a C dx:am} {c:Str} {vs:aa (Str×V)} {fs:aa (Str×D)}:vq KFrag.K bi c=ae (ae (.ref C))->H a=ae (.ins C dx vs)->aE3 P H vs fs->Rep P H (.ref a) (.ins c fs)
 |adr {a:am}:Rep P H (.ref a) (.adr a)
 |dlK {a:am} {kvs:aa (Key×V)} {ds:aa (D×D)}:H a=ae (.dK kvs)->P a->j5 P H kvs ds->(kvs.map (·.1)).Nodup->Rep P H (.ref a) (.dcl a ds)
 |dlT {a:am} {kvs:aa (aa Key×V)} {ds:aa (D×D)}:H a=ae (.dT kvs)->P a->sZ P H kvs ds->(kvs.map (·.1)).Nodup->Rep P H (.ref a) (.dcl a ds)
inductive aE3(P:am->Prop)(H:Hp):aa (Str×V)->aa (Str×D)->Prop
 |nil:aE3 P H [] []
 |cons {f:Str} {v:V} {d:D} {r:aa (Str×V)} {ds:aa (Str×D)}:Rep P H v d->aE3 P H r ds->aE3 P H ((f,v)::r) ((f,d)::ds)
inductive bZ(P:am->Prop)(H:Hp):aa V->aa D->Prop
 |nil:bZ P H [] []
 |cons {v:V} {d:D} {vs:aa V} {ds:aa D}:Rep P H v d->bZ P H vs ds->bZ P H (v::vs) (d::ds)
inductive j5(P:am->Prop)(H:Hp):aa (Key×V)->aa (D×D)->Prop
 |nil:j5 P H [] []
 |cons {k:Key} {v:V} {d:D} {r:aa (Key×V)} {ds:aa (D×D)}:Rep P H v d->j5 P H r ds->j5 P H ((k,v)::r) ((kD k,d)::ds)
inductive sZ(P:am->Prop)(H:Hp):aa (aa Key×V)->aa (D×D)->Prop
 |nil:sZ P H [] []
 |cons {k:aa Key} {v:V} {d:D} {r:aa (aa Key×V)} {ds:aa (D×D)}:Rep P H v d->sZ P H r ds->sZ P H ((k,v)::r) ((.tup (k.map kD),d)::ds)
end
def G9(P:am->Prop)(H H':Hp):Prop:=∀a o,H a=ae o->(P a\/Y8 o=ai)->H' a=ae o
theorem G9.same(h:cZ H H'):G9 P H H':=λa o e _=>h a o e
theorem XDs.keep{P:am->Prop}{H H':Hp}(k:G9 P H H')(q:XDs H fs dx):XDs H' fs dx:=by
 cases dx with
 |none=>exact q
 |some _=>exact k _ _ q (.inr rfl)
mutual
theorem Rep.gF{P P':am->Prop}{H H':Hp}(k:G9 P H H')(m:∀a o,H a=ae o->P a->P' a){v:V}{d:D}(q:Rep P H v d):Rep P' H' v d:=by
 cases q with
 |non=>exact .non
 |bl b=>exact .bl b
 |int i=>exact .int i
 |str x=>exact .str x
 |tup e r=>exact .tup (k _ _ e (.inr rfl)) (bZ.gF k m r)
 |lst e p r=>exact .lst (k _ _ e (.inl p)) (m _ _ e p) (bZ.gF k m r)
 |cel e p r=>exact .cel (k _ _ e (.inl p)) (m _ _ e p) (bZ.gF k m r)
 |frz e r=>exact .frz (e.imp (λz=>z.imp λo e=>k _ _ e (.inr rfl)) id) (bZ.gF k m r)
 |dK e p r n=>exact .dK (k _ _ e (.inl p)) (m _ _ e p) (j5.gF k m r) n
 |dT e p r n=>exact .dT (k _ _ e (.inl p)) (m _ _ e p) (sZ.gF k m r) n
 |fdK e r n=>exact .fdK (k _ _ e (.inr rfl)) (j5.gF k m r) n
 |fdT e r n=>exact .fdT (k _ _ e (.inr rfl)) (sZ.gF k m r) n
 |exc n e q=>exact .exc n (k _ _ e (.inr rfl)) (XDs.keep k q)
 |ins n e r=>exact .ins n (k _ _ e (.inr rfl)) (aE3.gF k m r)
 |adr=>exact .adr
 |dlK e p r n=>exact .dlK (k _ _ e (.inl p)) (m _ _ e p) (j5.gF k m r) n
 |dlT e p r n=>exact .dlT (k _ _ e (.inl p)) (m _ _ e p) (sZ.gF k m r) n
theorem bZ.gF{P P':am->Prop}{H H':Hp}(k:G9 P H H')(m:∀a o,H a=ae o->P a->P' a){v:aa V}{d:aa D}(q:bZ P H v d):bZ P' H' v d:=by
 cases q with
 |nil=>exact .nil
 |cons r t=>exact .cons (Rep.gF k m r) (bZ.gF k m t)
theorem aE3.gF{P P':am->Prop}{H H':Hp}(k:G9 P H H')(m:∀a o,H a=ae o->P a->P' a){v:aa (Str×V)}{d:aa (Str×D)}(q:aE3 P H v d):aE3 P' H' v d:=by
 cases q with
 |nil=>exact .nil
 |cons r t=>exact .cons (Rep.gF k m r) (aE3.gF k m t)
theorem j5.gF{P P':am->Prop}{H H':Hp}(k:G9 P H H')(m:∀a o,H a=ae o->P a->P' a){v:aa (Key×V)}{d:aa (D×D)}(q:j5 P H v d):j5 P' H' v d:=by
 cases q with
 |nil=>exact .nil
 |cons r t=>exact .cons (Rep.gF k m r) (j5.gF k m t)
theorem sZ.gF{P P':am->Prop}{H H':Hp}(k:G9 P H H')(m:∀a o,H a=ae o->P a->P' a){v:aa (aa Key×V)}{d:aa (D×D)}(q:sZ P H v d):sZ P' H' v d:=by
 cases q with
 |nil=>exact .nil
 |cons r t=>exact .cons (Rep.gF k m r) (sZ.gF k m t)
end
theorem Rep.keep(k:G9 P H H')(m:∀a,P a->P' a)(q:Rep P H v d):Rep P' H' v d:=q.gF k λa _ _=>m a
theorem bZ.keep(k:G9 P H H')(m:∀a,P a->P' a)(q:bZ P H v d):bZ P' H' v d:=q.gF k λa _ _=>m a
theorem j5.keep(k:G9 P H H')(m:∀a,P a->P' a)(q:j5 P H v d):j5 P' H' v d:=q.gF k λa _ _=>m a
theorem sZ.keep(k:G9 P H H')(m:∀a,P a->P' a)(q:sZ P H v d):sZ P' H' v d:=q.gF k λa _ _=>m a
theorem Rep.mono(r:Rep P H v d)(m:∀a,P a->P' a):Rep P' H v d:=r.keep (λ_ _ e _=>e) m
theorem bZ.mono(r:bZ P H v d)(m:∀a,P a->P' a):bZ P' H v d:=r.keep (λ_ _ e _=>e) m
theorem Rep.same(r:Rep P H v d)(s:cZ H H'):Rep P H' v d:=r.keep (.same s) λ_ h=>h
theorem bZ.same(r:bZ P H v d)(s:cZ H H'):bZ P H' v d:=r.keep (.same s) λ_ h=>h
noncomputable def aE4:HO->au
 |.tup _=>ai
 |.frz _ (.lst _)=>ai
 |_=>af
mutual
theorem Rep.G_{P P':am->Prop}{H H':Hp}(k:∀a o,H a=ae o->aE4 o=ai->H' a=ae o){v:V}{d:D}(q:Rep P H v d)(h:d.pure=af):Rep P' H' v d:=by
 cases q with
 |non=>exact .non
 |bl b=>exact .bl b
 |int i=>exact .int i
 |str x=>exact .str x
 |tup e r=>exact .tup (k _ _ e rfl) (bZ.G_ k r h)
 |frz e r=>exact .frz (e.imp (λz=>z.imp λo e=>k _ _ e rfl) id) (bZ.G_ k r h)
 |_=>exact fx0 h
theorem bZ.G_{P P':am->Prop}{H H':Hp}(k:∀a o,H a=ae o->aE4 o=ai->H' a=ae o){v:aa V}{d:aa D}(q:bZ P H v d)(h:D.bD d=af):bZ P' H' v d:=by
 cases q with
 |nil=>exact .nil
 |cons r t=>
  rw[D.bD,bc] at h;exact .cons (Rep.G_ k r h.1) (bZ.G_ k t h.2)
end
theorem Rep.bT(r:Rep P H v d)(h:d.pure=af):Rep P' H v d:=r.G_ (λ_ _ e _=>e) h
theorem bZ.bT(r:bZ P H v d)(h:D.bD d=af):bZ P' H v d:=r.G_ (λ_ _ e _=>e) h
theorem bZ.length:∀{v:aa V}{d:aa D},bZ P H v d->v.length=d.length
 |_,_,.nil=>rfl
 |_,_,.cons _ t=>by rw[aS,aS,bZ.length t]
theorem bZ.get:∀{vs:aa V}{ds:aa D}{i:ag}{d:D},bZ P H vs ds->ds[i]?=ae d->∃v,vs[i]?=ae v/\Rep P H v d
 |_,_,_,_,.nil,e=>by simp at e
 |_,_,0,_,.cons r _,e=>by simp at e;subst e;exact⟨_,rfl,r⟩
 |_,_,i+1,d,.cons _ t,e=>by
  obtain⟨v,h1,h2⟩:=bZ.get t (by simpa using e);exact⟨v,by simpa using h1,h2⟩
theorem bZ.at:∀{vs:aa V}{ds:aa D}{i:ag}{v:V},bZ P H vs ds->vs[i]?=ae v->∃d,ds[i]?=ae d/\Rep P H v d
 |_,_,_,_,.nil,e=>by simp at e
 |_,_,0,_,.cons r _,e=>by simp at e;subst e;exact⟨_,rfl,r⟩
 |_,_,i+1,d,.cons _ t,e=>by
  obtain⟨v,h1,h2⟩:=bZ.at t (by simpa using e);exact⟨v,by simpa using h1,h2⟩
theorem bZ.append:∀{vs ws:aa V}{ds es:aa D},bZ P H vs ds->bZ P H ws es->bZ P H (vs++ws) (ds++es)
 |_,_,_,_,.nil,s=>s
 |_,_,_,_,.cons r t,s=>.cons r (bZ.append t s)
theorem bZ.take:∀{vs:aa V}{ds:aa D}(n:ag),bZ P H vs ds->bZ P H (vs.take n) (ds.take n)
 |_,_,0,_=>.nil
 |_,_,_+1,.nil=>.nil
 |_,_,n+1,.cons r t=>.cons r (bZ.take n t)
theorem bZ.drop:∀{vs:aa V}{ds:aa D}(n:ag),bZ P H vs ds->bZ P H (vs.drop n) (ds.drop n)
 |_,_,0,r=>r
 |_,_,_+1,.nil=>.nil
 |_,_,n+1,.cons _ t=>bZ.drop n t
theorem bZ.snoc(t:bZ P H vs ds)(r:Rep P H v d):bZ P H (vs++[v]) (ds++[d]):=t.append (.cons r .nil)
theorem Rep.uD:¬Rep P H v .uD:=λh=>by cases h
abbrev All:am->Prop:=λ_=>gN
abbrev New(H:Hp):am->Prop:=λa=>H a=aj
theorem Rep.all(r:Rep P H v d):Rep All H v d:=r.mono λ_ _=>trivial
theorem bZ.all(r:bZ P H v d):bZ All H v d:=r.mono λ_ _=>trivial
theorem cZ.new(s:cZ H H'):∀a,New H' a->New H a:=λa h=>s.free h
theorem cZ.upd(h:H a=aj):cZ H (upd H a o):=λb u e=>by rw[bF (cD e h)];exact e
def ER(H:Hp)(σ:St)(ρ:aa D):Prop:=∀i,ρ.getD i .uD≠.uD->∃v,σ[i]?=ae (ae v)/\Rep All H v (ρ.getD i .uD)
theorem ER.same(e:ER H σ ρ)(s:cZ H H'):ER H' σ ρ:=λi h=>by
 obtain⟨v,h1,h2⟩:=e i h;exact⟨v,h1,h2.same s⟩
theorem PE.imp(h:PE X e t)(i:∀σ H Q,t' σ H Q->t σ H Q):PE X e t':=λΨ s σ H Q I q=>h Ψ s σ H Q I (i σ H Q q)
theorem PT.imp(h:PT X e t)(i:∀σ H Q,t' σ H Q->t σ H Q):PT X e t':=λΨ s σ H Q I q=>h Ψ s σ H Q I (i σ H Q q)
theorem PA.imp(h:PA X e t)(i:∀σ H Q,t' σ H Q->t σ H Q):PA X e t':=λpos Ψ s σ H Q I q=>h pos Ψ s σ H Q I (i σ H Q q)
theorem Rep.dom(r:Rep P H v d):Rep (λa=>P a/\H a≠aj) H v d:=r.gF (λ_ _ e _=>e) λa o e p=>⟨p,by rw[e];simp⟩
theorem Rep.aEo(r:Rep P H v d)(k:G9 P H H')(m:∀a o,H a=ae o->P a->P' a):Rep P' H' v d:=r.gF k m
def aRm(P:am->Prop)(H:Hp)(v:V):D->Prop
 |.non=>v=.non
 |.bl b=>v=.bl b
 |.int i=>v=.int i
 |.str x=>v=.str x
 |.tup ds=>∃a xs,v=.ref a/\H a=ae (.tup xs)/\bZ P H xs ds
 |.lst ds=>∃a xs,v=.ref a/\H a=ae (.lst xs)/\P a/\bZ P H xs ds
 |.cel b ds=>∃xs,v=.ref b/\H b=ae (.lst xs)/\P b/\bZ P H xs ds
 |.scr ds=>∃a xs,v=.ref a/\aEn H a xs/\bZ P H xs ds
 |.ins c fs=>∃a C dx vs,v=.ref a/\vq KFrag.K bi c=ae (ae (.ref C))/\H a=ae (.ins C dx vs)/\aE3 P H vs fs
 |.exc c fs=>∃a C dx,v=.ref a/\vq KFrag.K bi c=ae (ae (.ref C))/\H a=ae (.ext (XO a C dx))/\XDs H fs dx
 |.uD=>cg
 |.adr b=>v=.ref b
 |.dcl b ds=>v=.ref b/\Rep P H v (.dct ds)
 |_=>gN
theorem Rep.inv(r:Rep P H v d):aRm P H v d:=by
 cases r with
 |non=>rfl
 |bl=>rfl
 |int=>rfl
 |str=>rfl
 |tup e r=>exact⟨_,_,rfl,e,r⟩
 |lst e p r=>exact⟨_,_,rfl,e,p,r⟩
 |cel e p r=>exact⟨_,rfl,e,p,r⟩
 |frz e r=>exact⟨_,_,rfl,e,r⟩
 |ins n e r=>exact⟨_,_,_,_,rfl,n,e,r⟩
 |exc n e r=>exact⟨_,_,_,rfl,n,e,r⟩
 |adr=>rfl
 |dlK e p r n=>exact⟨rfl,.dK e p r n⟩
 |dlT e p r n=>exact⟨rfl,.dT e p r n⟩
 |_=>trivial
end Mi
open Mi.D renaming str->δ,int->ε,bD->ι,pure->μ,tup->ν,eZ->ο,plain->π,bl->υ
open Mi.Res renaming ok->τ,bA->θ,ofOpt->ξ
namespace L2
open PySem PySem.Spec PyProof.Rows
noncomputable def gU(own:aa Str)(x:Str):Str:=if own.contains x then x++(" " : Str) else x
def clF(env:cv):aa (Str×iE)->aa (Str×am)->aa (Str×am)
 |[],acc=>acc
 | (n,k)::r,acc=>clF env r (if k==.free then (n,(env.cells.lookup n).getD 0)::acc else acc)
theorem vW:∀(names:aa (Str×iE))(acc:aa (Str×am)),(∀y∈names,y.2=.free->∃c,env.cells.lookup y.1=ae c)->
  (forIn names acc λx cs=>(match x with
   | (name,kind)=>if (kind==.free)=af then cellOf env name >>= λc=>pure (B8 ((name,c)::cs)) else pure (B8 cs):Sem (ForInStep (aa (Str×am)))))=(pure (clF env names acc):Sem _)
 |[],acc,_=>by rw[k6];rfl
 | (n,k)::r,acc,h=>by
  rw[om];by_cases hk:(k==.free)=af
  ·have hk':k=.free:=by simpa using hk
   obtain⟨c,e⟩:=h (n,k) (bo ..) hk';have e':cellOf env n=pure c:=by
    unfold cellOf;have e2:env.cells.lookup n=ae c:=e;rw[e2]
   dsimp only;rw[av hk,e',pure_bind,pure_bind];dsimp only;rw[vW r _ λy hy=>h y (bw _ hy)];have e2:env.cells.lookup n=ae c:=e;simp only[clF,hk,eI,e2,B9]
  ·dsimp only;rw[ax hk,pure_bind];dsimp only;rw[vW r _ λy hy=>h y (bw _ hy)];simp only[clF,hk,iL,fF]
theorem Y9(h:∀y∈scope.names,y.2=.free->∃c,env.cells.lookup y.1=ae c):closureFor scope env=pure (clF env scope.names []):=by
 unfold closureFor;have:=vW scope.names [] h;simp only[bind_pure] at *;exact this
theorem R3:∀{names:aa (Str×iE)}{acc:aa (Str×am)}{x:Str}{c:am},(∀y∈names,y.2=.free->∃c,env.cells.lookup y.1=ae c)->(∀x c,acc.lookup x=ae c->env.cells.lookup x=ae c)->
  (clF env names acc).lookup x=ae c->env.cells.lookup x=ae c
 |[],acc,x,c,_,h,e=>h x c e
 | (n,k)::r,acc,x,c,q,h,e=>by
  unfold clF at e;refine R3 (λy hy=>q y (bw _ hy)) (λy d hy=>?_) e;by_cases hk:(k==.free)=af
  ·rw[av hk,iw] at hy;obtain⟨c',e'⟩:=q (n,k) (bo ..) (by simpa using hk);have e2:env.cells.lookup n=ae c':=e';cases hyn:y==n with
   |true=>
    rw[hyn] at hy;have:y=n:=by simpa using hyn
    subst this;rw[e2] at hy;simp only[B9] at hy;rw[e2];exact hy
   |false=>rw[hyn] at hy;exact h y d hy
  ·rw[ax hk] at hy;exact h y d hy
theorem aB7:∀{names:aa (Str×iE)}{acc:aa (Str×am)}{x:Str},(∃c,acc.lookup x=ae c)->∃c,(clF env names acc).lookup x=ae c
 |[],_,_,h=>h
 | (n,k)::r,acc,x,⟨c,h⟩=>by
  unfold clF;refine aB7 ?_;by_cases hk:(k==.free)=af
  ·rw[av hk,iw];cases x==n with
   |true=>exact⟨_,rfl⟩
   |false=>exact⟨c,h⟩
  ·rw[ax hk];exact⟨c,h⟩
theorem R4:∀{names:aa (Str×iE)}{acc:aa (Str×am)}{x:Str},(x,kf)∈names->∃c,(clF env names acc).lookup x=ae c
 | (n,k)::r,acc,x,h=>by
  unfold clF;rcases bP.mp h with e|h
  ·cases e;refine aB7 ?_;rw[av 0x4,iw];simp
  ·exact R4 h
structure c7(N:aa Str)(sc scope:dL)(own:aa Str):Prop where
 kind:scope.kind=.function
 nocell:∀y∈scope.names,y.2≠.cell
 names:∀y∈scope.names,y.2=.local->scope.names.lookup y.1=ae .local
 free:∀y∈scope.names,y.2=.free->sc.names.lookup y.1=ae .cell\/sc.names.lookup y.1=ae .free
 ownl:∀x∈own,scope.names.lookup x=ae .local
 hid:∀x∈own,scope.names.lookup (x++(" " : Str))=aj
 loc:∀y∈scope.names,y.2=.local->y.1∈own\/y.1∉N
structure dW(X X':Cx)(scope:dL)(own:aa Str):Prop where
 prog:X'.prog=X.prog
 w:X'.w=X.w
 K:X'.K=X.K
 mg:X'.mg=X.mg
 base:X'.base=X.base
 A:X'.A=X.A
 N:X'.N=X.N.map (gU own)++own
 scope:X'.env.scope=iN scope X.env
 calm:X'.calm=X.calm
 xe:X'.xe=λ_ _=>cg
def VP(X:Cx)(scope:dL)(cl:aa (Str×am))(C:am)(own:aa Str)(s₂:ar)(H₂:Hp)(fp:aa am):Cx:=
 {X with N:=X.N.map (gU own)++own,s₀:=s₂,H₀:=H₂,env:=compEnvC scope cl C X.env,outer:=X.stack,stack:=X.stack,ex:=fp,fn:=λ_=>ai,pn:=[],xe:=λ_ _=>cg}
theorem aB8:dW X (VP X scope cl C own s₂ H₂ fp) scope own:=
 ⟨rfl,rfl,rfl,rfl,rfl,rfl,rfl,rfl,rfl,rfl⟩
def Ext(σ σ2:St):Prop:=σ2.length=σ.length/\∀(i:ag) v,σ[i]?=ae (ae v)->σ2[i]?=ae (ae v)
def R5(wi:TI)(g:TG)(tc:TT)(te:TE)(m:ag):TE:=λσ H Q=>wi σ H λJ H1=>∀p,H1 p=aj->
 ∃W:ag->ag->aa V->Hp->Prop,(∃n,W 0 n [] (upd H1 p (.lst [])))/\∀i n ys H,W i n ys H->H p=ae (.lst ys)/\((J.stop i H/\Q (.ref p) H)\/(J.go i H/\ys.length<aT/\
  ∀x H2,J.yld i H x H2->g x (σ++b9 m aj) H2 λσ2 H3=>Ext (σ++b9 m aj) σ2/\tc σ2 H3 λb H4=>if b=af then te σ2 H4 λy H5=>H5 p=ae (.lst ys)/\∃n',n'<n/\W (i+1) n' (ys++[y]) (upd H5 p (.lst (ys++[y])))
   else ∃n',n'<n/\W (i+1) n' ys H4))
section
theorem Inv.comp(I:Inv X Ψ σ H2 s2)(S:c7 X.N X.env.scope scope own)(hf:∀b∈fp,aA3 X Ψ H2 b)
 (hfx:∀b∈fp,b<s2.heap.objs.size)(hns:h1.Ns (s2.heap.objs.size+1) (λ_=>aj))
 (hk:∀b o,s2.heap.get? b=ae o->h1.get? b=ae o)(hacc:h1.get? s2.heap.objs.size=ae {cls:=.type "list",data:=.seq #[]}) :
  Inv (VP X scope (clF X.env scope.names []) (s2.heap.objs.size+1) own s2 H2 fp) [] (σ++b9 own.length aj) (upd H2 s2.heap.objs.size (.lst [])) {s2 with heap:=h1,toks:=t1}:=by
 have hD:H2 s2.heap.objs.size=aj:=I.hok.fresh (ba _);have hC:H2 (s2.heap.objs.size+1)=aj:=I.hok.fresh (iu _);have cells:∀y∈scope.names,y.2=.free->∃c,X.env.cells.lookup y.1=ae c:=λy hy hk=>I.ok.has y.1 (S.free y hy hk)
 have sub:∀x c,(clF X.env scope.names []).lookup x=ae c->X.env.cells.lookup x=ae c:=λx c e=>R3 cells (λ_ _ h=>by simp at h) e
 have relk:∀x,(iN scope X.env).names.lookup x=ae .cell\/(iN scope X.env).names.lookup x=ae .free->(x,kf)∈scope.names:=by
  intro x hx;have go:∀(l:aa (Str×iE)),(∀y∈l,y.2≠.cell)->((l.map λ(n,k)=>if (k==kf&&X.env.scope.kind==.function&&X.env.kindOf n==ae .cell) then (n,zq) else (n,k)).lookup x=ae .cell\/(l.map λ(n,k)=>if (k==kf&&X.env.scope.kind==.function&&X.env.kindOf n==ae .cell) then (n,zq) else (n,k)).lookup x=ae .free)->(x,kf)∈l:=by
   intro l;induction l with
   |nil=>intro _ h;rcases h with h|h<;>simp at h
   |cons p l ih=>
    obtain⟨n,k⟩:=p;intro nc h;rw[bu] at h;dsimp only at h;by_cases hc:(k==kf&&X.env.scope.kind==.function&&X.env.kindOf n==ae .cell)=af
    ·rw[av hc] at h;rw[iw] at h;cases e:x==n with
     |true=>
      have:x=n:=by simpa using e
      subst this;simp only[bc] at hc;have:k=.free:=by simpa using hc.1.1
      subst this;exact bo ..
     |false=>
      rw[e] at h;exact bw _ (ih (λy hy=>nc y (bw _ hy)) h)
    ·rw[ax hc] at h;rw[iw] at h;cases e:x==n with
     |true=>
      have:x=n:=by simpa using e
      subst this;rw[e] at h;dsimp only at h;rcases h with h|h
      ·exact bf (c9 h) (nc (x,k) (bo ..))
      ·have:=c9 h;subst this;exact bo ..
     |false=>
      rw[e] at h;exact bw _ (ih (λy hy=>nc y (bw _ hy)) h)
  exact go scope.names S.nocell hx
 have hne:s2.heap.objs.size≠s2.heap.objs.size+1:=cu (oq _);have hlt:∀b o,s2.heap.get? b=ae o->b<s2.heap.objs.size:=λb o e=>bn e
 have hstk:∀b∈frs X.stack,b<s2.heap.objs.size:=λb hb=>by
  obtain⟨_,o,ho,_⟩:=I.stack.mem hb;exact hlt b o ho
 refine⟨⟨I.mod,?_,I.ok.glob,I.ok.blt,iu _,λx y c e1 e2=>I.ok.inj x y c (sub x c e1) (sub y c e2),λx hx=>?_,λ_ _ h=>(by cases h),I.ok.hd,I.ok.frames,.inl rfl,λb hb=>?_,λb o e=>I.bs b o e,?_,λb o e hb=>?_,λb hb hz=>?_,I.stack,I.GP⟩,
  rfl,I.bare,Un.laid hk (ba _) hD,?_,λx c e=>?_,?_,λx c e=>?_,λp hp=>(by simp[VP] at hp),?_,?_⟩
 ·exact S.kind
 ·have hx':(iN scope X.env).names.lookup x=ae .cell\/(iN scope X.env).names.lookup x=ae .free:=hx;exact R4 (relk x hx')
 ·refine⟨cu (kh (hfx b hb)),λx c e z=>?_⟩;exact(hf b hb).2.2.2.2.1 x c (sub x c e) z
 ·exact dj I.ok.bsz I.sz
 ·rcases(hf b hb).2.2.2.1 with z|z
  ·exact I.ok.noex b o e z
  ·exact bf (c_ (bn e) (dj I.ok.bsz z)) (fR _)
 ·rcases bP.mp (I.U7 b hz) with z'|z'
  ·exact(hf b hb).2.1 z'
  ·exact(hf b hb).2.2.1 z'
 ·refine⟨_,hns,λi x v e1 e2 e3=>?_⟩;have hi:i<σ.length:=by
   rcases ou i σ.length with h|h
   ·exact h
   ·rw[hI h,kH] at e2;split at e2<;>cases e2
  rw[kK hi] at e2;have hiN:i<X.N.length:=by rw[<-I.len];exact hi
  have e1':(X.N.map (gU own))[i]?=ae x:=by
   have:(X.N.map (gU own)++own)[i]?=ae x:=e1;rwa [kK (by rw[az];exact hiN)] at this
  rw[io] at e1';obtain⟨y,hy,ey⟩:=mq.mp e1';have hyN:y∈X.N:=vd hy;have e3':(iN scope X.env).names.lookup x=ae .local\/(iN scope X.env).names.lookup x=ae .cell\/(iN scope X.env).names.lookup x=ae .free:=e3;have keys:∀z k,(iN scope X.env).names.lookup z=ae k->∃k',scope.names.lookup z=ae k'/\(k=.local->k'=.local):=by
   intro z k;show(scope.names.map λ(n,k)=>if (k==kf&&X.env.scope.kind==.function&&X.env.kindOf n==ae .cell) then (n,zq) else (n,k)).lookup z=ae k->_;generalize scope.names=l;induction l with
   |nil=>intro h;simp at h
   |cons p l ih=>
    obtain⟨n,k0⟩:=p;intro h;rw[bu] at h;dsimp only at h;by_cases hc:(k0==kf&&X.env.scope.kind==.function&&X.env.kindOf n==ae .cell)=af
    ·rw[av hc,iw] at h;rw[iw];cases e:z==n with
     |true=>
      rw[e] at h;dsimp only at h;cases h;exact⟨k0,rfl,λq=>by cases q⟩
     |false=>rw[e] at h;exact ih h
    ·rw[ax hc,iw] at h;rw[iw];cases e:z==n with
     |true=>
      rw[e] at h;dsimp only at h;cases h;exact⟨_,rfl,λq=>q⟩
     |false=>rw[e] at h;exact ih h
  by_cases hown:own.contains y=af
  ·exfalso;have ex:x=y++(" " : Str):=by rw[<-ey];unfold gU;rw[av hown]
   have hn:=S.hid y (by simpa using hown);rw[<-ex] at hn;rcases e3' with q|q|q
   all_goals
    obtain⟨k',hk',_⟩:=keys _ _ q;rw[hn] at hk';cases hk'
  ·have ex:x=y:=by rw[<-ey];unfold gU;rw[ax hown]
   subst ex;rcases e3' with q|q
   ·exfalso;obtain⟨k',hk',hl⟩:=keys _ _ q;have:=hl rfl;subst this;rcases S.loc _ (ma hk') rfl with z|z
    ·exact hown (by simpa using z)
    ·exact z hyN
   ·have hfr:=relk x q;have hv:=S.free _ hfr rfl;obtain⟨m,_,hl⟩:=I.loc;obtain⟨u,ru,lk⟩:=hl i x v hy e2 (.inr hv);refine⟨u,ru,.inr ⟨q,?_⟩⟩;rcases lk with ⟨z,_⟩|⟨_,c,hc,o,ho,hd⟩
    ·have z':X.env.scope.names.lookup x=ae .local:=z;rcases hv with hv|hv<;>(rw[z'] at hv;cases hv)
    ·obtain⟨c',hc'⟩:=R4 hfr;have:=sub x c' hc';rw[hc] at this;cases this;exact⟨c,hc',o,hk c o ho,hd⟩
 ·obtain⟨v,z⟩:=I.cell x c (sub x c e);obtain⟨o,ho,hd⟩:=z;exact⟨v,o,hk c o ho,hd⟩
 ·show upd H2 _ _ (s2.heap.objs.size+1)=aj;rw[bF (Ne.symm hne)];exact hC
 ·obtain⟨v,o,ho,_⟩:=I.cell x c (sub x c e);show upd H2 _ _ c=aj;rw[bF (cu (hlt c o ho))];exact I.freeC x c (sub x c e)
 ·exact I.hok.laid hk (ba _) ⟨cq _,[],0,.nil,hacc⟩
 ·show(σ++b9 own.length aj).length=(X.N.map (gU own)++own).length;rw[bp,bp,vf,az,I.len]
end
section
variable {X:Cx} {scope:dL} {own:aa Str}
def cI(X':Cx)(σ:St)(fp:aa am)(tn:ag->ay->Prop)(W:ag->ag->aa V->Hp->Prop)(n:ag)(s:ar):Prop:=∃i ys H',Inv X' [] σ H' s/\tn i s.heap/\(∀b∈fp,H' b=aj)/\W i n ys H'
abbrev cE(X X':Cx)(use:aq (ak->Sem Unit))(QQ:ak->ar->Prop)(p:am):ak->ar->Prop:=notedBy (aw X.prog X.w) X.A X'.env λe s'=>my (aw X.prog X.w) X.A X.xe use QQ (.ref p) (p+1) (.error e) s'
def cB(X':Cx)(σ:St)(fp:aa am)(tn:ag->ay->Prop)(W:ag->ag->aa V->Hp->Prop)(n i:ag)(h:ay):Prop:=∀{ys':aa V}{H9:Hp}{s9:ar}{σ9:St},Ext σ σ9->Inv X' ([]++yG fp h) σ9 H9 s9->(∃n',n'<n/\W (i+1) n' ys' H9)->∃m,m<n/\cI X' σ fp tn W m s9
theorem R6(S:c7 X.N X.env.scope scope own)(hcalm:X.calm=af)(hi:PI X tg iter wi)
 (hg:∀X',dW X X' scope own->PG X' tg g)(hc:(ifs=[]/\tc=λ_ H Q=>Q af H)\/∃c,ifs=[c]/\∀X',dW X X' scope own->PT X' c tc)(he:∀X',dW X X' scope own->PE X' elt te)
 (hs:∀x,e6 iter X.env x=pure x)(I:Inv X Ψ σ H s)(h:R5 wi g tc te own.length σ H R)
 (last:∀{p C:am} {H5:Hp} {s6:ar} {m6:Str->aq ak},Inv X Ψ σ H5 s6->aA3 X Ψ H5 C->s6.heap.Ns C m6->R (.ref p) H5->my (aw X.prog X.w) X.A X.xe use QQ (.ref p) C (.ok .next) s6) :
  ϑ (aw X.prog X.w) X.A (Ca (.ListComp elt [⟨tg,iter,ifs,0⟩] scope pos) scope X.env ps (zr []) ai (eval iter X.env) use) QQ X.xe s:=by
 have cells:∀y∈scope.names,y.2=.free->∃c,X.env.cells.lookup y.1=ae c:=λy hy hk=>I.ok.has y.1 (S.free y hy hk)
 refine wpAny_comprehension_free rfl hs (Y9 cells) S.kind S.names (thn (hi Ψ s σ H _ I h) λxv s1 h1=>thn h1 λitv s2 h2=>?_);obtain⟨it,fp,tn,J,H2,e,I2,T,st2,f2,hW⟩:=h2;subst e;have hD:H2 s2.heap.objs.size=aj:=I2.hok.fresh (ba _);obtain⟨W,⟨n0,w0⟩,turn⟩:=hW _ hD;have hfx:∀b∈fp,b<s2.heap.objs.size:=λb hb=>by
  obtain⟨o,ho,_⟩:=T.obj 0 _ st2 b hb;exact bn ho
 refine gu (wpAny_newFunctionEnv S.nocell (by intro y hy;simp at hy) (λh₁ hns₁ hsb₁=>?_) S.kind);dsimp only at hns₁ hsb₁ ⊢;have hC:(s2.heap.push {cls:=.type "list",dict:=aj,data:=.seq ([]:aa ak).toArray}).objs.size=s2.heap.objs.size+1:=eS ..;have hne:s2.heap.objs.size≠s2.heap.objs.size+1:=cu (oq _);rw[hC] at hns₁ hsb₁ ⊢;have old:∀b o,s2.heap.get? b=ae o->h₁.get? b=ae o:=λb o e=>hsb₁.extBut b o (cu (kh (bn e))) (br _ (br _ e))
 have hacc:h₁.get? s2.heap.objs.size=ae {cls:=.type "list",data:=.seq #[]}:=hsb₁.extBut _ _ hne (br _ (cx _ rfl));have I4:=Inv.comp (t1:=s2.toks+([]:aa (Str×ak)).length) I2 S f2 hfx hns₁ old hacc;generalize hX':VP X scope (clF X.env scope.names []) (s2.heap.objs.size+1) own s2 H2 fp=X' at I4;have cc:dW X X' scope own:=by rw[<-hX'];exact aB8
 have eenv:X'.env=compEnvC scope (clF X.env scope.names []) (s2.heap.objs.size+1) X.env:=by rw[<-hX'];rfl
 have eA:X'.A=X.A:=cc.A;have ep:X'.prog=X.prog:=cc.prog;have ew:X'.w=X.w:=cc.w;have efs:X'.fs=frs X.stack:=by rw[<-hX'];rfl
 have eex:X'.ex=fp:=by rw[<-hX'];rfl
 have es0:X'.s₀=s2:=by rw[<-hX'];rfl
 have eH0:X'.H₀=H2:=by rw[<-hX'];rfl
 have epn:X'.pn=[]:=by rw[<-hX'];rfl
 have eK:X'.K=X.K:=cc.K;have exe:=cc.xe;have ecalm:X'.calm=af:=cc.calm.trans hcalm
 -- the iterator's records within the block
 have fpok:∀{H':Hp},(∀b∈fp,H' b=aj)->∀b∈fp,aA3 X' [] H' b:=λ{H'} hn b hb=>by
  obtain⟨_,f1,f3,_,f5,_⟩:=f2 b hb;refine⟨hn b hb,?_,?_,.inl (by rw[eex];exact hb),λx c e=>?_,λp hp=>by rw[epn] at hp;simp at hp⟩
  ·rw[eenv];exact cu (kh (hfx b hb))
  ·rw[efs];intro z;rcases bP.mp (I2.U7 b z) with z|z
   ·exact f1 z
   ·exact f3 z
  ·rw[eenv] at e;exact f5 x c (R3 cells (λ_ _ h=>by simp at h) e)
 have st4:tn 0 h₁:=T.keep _ _ _ st2 λb _ o e=>old b o e
 have fr4:∀b∈fp,(upd H2 s2.heap.objs.size (.lst [])) b=aj:=λb hb=>by rw[bF (cu (hfx b hb))];exact(f2 b hb).1
 have loop:∀s4:ar,s4={s2 with heap:=h₁,toks:=s2.toks+([]:aa (Str×ak)).length}->
   codeAny (aw X.prog X.w) X.A (.compLoop (.ListComp elt [⟨tg,iter,ifs,0⟩] scope pos) 0 (.ref it) (.ref s2.heap.objs.size) X'.env)
    (my (aw X.prog X.w) X.A X.xe use QQ (.ref s2.heap.objs.size) (s2.heap.objs.size+1)) s4:=by
  rintro s4 rfl;have put:∀(n i:ag)(ys:aa V)(s7:ar)(σ8:St)(H8:Hp)(s8:ar),cB X' (σ++b9 own.length aj) fp tn W n i s7.heap->Inv X' ([]++yG fp s7.heap) σ8 H8 s8->Ext (σ++b9 own.length aj) σ8->ys.length<aT->(te σ8 H8 λy H5=>H5 s2.heap.objs.size=ae (.lst ys)/\∃n',n'<n/\W (i+1) n' (ys++[y]) (upd H5 s2.heap.objs.size (.lst (ys++[y]))))->
    ϑ (aw X.prog X.w) X.A (eval elt X'.env) (λx s₄=>ϑ (aw X.prog X.w) X.A (call (.builtin "list.append") [.ref s2.heap.objs.size,x]) (λ_ s₅=>∃m,m<n/\cI X' (σ++b9 own.length aj) fp tn W m s₅) (cE X X' use QQ s2.heap.objs.size) s₄) (cE X X' use QQ s2.heap.objs.size) s8:=by
   intro n i ys s7 σ8 H8 s8 back I8 ext8 hlen q8;have he':=he X' cc _ s8 _ H8 _ I8 q8;rw[ep,ew,eA,exe] at he';refine dA he' (λyv s10 ⟨y,H10,I10,r10,p10,q10⟩=>?_) λ_ _ z=>dg z
   have hm:=yJ _ s10 σ8 H10 (.ref s2.heap.objs.size) [y] (.ref s2.heap.objs.size) [yv] (λ_ H11=>∃n',n'<n/\W (i+1) n' (ys++[y]) H11) I10 rfl (.cons r10 .nil) ⟨s2.heap.objs.size,ys,y,rfl,rfl,p10,hlen,q10⟩;rw[ep,ew,eA,exe] at hm;exact dA hm (λ_ s11 ⟨_,H11,I11,_,q11⟩=>back ext8 I11 q11) λ_ _ z=>dg z
  have key:∀(PO:ag->ar->Prop),(∀(n i:ag)(ys:aa V)(s7:ar)(σ8:St)(H8:Hp)(s8:ar),cB X' (σ++b9 own.length aj) fp tn W n i s7.heap->Inv X' ([]++yG fp s7.heap) σ8 H8 s8->Ext (σ++b9 own.length aj) σ8->ys.length<aT->(tc σ8 H8 λb H4=>if b=af then te σ8 H4 λy H5=>H5 s2.heap.objs.size=ae (.lst ys)/\∃n',n'<n/\W (i+1) n' (ys++[y]) (upd H5 s2.heap.objs.size (.lst (ys++[y]))) else ∃n',n'<n/\W (i+1) n' ys H4)->PO n s8)->
    ∀n s5,(cI X' (σ++b9 own.length aj) fp tn W n s5)->ϑ (aw X.prog X.w) X.A (fz (.ref it)) (λr s₁=>match r with
     |none=>my (aw X.prog X.w) X.A X.xe use QQ (.ref s2.heap.objs.size) (s2.heap.objs.size+1) (.ok .next) s₁
     |some v=>ϑ (aw X.prog X.w) X.A (nV tg (.ref it) v) (λ_ s₀=>ϑ (aw X.prog X.w) X.A (kA tg X'.env v) (λ_ s₂=>PO n s₂) (cE X X' use QQ s2.heap.objs.size) s₀) (cE X X' use QQ s2.heap.objs.size) s₁) (cE X X' use QQ s2.heap.objs.size) s5:=by
   intro PO hPO;rintro n s5 ⟨i,ys,H5,I5,st5,fr5,w5⟩;obtain⟨hacc5,tr⟩:=turn i n ys H5 w5;rcases tr with ⟨stop,q⟩|⟨go,hlen,step⟩
   ·have done:=T.done X' ep ew eK ecalm i [] s5 _ H5 (cE X X' use QQ s2.heap.objs.size) I5 (fpok fr5) st5 stop;rw[eA] at done;refine thn done λr s6 ⟨hr,I6⟩=>?_
    subst hr;obtain⟨m6,hn6,_⟩:=id I6.loc;rw[eenv] at hn6;have u6:Un (frs X.stack) fp H2 H5 s2.heap s6.heap:=by
     have:=I6.base;rw[efs,eex,eH0,es0] at this;exact this
    have hCn:H5 (s2.heap.objs.size+1)=aj:=by
     have:=I6.free;rw[eenv] at this;exact this
    have hok6:HOk X.prog X.w H5 s6.heap:=by
     have:=I6.hok;rw[ep,ew] at this;exact this
    have hos:s6.os=s2.os:=by have:=I6.os;rw[es0] at this;exact this
    obtain⟨hh,gg,dd,tt,oo⟩:=s6;obtain rfl:oo=s2.os:=hos;have fin:=Inv.call (g':=gg) (d':=dd) (t':=tt) (ch:=fp) I2 u6 hok6 I6.bare λb hb=>⟨(f2 b hb).2.2.2.1,(f2 b hb).2.1,(f2 b hb).2.2.2.2.1,(f2 b hb).2.2.2.2.2⟩
    refine last fin ⟨hCn,gS (kh I2.lt),I2.aQi (iu _),.inr (dj I2.sz (iu _)),λx c e z=>?_,λp hp z=>?_⟩ hn6 q
    ·obtain⟨v,qq⟩:=I2.cell x c e;exact bf (kh qq.lt) (by rw[z];exact fR _)
    ·exact bf (kh (bn (I2.pin p hp).1)) (by rw[z];exact fR _)
   ·have item:=T.item X' ep ew eK ecalm i [] s5 _ H5 (cE X X' use QQ s2.heap.objs.size) I5 (fpok fr5) st5 go;rw[eA] at item;refine thn item λr s6 ⟨u,hr,h6⟩=>?_
    subst hr;refine thn h6 λ_ s7 ⟨x,H7,I7,r7,y7,st7,fr7⟩=>?_
    have I7':=I7.pinned (fpok fr7) (T.obj _ _ st7);have hg':=hg X' cc _ s7 _ H7 x u _ I7' r7 (step x H7 y7);rw[ep,ew,eA,exe] at hg';refine dA hg' (λ_ s8 ⟨σ8,H8,I8,ext8,q8⟩=>?_) λ_ _ z=>dg z
    have back:cB X' (σ++b9 own.length aj) fp tn W n i s7.heap:=by
     rintro ys' H9 s9 σ9 ex9 I9 ⟨n',hn',w9⟩;refine⟨n',hn',i+1,ys',H9,(I9.weak ex9.1.symm ex9.2).t_,T.keep _ _ _ st7 λb hb o e=>(I9.pin (b,o) (fA _ (fA _ (oK hb e)))).1,λb hb=>?_,w9⟩;obtain⟨o,e,d⟩:=T.obj _ _ st7 b hb;exact(I9.pin (b,o) (fA _ (fA _ (oK hb e)))).2.1
    exact hPO n i ys s7 σ8 H8 s8 back I8 ext8 hlen q8
  rcases hc with ⟨rfl,rfl⟩|⟨c,rfl,hc⟩
  ·refine PySem.W.kcp_loop _ (key _ λn i ys s7 σ8 H8 s8 back I8 ext8 hlen q8=>?_) n0 ⟨0,[],_,I4,st4,fr4,w0⟩;simp only[eI] at q8;exact put n i ys s7 σ8 H8 s8 back I8 ext8 hlen q8
  ·refine PySem.W.kct_loop _ (key _ λn i ys s7 σ8 H8 s8 back I8 ext8 hlen q8=>?_) n0 ⟨0,[],_,I4,st4,fr4,w0⟩;have hc':=hc X' cc _ s8 _ H8 _ I8 q8;rw[ep,ew,eA,exe] at hc';refine dA hc' (λb s9 ⟨H9,I9,q9⟩=>?_) λ_ _ z=>dg z
   cases b with
   |false=>
    simp only[iL,fF] at q9 ⊢;exact back ext8 I9 q9
   |true=>
    simp only[eI] at q9 ⊢;exact put n i ys s7 σ8 H9 s9 back I9 ext8 hlen q9
 have l4:=loop _ rfl;rw[eenv] at l4;exact codeAny_compStart_list l4 (T.self X.A 0 _ _ _ st4 l4)
theorem VR(f:Inv X Ψ σ H5 s6)(k:aA3 X Ψ H5 C)(n:s6.heap.Ns C m6)(q:Q (.ref p) H5):my (aw X.prog X.w) X.A X.xe aj (EP X Ψ σ Q) (.ref p) C (.ok .next) s6:=
 ⟨m6,n,λh' sb=>⟨.ref p,H5,Inv.turned f (λb o hb e=>sb.extBut b o hb e) k.1 k.2.1 k.2.2.2.1 k.2.2.2.2.1 k.2.2.2.2.2,rfl,q⟩⟩
theorem aB9(S:c7 X.N X.env.scope scope own)(hcalm:X.calm=af)(hi:PI X tg iter wi)
 (hg:∀X',dW X X' scope own->PG X' tg g)(hc:∀X',dW X X' scope own->PT X' c tc)(he:∀X',dW X X' scope own->PE X' elt te)
 (hs:∀x,e6 iter X.env x=pure x):PE X (.ListComp elt [⟨tg,iter,[c],0⟩] scope pos) (R5 wi g tc te own.length):=by
 intro Ψ s σ H Q I h;rw[Cb];exact R6 S hcalm hi hg (.inr ⟨c,rfl,hc⟩) he hs I h VR
theorem aEp(S:c7 X.N X.env.scope scope own)(hcalm:X.calm=af)(hi:PI X tg iter wi)
 (hg:∀X',dW X X' scope own->PG X' tg g)(he:∀X',dW X X' scope own->PE X' elt te)
 (hs:∀x,e6 iter X.env x=pure x):PE X (.ListComp elt [⟨tg,iter,[],0⟩] scope pos) (R5 wi g (λ_ H Q=>Q af H) te own.length):=by
 intro Ψ s σ H Q I h;rw[Cb];exact R6 S hcalm hi hg (.inl ⟨rfl,rfl⟩) he hs I h VR
end
end L2
namespace Mi
open PySem L2 PySem.SeqAt
section
variable [KFrag]
theorem iI(I:Inv X Ψ σ H s)(e:H a=ae (.tup xs)):∃its:aa ak,Vals xs its/\s.heap.IsTuple a its.toArray:=by
 obtain⟨_,its,r,p⟩:xs.length<=aT/\∃its:aa ak,Vals xs its/\j7 s.heap a its.toArray:=I.hok a _ e;exact⟨its,r,p.tup⟩
theorem uZ(I:Inv X Ψ σ H s)(e:SqL X.K H a xs):∃its:aa ak,Vals xs its/\s.heap.IsList a its.toArray:=by
 obtain⟨its,r,p,_⟩:=I.list e;exact⟨its,r,p.isList⟩
theorem Rep.mK(r:Rep P H v (.lst ds)):∃a xs,v=.ref a/\SqL K H a xs/\bZ P H xs ds:=by
 obtain⟨_,_,rfl,e,p,r⟩:=r.inv;exact⟨_,_,rfl,.inl (.inl e),r⟩
theorem Rep.fK(r:Rep P H v (.tup ds)):∃a xs,v=.ref a/\H a=ae (.tup xs)/\bZ P H xs ds:=by
 obtain⟨_,_,rfl,e,r⟩:=r.inv;exact⟨_,_,rfl,e,r⟩
mutual
theorem HB:∀(n:ag)(d:D),d.gB n=af->eqD d d=af
 |_,.non,_=>rfl
 |_,.bl b,_=>by exact fI b
 |_,.int i,_=>by exact fI i
 |_,.str x,_=>by exact fI x
 |n+1,.tup xs,h=>by exact yQ n xs h
 |n+1,.lst xs,h=>by exact yQ n xs h
 |0,.tup xs,h=>by exact fx0 h
 |0,.lst xs,h=>by exact fx0 h
 |n,.dct _,h=>by cases n<;>exact fx0 h
 |n,.uD,h=>by cases n<;>exact fx0 h
 |n,.scr _,h=>by cases n<;>exact fx0 h
 |n,.fdc _,h=>by cases n<;>exact fx0 h
 |n,.exc _ _,h=>by cases n<;>exact fx0 h
 |n,.ins _ _,h=>by cases n<;>exact fx0 h
 |n,.adr _,h=>by cases n<;>exact fx0 h
 |n,.dcl _ _,h=>by cases n<;>exact fx0 h
 |n,.cel _ _,h=>by cases n<;>exact fx0 h
theorem yQ:∀(n:ag)(ds:aa D),ο n ds=af->yM ds ds=af
 |_,[],_=>rfl
 |n,d::ds,h=>by
  rw[ο,bc] at h;rw[yM,HB n d h.1,yQ n ds h.2];rfl
end
theorem bZ.aQn{n:ag}{P P':am->Prop}{H:Hp}(ih:∀{v:V} {d e:D},d.gB n=af->e.gB n=af->Rep P H v d->Rep P' H v e->d=e){vs:aa V}:∀{ds es:aa D},ο n ds=af->ο n es=af->bZ P H vs ds->bZ P' H vs es->ds=es:=by
 induction vs with
 |nil=>intro ds es h h' r q;cases r;cases q;rfl
 |cons v vs ih2=>
  intro ds es h h' r q;cases r with
  |cons r t=>
   cases q with
   |cons r' t'=>
    rw[ο,bc] at h h';rw[ih h.1 h'.1 r r',ih2 h.2 h'.2 t t']
theorem Rep.inj{P P':am->Prop}{H:Hp}(n:ag):∀{v:V}{d e:D},d.gB n=af->e.gB n=af->Rep P H v d->Rep P' H v e->d=e:=by
 induction n with
 |zero=>
  intro v d e h h' r q;cases d with
  |non=>obtain rfl:=r.inv;cases q;rfl
  |bl b=>obtain rfl:=r.inv;cases q;rfl
  |int i=>obtain rfl:=r.inv;cases q;rfl
  |str x=>obtain rfl:=r.inv;cases q;rfl
  |_=>exact fx0 h
 |succ n ih=>
  intro v d e h h' r q;cases d with
  |non=>obtain rfl:=r.inv;cases q;rfl
  |bl b=>obtain rfl:=r.inv;cases q;rfl
  |int i=>obtain rfl:=r.inv;cases q;rfl
  |str x=>obtain rfl:=r.inv;cases q;rfl
  |tup ds=>
   obtain⟨a,xs,rfl,e1,r1⟩:=r.inv;cases q with
   |tup e2 r2=>
    rw[e1] at e2;cases e2;rw[bZ.aQn ih h h' r1 r2]
   |lst e2 _ _=>rw[e1] at e2;cases e2
   |dK e2 _ _ _=>rw[e1] at e2;cases e2
   |dT e2 _ _ _=>rw[e1] at e2;cases e2
   |_=>exact fx0 h'
  |lst ds=>
   obtain⟨a,xs,rfl,e1,_,r1⟩:=r.inv;cases q with
   |tup e2 r2=>rw[e1] at e2;cases e2
   |lst e2 _ r2=>
    rw[e1] at e2;cases e2;rw[bZ.aQn ih h h' r1 r2]
   |dK e2 _ _ _=>rw[e1] at e2;cases e2
   |dT e2 _ _ _=>rw[e1] at e2;cases e2
   |_=>exact fx0 h'
  |_=>exact fx0 h
theorem vX:∀(xs ys:aa D),yM xs ys=((bz (min xs.length ys.length)).all (λj=>eqD (xs.getD j .non) (ys.getD j .non))&&xs.length==ys.length)
 |[],[]=>by simp[yM]
 |[],y::ys=>by simp[yM]
 |x::xs,[]=>by simp[yM]
 |x::xs,y::ys=>by
  have e:min (x::xs).length (y::ys).length=min xs.length ys.length+1:=by simp only[aS];lia
  rw[yM,vX xs ys,e,Cc,ki,List.all_map,Cd]
  congr 1
  simp[zt]
theorem iJ:∀{ds:aa D}{j:ag},ο n ds=af->j<ds.length->(ds.getD j .non).gB n=af
 |[],j,_,h=>by simp at h
 |d::ds,0,h,_=>by rw[ο,bc] at h;exact h.1
 |d::ds,j+1,h,hj=>by
  rw[ο,bc] at h;simpa using iJ h.2 (by simpa using hj)
theorem bZ.getD(r:bZ P H vs ds)(hj:j<ds.length):∃v,vs[j]?=ae v/\Rep P H v (ds.getD j .non):=by
 obtain⟨v,h1,h2⟩:=r.get (i:=j) (d:=ds.getD j .non) (by simp[hj]);exact⟨v,h1,h2⟩
section
theorem yR(ha:a.gB 0=af)(hb:b.gB 0=af)(rx:Rep All H x a)(ry:Rep All H y b)(ru:RelV x u)(rv:RelV y v):RcAt A s u v (eqD a b)/\RcNeAt A s u v (!eqD a b)/\EqAt A s u v (eqD a b):=by
 cases rx with
 |non=>
  cases ru;cases ry with
  |non=>cases rv;exact⟨RcAt.none_none,RcNeAt.none_none,zu _⟩
  |bl _=>cases rv;exact⟨RcAt.none_bool _,RcNeAt.none_bool _,EqAt.none_bool _⟩
  |int _=>obtain⟨t,rfl⟩:=rv;exact⟨RcAt.none_int _ _,RcNeAt.none_int _ _,EqAt.none_int _ _⟩
  |str _=>obtain⟨t,rfl⟩:=rv;exact⟨RcAt.none_str _ _,RcNeAt.none_str _ _,EqAt.none_str _ _⟩
  |_=>exact fx0 hb
 |bl _=>
  cases ru;cases ry with
  |non=>cases rv;exact⟨RcAt.bool_none _,RcNeAt.bool_none _,EqAt.bool_none _⟩
  |bl _=>cases rv;exact⟨RcAt.bool_bool _ _,RcNeAt.bool_bool _ _,EqAt.bool_bool _ _⟩
  |int _=>obtain⟨t,rfl⟩:=rv;exact⟨RcAt.bool_int _ _ _,RcNeAt.bool_int _ _ _,EqAt.bool_int _ _ _⟩
  |str _=>obtain⟨t,rfl⟩:=rv;exact⟨RcAt.bool_str _ _ _,RcNeAt.bool_str _ _ _,EqAt.bool_str _ _ _⟩
  |_=>exact fx0 hb
 |int _=>
  obtain⟨t,rfl⟩:=ru;cases ry with
  |non=>cases rv;exact⟨RcAt.int_none _ _,RcNeAt.int_none _ _,EqAt.int_none _ _⟩
  |bl _=>cases rv;exact⟨RcAt.int_bool _ _ _,RcNeAt.int_bool _ _ _,EqAt.int_bool _ _ _⟩
  |int _=>obtain⟨t',rfl⟩:=rv;exact⟨RcAt.int_int _ _ _ _,RcNeAt.int_int _ _ _ _,EqAt.int_int _ _ _ _⟩
  |str _=>obtain⟨t',rfl⟩:=rv;exact⟨RcAt.int_str _ _ _ _,RcNeAt.int_str _ _ _ _,A3 _ _ _ _⟩
  |_=>exact fx0 hb
 |str _=>
  obtain⟨t,rfl⟩:=ru;cases ry with
  |non=>cases rv;exact⟨RcAt.str_none _ _,RcNeAt.str_none _ _,EqAt.str_none _ _⟩
  |bl _=>cases rv;exact⟨RcAt.str_bool _ _ _,RcNeAt.str_bool _ _ _,EqAt.str_bool _ _ _⟩
  |int _=>obtain⟨t',rfl⟩:=rv;exact⟨RcAt.str_int _ _ _ _,RcNeAt.str_int _ _ _ _,A4 _ _ _ _⟩
  |str _=>obtain⟨t',rfl⟩:=rv;exact⟨RcAt.str_str _ _ _ _,RcNeAt.str_str _ _ _ _,EqAt.str_str _ _ _ _⟩
  |_=>exact fx0 hb
 |_=>exact fx0 ha
theorem M_(I:Inv X Ψ σ H s):∀(n:ag)(A:bS){x y:V}{a b:D}{u v:ak},A.units+n<cr->a.gB n=af->b.gB n=af->Rep All H x a->Rep All H y b->RelV x u->RelV y v->
  RcAt A s u v (eqD a b)/\RcNeAt A s u v (!eqD a b)/\EqAt A s u v (eqD a b):=by
 intro n;induction n with
 |zero=>exact λA=>λ_ ha hb rx ry ru rv=>yR ha hb rx ry ru rv
 |succ n ih=>
  intro A x y a b u v hu ha hb rx ry ru rv;have hu0:A.units<cr:=by lia
  have hu1:A.in1.units+n<cr:=by show A.units+1+n<cr;lia
  have itm:∀{xs ys:aa V}{ds es:aa D}{i1 i2:aa ak},ο n ds=af->ο n es=af->bZ All H xs ds->bZ All H ys es->Vals xs i1->Vals ys i2->∀j (g1:j<i1.toArray.size) (g2:j<i2.toArray.size),EqAt A.in1 s i1.toArray[j] i2.toArray[j] (eqD (ds.getD j .non) (es.getD j .non)):=by
   intro xs ys ds es i1 i2 ha hb r1 r2 vr1 vr2 j g1 g2;have z1:i1.toArray.size=ds.length:=by rw[cm,<-vr1.length,r1.length]
   have z2:i2.toArray.size=es.length:=by rw[cm,<-vr2.length,r2.length]
   obtain⟨v1,w1,rr1⟩:=r1.getD (j:=j) 0x1;obtain⟨v2,w2,rr2⟩:=r2.getD (j:=j) 0x1;obtain⟨u1,k1,l1⟩:=vr1.get w1;obtain⟨u2,k2,l2⟩:=vr2.get w2;have m1:i1.toArray[j]=u1:=by
    rw[ff (by simpa using g1)] at k1;simpa using c9 k1
   have m2:i2.toArray[j]=u2:=by
    rw[ff (by simpa using g2)] at k2;simpa using c9 k2
   rw[m1,m2];exact(ih A.in1 hu1 (iJ ha 0x1) (iJ hb 0x1) rr1 rr2 l1 l2).2.2
  cases a with
  |non=>
   cases b with
   |tup es=>
    cases rx.inv;cases ru;obtain⟨q,ys,rfl,e2,r2⟩:=ry.fK;cases rv;obtain⟨its2,vr2,h2⟩:=iI I e2;exact⟨RcAt.none_tuple h2 hu0,RcNeAt.none_tuple h2 hu0,EqAt.none_tuple h2 hu0⟩
   |lst es=>
    cases rx.inv;cases ru;obtain⟨q,ys,rfl,e2,r2⟩:=ry.mK (K:=X.K);cases rv;obtain⟨its2,vr2,h2⟩:=uZ I e2;exact⟨RcAt.none_list h2 hu0,RcNeAt.none_list h2 hu0,EqAt.none_list h2 hu0⟩
   |_=>first|exact yR rfl rfl rx ry ru rv|exact bf ry Rep.uD|exact fx0 hb
  |bl _=>
   cases b with
   |tup es=>
    cases rx.inv;cases ru;obtain⟨q,ys,rfl,e2,r2⟩:=ry.fK;cases rv;obtain⟨its2,vr2,h2⟩:=iI I e2;exact⟨RcAt.bool_tuple _ h2 hu0,RcNeAt.bool_tuple _ h2 hu0,EqAt.bool_tuple _ h2 hu0⟩
   |lst es=>
    cases rx.inv;cases ru;obtain⟨q,ys,rfl,e2,r2⟩:=ry.mK (K:=X.K);cases rv;obtain⟨its2,vr2,h2⟩:=uZ I e2;exact⟨RcAt.bool_list _ h2 hu0,RcNeAt.bool_list _ h2 hu0,EqAt.bool_list _ h2 hu0⟩
   |_=>first|exact yR rfl rfl rx ry ru rv|exact bf ry Rep.uD|exact fx0 hb
  |int _=>
   cases b with
   |tup es=>
    cases rx.inv;obtain⟨t1,rfl⟩:=ru;obtain⟨q,ys,rfl,e2,r2⟩:=ry.fK;cases rv;obtain⟨its2,vr2,h2⟩:=iI I e2;exact⟨RcAt.int_tuple _ _ h2 hu0,RcNeAt.int_tuple _ _ h2 hu0,EqAt.int_tuple _ _ h2 hu0⟩
   |lst es=>
    cases rx.inv;obtain⟨t1,rfl⟩:=ru;obtain⟨q,ys,rfl,e2,r2⟩:=ry.mK (K:=X.K);cases rv;obtain⟨its2,vr2,h2⟩:=uZ I e2;exact⟨RcAt.int_list _ _ h2 hu0,RcNeAt.int_list _ _ h2 hu0,EqAt.int_list _ _ h2 hu0⟩
   |_=>first|exact yR rfl rfl rx ry ru rv|exact bf ry Rep.uD|exact fx0 hb
  |str _=>
   cases b with
   |tup es=>
    cases rx.inv;obtain⟨t1,rfl⟩:=ru;obtain⟨q,ys,rfl,e2,r2⟩:=ry.fK;cases rv;obtain⟨its2,vr2,h2⟩:=iI I e2;exact⟨RcAt.str_tuple _ _ h2 hu0,RcNeAt.str_tuple _ _ h2 hu0,EqAt.str_tuple _ _ h2 hu0⟩
   |lst es=>
    cases rx.inv;obtain⟨t1,rfl⟩:=ru;obtain⟨q,ys,rfl,e2,r2⟩:=ry.mK (K:=X.K);cases rv;obtain⟨its2,vr2,h2⟩:=uZ I e2;exact⟨RcAt.str_list _ _ h2 hu0,RcNeAt.str_list _ _ h2 hu0,EqAt.str_list _ _ h2 hu0⟩
   |_=>first|exact yR rfl rfl rx ry ru rv|exact bf ry Rep.uD|exact fx0 hb
  |tup ds=>
   obtain⟨p,xs,rfl,e1,r1⟩:=rx.fK;cases ru;obtain⟨its1,vr1,h1⟩:=iI I e1;replace ha:ο _ _=af:=ha;cases b with
   |non=>cases ry.inv;cases rv;exact⟨RcAt.tuple_none h1 hu0,RcNeAt.tuple_none h1 hu0,EqAt.tuple_none h1 hu0⟩
   |bl _=>cases ry.inv;cases rv;exact⟨RcAt.tuple_bool _ h1 hu0,RcNeAt.tuple_bool _ h1 hu0,EqAt.tuple_bool _ h1 hu0⟩
   |int _=>cases ry.inv;obtain⟨t2,rfl⟩:=rv;exact⟨RcAt.tuple_int _ _ h1 hu0,RcNeAt.tuple_int _ _ h1 hu0,EqAt.tuple_int _ _ h1 hu0⟩
   |str _=>cases ry.inv;obtain⟨t2,rfl⟩:=rv;exact⟨RcAt.tuple_str _ _ h1 hu0,RcNeAt.tuple_str _ _ h1 hu0,EqAt.tuple_str _ _ h1 hu0⟩
   |tup es=>
    obtain⟨q,ys,rfl,e2,r2⟩:=ry.fK;cases rv;obtain⟨its2,vr2,h2⟩:=iI I e2;replace hb:ο _ _=af:=hb;have z1:its1.toArray.size=ds.length:=by rw[cm,<-vr1.length,r1.length]
    have z2:its2.toArray.size=es.length:=by rw[cm,<-vr2.length,r2.length]
    have he:=itm ha hb r1 r2 vr1 vr2;have ee:eqD (.tup ds) (.tup es)=((bz (min its1.toArray.size its2.toArray.size)).all (λj=>eqD (ds.getD j .non) (es.getD j .non))&&its1.toArray.size==its2.toArray.size):=by
     rw[show eqD (.tup _) (.tup _)=yM _ _ from rfl,vX,z1,z2]
    have r0:=RcAt.tuples h1 h2 hu0 he;have r0':=RcNeAt.tuples h1 h2 hu0 he;rw[<-ee] at r0 r0';refine⟨r0,r0',?_⟩;by_cases hpq:p=q
    ·subst hpq;have hab:(ν ds)=(.tup es):=Rep.inj (n+1) ha hb rx ry;rw[<-hab,HB (n+1) (.tup ds) ha];exact zu _
    ·exact Ce hpq r0
   |lst es=>
    obtain⟨q,ys,rfl,e2,r2⟩:=ry.mK (K:=X.K);cases rv;obtain⟨its2,vr2,h2⟩:=uZ I e2;exact⟨RcAt.tuple_list h1 h2 hu0,RcNeAt.tuple_list h1 h2 hu0,EqAt.tuple_list h1 h2 hu0⟩
   |_=>first|exact bf ry Rep.uD|exact fx0 hb
  |lst ds=>
   obtain⟨p,xs,rfl,e1,r1⟩:=rx.mK (K:=X.K);cases ru;obtain⟨its1,vr1,h1⟩:=uZ I e1;replace ha:ο _ _=af:=ha;cases b with
   |non=>cases ry.inv;cases rv;exact⟨RcAt.list_none h1 hu0,RcNeAt.list_none h1 hu0,EqAt.list_none h1 hu0⟩
   |bl _=>cases ry.inv;cases rv;exact⟨RcAt.list_bool _ h1 hu0,RcNeAt.list_bool _ h1 hu0,EqAt.list_bool _ h1 hu0⟩
   |int _=>cases ry.inv;obtain⟨t2,rfl⟩:=rv;exact⟨RcAt.list_int _ _ h1 hu0,RcNeAt.list_int _ _ h1 hu0,EqAt.list_int _ _ h1 hu0⟩
   |str _=>cases ry.inv;obtain⟨t2,rfl⟩:=rv;exact⟨RcAt.list_str _ _ h1 hu0,RcNeAt.list_str _ _ h1 hu0,EqAt.list_str _ _ h1 hu0⟩
   |tup es=>
    obtain⟨q,ys,rfl,e2,r2⟩:=ry.fK;cases rv;obtain⟨its2,vr2,h2⟩:=iI I e2;exact⟨RcAt.list_tuple h1 h2 hu0,RcNeAt.list_tuple h1 h2 hu0,EqAt.list_tuple h1 h2 hu0⟩
   |lst es=>
    obtain⟨q,ys,rfl,e2,r2⟩:=ry.mK (K:=X.K);cases rv;obtain⟨its2,vr2,h2⟩:=uZ I e2;replace hb:ο _ _=af:=hb;have z1:its1.toArray.size=ds.length:=by rw[cm,<-vr1.length,r1.length]
    have z2:its2.toArray.size=es.length:=by rw[cm,<-vr2.length,r2.length]
    have he:=itm ha hb r1 r2 vr1 vr2;have r00:RcAt A s (.ref p) (.ref q) (eqD (.lst ds) (.lst es))/\RcNeAt A s (.ref p) (.ref q) (!eqD (.lst ds) (.lst es)):=by
     rw[show eqD (.lst _) (.lst _)=yM _ _ from rfl,vX];by_cases hz:ds.length=es.length
     ·have r0:=RcAt.lists h1 h2 0x1 hu0 he;have r0':=RcNeAt.lists h1 h2 0x1 hu0 he;rw[z1] at r0 r0';rw[show min ds.length es.length=ds.length by lia,show(ds.length==es.length)=af by simpa using hz,Cf];exact⟨r0,r0'⟩
     ·have hz':(its1.toArray.size !=its2.toArray.size)=af:=by rw[z1,z2];simpa using hz
      rw[show(ds.length==es.length)=ai by simpa using hz,BM];exact⟨RcAt.lists_lengths h1 h2 hz' hu0,RcNeAt.lists_lengths h1 h2 hz' hu0⟩
    obtain⟨r0,r0'⟩:=r00;refine⟨r0,r0',?_⟩;by_cases hpq:p=q
    ·subst hpq;have hab:(D.lst ds)=(.lst es):=Rep.inj (n+1) ha hb rx ry;rw[<-hab,HB (n+1) (.lst ds) ha];exact zu _
    ·exact Ce hpq r0
   |_=>first|exact bf ry Rep.uD|exact fx0 hb
  |_=>first|exact bf rx Rep.uD|exact fx0 ha
end
end
open PySem.AutoSeq1 (wpAny_loadPart')
open PySem.MeetsSeq PySem.MeetsSeq2 PySem.MeetsSeq3
variable [KFrag]
noncomputable def lG.op:lG->ow
 |.lt=>.Lt|.le=>.LtE|.gt=>.Gt|.ge=>.GtE
def aKo(op:ow)(A:bS)(s:ar)(u v:ak)(b:au):Prop:=
 ∀(prog:bh)(w:bd)(E:ak->ar->Prop)(Q:ak->ar->Prop),Q (.bool b) s->ϑ (aw prog w) A (richCompare op u v) Q E s
def C2(o:lG)(A:bS)(s:ar)(vs ws:aa ak)(xs ys:aa D):Prop:=
 vs.length=xs.length/\ws.length=ys.length/\∀(j:ag)(v w:ak)(x y:D),vs[j]?=ae v->ws[j]?=ae w->xs[j]?=ae x->ys[j]?=ae y->
  EqAt A s v w (eqD x y)/\(eqD x y=ai->∀k,o8 o x y=ae k->aKo o.op A s v w k)
theorem C2.tail(h:C2 o A s (v::vs) (w::ws) (x::xs) (y::ys)):C2 o A s vs ws xs ys:=
 ⟨by simpa using h.1,by simpa using h.2.1,λj a b c d e1 e2 e3 e4=>h.2.2 (j+1) a b c d (by simpa using e1) (by simpa using e2) (by simpa using e3) (by simpa using e4)⟩
noncomputable def lG.bt:lG->cz
 |.lt=>cz.«tuple.__lt__»|.le=>cz.«tuple.__le__»|.gt=>cz.«tuple.__gt__»|.ge=>cz.«tuple.__ge__»
theorem R7(o q:lG)(eq:q=o)(l b:am)(items items2:aE ak)(n n2:ag)(dd dd2:aq am)(sl sl2:aE (aq ak))(xs ys:aa D)(res:au)(hr:nJ q xs ys=ae res) :
  ji (o.bt ⟨[.ref l,.ref b],[]⟩)
   (λA R s=>s.heap.get? l=ae {cls:=.type "tuple",dict:=dd,data:=.seq items n,slots:=sl}/\s.heap.get? b=ae {cls:=.type "tuple",dict:=dd2,data:=.seq items2 n2,slots:=sl2}/\
    C2 q A.in1 s items.toList items2.toList xs ys/\R (.ok (.ret (.bool res))) s):=by
 cases o<;>exact .of_wp λprog w A R s h=>by
  obtain⟨hp,g,d,tk,os⟩:=s;obtain⟨hl,hb,hC,h⟩:=h;have f2:=Ep;have z1:items.size=xs.length:=by rw[<-hC.1];simp
  have z2:items2.size=ys.length:=by rw[<-hC.2.1];simp
  wp_walk using wpAny_loadPart' hl,wpAny_loadPart' hb,wpAny_forIn_list _ (λrest b s'=>b.1=aj/\s'=⟨hp,g,d,tk,os⟩/\∃(vs ws:aa ak)(xs' ys':aa D),rest=vs.zip ws/\
   C2 q A.in1 ⟨hp,g,d,tk,os⟩ vs ws xs' ys'/\xs'.length+items2.size=ys'.length+items.size/\nJ q xs' ys'=ae res) _
  case turn=>
   subst eq;rintro⟨y,x⟩ rest b s' ⟨hb',rfl,vs,ws,xs',ys',hz,hC',hlen,hR⟩;cases vs with
   |nil=>rw[zv] at hz;cases hz
   |cons v vs=>
    cases ws with
    |nil=>rw[vw] at hz;cases hz
    |cons w' ws=>
     rw[vx] at hz;injection hz with hyx hrest
     injection hyx with hy hx
     subst hy hx;cases xs' with
     |nil=>exact bf hC'.1 0x2
     |cons x0 xs'=>
      cases ys' with
      |nil=>exact bf hC'.2.1 0x2
      |cons y0 ys'=>
       rw[nJ] at hR;simp only[aS] at hlen;obtain⟨he,hlt⟩:=hC'.2.2 0 _ _ _ _ rfl rfl rfl rfl;refine ao (he prog w _ _ ?_);cases e:eqD x0 y0 with
       |true=>
        rw[e] at hR;simp only[eI] at hR
        wp_walk
        exact⟨rfl,rfl,_,_,_,_,hrest,hC'.tail,by lia,hR⟩
       |false=>
        rw[e] at hR;simp only[iL,fF] at hR;have hri:=hlt e res hR prog w;dsimp only[lG.op] at hri
        wp_walk using hri
        exact⟨_,rfl,by simpa using h⟩
  case fin=>
   rintro⟨b1,b2⟩ s' ⟨hb',rfl,vs,ws,xs',ys',hz,hC',hlen,hR⟩;simp only at hb';subst hb';have hv:res=lG.nat q items.size items2.size:=by
    subst eq;cases xs' with
    |nil=>
     rw[nJ] at hR;have:=c9 hR;rw[<-this];simp only[dQ] at hlen;simp only[lG.nat]
     congr 1
     simp only[vy];lia
    |cons x0 xs'=>
     cases ys' with
     |nil=>
      rw[nJ] at hR;have:=c9 hR;rw[<-this];simp only[dQ,aS] at hlen;simp only[lG.nat,aS]
      congr 1
      simp only[vy];lia
     |cons y0 ys'=>
      exfalso;cases vs with
      |nil=>exact bf hC'.1 0x2
      |cons v vs=>
       cases ws with
       |nil=>exact bf hC'.2.1 0x2
       |cons w' ws=>rw[vx] at hz;cases hz
   rw[hv] at h;subst eq
   wp_walk
   exact⟨_,rfl,by simpa[Er,lG.nat] using h⟩
  case h=>
   exact⟨rfl,rfl,items.toList,items2.toList,xs,ys,rfl,hC,by lia,hr⟩
theorem aKo.tup(o:lG)(hl:s.heap.IsTuple l items)(hb:s.heap.IsTuple b items2)(hC:C2 o A.in1 s items.toList items2.toList xs ys)(hr:nJ o xs ys=ae res)(hu:A.units<cr) :
  aKo o.op A s (.ref l) (.ref b) res:=λprog w E Q h=>by
 obtain⟨⟨cls,dd,data,sl⟩,ho,hc,n,hd⟩:=id hl;obtain⟨⟨cls2,dd2,data2,sl2⟩,ho2,hc2,n2,hd2⟩:=id hb;simp only at hc hd hc2 hd2;subst hc hd hc2 hd2;have M:=R7 o o rfl l b items items2 n n2 dd dd2 sl sl2 xs ys res hr;have G:_/\_/\C2 o A.in1 s items.toList items2.toList xs ys/\(lv res≠Value.notImplemented/\Q (.bool res) s):=⟨ho,ho2,hC,(λx=>nomatch x),h⟩
 cases o
 ·exact vz ⟨_,ho,rfl⟩ ⟨_,ho2,rfl⟩ PySem.F.slot_tuple_lt PySem.F.entry_tuple_lt (PySem.F.args_tuple_lt_2 _ _) M G hu
 ·exact vz ⟨_,ho,rfl⟩ ⟨_,ho2,rfl⟩ PySem.F.slot_tuple_le PySem.F.entry_tuple_le (PySem.F.args_tuple_le_2 _ _) M G hu
 ·exact vz ⟨_,ho,rfl⟩ ⟨_,ho2,rfl⟩ PySem.F.slot_tuple_gt PySem.F.entry_tuple_gt (PySem.F.args_tuple_gt_2 _ _) M G hu
 ·exact vz ⟨_,ho,rfl⟩ ⟨_,ho2,rfl⟩ PySem.F.slot_tuple_ge PySem.F.entry_tuple_ge (PySem.F.args_tuple_ge_2 _ _) M G hu
section
theorem V0(o:lG)(na:∀ds,a≠.tup ds)(rx:Rep All H x a)(ry:Rep All H y b)(ru:RelV x u)(rv:RelV y v)(hk:o8 o a b=ae k):aKo o.op A s u v k:=by
 cases a with
 |int i=>
  cases b with
  |int j=>
   cases rx;cases ry;obtain⟨t,rfl⟩:=ru;obtain⟨t',rfl⟩:=rv;rw[o8] at hk;have:=c9 hk;subst this;cases o with
   |lt=>exact λprog w E Q h=>(Es h:ϑ (aw prog w) A (dw .Lt (.int i t) (.int j t')) Q E s)
   |le=>exact λprog w E Q h=>(Et h:ϑ (aw prog w) A (dw .LtE (.int i t) (.int j t')) Q E s)
   |gt=>exact λprog w E Q h=>(Eu h:ϑ (aw prog w) A (dw .Gt (.int i t) (.int j t')) Q E s)
   |ge=>exact λprog w E Q h=>(Ew h:ϑ (aw prog w) A (dw .GtE (.int i t) (.int j t')) Q E s)
  |_=>exact nx0 hk
 |str i=>
  cases b with
  |str j=>
   cases rx;cases ry;obtain⟨t,rfl⟩:=ru;obtain⟨t',rfl⟩:=rv;rw[o8] at hk;have:=c9 hk;subst this;cases o with
   |lt=>exact λprog w E Q h=>(Ex h:ϑ (aw prog w) A (dw .Lt (.str i t) (.str j t')) Q E s)
   |le=>exact λprog w E Q h=>(PySem.P.le_str h:ϑ (aw prog w) A (dw .LtE (.str i t) (.str j t')) Q E s)
   |gt=>exact λprog w E Q h=>(PySem.P.gt_str h:ϑ (aw prog w) A (dw .Gt (.str i t) (.str j t')) Q E s)
   |ge=>exact λprog w E Q h=>(PySem.P.ge_str h:ϑ (aw prog w) A (dw .GtE (.str i t) (.str j t')) Q E s)
  |_=>exact nx0 hk
 |tup ds=>exact bf rfl (na ds)
 |_=>cases b<;>exact nx0 hk
theorem aBa(I:Inv X Ψ σ H s)(o:lG):∀(n:ag)(A:bS){x y:V}{a b:D}{u v:ak}{k:au},A.units+n<cr->a.gB n=af->b.gB n=af->Rep All H x a->Rep All H y b->RelV x u->RelV y v->
  o8 o a b=ae k->aKo o.op A s u v k:=by
 intro n;induction n with
 |zero=>
  intro A x y a b u v k hu ha hb rx ry ru rv hk;cases a with
  |tup _=>exact fx0 ha
  |_=>exact V0 o (by intro ds z;cases z) rx ry ru rv hk
 |succ n ih=>
  intro A x y a b u v k hu ha hb rx ry ru rv hk;have hu0:A.units<cr:=by lia
  have hu1:A.in1.units+n<cr:=by show A.units+1+n<cr;lia
  cases a with
  |tup ds=>
   cases b with
   |tup es=>
    obtain⟨p,xs,rfl,e1,r1⟩:=rx.fK;cases ru;obtain⟨its1,vr1,h1⟩:=iI I e1;obtain⟨q,ys,rfl,e2,r2⟩:=ry.fK;cases rv;obtain⟨its2,vr2,h2⟩:=iI I e2;rw[D.gB] at ha hb;rw[o8] at hk;have hC:∀o',o'=o->C2 o' A.in1 s its1.toArray.toList its2.toArray.toList ds es:=by
     rintro o' rfl;refine⟨by rw[ox,<-vr1.length,r1.length],by rw[ox,<-vr2.length,r2.length],λj v w x y a1 a2 a3 a4=>?_⟩;rw[ox] at a1 a2;obtain⟨v1,w1,rr1⟩:=r1.get a3;obtain⟨v2,w2,rr2⟩:=r2.get a4;obtain⟨u1,k1,l1⟩:=vr1.get w1;obtain⟨u2,k2,l2⟩:=vr2.get w2;rw[a1] at k1;cases k1;rw[a2] at k2;cases k2;have g1:x.gB n=af:=by
      have:=iJ ha (du.mp a3).1;rwa [ef,a3] at this
     have g2:y.gB n=af:=by
      have:=iJ hb (du.mp a4).1;rwa [ef,a4] at this
     exact⟨(M_ I n A.in1 hu1 g1 g2 rr1 rr2 l1 l2).2.2,λ_ k hk=>ih A.in1 hu1 g1 g2 rr1 rr2 l1 l2 hk⟩
    exact aKo.tup o h1 h2 (hC o rfl) hk hu0
   |_=>exact nx0 hk
  |_=>exact V0 o (by intro ds z;cases z) rx ry ru rv hk
end
end Mi
namespace TS
open PySem PySem.W PyProof.Rows
def Wq(n:ag)(r:ag->ag):KasT α->(α->Prop)->Prop
 |.ret a,Q=>Q a
 |.ask i j k,Q=>i<n/\j<n/\Wq n r (k (ϒ (r i<r j))) Q
theorem Wq.mono{Q Q':α->Prop}(h:∀a,Q a->Q' a):∀{t:KasT α},Wq n r t Q->Wq n r t Q'
 |.ret a,w=>h a w
 |.ask i j k,w=>⟨w.1,w.2.1,Wq.mono h w.2.2⟩
theorem Wq.bind:∀{t:KasT α},Wq n r t (λa=>Wq n r (f a) Q)->Wq n r (t.bind f) Q
 |.ret a,w=>w
 |.ask i j k,w=>⟨w.1,w.2.1,Wq.bind w.2.2⟩
theorem Wq.two(h1 : i < n)(h2 : j < n)(t : r i < r j->Wq n r A Q)(f : r j<=r i->Wq n r B Q) : Wq n r (.ask i j λc=>if c=af then A else B) Q:=by
 refine⟨h1,h2,?_⟩;by_cases c:r i<r j
 ·rw[cb c];exact t c
 ·rw[c8 c];exact f (B3 c)
def Okp(n:ag)(p:aE ag):Prop:=p.Perm (bz n).toArray
theorem Okp.size(h:Okp n p):p.size=n:=by rw[Ey h];simp
theorem Okp.lt(h:Okp n p)(n0:0<n)(i:ag):p.getD i 0<n:=by
 by_cases z:i<p.size
 ·have e:p.getD i 0=p[i]:=by simp[mz,z]
  rw[e];have m:p[i]∈(bz n).toArray:=(Ez h).mp (Array.getElem_mem z);simpa using m
 ·have e:p.getD i 0=0:=by simp[mz,z]
  rw[e];exact n0
theorem Okp.rev(h:Okp n p)(i j:ag):Okp n (k9 p i j):=(mirror_perm _ _ _ _).trans h
theorem gd(p:aE ag)(i:ag):p.getD i 0=(p[i]?).getD 0:=by
 by_cases z:i<p.size
 ·simp[mz,z]
 ·simp[mz,z]
section
variable {n:ag} {r:ag->ag} {p:aE ag}
noncomputable def gr(r:ag->ag)(p:aE ag)(i:ag):ag:=r (p.getD i 0)
theorem aBb(hj:j<=p.size)(k:ag):gr r (k9 p i j) k=if i<=k/\k<j then gr r p (i+j-1-k) else gr r p k:=by
 unfold gr k9;rw[gd,getElem?_mirror_all hj];split<;>rw[gd]
theorem R8(hj:j<=p.size)(h:∀k,i<=k->k<j->gr r p k=gr r p (j-1))(k:ag):gr r (k9 p i j) k=gr r p k:=by
 rw[aBb hj];split
 ·rename_i z;rw[h k z.1 z.2,h (i+j-1-k) 0x1 0x1]
 ·rfl
def Up(r:ag->ag)(p:aE ag)(m:ag):Prop:=∀i j,i<=j->j<m->gr r p i<=gr r p j
def Dn(r:ag->ag)(p:aE ag)(m:ag):Prop:=∀i j,i<=j->j<m->gr r p j<=gr r p i
theorem Up.snoc(h:Up r p m)(h1:1<=m)(c:gr r p (m-1)<=gr r p m):Up r p (m+1):=λi j a b=>by
 by_cases z:j<m
 ·exact h i j a z
 ·obtain rfl:j=m:=by lia
  by_cases y:i=j
  ·rw[y];exact ba _
  ·have:=h i (j-1) 0x1 0x1;lia
theorem Dn.snoc(h:Dn r p m)(h1:1<=m)(c:gr r p m<=gr r p (m-1)):Dn r p (m+1):=λi j a b=>by
 by_cases z:j<m
 ·exact h i j a z
 ·obtain rfl:j=m:=by lia
  by_cases y:i=j
  ·rw[y];exact ba _
  ·have:=h i (j-1) 0x1 0x1;lia
theorem aBc(ok:Okp n p)(n0:0<n):∀(f m:ag),1<=m->m+f<=n->Up r p m->Wq n r (kas_asc p f m) λm'=>m<=m'/\m'<=m+f/\Up r p m'/\(m'<m+f->gr r p m'<gr r p (m'-1))
 |0,m,_,_,u=>⟨ba _,ba _,u,λh=>bf h (fR _)⟩
 |f+1,m,h1,h2,u=>by
  refine Wq.two (ok.lt n0 _) (ok.lt n0 _) (λc=>⟨ba _,by lia,u,λ_=>c⟩) λc=>?_
  exact(aBc ok n0 f (m+1) 0x1 0x1 (u.snoc h1 c)).mono λm' w=>⟨by lia,by lia,w.2.2.1,λh=>w.2.2.2 0x1⟩
structure Ds(n:ag)(r:ag->ag)(p:aE ag)(m q:ag):Prop where
 ok:Okp n p
 m1:1<=m
 mn:m<=n
 qm:q+1<=m
 dn:Dn r p m
 eq:∀i,m-(q+1)<=i->i<m->gr r p i=gr r p (m-1)
theorem Ds.next(d:Ds n r p m q)(hm:m+1<=n)(c:gr r p m<gr r p (m-1)):Ds n r p (m+1) 0:=⟨d.ok,by lia,hm,by lia,d.dn.snoc d.m1 (ii c),λi a b=>by rw[show i=m by lia];rfl⟩
theorem Ds.turn(d:Ds n r p m q):Ds n r (k9 p (m-(q+1)) m) m q:=by
 have s:=R8 (by rw[d.ok.size];exact d.mn) d.eq;exact⟨d.ok.rev _ _,d.m1,d.mn,d.qm,λi j a b=>by rw[s,s];exact d.dn i j a b,λi a b=>by rw[s,s];exact d.eq i a b⟩
theorem HD(n0:0<n):∀(f:ag)(p:aE ag)(m q:ag),m+f<=n->Ds n r p m q->Wq n r (kas_desc f p m q) λt=>Ds n r t.1 t.2.1 t.2.2
 |0,p,m,q,_,d=>d
 |f+1,p,m,q,h,d=>by
  refine Wq.two (d.ok.lt n0 _) (d.ok.lt n0 _) (λc=>?_) λc=>Wq.two (d.ok.lt n0 _) (d.ok.lt n0 _) (λ_=>d) λe=>?_
  ·split
   ·have s:=R8 (by rw[d.ok.size];exact d.mn) d.eq;exact HD n0 f _ (m+1) 0 0x1 (d.turn.next 0x1 (by rw[s,s];exact c))
   ·exact HD n0 f _ (m+1) 0 0x1 (d.next 0x1 c)
  ·have eq:gr r p m=gr r p (m-1):=Nat.le_antisymm e c;refine HD n0 f p (m+1) (q+1) 0x1 ⟨d.ok,by lia,by lia,by have:=d.qm;lia,d.dn.snoc d.m1 (zo eq),λi a b=>?_⟩;show gr r p i=gr r p m;by_cases z:i=m
   ·rw[z]
   ·rw[d.eq i 0x1 0x1,eq]
def Cn(n:ag)(r:ag->ag)(t:ag×aE ag):Prop:=Okp n t.2/\1<=t.1/\t.1<=n/\Up r t.2 t.1
theorem V1(n0:0<n)(d:Ds n r p m q):Wq n r (kas_tail3 m n p) (Cn n r):=by
 have u:Up r (k9 p 0 m) m:=λi j a b=>by
  rw[aBb (by rw[d.ok.size];exact d.mn),aBb (by rw[d.ok.size];exact d.mn),av 0x1,av 0x1];exact d.dn _ _ 0x1 0x1
 refine Wq.bind ((aBc (d.ok.rev 0 m) n0 (n-m) m d.m1 (by have:=d.mn;lia) u).mono λm' w=>?_);have:=d.m1;have:=d.mn;exact⟨d.ok.rev 0 m,by lia,by lia,w.2.2.1⟩
theorem aBd(n0:0<n)(d:Ds n r p (m+1) 0):Wq n r (kas_descPart m n p) (Cn n r):=by
 refine Wq.bind ((HD n0 _ p (m+1) 0 (by have:=d.mn;lia) d).mono λt d=>?_);split
 ·exact V1 n0 d.turn
 ·exact V1 n0 d
theorem aEq(ok:Okp n p)(n0:0<n):Wq n r (kas_count n p) (Cn n r):=by
 refine Wq.bind ((aBc ok n0 (n-1) 1 (ba _) 0x1 λi j a b=>by rw[show i=j by lia];exact ba _).mono λm w=>?_);obtain⟨w1,w2,u,w4⟩:=w;split
 ·exact⟨ok,w1,by lia,u⟩
 ·rename_i hm;have hm:m≠n:=by simpa using hm
  have lt:=w4 0x1;split
  ·refine Wq.two (ok.lt n0 _) (ok.lt n0 _) (λ_=>⟨ok,w1,by lia,u⟩) λc=>?_
   ·have c:gr r p (m-1)<=gr r p 0:=c;have e:∀k,0<=k->k<m->gr r p k=gr r p (m-1):=λk _ b=>by
     have:=u 0 k 0x1 b;have:=u k (m-1) 0x1 0x1;lia
    have s:=R8 (by rw[ok.size];lia) e;have d:Ds n r (k9 p 0 m) m (m-1):=⟨ok.rev 0 m,w1,by lia,by lia,λi j a b=>by rw[s,s,e i 0x1 0x1,e j 0x1 b];exact ba _,λi a b=>by rw[s,s];exact e i 0x1 b⟩
    exact aBd n0 (d.next 0x1 (by rw[s,s];exact lt))
  ·obtain rfl:m=1:=by lia
   have d:Ds n r p 1 0:=⟨ok,ba _,by lia,ba _,λi j a b=>by rw[show i=j by lia];exact ba _,λi a b=>by rw[show i=0 by lia]⟩
   exact aBd n0 (d.next 0x1 lt)
theorem HF(ok:Okp n p)(n0:0<n)(u:Up r p k):∀(f l e:ag),l<=e->e<=k->e-l<=f->(∀i,i<l->gr r p i<=gr r p k)->(∀i,e<=i->i<k->gr r p k<gr r p i)->Wq n r (kas_place p k f l e) λx=>x<=k/\(∀i,i<x->gr r p i<=gr r p k)/\∀i,x<=i->i<k->gr r p k<gr r p i
 |0,l,e,h1,h2,h3,a,b=>⟨by lia,a,λi c=>b i 0x1⟩
 |f+1,l,e,h1,h2,h3,a,b=>by
  unfold kas_place;split
  ·exact⟨by lia,a,λi c=>b i 0x1⟩
  ·refine Wq.two (ok.lt n0 _) (ok.lt n0 _) (λc=>?_) λc=>?_
   ·refine HF ok n0 u f l ((l+e) / 2) 0x1 0x1 0x1 a λi x y=>?_
    have:=u ((l+e) / 2) i x y;exact c_ c this
   ·refine HF ok n0 u f ((l+e) / 2+1) e 0x1 h2 0x1 (λi x=>?_) b;have:=u i ((l+e) / 2) 0x1 0x1;exact dj this c
theorem aM6(hs:k<p.size)(hl:l<=k)(i:ag):gr r (bubble p k (k-l)) i=if i=l then gr r p k else if l<i/\i<=k then gr r p (i-1) else gr r p i:=by
 unfold gr;rw[gd,getElem?_bubble hs _ 0x1,show k-(k-l)=l by lia];by_cases z:i=l
 ·rw[av z,av z,gd]
 ·rw[ax z,ax z];by_cases y:l<i/\i<=k
  ·rw[av y,av y,gd]
  ·rw[ax y,ax y,gd]
theorem aGj(n0:0<n):∀(f:ag)(p:aE ag)(k:ag),Okp n p->k+f=n->Up r p k->Wq n r (kas_bin f p k) λp=>Okp n p/\Up r p n
 |0,p,k,ok,h,u=>⟨ok,by rw[<-h];exact u⟩
 |f+1,p,k,ok,h,u=>by
  refine Wq.bind ((HF ok n0 u k 0 k (cq _) (ba _) 0x1 (λi x=>bf x (Cg _)) λi x y=>bf y 0x1).mono λl w=>?_);obtain⟨w1,w2,w3⟩:=w;refine aGj n0 f _ (k+1) ((bubble_perm _ _ _).trans ok) 0x1 λi j a b=>?_
  have g:=aM6 (r:=r) (by rw[ok.size];lia) w1;rw[g,g];have h1:=w2 i;have h2:=w2 (i-1);have h3:=w3 (j-1);have h4:=w3 j;have h5:=u i j;have h6:=u i (j-1);have h7:=u (i-1) (j-1);have h8:=u (i-1) j
  repeat' split
  all_goals lia
theorem aI8(n0:0<n):Wq n r (kas_sort n) λp=>Okp n p/\Up r p n:=by
 refine Wq.bind ((aEq (Ci _) n0).mono λt w=>?_);obtain⟨ok,w1,w2,u⟩:=w;split
 ·rw[show max t.1 1=t.1 by lia];exact aGj n0 _ _ _ ok 0x1 u
 ·rename_i h;exact⟨ok,by rw[show n=t.1 by lia];exact u⟩
end
noncomputable def gt(a:aE jj)(i:ag):jj:=a.getD i (.none,.none)
theorem aGk(h:∀i j,i<n->j<n->∀C:au->ar->Prop,C (ϒ (r i<r j)) s->cmp i j C s):∀{t:KasT α},Wq n r t Q->t.kasWp cmp (λa s'=>s'=s/\Q a) s
 |.ret a,w=>⟨rfl,w⟩
 |.ask i j k,w=>h i j w.1 w.2.1 _ (aGk h w.2.2)
theorem aGl:∀{l:aa ag},(∀x,p x=af->q x=af)->a∈l->q a=af->p a=ai->l.countP p<l.countP q
 |[],_,h,_,_=>by cases h
 |b::l,h,m,h1,h2=>by
  have le:l.countP p<=l.countP q:=Cj λx _=>h x
  rw[Ck,Ck];rcases bP.mp m with rfl|m
  ·rw[h1,h2,av rfl,ax 0x2];lia
  ·have:=aGl h m h1 h2;have:=h b;split<;>split<;>first|lia|(rename_i x y;exact bf (this x) y)
theorem aI9(n:ag)(lt:ag->ag->au)(ir:∀i,lt i i=ai)(tr:∀i j k,lt i j=af->lt j k=af->lt i k=af)(nt:∀i j k,lt i k=af->lt i j=af\/lt j k=af):∃r:ag->ag,∀i j,i<n->ϒ (r i<r j)=lt i j:=by
 refine⟨λi=>(bz n).countP λk=>lt k i,λi j hi=>?_⟩;cases c:lt i j with
 |true=>exact cb (aGl (λk h=>tr _ _ _ h c) (hG.mpr hi) c (ir i))
 |false=>exact c8 (Cm.mpr (Cj λk _ h=>(nt k i j h).resolve_right (by rw[c];simp)))
theorem HH(h64:vs.length<64)(ho:s.heap.get? a=ae (dz "list" vs.toArray n))(hn:vs.length<=aT)
 (hk:2<=vs.length->∃(κ:mB) (rk:ag->ag),
   (∀Q:mB->ar->Prop,Q κ {s with heap:=((s.heap.update a (eL λ_=>(#[]:aE ak))).push (dz "tuple" vs.toArray 0)).push (dz "list" #[] 0)}->ϑ (aw prog w) A (zw vs.toArray) Q E {s with heap:=((s.heap.update a (eL λ_=>(#[]:aE ak))).push (dz "tuple" vs.toArray 0)).push (dz "list" #[] 0)})/\
   (∀i j,i<vs.length->j<vs.length->∀C:au->ar->Prop,C (ϒ (rk i<rk j)) {s with heap:=((s.heap.update a (eL λ_=>(#[]:aE ak))).push (dz "tuple" vs.toArray 0)).push (dz "list" #[] 0)}->kas_cmp prog w A κ (fq vs) i j C {s with heap:=((s.heap.update a (eL λ_=>(#[]:aE ak))).push (dz "tuple" vs.toArray 0)).push (dz "list" #[] 0)})/\
   ∀p:aE ag,Okp vs.length p->Up rk p vs.length->P (.done (.ret .none)) {s with heap:=zx s.heap a vs ((p.map (kas_item (fq vs))).map (·.2))})
 (h1:vs.length<2->P (.done (.ret .none)) {s with heap:=zx s.heap a vs ((fq vs).map (·.2))}) :
  ϑ (aw prog w) A (cz.«list.sort» ⟨[.ref a],[]⟩) P E s:=by
 rw[list_sort_plain];have ha:a<s.heap.objs.size:=bn ho;refine ao (listItems_at ho rfl ?_);refine ao (zy ho rfl ?_ (by rw[cm];exact hn) (cq _));obtain⟨e1,ho1⟩:∃e1,(s.heap.update a (eL λ_=>(#[]:aE ak))).get? a=ae (dz "list" #[] e1):=⟨_,get?_update_seq ho (λ_=>#[])⟩
 refine ao (zz ho1 rfl ?_);refine ao (zC ?_ (by show vs.length<=_;exact hn));refine ao (Co ?_ (cq _));refine eJ ?_;have ho6:(((s.heap.update a (eL λ_=>(#[]:aE ak))).push (dz "tuple" vs.toArray 0)).push (dz "list" #[] 0)).get? a=ae (dz "list" #[] e1):=by
  rw[Cp _ _ _ (by rw[size_push',zD];exact cu (kh ha)),Cp _ _ _ (by rw[zD];exact cu ha)];exact ho1
 show ϑ (aw prog w) A _ P E {s with heap:=((s.heap.update a (eL λ_=>(#[]:aE ak))).push (dz "tuple" vs.toArray 0)).push (dz "list" #[] 0)};dsimp only;have hsz:vs.toArray.size=vs.length:=by simp
 by_cases h2:vs.toArray.size<2
 ·rw[av h2,av h2];refine ao (aI ?_);rw[StateT.run_pure];refine ao (aI ?_);dsimp only;refine ao (zz ho6 rfl ?_);refine ao (zy ho6 rfl ?_ (cq _) (hsz2:=by rw[vE];show(fq vs).size<=_;rw[pairsOf_size];exact zI hn));simp only[Cq,iL,fF];exact aI (h1 0x1)
 ·rw[ax h2,ax h2];obtain⟨κ,rk,hkk,hL,fin⟩:=hk 0x1;refine ao (hkk _ ?_);have est:kas_st κ (fq vs) (Cr (bz vs.length))=SortSt.mk' κ (vs.toArray.zip vs.toArray) #[] 7 aj:=by
   unfold kas_st;rw[show vs.length=(fq vs).size from (pairsOf_size vs).symm,kas_range];rfl
  have kr:=kas_runs (E:=E) (it:=fq vs) (Q:=λ_ st' s'=>s'={s with heap:=((s.heap.update a (eL λ_=>(#[]:aE ak))).push (dz "tuple" vs.toArray 0)).push (dz "list" #[] 0)}/\failedOf st'=aj/\∃p,(Okp vs.length p/\Up rk p vs.length)/\arrOf st'=p.map (kas_item (fq vs))) 0x1 h64 (λp' st' s' _ ha hf hg=>⟨hg.1,hf,p',hg.2,ha⟩) (aGk hL (aI8 0x1));rw[est] at kr;refine ao (dA kr ?_ λ_ _ e=>e);rintro⟨⟨⟩,st'⟩ s' ⟨rfl,hf,p,⟨ok,up⟩,ha⟩;dsimp only;refine ao (zz ho6 rfl ?_);refine ao (zy ho6 rfl ?_ (cq _) (hsz2:=by rw[ha,vE,vE,ok.size];exact zI hn));rw[hf];simp only[Cq,iL,fF];rw[ha];exact aI (fin p ok up)
noncomputable def aIa(h:ay)(vs:aa ak):ay:=
 (((h.push (dz "list" vs.toArray 0)).update h.objs.size (eL λ_=>(#[]:aE ak))).push (dz "tuple" vs.toArray 0)).push (dz "list" #[] 0)
theorem aEr(hb:h.get? b=ae o):(aIa h vs).get? b=ae o:=by
 have hlt:b<h.objs.size:=bn hb;unfold aIa;refine br _ (br _ ?_);rw[vF _ _ _ _ (cu hlt)];exact br _ hb
noncomputable def aKp(h:ay)(vs:aa ak)(out:aE ak):ay:=zx (h.push (dz "list" vs.toArray 0)) h.objs.size vs out
theorem aEs(hb:h.get? b=ae o):(aKp h vs out).get? b=ae o:=by
 have hlt:b<h.objs.size:=bn hb;unfold aKp;rw[sortedHeap_old (cu hlt) (by rw[size_push'];exact kh hlt)];exact br _ hb
theorem aIb(h:ay)(vs:aa ak)(out:aE ak):∃e,(aKp h vs out).get? h.objs.size=ae (dz "list" out e):=sortedHeap_at (cx _ rfl)
theorem Y_(h64:vs.length<64)(hn:vs.length<=aT)
 (hcol:∀(Q':aa ak->ar->Prop) (E':ak->ar->Prop),(∀h1 tk,(∀b o,s.heap.get? b=ae o->h1.get? b=ae o)->s.heap.objs.size<=h1.objs.size->Q' vs {s with heap:=h1,toks:=tk})->ϑ (aw prog w) A.in1 (mE v) Q' E' s)
 (hk:∀h1 tk,(∀b o,s.heap.get? b=ae o->h1.get? b=ae o)->s.heap.objs.size<=h1.objs.size->2<=vs.length->∃(κ:mB) (rk:ag->ag),
   (∀Q:mB->ar->Prop,Q κ {s with heap:=aIa h1 vs,toks:=tk}->ϑ (aw prog w) A.in1.in1 (zw vs.toArray) Q (λ_ _=>cg) {s with heap:=aIa h1 vs,toks:=tk})/\
   (∀i j,i<vs.length->j<vs.length->∀C:au->ar->Prop,C (ϒ (rk i<rk j)) {s with heap:=aIa h1 vs,toks:=tk}->kas_cmp prog w A.in1.in1 κ (fq vs) i j C {s with heap:=aIa h1 vs,toks:=tk})/\
   ∀p:aE ag,Okp vs.length p->Up rk p vs.length->Q (.ref h1.objs.size) {s with heap:=aKp h1 vs ((p.map (kas_item (fq vs))).map (·.2)),toks:=tk})
 (h1:∀h1 tk,(∀b o,s.heap.get? b=ae o->h1.get? b=ae o)->s.heap.objs.size<=h1.objs.size->vs.length<2->Q (.ref h1.objs.size) {s with heap:=aKp h1 vs ((fq vs).map (·.2)),toks:=tk}) :
  ϑ (aw prog w) A (call (.builtin "sorted") [v]) Q E s:=by
 refine Calls.call_function_entry kind_sorted plain_sorted entry_sorted (args_sorted1 _) ?_;unfold cz.«sorted»;refine ao (aI ?_);refine ao (hcol _ _ λhh tk kp hle=>?_);refine ao (Co ?_ hn);have hoL:(hh.push (dz "list" vs.toArray 0)).get? hh.objs.size=ae (dz "list" vs.toArray 0):=cx _ rfl;show ϑ _ _ _ _ _ {s with heap:=hh.push (dz "list" vs.toArray 0),toks:=tk};refine ao (eJ (ip slot_list_sort ⟨_,hoL,rfl⟩ entry_list_sort ?body (args_list_sort _)))
 case body=>
  refine dA (HH h64 (E:=λ_ _=>cg) (P:=λf s'=>∃v,f=.done (.ret v)/\v=d5/\Q (.ref hh.objs.size) s') hoL hn (λh2=>?_) (λh2=>⟨_,rfl,rfl,h1 hh tk kp hle h2⟩)) (λf s' h=>?_) λ_ _ z=>dg z
  ·obtain⟨κ,rk,hkk,hL,fin⟩:=hk hh tk kp hle h2;exact⟨κ,rk,hkk,hL,λp ok up=>⟨_,rfl,rfl,fin p ok up⟩⟩
  ·obtain⟨v,rfl,rfl,q⟩:=h;exact⟨_,rfl,aI ⟨_,rfl,q⟩⟩
end TS
namespace Mi
open PySem L2 PySem.SeqAt
open PyProof.Rows (Keyed lt' keyLt' oneLt' SortKind SortSt kindOf tuples' oneType' pairsOf wpS wpS_bind wpS_pure wpS_get wpS_lift keyKind')
section
variable [KFrag]
def lN(H:Hp)(u:ak):D:=by
 classical
 exact if h:∃d,d.plain=af/\d.gB aZ=af/\∃v,RelV v u/\Rep All H v d then Cs h else .non
theorem xV(hp:d.plain=af)(hq:d.gB aZ=af)(rv:RelV v u)(r:Rep All H v d):lN H u=d:=by
 unfold lN;have h:∃d,d.plain=af/\d.gB aZ=af/\∃v,RelV v u/\Rep All H v d:=⟨d,hp,hq,v,rv,r⟩
 rw[dif_pos h];obtain⟨h1,h2,v',rv',r'⟩:=Ct h;have:=rv'.inj rv;subst this;exact Rep.inj aZ h2 hq r' r
theorem fL(h:cN ds=af)(ha:a∈ds):a.plain=af/\a.gB aZ=af/\gR a≠0/\gR a=gR (ds.headD .non)/\∀b∈ds,∃k,o8 .lt a b=ae k:=by
 unfold cN at h;rw[bc] at h;have:=jk.mp h.2 a ha;simp only[bc,bne_iff_ne,gy] at this;obtain⟨⟨⟨⟨h1,h2⟩,h3⟩,h4⟩,h5⟩:=this;refine⟨h1,h2,h3,h4,λb hb=>vb.mp (jk.mp h5 b hb)⟩
theorem aM7(h:cN ds=af)(ha:a∈ds)(hb:b∈ds):o8 .lt a b=ae (ϒ (enc a<enc b)):=by
 obtain⟨p1,_,_,_,q⟩:=fL h ha;obtain⟨p2,_⟩:=fL h hb;obtain⟨k,hk⟩:=q b hb;rw[hk,R0 a b k p1 p2 hk]
def sU(H:Hp)(ds:aa D)(k:jj):Prop:=∃v d,RelV v k.1/\Rep All H v d/\d∈ds
def sLt(H:Hp)(x y:jj):au:=ϒ (enc (lN H x.1)<enc (lN H y.1))
section
variable {X:Cx} {Ψ:aa (am×bg)} {σ:L2.St} {H:Hp} {s:ar}
open PySem.W in
theorem HJ:∀(vs ws:aa ak)(xs ys:aa D)(i:ag),(b&&i==0)=ai->C2 .lt A s vs ws xs ys->nJ .lt xs ys=ae k->xs.length+n2=ys.length+n1->Q k s->
  KatLex prog w A b (ϒ (n1<n2)) Q (vs.zip ws) i s
 |[],ws,xs,ys,i,_,hC,hk,hf,q=>by
  have:xs=[]:=zS hC.1.symm;subst this;rw[zv];rw[nJ] at hk;have e:k=ϒ (n1<n2):=by
   rw[<-c9 hk];simp only[lG.nat,dQ] at hf ⊢
   congr 1
   simp only[vy];lia
  rw[<-e];exact q
 |v::vs,[],xs,ys,i,_,hC,hk,hf,q=>by
  have:ys=[]:=zS hC.2.1.symm;subst this;rw[vw];cases xs with
  |nil=>exact bf hC.1 0x2
  |cons x xs=>
   rw[nJ] at hk;have e:k=ϒ (n1<n2):=by
    rw[<-c9 hk];simp only[lG.nat,dQ,aS] at hf ⊢
    congr 1
    simp only[vy];lia
   rw[<-e];exact q
 |v::vs,w'::ws,[],ys,i,_,hC,hk,hf,q=>bf hC.1 0x2
 |v::vs,w'::ws,x::xs,[],i,_,hC,hk,hf,q=>bf hC.2.1 0x2
 |v::vs,w'::ws,x::xs,y::ys,i,hi,hC,hk,hf,q=>by
  rw[vx];obtain⟨he,hlt⟩:=hC.2.2 0 _ _ _ _ rfl rfl rfl rfl;rw[nJ] at hk;refine kat_cons (he prog w _ _ ?_);cases e:eqD x y with
  |true=>
   rw[e,av rfl] at hk;exact kat_yes (HJ vs ws xs ys (i+1) 0x2 hC.tail hk (by simp only[aS] at hf;lia) q)
  |false=>
   rw[e,ax 0x2] at hk;refine kat_no ?_;rw[hi];exact kat_one _ _ (hlt e k hk prog w _ _ q)
theorem aPh(I:Inv X Ψ σ H s)(hu:A.units+n<cr)(ha:ο n ds=af)(hb:ο n es=af)(r1:bZ All H xs ds)(r2:bZ All H ys es)(vr1:Vals xs its1)(vr2:Vals ys its2) :
  C2 .lt A s its1 its2 ds es:=by
 refine⟨by rw[<-vr1.length,r1.length],by rw[<-vr2.length,r2.length],λj v w x y a1 a2 a3 a4=>?_⟩;obtain⟨v1,w1,rr1⟩:=r1.get a3;obtain⟨v2,w2,rr2⟩:=r2.get a4;obtain⟨u1,k1,l1⟩:=vr1.get w1;obtain⟨u2,k2,l2⟩:=vr2.get w2;rw[a1] at k1;cases k1;rw[a2] at k2;cases k2;have g1:x.gB n=af:=by
  have:=iJ ha (du.mp a3).1;rwa [ef,a3] at this
 have g2:y.gB n=af:=by
  have:=iJ hb (du.mp a4).1;rwa [ef,a4] at this
 exact⟨(M_ I n A hu g1 g2 rr1 rr2 l1 l2).2.2,λ_ k hk=>aBa I .lt n A hu g1 g2 rr1 rr2 l1 l2 hk⟩
theorem kind_le(d:D):gR d<=5:=by
 unfold gR;split<;>lia
theorem aIc(h:gR d=1):∃i,d=.int i:=by
 unfold gR at h;split at h<;>first|lia|exact⟨_,rfl⟩
theorem aIe(h:gR d=2):∃i,d=.str i:=by
 unfold gR at h;split at h<;>first|lia|exact⟨_,rfl⟩
theorem aEt(h:gR d=3):∃i r,d=.tup (.int i::r):=by
 unfold gR at h;split at h<;>first|lia|exact⟨_,_,rfl⟩
theorem aEu(h:gR d=4):∃i r,d=.tup (.str i::r):=by
 unfold gR at h;split at h<;>first|lia|exact⟨_,_,rfl⟩
theorem aM8(h:gR d=5):∃i r,d=.tup (.tup i::r):=by
 unfold gR at h;split at h<;>first|lia|exact⟨_,_,rfl⟩
theorem V3(r:bZ All H xs ds)(vr:Vals xs its)(hu:u∈its):∃v d,RelV v u/\Rep All H v d/\d∈ds:=by
 obtain⟨j,hj,e⟩:=Cu hu;have hj':j<ds.length:=by rw[<-r.length,vr.length];exact hj
 obtain⟨v,h1,h2⟩:=r.get (i:=j) (d:=ds[j]) (by simp[hj']);obtain⟨u',h3,h4⟩:=vr.get h1;rw[ff hj,e] at h3;cases h3;exact⟨v,_,h4,h2,oy _⟩
open PySem.W in
theorem HN(I:Inv X Ψ σ H s){F:D->Prop}(hF:∀(d:D) (v:V) (u:ak),F d->RelV v u->Rep All H v d->ix (aw X.prog X.w) s.heap (iF u) T) :
  ∀{xs:aa V}{ds:aa D}{its:aa ak},bZ All H xs ds->Vals xs its->(∀d∈ds,∃f r,d=.tup (f::r)/\F f)->∃fs,KatTups s.heap its fs/\fs.length=its.length/\∀f∈fs,ix (aw X.prog X.w) s.heap (iF f) T
 |_,_,_,.nil,.nil,_=>⟨[],.nil,rfl,λ_ h=>by simp at h⟩
 |_,_,_,.cons r t,.cons v vt,h=>by
  obtain⟨fs,h1,h2,h3⟩:=HN I hF t vt λd hd=>h d (bw _ hd)
  obtain⟨f,rr,rfl,hf⟩:=h _ (bo ..);obtain⟨a,ys,rfl,e,rs⟩:=r.fK;cases v;obtain⟨its2,vr2,o,ho,hc,n,hd⟩:=iI I e;cases rs with
  |cons r0 rs=>
   cases vr2 with
   |cons v0 vr2=>
    refine⟨_::fs,.cons ho hc hd rfl h1,by simp[h2],λg hg=>?_⟩;rcases bP.mp hg with rfl|hg
    ·exact hF _ _ _ hf v0 r0
    ·exact h3 g hg
open PySem.W in
theorem aBe(I:Inv X Ψ σ H s)(hu:A.units+aZ<cr)(hc:cN ds=af)(r:bZ All H xs ds)(vr:Vals xs its)(h2:2<=its.length) :
  ∃κ:mB,(∀Q:mB->ar->Prop,Q κ s->ϑ (aw X.prog X.w) A (zw its.toArray) Q (λ_ _=>cg) s)/\
   ∀(x y:jj)(Q:au->ar->Prop),sU H ds x->sU H ds y->Q (sLt H x y) s->ϑ (aw X.prog X.w) A (keyLt' κ x.1 y.1) Q (λ_ _=>cg) s:=by
 have hlen:ds.length=its.length:=by rw[<-r.length,vr.length]
 have hkind:∀d∈ds,gR d=gR (ds.headD .non):=λd hd=>(fL hc hd).2.2.2.1
 have hne:gR (ds.headD .non)≠0:=by
  have hd:ds.headD .non∈ds:=by
   cases ds with
   |nil=>simp at hlen;lia
   |cons d ds=>simp
  exact(fL hc hd).2.2.1
 have lty:∀{x y:jj}{v v':V}{d d':D},RelV v x.1->Rep All H v d->d∈ds->RelV v' y.1->Rep All H v' d'->d'∈ds->o8 .lt d d'=ae (sLt H x y):=λ{x y v v' d d'} rv rp hd rv' rp' hd'=>by
  have e1:=xV (fL hc hd).1 (fL hc hd).2.1 rv rp;have e2:=xV (fL hc hd').1 (fL hc hd').2.1 rv' rp';rw[aM7 hc hd hd'];unfold sLt;rw[e1,e2]
 -- two tuples whose first items are told by a jv of their own,or by the common one
 have tupl:∀(b:au)(x y:jj)(Q:au->ar->Prop),sU H ds x->sU H ds y->(∀d∈ds,∃f r,d=.tup (f::r))->
   (b=af->∀(f g:D)(v v':V)(u u':ak)(k:au)(Q:au->ar->Prop),(∃r,ν (f::r)∈ds)->(∃r,ν (g::r)∈ds)->RelV v u->Rep All H v f->RelV v' u'->Rep All H v' g->o8 .lt f g=ae k->Q k s->ϑ (aw X.prog X.w) A (oneLt' af u u') Q (λ_ _=>cg) s)->
   Q (sLt H x y) s->ϑ (aw X.prog X.w) A (keyLt' (vS b) x.1 y.1) Q (λ_ _=>cg) s:=by
  rintro b ⟨x1,x2⟩ ⟨y1,y2⟩ Q ⟨v,d,rv,rp,hd⟩ ⟨v',d',rv',rp',hd'⟩ htup hone q;have hk:=lty rv rp hd rv' rp' hd';have q1:=(fL hc hd).2.1;have q2:=(fL hc hd').2.1;obtain⟨f,rr,rfl⟩:=htup d hd;obtain⟨g,rr',rfl⟩:=htup d' hd';obtain⟨a,ys,rfl,e,rs⟩:=rp.fK;obtain⟨a',ys',rfl,e',rs'⟩:=rp'.fK;cases rv;cases rv';obtain⟨i1,vr1,o1,ho1,hc1,n1,hd1⟩:=iI I e;obtain⟨i2,vr2,o2,ho2,hc2,n2,hd2⟩:=iI I e';rw[o8] at hk;have q1':ο 11 (f::rr)=af:=q1;have q2':ο 11 (g::rr')=af:=q2;have hu':A.units+11<cr:=by have:A.units+12<cr:=hu;lia
  have C:=aPh I hu' q1' q2' rs rs' vr1 vr2;refine kat_lt ho1 hd1 ho2 hd2 ?_;have z1:i1.toArray.size=(f::rr).length:=by rw[cm,<-vr1.length,rs.length]
  have z2:i2.toArray.size=(g::rr').length:=by rw[cm,<-vr2.length,rs'.length]
  rw[ox,ox,z1,z2];cases b with
  |false=>exact HJ i1 i2 (f::rr) (g::rr') 0 rfl C hk 0x1 q
  |true=>
   cases rs with
   |cons r0 rs=>
    cases rs' with
    |cons r0' rs'=>
     cases vr1 with
     |cons v0 vr1=>
      cases vr2 with
      |cons v0' vr2=>
       rw[vx];obtain⟨he,_⟩:=C.2.2 0 _ _ _ _ rfl rfl rfl rfl;rw[nJ] at hk;refine kat_cons (he X.prog X.w _ _ ?_);cases e0:eqD f g with
       |true=>
        rw[e0,av rfl] at hk;exact kat_yes (HJ _ _ rr rr' 1 0x2 C.tail hk (by simp only[aS];lia) q)
       |false=>
        rw[e0,ax 0x2] at hk;refine kat_no ?_;exact hone rfl f g _ _ _ _ _ Q ⟨_,hd⟩ ⟨_,hd'⟩ v0 r0 v0' r0' hk q
 have h5:=kind_le (ds.headD .non);have cases5:gR (ds.headD .non)=1\/gR (ds.headD .non)=2\/gR (ds.headD .non)=3\/gR (ds.headD .non)=4\/gR (ds.headD .non)=5:=by lia
 rcases cases5 with c|c|c|c|c
 ·refine⟨oneType',λQ q=>kas_kind (T:=.type "int") h2 (λu hm=>?_) 0x4 0x4 q,λx y Q hx hy q=>?_⟩
  ·obtain⟨v,d,rv,rp,hd⟩:=V3 r vr hm;obtain⟨i,rfl⟩:=aIc ((hkind d hd).trans c);cases rp.inv;obtain⟨t,rfl⟩:=rv;exact vT rfl
  ·obtain⟨v,d,rv,rp,hd⟩:=hx;obtain⟨v',d',rv',rp',hd'⟩:=hy;have hk:=lty rv rp hd rv' rp' hd';obtain⟨i,rfl⟩:=aIc ((hkind d hd).trans c);obtain⟨j,rfl⟩:=aIc ((hkind d' hd').trans c);cases rp.inv;cases rp'.inv;obtain⟨t,e1⟩:=rv;obtain⟨t',e2⟩:=rv';rw[o8] at hk;rw[<-c9 hk] at q;rw[e1,e2,Cw];exact Cy q
 ·refine⟨oneType',λQ q=>kas_kind (T:=.type "str") h2 (λu hm=>?_) 0x4 0x4 q,λx y Q hx hy q=>?_⟩
  ·obtain⟨v,d,rv,rp,hd⟩:=V3 r vr hm;obtain⟨i,rfl⟩:=aIe ((hkind d hd).trans c);cases rp.inv;obtain⟨t,rfl⟩:=rv;exact vT rfl
  ·obtain⟨v,d,rv,rp,hd⟩:=hx;obtain⟨v',d',rv',rp',hd'⟩:=hy;have hk:=lty rv rp hd rv' rp' hd';obtain⟨i,rfl⟩:=aIe ((hkind d hd).trans c);obtain⟨j,rfl⟩:=aIe ((hkind d' hd').trans c);cases rp.inv;cases rp'.inv;obtain⟨t,e1⟩:=rv;obtain⟨t',e2⟩:=rv';rw[o8] at hk;rw[<-c9 hk] at q;rw[e1,e2,Cw];exact Cz q
 ·obtain⟨fs,t1,t2,t3⟩:=HN I (T:=.type "int") (F:=λf=>∃i,f=.int i) (λd v u hf rv rp=>by
   obtain⟨i,rfl⟩:=hf;cases rp.inv;obtain⟨t,rfl⟩:=rv;exact vT rfl) r vr (λd hd=>by
   obtain⟨i,rr,rfl⟩:=aEt ((hkind d hd).trans c);exact⟨_,_,rfl,i,rfl⟩)
  refine⟨vS af,λQ q=>Aa (T:=.type "int") t1 0x1 t3 0x4 q,λx y Q hx hy q=>tupl af x y Q hx hy (λd hd=>?_) (λ_ f g v v' u u' k Q hf hg rv rp rv' rp' hk q=>?_) q⟩
  ·obtain⟨i,rr,rfl⟩:=aEt ((hkind d hd).trans c);exact⟨_,_,rfl⟩
  ·obtain⟨r1,hf⟩:=hf;obtain⟨r2,hg⟩:=hg;obtain⟨i,rr,e1⟩:=aEt ((hkind _ hf).trans c);obtain⟨j,rr',e2⟩:=aEt ((hkind _ hg).trans c);cases e1;cases e2;cases rp.inv;cases rp'.inv;obtain⟨t,rfl⟩:=rv;obtain⟨t',rfl⟩:=rv';rw[o8] at hk;rw[<-c9 hk] at q;exact Cy q
 ·obtain⟨fs,t1,t2,t3⟩:=HN I (T:=.type "str") (F:=λf=>∃i,f=.str i) (λd v u hf rv rp=>by
   obtain⟨i,rfl⟩:=hf;cases rp.inv;obtain⟨t,rfl⟩:=rv;exact vT rfl) r vr (λd hd=>by
   obtain⟨i,rr,rfl⟩:=aEu ((hkind d hd).trans c);exact⟨_,_,rfl,i,rfl⟩)
  refine⟨vS af,λQ q=>Aa (T:=.type "str") t1 0x1 t3 0x4 q,λx y Q hx hy q=>tupl af x y Q hx hy (λd hd=>?_) (λ_ f g v v' u u' k Q hf hg rv rp rv' rp' hk q=>?_) q⟩
  ·obtain⟨i,rr,rfl⟩:=aEu ((hkind d hd).trans c);exact⟨_,_,rfl⟩
  ·obtain⟨r1,hf⟩:=hf;obtain⟨r2,hg⟩:=hg;obtain⟨i,rr,e1⟩:=aEu ((hkind _ hf).trans c);obtain⟨j,rr',e2⟩:=aEu ((hkind _ hg).trans c);cases e1;cases e2;cases rp.inv;cases rp'.inv;obtain⟨t,rfl⟩:=rv;obtain⟨t',rfl⟩:=rv';rw[o8] at hk;rw[<-c9 hk] at q;exact Cz q
 ·obtain⟨fs,t1,t2,t3⟩:=HN I (T:=.type "tuple") (F:=λf=>∃i,f=.tup i) (λd v u hf rv rp=>by
   obtain⟨i,rfl⟩:=hf;obtain⟨a,ys,rfl,e,rs⟩:=rp.fK;cases rv;obtain⟨i1,vr1,o1,ho1,hc1,n1,hd1⟩:=iI I e;have:=(show ix (aw X.prog X.w) s.heap (iF (.ref a)) o1.cls from (oz ho1).andThen .now)
   rwa [hc1] at this) r vr (λd hd=>by
   obtain⟨i,rr,rfl⟩:=aM8 ((hkind d hd).trans c);exact⟨_,_,rfl,i,rfl⟩)
  refine⟨vS ai,λQ q=>Aa (T:=.type "tuple") t1 0x1 t3 0x4 q,λx y Q hx hy q=>tupl ai x y Q hx hy (λd hd=>?_) (λh=>by cases h) q⟩;obtain⟨i,rr,rfl⟩:=aM8 ((hkind d hd).trans c);exact⟨_,_,rfl⟩
theorem mL(I:Inv X Ψ σ H s)(hu:X.A.units+20<cr)(vr:Vals xs its)(hn:its.length<=aT)(r:bZ All H xs ds)(hc:cN ds=af)
 (hcol:∀(Q':aa ak->ar->Prop) (E':ak->ar->Prop),(∀h1 tk,(∀b o,s.heap.get? b=ae o->h1.get? b=ae o)->s.heap.objs.size<=h1.objs.size->Q' its {s with heap:=h1,toks:=tk})->ϑ (aw X.prog X.w) X.A.in1 (mE v) Q' E' s)
 (q:∀p xs',H p=aj->bZ All H xs' (uX ds)->Q (.ref p) (upd H p (.lst xs'))):ϑ (aw X.prog X.w) X.A (call (.builtin "sorted") [v]) (EP X Ψ σ Q) X.xe s:=by
 have hz:xs.length<=aT:=by rw[vr.length];exact hn
 -- what comes,told by its data
 have fin:∀(h1:ay)(tk:ag),(∀b o,s.heap.get? b=ae o->h1.get? b=ae o)->s.heap.objs.size<=h1.objs.size->∀arr:aE jj,arr.Perm (fq its)->(∀i j,i<=j->j<arr.size->leE (lN H (TS.gt arr i).1) (lN H (TS.gt arr j).1)=af)->EP X Ψ σ Q (.ref h1.objs.size) {s with heap:=TS.aKp h1 its (arr.map (·.2)),toks:=tk}:=by
  intro h1' tk kp hle arr hp hs;have hpl:arr.toList.Perm (its.zip its):=by rw[<-EA];exact Ab.mp hp
  have hmem:∀p∈arr.toList,p.1=p.2/\p.1∈its:=λp hp'=>EB (hpl.mem_iff.mp hp')
  have e1:(arr.map (·.2)).toList=arr.toList.map (·.1):=by
   rw[Ac];exact Ad λp hp'=>(hmem p hp').1.symm
  -- the values and their data
  have all:∀l:aa jj,(∀p∈l,p∈arr.toList)->∃ys,Vals ys (l.map (·.1))/\bZ All H ys (l.map λp=>lN H p.1):=by
   intro l;induction l with
   |nil=>intro _;exact⟨[],.nil,.nil⟩
   |cons p l ih=>
    intro h;obtain⟨ys,h1,h2⟩:=ih λp hp'=>h p (bw _ hp')
    obtain⟨v,d,rv,rp,hd⟩:=V3 r vr (hmem p (h p (bo ..))).2;refine⟨v::ys,.cons rv h1,?_⟩;rw[bu,xV (fL hc hd).1 (fL hc hd).2.1 rv rp];exact .cons rp h2
  obtain⟨ys,h1,h2⟩:=all arr.toList λ_ h=>h
  have dats:its.map (lN H)=ds:=by
   clear all h1 h2 hp hs hpl hmem e1;have:∀{xs:aa V}{es:aa D}{us:aa ak},bZ All H xs es->Vals xs us->(∀d∈es,d∈ds)->us.map (lN H)=es:=by
    intro xs es us r;induction us generalizing xs es with
    |nil=>intro v _;cases v;cases r;rfl
    |cons u us ih=>
     intro v hsub;cases v with
     |cons v0 vt=>
      cases r with
      |cons r0 rt=>
       have hd:=hsub _ (bo ..);rw[bu,ih rt vt λd hd=>hsub d (bw _ hd),xV (fL hc hd).1 (fL hc hd).2.1 v0 r0]
   exact this r vr λ_ h=>h
  have hperm:(arr.toList.map λp=>lN H p.1).Perm ds:=by
   have:=hpl.map λp=>lN H p.1
   have e2:(its.zip its).map (λp=>lN H p.1)=ds:=by
    have:(its.zip its).map (λp=>lN H p.1)=((its.zip its).map wc).map (lN H):=by rw[c5];rfl
    rw[this,List.map_fst_zip (ba _),dats]
   rwa [e2] at this
  have hsorted:(arr.toList.map λp=>lN H p.1).Pairwise λa b=>leE a b=af:=by
   rw[we,List.pairwise_iff_getElem];intro i j hi hj hij;have:=hs i j (ii hij) (by simpa using hj);have g:∀k (hk:k<arr.toList.length),TS.gt arr k=arr.toList[k]:=λk hk=>by
    unfold TS.gt;have hk':k<arr.size:=by simpa using hk
    simp[mz,hk']
   rwa [g i hi,g j hj] at this
  have eq:(arr.toList.map λp=>lN H p.1)=uX ds:=by
   refine aB6 (λd hd=>?_) (hperm.trans (oN ds).symm) hsorted (wG ds);exact(fL hc (hperm.mem_iff.mp hd)).1
  rw[eq] at h2;rw[<-e1] at h1;have hfr:H h1'.objs.size=aj:=I.hok.fresh hle;obtain⟨ee,he⟩:=TS.aIb h1' its (arr.map (·.2));refine⟨.ref h1'.objs.size,_,I.laid (λb o e=>TS.aEs (kp b o e)) hle ?_,rfl,q _ ys hfr h2⟩;refine⟨?_,(arr.map (·.2)).toList,ee,h1,by rw[he]⟩;rw[h2.length,(oN ds).length_eq,<-r.length];exact hz
 have h64:its.length<64:=by
  unfold cN at hc;rw[bc] at hc;rw[<-vr.length,r.length];exact fg hc.1
 refine TS.Y_ h64 hn hcol (λhh tk kp hle h2=>?_) (λhh tk kp hle h2=>?_)
 ·have I':Inv X Ψ σ H {s with heap:=TS.aIa hh its,toks:=tk}:=I.kept λb o e=>TS.aEr (kp b o e)
  have hu2:X.A.in1.in1.units+aZ<cr:=by show X.A.units+1+1+12<cr;lia
  obtain⟨κ,k1,k2⟩:=aBe I' hu2 hc r vr h2;have it:∀i,oB (fq its) i=(its.getD i .none,its.getD i .none):=PySem.W.kas_item_eq its;obtain⟨rk,hrk⟩:=TS.aI9 its.length (λi j=>ϒ (enc (lN H (its.getD i .none))<enc (lN H (its.getD j .none)))) (λi=>by simp[CA]) (λi j k h1 h2=>by
   simp only[dE] at *;exact List.lt_trans h1 h2) (λi j k h=>by
   simp only[dE] at *;by_cases q:enc (lN H (its.getD i .none))<enc (lN H (its.getD j .none))
   ·exact .inl q
   ·exact .inr (B6 (B7.mp q) h))
  have mem:∀i,i<its.length->sU H ds (its.getD i .none,its.getD i .none):=λi hi=>by
   rw[ef,ff hi];exact V3 r vr (oy hi)
  refine⟨κ,rk,k1,λi j hi hj C c=>?_,λp ok up=>fin hh tk kp hle _ ?_ λi j a1 a2=>?_⟩
  ·unfold PySem.W.kas_cmp;rw[it,it];rw[hrk i j hi] at c;exact k2 _ _ C (mem i hi) (mem j hj) c
  ·have e:=PySem.W.kas_range (fq its);rw[CB] at e;have q:=(Ab.mp ok).map (oB (fq its));refine Ab.mpr ?_;rw[Ac];exact q.trans (by rw[<-Ac,e])
  ·have sz:(p.map (oB (fq its))).size=its.length:=by rw[vE,ok.size]
   rw[sz] at a2;have g:∀k,k<its.length->TS.gt (p.map (oB (fq its))) k=oB (fq its) (p.getD k 0):=λk hk=>by
    have hk:k<p.size:=by rw[ok.size];exact hk
    unfold TS.gt;simp[mz,hk]
   rw[g i 0x1,g j a2,it,it];have u:=up i j a1 a2;have:=hrk (p.getD j 0) (p.getD i 0) (ok.lt 0x1 j);rw[c8 (by exact Cm.mpr u)] at this;unfold leE;rw[<-this];rfl
 ·refine fin hh tk kp hle _ (Ci _) λi j a1 a2=>?_
  rw[CB] at a2;rw[show i=j by lia];simp[leE,CA]
theorem ZC(I:Inv X Ψ σ H s)(hu:X.A.units+20<cr)(hl:SqL X.K H l xs)(r:bZ All H xs ds)(hc:cN ds=af)
 (q:∀p xs',H p=aj->bZ All H xs' (uX ds)->Q (.ref p) (upd H p (.lst xs'))):ϑ (aw X.prog X.w) X.A (call (.builtin "sorted") [.ref l]) (EP X Ψ σ Q) X.xe s:=by
 obtain⟨its,vr,pl,hz⟩:=I.list hl;have hn:its.length<=aT:=by rw[<-vr.length];exact hz
 refine mL I hu vr hn r hc (λQ' E' h=>EC pl.isList (h _ s.toks (λb o e=>?_) ?_) hn) q
 ·rw[vF _ _ _ _ (cu (bn e))];exact br _ e
 ·rw[zD,ED];exact iu _
end
end
open PySem.Spec PyProof.Rows
section
variable [KFrag]
def kR(H:Hp)(d:D)(fr:au)(Q:VK):Prop:=∀v H',cZ H H'->Rep All H' v d->(fr=af->Rep (New H) H' v d)->Q v H'
noncomputable def gE(f:FE)(fr:au):TE:=λσ H Q=>∃ρ d,ER H σ ρ/\f ρ=.ok d/\kR H d fr Q
noncomputable def gT(f:FT):TT:=λσ H Q=>∃ρ b,ER H σ ρ/\f ρ=.ok b/\∀H',cZ H H'->Q b H'
noncomputable def gA(f:FA)(fr:au):TA:=λσ H Q=>∃ρ ds,ER H σ ρ/\f ρ=.ok ds/\∀vs H',cZ H H'->bZ All H' vs ds->(fr=af->bZ (New H) H' vs ds)->Q vs H'
theorem kR.self{fr:au}(q:kR H d fr Q)(r:Rep All H v d)(r2:fr=af->Rep (New H) H v d):Q v H:=q v H (cZ.refl H) r r2
theorem kR.imp{fr fr':au}(q:kR H d fr Q)(s:cZ H H')(h:fr=af->fr'=af):kR H' d fr' Q:=λv H2 s2 r n=>q v H2 (s.trans s2) r λhf=>(n (h hf)).mono (cZ.new s)
theorem kR.int{fr:au}{Q:VK}(q:kR H (.int i) fr Q):Q (.int i) H:=q.self (.int i) λ_=>.int i
theorem kR.bl{fr:au}{Q:VK}(q:kR H (.bl i) fr Q):Q (.bl i) H:=q.self (.bl i) λ_=>.bl i
theorem kR.str{fr:au}{Q:VK}(q:kR H (.str i) fr Q):Q (.str i) H:=q.self (.str i) λ_=>.str i
theorem kR.non{fr:au}{Q:VK}(q:kR H .non fr Q):Q .non H:=q.self .non λ_=>.non
noncomputable def r2(f:D->D->Res D)(fr:au):R2:=λx y H Q=>∃a b d,Rep All H x a/\Rep All H y b/\f a b=.ok d/\kR H d fr Q
def r1(f:D->Res D)(fr:au):V->Hp->VK->Prop:=λx H Q=>∃a d,Rep All H x a/\f a=.ok d/\kR H d fr Q
def rs(f:aa D->Res D)(fr:au):aa V->Hp->VK->Prop:=λxs H Q=>∃ds d,bZ All H xs ds/\f ds=.ok d/\kR H d fr Q
def rm(f:D->aa D->Res D)(fr:au):V->aa V->Hp->VK->Prop:=λx xs H Q=>∃a ds d,Rep All H x a/\bZ All H xs ds/\f a ds=.ok d/\kR H d fr Q
theorem bL{f:α->Res β}(h:(do let x <- m;f x)=.ok b):∃a,m=.ok a/\f a=.ok b:=Res.aI1 h
section
variable {X:Cx} {a b e:Expr} {pos:bX} {fa fb fe:FE} {ra rb re:au} {ga:FT}
theorem ER.var(E:ER H σ ρ)(h:fM i ρ=.ok d):∃v,σ[i]?=ae (ae v)/\Rep All H v d/\ρ.getD i .uD=d:=by
 have:ρ.getD i .uD=d/\d≠.uD:=by
  unfold fM at h;split at h
  ·exact bx h
  ·cases h;refine⟨rfl,λz=>?_⟩;rename_i q;exact q z
 obtain⟨e1,e2⟩:=this;obtain⟨v,h1,h2⟩:=E i (by rw[e1];exact e2);exact⟨v,h1,by rw[e1] at h2;exact h2,e1⟩
theorem aD(hN:X.N[i]?=ae x:=by exact rfl)(hv:Vis X.env.scope x:=by trivial)(hd:nDb x:=by decide)(hcd:nCd x:=by decide):PE X (.Name x pos) (gE (fM i) ai):=
 PE.imp (fH hN hv hd hcd) λσ H Q z0=>by
  obtain⟨ρ,d,E,h,q⟩:=z0;obtain⟨v,h1,h2,_⟩:=E.var h;exact⟨v,h1,q.self h2 (λz=>by cases z)⟩
theorem aF{i j}:PE X (.Constant (.int i) j pos) (gE (bC (.int i)) af):=PE.imp aL0 λσ H Q z0=>by obtain⟨ρ,d,E,h,q⟩:=z0;cases h;exact q.int
theorem R9{i j}:PE X (.Constant (.bool i) j pos) (gE (bC (.bl i)) af):=PE.imp aOz λσ H Q z0=>by obtain⟨ρ,d,E,h,q⟩:=z0;cases h;exact q.bl
theorem o_{i j}:PE X (.Constant (.str i) j pos) (gE (bC (.str i)) af):=PE.imp aA9 λσ H Q z0=>by obtain⟨ρ,d,E,h,q⟩:=z0;cases h;exact q.str
theorem aM9{j}:PE X (.Constant .none j pos) (gE (bC .non) af):=PE.imp aL1 λσ H Q z0=>by obtain⟨ρ,d,E,h,q⟩:=z0;cases h;exact q.non
theorem two{fr:au}{σ:L2.St}{H:Hp}{Q:VK}(h:gE (b2 f fa fb) fr σ H Q):tOp (r2 f fr) (gE fa ra) (gE fb rb) σ H Q:=by
 obtain⟨ρ,d,E,h,q⟩:=h;obtain⟨x,h1,h⟩:=bL h;obtain⟨y,h2,h⟩:=bL h;refine⟨ρ,x,E,h1,λv H1 s1 rp1 _=>⟨ρ,y,E.same s1,h2,λu H2 s2 rp2 _=>⟨x,y,d,rp1.same s2,rp2,h,q.imp (s1.trans s2) id⟩⟩⟩
theorem aU{o:Operator}{f:D->D->Res D}{fr:au}(ho:OpR X (e9 o) (r2 f fr))(ha:PE X a (gE fa ra))(hb:PE X b (gE fb rb)):PE X (.BinOp a o b pos) (gE (b2 f fa fb) fr):=PE.imp (aP7 ho ha hb) λ_ _ _=>two
theorem aBf{o:ow}{f:D->D->Res D}{fr:au}(ho:OpR X (dw o) (r2 f fr))(ha:PE X a (gE fa ra))(hb:PE X b (gE fb rb))(hm:kF o b=ai):PE X (.Compare a [o] [b] pos) (gE (b2 f fa fb) fr):=PE.imp (aHk ho ha hb hm) λ_ _ _=>two
theorem b_{o:ow}{f:D->D->Res D}{fr:au}(ho:OpR X (dw o) (r2 f fr))(ha:PE X a (gE fa ra))(hb:PE X b (gE fb rb))(hm:kF o b=ai):PT X (.Compare a [o] [b] pos) (gT (bTB (b2 f fa fb))):=
 PT.imp (aAh ho ha hb hm) λσ H Q z0=>by
  obtain⟨ρ,k,E,h,q⟩:=z0;obtain⟨d,h1,h2⟩:=bL h;refine two ⟨ρ,d,E,h1,λv H' s r _=>?_⟩;cases d<;>simp only[asB] at h2<;>cases h2
  cases r.inv;exact⟨_,rfl,q H' s⟩
theorem aMa{f:D->Res D}{fr:au}(ho:UnR X (uS o) (r1 f fr))(ha:PE X a (gE fa ra)):PE X (.UnaryOp o a pos) (gE (b1 f fa) fr):=
 PE.imp (aP8 ho ha) λσ H Q z0=>by
  obtain⟨ρ,d,E,h,q⟩:=z0;obtain⟨x,h1,h⟩:=bL h;exact⟨ρ,x,E,h1,λv H1 s1 rp1 _=>⟨x,d,rp1,h,q.imp s1 id⟩⟩
theorem aPi{f:D->D->Res D}{fr:au}(ho:IxR X (r2 f fr))(ha:PE X a (gE fa ra))(hb:PE X b (gE fb rb))(hs:GX b):PE X (.Subscript a b pos) (gE (b2 f fa fb) fr):=PE.imp (aLo ho ha hb hs) λ_ _ _=>two
theorem aRn(r:Rep All H v d)(h:aQm d=.ok k)(hd:∀kvs,d≠.dct kvs)(hs:∀xs,d≠.scr xs):aPb X.K v H k:=by
 cases r with
 |non=>cases h;rfl
 |bl b=>cases h;rfl
 |int i=>cases h;rfl
 |str x=>
  replace h:(if ϒ (x.length<=lim) then τ ((x.length:ah)!=0) else .bad)=.ok k:=h;split at h
  ·rename_i hl;cases h;exact⟨dj (fg hl) (by rw[dk];decide),rfl⟩
  ·exact bx h
 |tup e rr=>cases h;exact .inr (.inl ⟨_,.of e,by cases rr<;>rfl⟩)
 |lst e p rr=>cases h;exact .inl ⟨_,.of e,by cases rr<;>rfl⟩
 |frz e rr=>exact bf rfl (hs _)
 |dK e p rr n=>exact bf rfl (hd _)
 |dT e p rr n=>exact bf rfl (hd _)
 |fdK e rr n=>exact bx h
 |fdT e rr n=>exact bx h
 |exc n e q=>exact bx h
 |ins n e q=>exact bx h
 |adr=>exact bx h
 |dlK _ _ _ _=>exact bx h
 |dlT _ _ _ _=>exact bx h
 |cel e p rr=>exact bx h
theorem p_(ha:PE X a (gE fa ra))(he:∀whole,sD a X.env whole=(do let v <- whole;yj a.pos;l8 [v] (truthy v)):=by intro _;rfl):PT X a (gT (bTr fa)):=
 PT.imp (aEa ha he) λσ H Q z0=>by
  obtain⟨ρ,k,E,h,q⟩:=z0;obtain⟨d,h1,h2⟩:=bL h;refine⟨ρ,d,E,h1,λv H' s r _=>⟨k,aRn r ?_ ?_ ?_,q H' s⟩⟩
  ·cases d<;>first|exact h2|exact bx h2
  ·rintro kvs rfl;exact bx h2
  ·rintro kvs rfl;exact bx h2
theorem aMb(ha:PT X a (gT ga)):PT X (.UnaryOp .Not a pos) (gT (aKl ga)):=PT.imp (aL4 ha) λσ H Q z0=>by
  obtain⟨ρ,k,E,h,q⟩:=z0;obtain⟨d,h1,h2⟩:=bL h;cases h2;exact⟨ρ,d,E,h1,λH' s=>q H' s⟩
theorem aGm{op}(ha:PE X a (gE fa ra)):PE X (.BoolOp op [a] pos) (gE fa ra):=aL5 ha
theorem aGn(h:asB d=.ok k):d=.bl k:=by cases d<;>simp only[asB] at h<;>cases h;rfl
theorem aMc(h:asI d=.ok k):d=.int k:=by cases d<;>simp only[asI] at h<;>cases h;rfl
theorem aGo{rest:aa Expr}(ha:PE X a (gE fa ra))(hb:PE X (.BoolOp .And (b::rest) pos) (gE fb rb)):PE X (.BoolOp .And (a::b::rest) pos) (gE (aAx fa fb) rb):=PE.imp (aL6 ha hb) λσ H Q z0=>by
  obtain⟨ρ,k,E,h,q⟩:=z0;obtain⟨d,h1,h⟩:=bL h;obtain⟨z,h2,h3⟩:=bL h;cases aGn h2;refine⟨ρ,_,E,h1,λv H' s r _=>?_⟩;cases r.inv;refine⟨_,rfl,?_⟩;cases z with
  |true=>rw[av rfl];rw[av rfl] at h3;exact⟨ρ,k,E.same s,h3,q.imp s id⟩
  |false=>rw[ax 0x2];rw[ax 0x2] at h3;cases h3;exact(q.imp s id).bl
theorem aG:PA X [] (gA aP af):=PA.imp j8 λσ H Q z0=>by obtain⟨ρ,ds,E,h,q⟩:=z0;cases h;exact q [] H (cZ.refl H) .nil λ_=>.nil
theorem aA(he:PE X e (gE fe re))(hes:PA X es (gA f r))(hs:zSE X e es:=by rfl):PA X (e::es) (gA (aC fe f) (re&&r)):=PA.imp (eQ he hes hs) λσ H Q z0=>by
  obtain⟨ρ,ds,E,h,q⟩:=z0;obtain⟨x,h1,h⟩:=bL h;obtain⟨xs,h2,h⟩:=bL h;cases h;refine⟨ρ,x,E,h1,λv H1 s1 r1 n1=>⟨ρ,xs,E.same s1,h2,λvs H2 s2 r2 n2=>q _ _ (s1.trans s2) (.cons (r1.same s2) r2) λhf=>?_⟩⟩;obtain⟨f1,f2⟩:=(bc _ _▸hf:re=af/\r=af)
  exact .cons ((n1 f1).same s2) ((n2 f2).mono (cZ.new s1))
theorem bB{x1}(h:PA X es (gA f r)):PE X (.Tuple es x1 pos) (gE (cT f) r):=PE.imp (aLk h) λσ H Q z0=>by
  obtain⟨ρ,d,E,h,q⟩:=z0;obtain⟨xs,h1,h⟩:=bL h;split at h
  ·rename_i hl;cases h;refine⟨ρ,xs,E,h1,λvs H1 s1 r1 n1=>⟨?_,λp hp=>?_⟩⟩
   ·rw[r1.length];exact dj (fg hl) (by rw[dk];decide)
   ·have sp:cZ H1 (upd H1 p (.tup vs)):=cZ.upd hp;exact q _ _ (s1.trans sp) (.tup aL (r1.same sp)) λhf=>.tup aL ((n1 hf).same sp)
  ·exact bx h
theorem j_(h:PA X es (gA f r)):PE X (.List es pos) (gE (DY f) r):=PE.imp (aAi h) λσ H Q z0=>by
  obtain⟨ρ,d,E,h,q⟩:=z0;obtain⟨xs,h1,h⟩:=bL h;split at h
  ·rename_i hl;cases h;refine⟨ρ,xs,E,h1,λvs H1 s1 r1 n1=>⟨?_,λp hp=>?_⟩⟩
   ·rw[r1.length];exact dj (fg hl) (by rw[dk];decide)
   ·have sp:cZ H1 (upd H1 p (.lst vs)):=cZ.upd hp;exact q _ _ (s1.trans sp) (.lst aL trivial (r1.same sp)) λhf=>.lst aL (s1.free hp) ((n1 hf).same sp)
  ·exact bx h
theorem u_:PE X (.Dict [] [] pos) (gE (bC (.dct [])) af):=PE.imp aEg λσ H Q z0=>by
  obtain⟨ρ,d,E,h,q⟩:=z0;cases h;exact λp hp=>q _ _ (cZ.upd hp) (.dK aL trivial .nil g9) λ_=>.dK aL hp .nil g9
end
section
variable {a b e:Expr}
theorem oO(h:ϒ (n<=lim)=af):n<=aT:=dj (fg h) (by rw[dk];decide)
theorem aBg(h:ϒ (n<lim)=af):n<aT:=c_ (fg h) (by rw[dk];decide)
theorem Rep.aMd(r:Rep P H v (.lst ds)):∃a xs,v=.ref a/\Rd H a (.lst xs)/\bZ P H xs ds:=by
 cases r with
 |lst e p rr=>exact⟨_,_,rfl,.inl e,rr⟩
theorem PW.imp(h:PW X e t)(i:∀σ H Q,t' σ H Q->t σ H Q):PW X e t':=λwh Ψ s σ H Q I q=>h wh Ψ s σ H Q I (i σ H Q q)
theorem yS(ha:PT X a (gT ga)):PW X (.BoolOp .And [a] pos) (gT ga):=aHf ha
theorem yU(ha:PT X a (gT ga)):PW X (.BoolOp .Or [a] pos) (gT ga):=aL2 ha
theorem NB{rest:aa Expr}(ha:PT X a (gT ga))(hb:PW X (.BoolOp .And (b::rest) pos) (gT gb)):PW X (.BoolOp .And (a::b::rest) pos) (gT (Y6 ga gb)):=PW.imp (aL3 ha hb) λσ H Q z0=>by
 obtain⟨ρ,k,E,h,q⟩:=z0;obtain⟨z,h1,h3⟩:=bL h;refine⟨ρ,z,E,h1,λH' s=>?_⟩;cases z with
 |true=>rw[av rfl];rw[av rfl] at h3;exact⟨ρ,k,E.same s,h3,λH2 s2=>q H2 (s.trans s2)⟩
 |false=>rw[ax 0x2];rw[ax 0x2] at h3;cases h3;exact q H' s
theorem BW{rest:aa Expr}(ha:PT X a (gT ga))(hb:PW X (.BoolOp .Or (b::rest) pos) (gT gb)):PW X (.BoolOp .Or (a::b::rest) pos) (gT (bOr ga gb)):=PW.imp (aP0 ha hb) λσ H Q z0=>by
 obtain⟨ρ,k,E,h,q⟩:=z0;obtain⟨z,h1,h3⟩:=bL h;refine⟨ρ,z,E,h1,λH' s=>?_⟩;cases z with
 |true=>rw[av rfl];rw[av rfl] at h3;cases h3;exact q H' s
 |false=>rw[ax 0x2];rw[ax 0x2] at h3;exact⟨ρ,k,E.same s,h3,λH2 s2=>q H2 (s.trans s2)⟩
theorem bU:OpR X (e9 .Add) (r2 (bG .add) af):=by
 intro Ψ s σ H x y v u Q I rx ry h;obtain⟨a,b,d,p,q,e,k⟩:=h;cases p with
 |int i=>
  cases q with
  |int j=>cases e;exact aLc Ψ s σ H _ _ v u Q I rx ry ⟨i,j,rfl,rfl,k.int⟩
  |_=>exact bx e
 |str i=>
  cases q with
  |str j=>
   replace e:(if ϒ (i.length+j.length<=lim) then τ (δ (i++j)) else .bad)=.ok d:=e;split at e
   ·rename_i hl;cases e;exact YL Ψ s σ H _ _ v u Q I rx ry ⟨i,j,rfl,rfl,oO hl,k.str⟩
   ·exact bx e
  |_=>exact bx e
 |non=>exact bx e
 |bl _=>exact bx e
 |tup _ _=>exact bx e
 |dK _ _ _ _=>exact bx e
 |dT _ _ _ _=>exact bx e
 |fdK _ _ _=>exact bx e
 |fdT _ _ _=>exact bx e
 |exc _ _ _=>exact bx e
 |ins _ _ _=>exact bx e
 |adr=>exact bx e
 |dlK _ _ _ _=>exact bx e
 |dlT _ _ _ _=>exact bx e
 |cel _ _ _=>exact bx e
 |@lst a1 xs ds e1 p1 r1=>
  have hR:Rep All H (.ref a1) (.lst ds):=.lst e1 p1 r1;cases b with
  |lst es=>
   replace e:(if ϒ (ds.length+es.length<=lim)&&ι ds&&ι es then τ (D.lst (ds++es)) else .bad)=.ok d:=e;split at e
   ·rename_i hl;cases e;rw[bc,bc] at hl;obtain⟨⟨hl,hp1⟩,hp2⟩:=hl;obtain⟨l1,xs1,e1',rd1,rr1⟩:=hR.aMd;obtain⟨l2,xs2,rfl,rd2,rr2⟩:=q.aMd;cases e1';cases rx;cases ry;obtain⟨z,its,n,vr1,ee1⟩:=rd1.ok I.hok;obtain⟨z2,its2,n2,vr2,ee2⟩:=rd2.ok I.hok;have hz:xs1.length+xs2.length<=aT:=by rw[rr1.length,rr2.length];exact oO hl
    have t1:=vr1.length;have t2:=vr2.length;refine PySem.P.add_list ee1 ee2 ?_ (by rw[cm,cm];lia);have ea:its.toArray++its2.toArray=(its++its2).toArray:=by simp
    rw[ea];refine⟨.ref _,_,I.aRh (vr1.append vr2) (by rw[bp];lia),rfl,?_⟩;have sp:cZ H (upd H s.heap.objs.size (.lst (xs1++xs2))):=cZ.upd I.fresh;exact k _ _ sp (.lst aL trivial ((rr1.append rr2).same sp)) λ_=>.lst aL I.fresh (((rr1.bT hp1).append (rr2.bT hp2)).same sp)
   ·exact bx e
  |_=>exact bx e
 |frz _ _=>exact bx e
theorem HQ(h:OpR X f (rI C g))
 (hi:∀i j d,op (.int i) (.int j)=.ok d->C i j/\∃k,d=.int k/\g i j=.int k)(hn:∀a b d,op a b=.ok d->(∃i,a=.int i)/\∃j,b=.int j):OpR X f (r2 op af):=by
 rintro Ψ s σ H x y v u Q I rx ry ⟨a,b,d,p,q,e,k⟩;obtain⟨⟨i,rfl⟩,⟨j,rfl⟩⟩:=hn a b d e;cases p.inv;cases q.inv;obtain⟨hc,m,rfl,hm⟩:=hi i j d e;exact h Ψ s σ H _ _ v u Q I rx ry ⟨i,j,rfl,rfl,hc,by rw[hm];exact k.int⟩
theorem vA(ho:o≠.add){a b d:D}(e:bG o a b=.ok d):(∃i,a=.int i)/\∃j,b=.int j:=by
 cases a with
 |int i=>
  cases b with
  |int j=>exact⟨⟨i,rfl⟩,j,rfl⟩
  |_=>cases o<;>first|exact bx e|exact bf rfl ho
 |_=>cases o<;>first|exact bx e|exact bf rfl ho
theorem aBh:OpR X (e9 .Sub) (r2 (bG .sub) af):=by
 rintro Ψ s σ H x y v u Q I rx ry ⟨a,b,d,p,q,e,k⟩;obtain⟨⟨i,rfl⟩,j,rfl⟩:=vA 0x4 e;cases p.inv;cases q.inv;cases e;exact aLd Ψ s σ H _ _ v u Q I rx ry ⟨_,_,rfl,rfl,k.int⟩
theorem aMe:OpR X (e9 .Mult) (r2 (bG .mul) af):=by
 refine HQ aLe (λi j d e=>?_) λa b d e=>vA 0x4 e
 ·replace e:(if lH i||lH j then τ (ε (i*j)) else .bad)=.ok d:=e;split at e
  ·rename_i hl;cases e;refine⟨?_,_,rfl,rfl⟩;simp only[lH,iv,bc,dE] at hl;exact hl
  ·exact bx e
theorem fV:OpR X (e9 .FloorDiv) (r2 (bG .fdiv) af):=by
 refine HQ aHj (λi j d e=>?_) λa b d e=>vA 0x4 e
 ·replace e:(if ϒ (0<j)&&ϒ (j<1073741824) then τ (ε (i / j)) else .bad)=.ok d:=e;split at e
  ·rename_i hl;cases e;refine⟨?_,_,rfl,rfl⟩;simp only[bc,dE] at hl;exact hl
  ·exact bx e
theorem cA:OpR X (e9 .Mod) (r2 (bG .mod) af):=by
 refine HQ aLf (λi j d e=>?_) λa b d e=>vA 0x4 e
 ·replace e:(if ϒ (0<j) then τ (ε (i % j)) else .bad)=.ok d:=e;split at e
  ·rename_i hl;cases e;refine⟨?_,_,rfl,rfl⟩;simp only[bc,dE] at hl;exact hl
  ·exact bx e
theorem NK:OpR X (e9 .Pow) (r2 (bG .pow) af):=by
 refine HQ aLg (λi j d e=>?_) λa b d e=>vA 0x4 e
 ·replace e:(if ϒ (0<=j)&&ϒ (j<=1000000)&&ϒ (i.natAbs<2 ^ 64) then τ (ε (i ^ j.toNat)) else .bad)=.ok d:=e;split at e
  ·rename_i hl;cases e;refine⟨?_,_,rfl,rfl⟩;simp only[bc,dE] at hl;exact⟨hl.1.1,hl.1.2,hl.2⟩
  ·exact bx e
theorem aGp:UnR X (uS .USub) (r1 aOw af):=by
 rintro Ψ s σ H x v Q I rx ⟨a,d,p,e,k⟩;cases a<;>try exact bx e
 cases e;cases p.inv;exact aLh Ψ s σ H _ v Q I rx ⟨_,rfl,k.int⟩
theorem jQ(hu:X.A.units+20<cr):OpR X (dw .Eq) (r2 (cV .eq) af):=by
 rintro Ψ s σ H x y v u Q I rx ry ⟨a,b,d,p,q,e,k⟩;replace e:(if a.gB aZ&&b.gB aZ then τ (υ (eqD a b)) else .bad)=.ok d:=e;split at e
 ·rename_i hl;cases e;rw[bc] at hl;exact(M_ I aZ X.A (by have:aZ=12:=rfl;lia) hl.1 hl.2 p q rx ry).1 X.prog X.w X.xe _ ⟨.bl _,H,I,rfl,k.bl⟩
 ·exact bx e
theorem ZD(hu:X.A.units+20<cr):OpR X (dw .NotEq) (r2 (cV .ne) af):=by
 rintro Ψ s σ H x y v u Q I rx ry ⟨a,b,d,p,q,e,k⟩;replace e:(if a.gB aZ&&b.gB aZ then τ (υ (!eqD a b)) else .bad)=.ok d:=e;split at e
 ·rename_i hl;cases e;rw[bc] at hl;exact(M_ I aZ X.A (by have:aZ=12:=rfl;lia) hl.1 hl.2 p q rx ry).2.1 X.prog X.w X.xe _ ⟨.bl _,H,I,rfl,k.bl⟩
 ·exact bx e
theorem aBi(o:lG)(hu:X.A.units+20<cr):OpR X (dw o.op) (r2 (cV (.ord o)) af):=by
 rintro Ψ s σ H x y v u Q I rx ry ⟨a,b,d,p,q,e,k⟩;replace e:(if a.gB aZ&&b.gB aZ then (match o8 o a b with|some k=>τ (υ k)|none=>.bad) else .bad)=.ok d:=e;split at e
 ·rename_i hl;rw[bc] at hl;split at e
  ·rename_i m hm;cases e;have:=aBa I o aZ X.A (by have:aZ=12:=rfl;lia) hl.1 hl.2 p q rx ry hm X.prog X.w X.xe _ (show EP X Ψ σ Q (.bool m) s from ⟨.bl _,H,I,rfl,k.bl⟩);cases o<;>exact this
  ·exact bx e
 ·exact bx e
theorem aMf(hu:X.A.units+20<cr):OpR X (dw .Lt) (r2 (cV (.ord .lt)) af):=aBi .lt hu
theorem HR(hu:X.A.units+20<cr):OpR X (dw .Gt) (r2 (cV (.ord .gt)) af):=aBi .gt hu
theorem aPj(hu:X.A.units+20<cr):OpR X (dw .GtE) (r2 (cV (.ord .ge)) af):=aBi .ge hu
end
end
variable [KFrag]
theorem aBj(k q:Key):eqD (kD k) (kD q)=ϒ (k=q):=by
 cases k<;>cases q<;>simp[kD,aM0,aM1,aM2,aM3,Bool.beq_eq_decide_eq]
theorem aGq:∀(k q:aa Key),yM (k.map kD) (q.map kD)=ϒ (k=q)
 |[],[]=>by simp[yM]
 |[],_::_=>by simp[yM]
 |_::_,[]=>by simp[yM]
 |a::k,b::q=>by
  rw[bu,bu,yM,aBj,aGq k q];by_cases h:a=b<;>by_cases h':k=q<;>simp[h,h']
theorem aIf(k q:aa Key):eqD (.tup (k.map kD)) (.tup (q.map kD))=ϒ (k=q):=by rw[aM4,aGq]
theorem aIg:∀{kvs:aa (Key×V)}{ds:aa (D×D)},j5 P H kvs ds->(∃v d,DR kvs k=ae v/\d9 ds (kD k)=ae d/\Rep P H v d)\/(DR kvs k=aj/\d9 ds (kD k)=aj)
 |_,_,.nil=>.inr ⟨rfl,rfl⟩
 |_,_,.cons (k:=k') r t=>by
  by_cases h:k'=k
  ·subst h;exact .inl ⟨_,_,uU rfl,by rw[d9,aBj,av 0x2],r⟩
  ·rw[d9,aBj,ax (by simpa using h),uV h];exact aIg t
theorem aIh:∀{kvs:aa (aa Key×V)}{ds:aa (D×D)},sZ P H kvs ds->(∃v d,DR kvs k=ae v/\d9 ds (.tup (k.map kD))=ae d/\Rep P H v d)\/(DR kvs k=aj/\d9 ds (.tup (k.map kD))=aj)
 |_,_,.nil=>.inr ⟨rfl,rfl⟩
 |_,_,.cons (k:=k') r t=>by
  by_cases h:k'=k
  ·subst h;exact .inl ⟨_,_,uU rfl,by rw[d9,aIf,av 0x2],r⟩
  ·rw[d9,aIf,ax (by simpa using h),uV h];exact aIh t
theorem HS(h:mF d=af)(r:Rep All H v d):∃k,v=kV k/\d=kD k:=by
 cases r<;>simp[mF] at h
 ·exact⟨.inl _,rfl,rfl⟩
 ·exact⟨.inr _,rfl,rfl⟩
theorem flat_keys:∀{vs:aa V}{ds:aa D},ds.all mF=af->bZ All H vs ds->∃ks:aa Key,vs=ks.map kV/\ds=ks.map kD
 |_,_,_,.nil=>⟨[],rfl,rfl⟩
 |_,_,h,.cons r t=>by
  rw[ki,bc] at h;obtain⟨k,rfl,rfl⟩:=HS h.1 r;obtain⟨ks,rfl,rfl⟩:=flat_keys h.2 t;exact⟨k::ks,rfl,rfl⟩
theorem lO(h:keyOk k=af)(r:Rep All H y k):(∃q,y=kV q/\k=kD q)\/∃(b:am)(ks:aa Key),y=.ref b/\H b=ae (.tup (ks.map kV))/\k=.tup (ks.map kD):=by
 cases k<;>simp[keyOk] at h
 ·exact .inl (HS rfl r)
 ·exact .inl (HS rfl r)
 ·obtain⟨a,xs,rfl,e,rr⟩:=r.fK;obtain⟨ks,rfl,rfl⟩:=flat_keys (jk.mpr h) rr;exact .inr ⟨a,ks,rfl,e,rfl⟩
theorem mO(k:Key):isTup (kD k)=ai:=by cases k<;>rfl
section
variable {a:am}
theorem HW(e:H a=ae o):upd (upd H a o') a o=H:=by
 rw[RD]
 funext b
 by_cases h:b=a
 ·subst h;rw[aL,e]
 ·rw[bF h]
theorem oR(I:Inv X Ψ σ H s)(e:H a=ae (.dK [])):Inv X Ψ σ (upd H a (.dT [])) s:=by
 obtain⟨z,hd,vs,rel,o,es,ep,h1,h2,h3,h4,h5,h6⟩:=RN I.hok e;cases rel;refine I.write (by rw[e];trivial) (.inl rfl) (λ_ _ _ q=>q) ⟨o,h1⟩ ?_;refine⟨cq _,hd,[],.nil,o,es,ep,h1,h2,h3,?_,g9⟩;cases h5':es.toList with
 |nil=>rfl
 |cons _ _=>rw[h5'] at h5;cases h5
theorem lQ(I:Inv X Ψ σ H s)(e:H a=ae (.dT [])):Inv X Ψ σ (upd H a (.dK [])) s:=by
 obtain⟨z,hd,vs,rel,o,es,ep,h1,h2,h3,h4,h5,h6⟩:=aHv I.hok e;cases rel;refine I.write (by rw[e];trivial) (.inl rfl) (λ_ _ _ q=>q) ⟨o,h1⟩ ?_;have h0:es.toList=[]:=h4;refine⟨cq _,hd,[],.nil,o,es,ep,h1,h2,h3,?_,?_,g9⟩
 ·intro x hx;have:x∈es.toList:=by simpa using hx
  rw[h0] at this;cases this
 ·rw[h0];exact .nil
theorem V4:∀{kvs:aa (Key×V)}{ds:aa (D×D)},j5 P H kvs ds->∀p∈ds,isTup p.1=ai
 |_,_,.nil,_,h=>by cases h
 |_,_,.cons r t,p,h=>by
  rcases bP.mp h with rfl|h
  ·exact mO _
  ·exact V4 t p h
theorem V5:∀{kvs:aa (aa Key×V)}{ds:aa (D×D)},sZ P H kvs ds->∀p∈ds,isTup p.1=af
 |_,_,.nil,_,h=>by cases h
 |_,_,.cons r t,p,h=>by
  rcases bP.mp h with rfl|h
  ·rfl
  ·exact V5 t p h
theorem aBk(I:Inv X Ψ σ H s)(rd:Rep All H x (.dct ds))(rk:Rep All H y k)(hk:BR ds k=af) :
  ∃H1 a o,x=.ref a/\Inv X Ψ σ H1 s/\(∀s',Inv X Ψ σ H1 s'->Inv X Ψ σ H s')/\YZ H1 a y o/\((o=aj/\d9 ds k=aj)\/∃v d,o=ae v/\d9 ds k=ae d/\Rep All H v d):=by
 unfold BR at hk;rw[bc] at hk;obtain⟨h1,h2⟩:=hk;cases rd with
 |@dK a kvs ds e _ r n=>
  rcases lO h1 rk with ⟨q,rfl,rfl⟩|⟨b,ks,rfl,eb,rfl⟩
  ·refine⟨H,a,_,rfl,I,λ_ h=>h,.k e,?_⟩;rcases aIg r with ⟨v,d,g1,g2,g3⟩|⟨g1,g2⟩
   ·exact .inr ⟨v,d,g1,g2,g3⟩
   ·exact .inl ⟨g1,g2⟩
  ·cases r with
   |nil=>
    have e2:=HW (o':=.dT []) e;refine⟨upd H a (.dT []),a,aj,rfl,oR I e,λs' I'=>?_,.t (k:=ks) aL (by rw[bF (aHc eb e 0x7)];exact eb),.inl ⟨rfl,rfl⟩⟩;have:=lQ I' aL;rwa [e2] at this
   |cons r t=>
    rw[ki,mO] at h2;simp[isTup] at h2
 |@dT a kvs ds e _ r n=>
  rcases lO h1 rk with ⟨q,rfl,rfl⟩|⟨b,ks,rfl,eb,rfl⟩
  ·cases r with
   |nil=>
    have e2:=HW (o':=.dK []) e;refine⟨upd H a (.dK []),a,aj,rfl,lQ I e,λs' I'=>?_,.k (k:=q) aL,.inl ⟨rfl,rfl⟩⟩;have:=oR I' aL;rwa [e2] at this
   |cons r t=>
    rw[ki,mO] at h2;simp[isTup] at h2
  ·refine⟨H,a,_,rfl,I,λ_ h=>h,.t e eb,?_⟩;rcases aIh (k:=ks) r with ⟨v,d,g1,g2,g3⟩|⟨g1,g2⟩
   ·exact .inr ⟨v,d,g1,g2,g3⟩
   ·exact .inl ⟨g1,g2⟩
theorem aEv(rd:Rep All H x (.dct ds))(hk:keyOk k=af)(h:d9 ds k=ae d):BR ds k=af:=by
 have one:∀{ds:aa (D×D)},d9 ds k=ae d->∃p∈ds,eqD p.1 k=af:=by
  intro ds;induction ds with
  |nil=>intro h;cases h
  |cons p ds ih=>
   intro h;obtain⟨p1,p2⟩:=p;rw[d9] at h;by_cases hq:eqD p1 k=af
   ·exact⟨_,bo ..,hq⟩
   ·rw[ax hq] at h;obtain⟨p,hp,e⟩:=ih h;exact⟨p,bw _ hp,e⟩
 obtain⟨p,hp,he⟩:=one h;unfold BR;rw[hk,CC,jk];intro q hq;have same:isTup p.1=isTup k:=by
  obtain⟨p1,p2⟩:=p;cases k with
  |int _=>cases p1<;>first|rfl|exact fx0 he
  |str _=>cases p1<;>first|rfl|exact fx0 he
  |tup _=>cases p1<;>first|rfl|exact fx0 he
  |_=>exact fx0 hk
 cases rd with
 |dK e _ r n=>rw[V4 r q hq,<-same,V4 r p hp];rfl
 |dT e _ r n=>rw[V5 r q hq,<-same,V5 r p hp];rfl
end
section
variable {X:Cx} {a b c e:Expr} {pos:bX} {fa fb:FE} {ra rb:au}
def Q8(H:Hp)(u:ak):D:=by
 classical
 exact if h:∃d,d.gB aZ=af/\∃v,RelV v u/\Rep All H v d then Cs h else .non
theorem aBl(hq:d.gB aZ=af)(rv:RelV v u)(r:Rep All H v d):Q8 H u=d:=by
 unfold Q8;have h:∃d,d.gB aZ=af/\∃v,RelV v u/\Rep All H v d:=⟨d,hq,v,rv,r⟩
 rw[dif_pos h];obtain⟨h2,v',rv',r'⟩:=Ct h;have:=rv'.inj rv;subst this;exact Rep.inj aZ h2 hq r' r
theorem yV{a:D}:∀{xs:aa V}{ds:aa D}{its:aa ak},ο aZ ds=af->bZ All H xs ds->Vals xs its->(its.any λu=>eqD (Q8 H u) a)=ds.any λy=>eqD y a
 |_,_,_,_,.nil,.nil=>rfl
 |_,_,_,h,.cons r t,.cons v vt=>by
  rw[ο,bc] at h;rw[mi,mi,aBl h.1 v r,yV h.2 t vt]
theorem HX{s:ar}(I:Inv X Ψ σ H s)(hu:X.A.units+20<cr){a:D}{x:V}{v:ak}(ha:a.gB aZ=af)(rx:Rep All H x a)(rv:RelV x v)
 {xs:aa V}{ds:aa D}{its:aa ak}(h:ο aZ ds=af)(r:bZ All H xs ds)(vr:Vals xs its)(u:ak)(hm:u∈its):EqAt X.A.in1 s u v (eqD (Q8 H u) a):=by
 obtain⟨j,hj,e⟩:=Cu hm;have hj':j<ds.length:=by rw[<-r.length,vr.length];exact hj
 obtain⟨w,h1,h2⟩:=r.get (i:=j) (d:=ds[j]) (by simp[hj']);obtain⟨u',h3,h4⟩:=vr.get h1;rw[ff hj,e] at h3;cases h3;have hd:ds[j].gB aZ=af:=by
  have:=iJ h hj';rwa [ef,ff hj'] at this
 rw[aBl hd h4 h2];exact(M_ I aZ X.A.in1 (by show X.A.units+1+12<cr;lia) hd ha h2 rx h4 rv).2.2
theorem aPk(hu:X.A.units+20<cr):OpR X (dw .In) (r2 (cV .isin) af):=by
 rintro Ψ s σ H x y v u Q I rx ry ⟨a,b,d,p,q,e,k⟩;cases b with
 |tup ys=>
  replace e:(if a.gB aZ&&ο aZ ys then τ (υ (ys.any λy=>eqD y a)) else .bad)=.ok d:=e;split at e
  ·rename_i hl;cases e;rw[bc] at hl;obtain⟨l,xs,rfl,ee,rr⟩:=q.fK;cases ry;obtain⟨its,vr,pl⟩:=iI I ee;refine in_tupleAt (λu=>eqD (Q8 H u) a) pl (λw hw=>HX I hu hl.1 p rx hl.2 rr vr w (by simpa using hw)) ⟨.bl _,H,I,rfl,?_⟩;rw[show its.toArray.any (λu=>eqD (Q8 H u) a)=its.any (λu=>eqD (Q8 H u) a) by simp,yV hl.2 rr vr];exact k.bl
  ·cases e
 |lst ys=>
  replace e:(if a.gB aZ&&ο aZ ys then τ (υ (ys.any λy=>eqD y a)) else .bad)=.ok d:=e;split at e
  ·rename_i hl;cases e;rw[bc] at hl;obtain⟨l,xs,rfl,ee,rr⟩:=q.mK;cases ry;obtain⟨its,vr,pl⟩:=uZ I ee;refine in_listAt (λu=>eqD (Q8 H u) a) pl (λw hw=>HX I hu hl.1 p rx hl.2 rr vr w (by simpa using hw)) ⟨.bl _,H,I,rfl,?_⟩;rw[show its.toArray.any (λu=>eqD (Q8 H u) a)=its.any (λu=>eqD (Q8 H u) a) by simp,yV hl.2 rr vr];exact k.bl
  ·cases e
 |dct kvs=>
  replace e:(if BR kvs a then τ (υ ((d9 kvs a).isSome)) else .bad)=.ok d:=e;split at e
  ·rename_i hl;cases e;obtain⟨H1,a1,o,rfl,I1,bk,g,hc⟩:=aBk I q p hl;cases ry;refine aRj 0x1 I1 g rx λs' I'=>⟨.bl _,H,bk s' I',rfl,?_⟩
   rcases hc with ⟨rfl,h2⟩|⟨w,dd,rfl,h2,_⟩
   ·rw[h2] at k;exact k.bl
   ·rw[h2] at k;exact k.bl
  ·cases e
 |_=>exact bx e
theorem aEw(hu:X.A.units+20<cr):OpR X (dw .NotIn) (r2 (cV .notin) af):=by
 rintro Ψ s σ H x y v u Q I rx ry ⟨a,b,d,p,q,e,k⟩;cases b with
 |tup ys=>
  replace e:(if a.gB aZ&&ο aZ ys then τ (υ (!(ys.any λy=>eqD y a))) else .bad)=.ok d:=e;split at e
  ·rename_i hl;cases e;rw[bc] at hl;obtain⟨l,xs,rfl,ee,rr⟩:=q.fK;cases ry;obtain⟨its,vr,pl⟩:=iI I ee;refine notIn_tupleAt (λu=>eqD (Q8 H u) a) pl (λw hw=>HX I hu hl.1 p rx hl.2 rr vr w (by simpa using hw)) ⟨.bl _,H,I,rfl,?_⟩;rw[show its.toArray.any (λu=>eqD (Q8 H u) a)=its.any (λu=>eqD (Q8 H u) a) by simp,yV hl.2 rr vr];exact k.bl
  ·cases e
 |lst ys=>
  replace e:(if a.gB aZ&&ο aZ ys then τ (υ (!(ys.any λy=>eqD y a))) else .bad)=.ok d:=e;split at e
  ·rename_i hl;cases e;rw[bc] at hl;obtain⟨l,xs,rfl,ee,rr⟩:=q.mK;cases ry;obtain⟨its,vr,pl⟩:=uZ I ee;refine notIn_listAt (λu=>eqD (Q8 H u) a) pl (λw hw=>HX I hu hl.1 p rx hl.2 rr vr w (by simpa using hw)) ⟨.bl _,H,I,rfl,?_⟩;rw[show its.toArray.any (λu=>eqD (Q8 H u) a)=its.any (λu=>eqD (Q8 H u) a) by simp,yV hl.2 rr vr];exact k.bl
  ·cases e
 |dct kvs=>
  replace e:(if BR kvs a then τ (υ (!((d9 kvs a).isSome))) else .bad)=.ok d:=e;split at e
  ·rename_i hl;cases e;obtain⟨H1,a1,o,rfl,I1,bk,g,hc⟩:=aBk I q p hl;cases ry;refine aHw 0x1 I1 g rx λs' I'=>⟨.bl _,H,bk s' I',rfl,?_⟩
   rcases hc with ⟨rfl,h2⟩|⟨w,dd,rfl,h2,_⟩
   ·rw[h2] at k;exact k.bl
   ·rw[h2] at k;exact k.bl
  ·cases e
 |_=>exact bx e
theorem aMg(xs:aa α)(i:ah):L2.atI xs i=(ixD xs.length i).bind λj=>xs[j]?:=rfl
theorem bZ.atI(r:bZ P H xs ds)(h:((ixD ds.length i).bind λj=>ds[j]?)=ae d):∃v,L2.atI xs i=ae v/\Rep P H v d:=by
 rw[aMg,r.length];cases hi:ixD ds.length i with
 |none=>rw[hi] at h;cases h
 |some j=>
  rw[hi] at h;obtain⟨v,h1,h2⟩:=r.get h;exact⟨v,h1,h2⟩
theorem NP{a:am}{y v':V}{u:ak}{Q:VK}(hu:X.A.units+20<cr)(I:Inv X Ψ σ H s)(g:YZ H a y (ae v'))(ry:RelV y u){H':Hp}
 (hs:vj slice ai (.ref a) u=yY [.ref a,u] (kM (.ref a) u))(bk:∀s',Inv X Ψ σ H s'->Inv X Ψ σ H' s')(q:Q v' H') :
  ϑ (aw X.prog X.w) X.A (vi value slice (.ref a) u) (EP X Ψ σ Q) X.xe s:=by
 have hT:=RT I g;unfold vi;refine ao ?_;rw[getitemInPython_of_ne hT.not_modules];refine ao (mI hT PySem.F.slot_dict_getitem.lookup ?_);have fin:ϑ (aw X.prog X.w) X.A (vj slice ai (.ref a) u) (λr s₃=>ϑ (aw X.prog X.w) X.A (letTemporaryGo value (.ref a) r >>= λ_=>pure r) (EP X Ψ σ Q) X.xe s₃) X.xe s:=by
  rw[hs];exact wpAny_operating (aAo 0x1 I g ry λw' s3 I3 rw'=>ao (wpAny_letTemporaryGo (aI ⟨v',H',bk s3 I3,rw',q⟩)))
 first
  |exact aI (ao fin)
  |exact ao (aI (ao fin))
  |exact ao fin
theorem V6:∀{ds:aa (D×D)},keyOk k=af->d9 ds k=ae d->∃p∈ds,isTup p.1=isTup k
 |[],_,h=>by cases h
 | (p1,p2)::ds,hk,h=>by
  rw[d9] at h;by_cases hq:eqD p1 k=af
  ·refine⟨_,bo ..,?_⟩;cases k with
   |int _=>cases p1<;>first|rfl|exact fx0 hq
   |str _=>cases p1<;>first|rfl|exact fx0 hq
   |tup _=>cases p1<;>first|rfl|exact fx0 hq
   |_=>exact fx0 hk
  ·rw[ax hq] at h;obtain⟨p,hp,e⟩:=V6 hk h;exact⟨p,bw _ hp,e⟩
theorem aPl(rd:Rep All H x (.fdc ds))(rk:Rep All H y k)(hk:keyOk k=af)(h:d9 ds k=ae d):∃a v,x=.ref a/\YZ H a y (ae v)/\Rep All H v d:=by
 obtain⟨p,hp,et⟩:=V6 hk h;cases rd with
 |@fdK a o kvs ds e r n=>
  rcases lO hk rk with ⟨q,rfl,rfl⟩|⟨b,ks,rfl,eb,rfl⟩
  ·rcases aIg r with ⟨v,d',g1,g2,g3⟩|⟨g1,g2⟩
   ·rw[g2] at h;cases h;exact⟨a,v,rfl,.inl ⟨kvs,q,.inr ⟨o,e⟩,rfl,g1.symm⟩,g3⟩
   ·rw[g2] at h;cases h
  ·rw[V4 r p hp] at et;cases et
 |@fdT a o kvs ds e r n=>
  rcases lO hk rk with ⟨q,rfl,rfl⟩|⟨b,ks,rfl,eb,rfl⟩
  ·rw[V5 r p hp,mO] at et;cases et
  ·rcases aIh r with ⟨v,d',g1,g2,g3⟩|⟨g1,g2⟩
   ·rw[g2] at h;cases h;exact⟨a,v,rfl,.inr ⟨kvs,ks,b,.inr ⟨o,e⟩,rfl,eb,g1.symm⟩,g3⟩
   ·rw[g2] at h;cases h
theorem aMh(hK:KFrag.K=X.K)(hu:X.A.units+20<cr):IxR X (r2 getD ai):=by
 rintro value slice Ψ s σ H x y v u Q I rx ry ⟨a,b,d,p,q,e,k⟩ hs;cases a with
 |tup ys=>
  cases b<;>try exact bx e
  have e':=Res.mD e;obtain⟨l,xs,rfl,ee,rr⟩:=p.fK;cases q;obtain⟨w,h1,h2⟩:=rr.atI e';exact aLp value slice Ψ s σ H _ _ v u Q I rx ry ⟨l,xs,_,w,rfl,rfl,.of ee,h1,k.self h2 λz=>by cases z⟩ hs
 |lst ys=>
  cases b<;>try exact bx e
  have e':=Res.mD e;obtain⟨l,xs,rfl,ee,rr⟩:=p.mK;cases q;obtain⟨w,h1,h2⟩:=rr.atI e';exact RL value slice Ψ s σ H _ _ v u Q I rx ry ⟨l,xs,_,w,rfl,rfl,ee,h1,k.self h2 λz=>by cases z⟩ hs
 |cel ca ys=>
  cases b<;>try exact bx e
  have e':=Res.mD e;obtain⟨_,rfl,ee,pp,rr⟩:=p.inv;cases q;obtain⟨w,h1,h2⟩:=rr.atI e';exact RL value slice Ψ s σ H _ _ v u Q I rx ry ⟨_,_,_,w,rfl,rfl,.inl (.inl ee),h1,k.self h2 λz=>by cases z⟩ hs
 |scr ys=>
  cases b<;>try exact bx e
  have e':=Res.mD e;obtain⟨_,_,rfl,ee,rr⟩:=p.inv;cases q;obtain⟨w,h1,h2⟩:=rr.atI e';exact RL value slice Ψ s σ H _ _ v u Q I rx ry ⟨_,_,_,w,rfl,rfl,ee.sq hK,h1,k.self h2 λz=>by cases z⟩ hs
 |str z=>
  cases b<;>try exact bx e
  rename_i i;replace e:(if ϒ (z.length<=lim) then ξ (((ixD z.cps.toList.length i).bind λj=>z.cps.toList[j]?).map λc=>δ ⟨#[c]⟩) else .bad)=.ok d:=e;split at e
  ·rename_i hl;have e':=Res.mD e;obtain⟨cc,h1,h2⟩:=mq.mp e';subst h2;cases p;cases q;exact aLq value slice Ψ s σ H _ _ v u Q I rx ry ⟨z,_,cc,rfl,rfl,oO hl,h1,k.str⟩ hs
  ·cases e
 |dct kvs=>
  have e':keyOk b=af/\d9 kvs b=ae d:=by
   replace e:(if keyOk b then ξ (d9 kvs b) else .bad)=.ok d:=by cases b<;>exact e
   split at e
   ·rename_i hl;exact⟨hl,Res.mD e⟩
   ·exact bx e
  obtain⟨H1,a1,o,rfl,I1,bk,g,hc⟩:=aBk I p q (aEv p e'.1 e'.2);cases rx;rcases hc with ⟨rfl,h2⟩|⟨w,dd,rfl,h2,h3⟩
  ·rw[h2] at e';cases e'.2
  ·rw[h2] at e';cases e'.2;exact NP hu I1 g ry hs bk (k.self h3 λz=>by cases z)
 |fdc kvs=>
  have e':keyOk b=af/\d9 kvs b=ae d:=by
   replace e:(if keyOk b then ξ (d9 kvs b) else .bad)=.ok d:=by cases b<;>exact e
   split at e
   ·rename_i hl;exact⟨hl,Res.mD e⟩
   ·exact bx e
  obtain⟨a1,w,rfl,g,h3⟩:=aPl p q e'.1 e'.2;cases rx;exact NP hu I g ry hs (λ_ h=>h) (k.self h3 λz=>by cases z)
 |_=>cases b<;>exact bx e
theorem aW{X:Cx}{a b:Expr}{pos:bX}{fa fb:FE}{ra rb:au}(ha:PE X a (gE fa ra))(hb:PE X b (gE fb rb))(hK:KFrag.K=X.K:=by assumption)(hu:X.A.units+20<cr:=by assumption)(hs:GX b:=by exact λ_ _=>rfl):PE X (.Subscript a b pos) (gE (b2 getD fa fb) ai):=aPi (aMh hK hu) ha hb hs
noncomputable def gO(f:aa D->Res (aq ah)):TO:=λσ H Q=>∃ρ i,ER H σ ρ/\f ρ=.ok i/\∀H',cZ H H'->Q i H'
theorem PO.imp{X:Cx}{e:aq PySem.Expr}{t t':TO}(h:PO X e t)(i:∀σ H Q,t' σ H Q->t σ H Q):PO X e t':=λΨ s σ H Q I q=>h Ψ s σ H Q I (i σ H Q q)
theorem HY:PO X aj (gO G6):=PO.imp aHq λσ H Q z0=>by obtain⟨ρ,i,E,h,q⟩:=z0;cases h;exact q H (cZ.refl H)
theorem H_(ha:PE X a (gE fa ra)):PO X (ae a) (gO (G5 fa)):=PO.imp (aAl ha) λσ H Q z0=>by
 obtain⟨ρ,i,E,h,q⟩:=z0;obtain⟨x,h1,h⟩:=bL h;obtain⟨j,h2,h⟩:=bL h;cases h;have e:=aMc h2;subst e;exact⟨ρ,_,E,h1,λv H' s r _=>by cases r;exact⟨j,rfl,q H' s⟩⟩
theorem aGr(n d:ag)(o:aq ah):HT.sIx n d o=Y0 n d o:=by
 cases o with
 |none=>rfl
 |some v=>
  show(if v<0 then (v+(n:ah)).toNat else min v.toNat n)=(if v<0 then (max (v+(n:ah)) 0).toNat else (min v (n:ah)).toNat);split<;>lia
theorem bZ.cut(r:bZ P H xs ds)(lo hi:aq ah):bZ P H (aEd xs lo hi) (cutD ds lo hi):=by
 unfold aEd cutD;rw[r.length];simp only[aGr];exact(r.drop _).take _
theorem jR:ι ds=af↔∀d∈ds,d.pure=af:=by
 induction ds with
 |nil=>simp[ι]
 |cons d ds ih=>rw[ι,bc,ih];simp
def rSl:V->aq ah->aq ah->Hp->VK->Prop:=λx lo hi H Q=>∃a d,Rep All H x a/\aKm a lo hi=.ok d/\kR H d af Q
theorem aPm(hK:KFrag.K=X.K):SlR X rSl:=by
 rintro Ψ s σ H x v vl vu lo hi sl Q I rx hs pl pu ⟨a,d,p,e,k⟩;cases a<;>simp only[aKm] at e<;>(try (cases e;done))
 ·split at e
  ·cases e
  ·rename_i hw;cases e;obtain⟨l,xs,rfl,ee,rr⟩:=p.fK;refine aLn Ψ s σ H _ v vl vu lo hi sl Q I rx hs pl pu ⟨l,xs,rfl,.of ee,?_,λp hp=>?_⟩
   ·simp only[aGr,rr.length];simp only[jh,iv,jg,Bool.not_eq_false',dE] at hw;exact hw.2
   ·have sp:cZ H (upd H p (.tup (aEd xs lo hi))):=cZ.upd hp;have hp2:ι ‹aa D›=af:=by
     simp only[iv,jg,jh] at hw;simpa using hw.1
    exact k _ _ sp (.tup aL ((rr.cut lo hi).same sp)) λz=>.tup aL (((rr.bT hp2).cut lo hi).same sp)
 ·split at e
  ·rename_i hl;cases e;obtain⟨l,xs,rfl,ee,rr⟩:=p.mK;refine aAm Ψ s σ H _ v vl vu lo hi sl Q I rx hs pl pu ⟨l,xs,rfl,ee,λp hp=>?_⟩;have sp:cZ H (upd H p (.lst (aEd xs lo hi))):=cZ.upd hp;exact k _ _ sp (.lst aL trivial ((rr.cut lo hi).same sp)) λz=>.lst aL hp (((rr.bT hl).cut lo hi).same sp)
  ·cases e
 ·split at e
  ·rename_i hl;cases e;cases p with
   |@frz l xs ds ee rr=>
    refine aAm Ψ s σ H _ v vl vu lo hi sl Q I rx hs pl pu ⟨l,xs,rfl,ee.sq hK,λp hp=>?_⟩;have sp:cZ H (upd H p (.lst (aEd xs lo hi))):=cZ.upd hp;exact k _ _ sp (.lst aL trivial ((rr.cut lo hi).same sp)) λz=>.lst aL hp (((rr.bT hl).cut lo hi).same sp)
  ·cases e
end
end Mi
namespace PySem.Mm
open PySem PyProof.Rows PySem.W
theorem NQ{K:Type}[d4 K]{knd:KeyKind prog w K}{d:am}{kvs:aa (K×ak)}{ep n:ag}(hh:A.handled=aj)(lo:(d==fy)=ai)
 (hm:s.heap.DictAt knd d kvs ep)(hn:kvs.length=n)(hl:n<=2 ^ 24)
 (q:∀h' tk acc c,(∀b o,s.heap.get? b=ae o->h'.get? b=ae o)->h'.get? s.heap.objs.size=ae {cls:=.type "list",dict:=aj,data:=.seq acc c,slots:=#[]}->
   wf (λi v=>∃k x,kvs[i]?=ae (k,x)/\knd.is k v=af) acc n->Q (.ref s.heap.objs.size) {s with heap:=h',toks:=tk}):ϑ (aw prog w) A (call (.type "list") [.ref d]) Q E s:=by
 subst hn;exact kdl_call (kdl_dict lo) hh hm (kdl_size hl) q
end PySem.Mm
namespace Mi
open PySem L2 PySem.SeqAt PySem.Spec PyProof.Rows
section
variable [KFrag]
section
variable {a b e:Expr} {x:Str} {id T:fN}
theorem iK(r:bZ P H xs [d])(vr:Vals xs us):∃v u,xs=[v]/\us=[u]/\Rep P H v d/\RelV v u:=by
 cases r with
 |cons r t=>
  cases t;cases vr with
  |cons v vt=>
   cases vt;exact⟨_,_,rfl,rfl,r,v⟩
theorem V7{fr:au}(h:gE (aM f fs) fr σ H Q):tCB (rs f fr) (gA fs rr) σ H Q:=by
 obtain⟨ρ,d,E,h,q⟩:=h;obtain⟨ds,h1,h2⟩:=bL h;exact⟨ρ,ds,E,h1,λvs H1 s1 r1 _=>⟨ds,d,r1,h2,q.imp s1 id⟩⟩
theorem bK{fr:au}(hc:l_ X (.builtin id) (rs f fr))(hg:Gl X x)(hm:X.mg x=aj)(hv:em x=ae (.builtin id))(ha:PA X (e::es) (gA fs rr))(hn:x ≠ "__name__":=by decide)(hdb:nDb x:=by decide)
 (he:zSE X e es:=by rfl)(hpl:zSP X pos es:=by rfl):PE X (.Call (.Name x p) (e::es) [] pos) (gE (aM f fs) fr):=
 PE.imp (GR hc hg hm hv ha hn hdb he hpl) λ_ _ _=>V7
theorem cY{fr:au}(hc:l_ X (.type T) (rs f fr))(hg:Gl X x)(hm:X.mg x=aj)(hv:em x=ae (.type T))(ha:PA X (e::es) (gA fs rr))(hn:x ≠ "__name__":=by decide)(hdb:nDb x:=by decide)
 (he:zSE X e es:=by rfl)(hpl:zSP X pos es:=by rfl):PE X (.Call (.Name x p) (e::es) [] pos) (gE (aM f fs) fr):=
 PE.imp (MN hc hg hm hv ha hn hdb he hpl) λ_ _ _=>V7
theorem dO(hK:KFrag.K=X.K):l_ X (.builtin "len") (rs fJ af):=by
 rintro Ψ s σ H xs us Q I vr ⟨ds,d,r,e,k⟩;unfold fJ at e;split at e
 ·cases e;obtain⟨vv,uu,rfl,rfl,r,v⟩:=iK r vr;obtain⟨l,ys,rfl,hl,rr⟩:=r.fK;cases v;exact j9 Ψ s σ H [.ref l] [.ref l] Q I (.cons rfl .nil) ⟨l,ys,rfl,.inr (.of hl),by rw[rr.length];exact k.int⟩
 ·cases e;obtain⟨vv,uu,rfl,rfl,r,v⟩:=iK r vr;obtain⟨l,ys,rfl,hl,rr⟩:=r.mK;cases v;exact j9 Ψ s σ H [.ref l] [.ref l] Q I (.cons rfl .nil) ⟨l,ys,rfl,.inl hl,by rw[rr.length];exact k.int⟩
 ·cases e;obtain⟨vv,uu,rfl,rfl,r,v⟩:=iK r vr;cases r with
  |@frz l xs ds ee rr=>
   cases v;exact j9 Ψ s σ H [.ref l] [.ref l] Q I (.cons rfl .nil) ⟨l,xs,rfl,.inl (ee.sq hK),by rw[rr.length];exact k.int⟩
 ·cases e;obtain⟨vv,uu,rfl,rfl,r,v⟩:=iK r vr;obtain⟨_,rfl,ee,pp,rr⟩:=r.inv;cases v;exact j9 Ψ s σ H [.ref _] [.ref _] Q I (.cons rfl .nil) ⟨_,_,rfl,.inl (.inl (.inl ee)),by rw[rr.length];exact k.int⟩
 ·split at e
  ·rename_i hl;cases e;obtain⟨vv,uu,rfl,rfl,r,v⟩:=iK r vr;cases r.inv;exact MT Ψ s σ H _ _ Q I (.cons v .nil) ⟨_,rfl,oO hl,k.int⟩
  ·exact bx e
 ·exact bx e
theorem j5.keys:∀{kvs:aa (Key×V)}{ds:aa (D×D)},j5 P H kvs ds->bZ P' H (kvs.map λp=>kV p.1) (mJ ds)
 |_,_,.nil=>.nil
 |_,_,.cons (k:=k) _ t=>.cons (by cases k<;>first|exact .int _|exact .str _) t.keys
theorem list_dict(hc:X.calm=af)(I:Inv X Ψ σ H s)(e:H l=ae (.dK kvs))
 (q:∀p s',H p=aj->Inv X Ψ σ (upd H p (.lst (kvs.map λp=>kV p.1))) s'->(∀l0 o0,H l0=ae o0->l0≠p)->Q (.ref p) s'):ϑ (aw X.prog X.w) X.A (call (.type "list") [.ref l]) Q X.xe s:=by
 obtain⟨z,hd,vs,rel,dd⟩:=RN I.hok e;obtain⟨ep,da⟩:=dd.dictAt;have hlen:kvs.length=vs.length:=jr rel;refine Mm.NQ (I.ok.hd hc) hd da rfl (by rw[<-hlen];rw[dk] at z;lia) λh' tk acc' c' kp e1 it=>?_
 obtain⟨i1,i2⟩:=it;have hfr:H s.heap.objs.size=aj:=I.hok.fresh (ba _);refine q _ _ hfr (I.laid kp (ba _) ?_) λl0 o0 h0=>cD h0 hfr
 refine⟨by rw[az];exact z,acc'.toList,c',?_,by simpa using e1⟩;have gen:∀(kvs:aa (Key×V))(vs:aa (Key×ak))(xs:aa ak),KV kvs vs->xs.length=vs.length->(∀(j:ag)(v:ak),xs[j]?=ae v->∃k x,vs[j]?=ae (k,x)/\(cC X.prog X.w).is k v=af)->Vals (kvs.map λp=>kV p.1) xs:=by
  intro kvs vs xs rel;induction rel generalizing xs with
  |nil=>intro hl _;cases xs with|nil=>exact .nil|cons _ _=>simp at hl
  |@cons p q ps qs hpq t ih=>
   intro hl g;cases xs with
   |nil=>simp at hl
   |cons x xs=>
    refine .cons ?_ (ih xs (by simpa using hl) λj v hv=>g (j+1) v (by simpa using hv));obtain⟨k,x',h1,h2⟩:=g 0 x rfl;have h1':q=(k,x'):=by simpa using h1
    show RelV (kV p.1) x;rw[hpq.1,h1'];rcases dM h2 with ⟨i,t,rfl,rfl⟩|⟨i,t,rfl,rfl⟩
    ·exact⟨t,rfl⟩
    ·exact⟨t,rfl⟩
 exact gen kvs vs acc'.toList rel (by simpa using i1) λj v hv=>i2 j v (by simpa using hv)
theorem aBm(hc:X.calm=af):l_ X (.type "list") (rs Y7 af):=by
 rintro Ψ s σ H xs us Q I vr ⟨ds,d,r,e,k⟩;unfold Y7 at e;split at e
 ·split at e
  ·rename_i hl;cases e;obtain⟨vv,uu,rfl,rfl,r,v⟩:=iK r vr;obtain⟨l,ys,rfl,hl',rr⟩:=r.fK;cases v;refine wF Ψ s σ H [.ref l] [.ref l] Q I (.cons rfl .nil) ⟨l,ys,rfl,.inr (.of hl'),λp hp=>?_⟩;have sp:cZ H (upd H p (.lst ys)):=cZ.upd hp;exact k _ _ sp (.lst aL trivial (rr.same sp)) λ_=>.lst aL hp ((rr.bT hl).same sp)
  ·exact bx e
 ·split at e
  ·rename_i hl;cases e;obtain⟨vv,uu,rfl,rfl,r,v⟩:=iK r vr;obtain⟨l,ys,rfl,hl',rr⟩:=r.mK;cases v;refine wF Ψ s σ H [.ref l] [.ref l] Q I (.cons rfl .nil) ⟨l,ys,rfl,.inl hl',λp hp=>?_⟩;have sp:cZ H (upd H p (.lst ys)):=cZ.upd hp;exact k _ _ sp (.lst aL trivial (rr.same sp)) λ_=>.lst aL hp ((rr.bT hl).same sp)
  ·exact bx e
 ·split at e
  ·rename_i hl;cases e;obtain⟨vv,uu,rfl,rfl,r,v⟩:=iK r vr;cases r with
   |@dK l kvs ds e _ r n=>
    cases v;refine list_dict hc I e λp s' hp I' _=>⟨.ref p,_,I',rfl,?_⟩
    have sp:cZ H (upd H p (.lst (kvs.map λp=>kV p.1))):=cZ.upd hp;exact k _ _ sp (.lst aL trivial (r.keys.same sp)) λ_=>.lst aL hp (r.keys.same sp)
   |@dT l kvs ds e _ r n=>
    cases v;cases r with
    |cons r t=>simp[isTup] at hl
    |nil=>
     have e2:=HW (o':=.dK []) e;refine list_dict hc (lQ I e) aL λp s' hp I' hne=>?_
     have hp':p≠l:=λz=>by subst z;rw[aL] at hp;cases hp
     have hpn:H p=aj:=by rw[bF hp'] at hp;exact hp
     have hcm:upd (upd (upd H l (.dK [])) p (.lst [])) l (.dT [])=upd H p (.lst []):=by
      funext b
      by_cases hb:b=l
      ·subst hb;rw[aL,bF (Ne.symm hp'),e]
      ·rw[bF hb];by_cases hb2:b=p
       ·subst hb2;rw[aL,aL]
       ·rw[bF hb2,bF hb2,bF hb]
     have I2:=oR I' (by rw[bF (Ne.symm hp'),aL]);have I3:Inv X Ψ σ (upd H p (.lst [])) s':=by
      have:Inv X Ψ σ (upd (upd (upd H l (.dK [])) p (.lst [])) l (.dT [])) s':=I2;rwa [hcm] at this
     have sp:cZ H (upd H p (.lst [])):=cZ.upd hpn;exact⟨.ref p,_,I3,rfl,k _ _ sp (.lst aL trivial .nil) λ_=>.lst aL hpn .nil⟩
  ·exact bx e
 ·exact bx e
theorem d_:l_ X (.type "tuple") (rs fO ai):=by
 rintro Ψ s σ H xs us Q I vr ⟨ds,d,r,e,k⟩;unfold fO at e;split at e
 ·cases e;obtain⟨vv,uu,rfl,rfl,r,v⟩:=iK r vr;obtain⟨l,ys,rfl,hl',rr⟩:=r.fK;cases v;exact uT Ψ s σ H [.ref l] [.ref l] Q I (.cons rfl .nil) ⟨l,ys,rfl,.inr ⟨.of hl',k.self (.tup hl' rr) λz=>by cases z⟩⟩
 ·cases e;obtain⟨vv,uu,rfl,rfl,r,v⟩:=iK r vr;obtain⟨l,ys,rfl,hl',rr⟩:=r.mK;cases v;refine uT Ψ s σ H [.ref l] [.ref l] Q I (.cons rfl .nil) ⟨l,ys,rfl,.inl ⟨hl',λp hp=>?_⟩⟩;have sp:cZ H (upd H p (.tup ys)):=cZ.upd hp;exact k _ _ sp (.tup aL (rr.same sp)) λz=>by cases z
 ·exact bx e
mutual
theorem D_:∀(d:D),d.plain=af->d.pure=af
 |.tup xs,h=>by rw[π] at h;rw[μ];exact wH xs h
 |.int _,_=>rfl
 |.str _,_=>rfl
 |.uD,h=>by simp[π] at h
 |.non,_=>rfl
 |.bl _,_=>rfl
 |.lst _,h=>by simp[π] at h
 |.dct _,h=>by simp[π] at h
 |.scr _,h=>by simp[π] at h
 |.fdc _,h=>by simp[π] at h
 |.exc _ _,h=>by simp[π] at h
 |.ins _ _,h=>by simp[π] at h
 |.adr _,h=>by simp[π] at h
 |.dcl _ _,h=>by simp[π] at h
 |.cel _ _,h=>by simp[π] at h
theorem wH:∀(ds:aa D),D.jO ds=af->ι ds=af
 |[],_=>rfl
 |x::xs,h=>by rw[D.jO,bc] at h;rw[ι,bc];exact⟨D_ x h.1,wH xs h.2⟩
end
theorem yW(h:cN ds=af):ι (uX ds)=af:=jR.mpr λd hd=>D_ d (fL h ((oN ds).mem_iff.mp hd)).1
theorem NT(hu:X.A.units+20<cr):l_ X (.builtin "sorted") (rs gY af):=by
 rintro Ψ s σ H xs us Q I vr ⟨ds,d,r,e,k⟩;unfold gY at e;split at e
 ·split at e
  ·rename_i hl;cases e;obtain⟨vv,uu,rfl,rfl,r,v⟩:=iK r vr;obtain⟨l,ys,rfl,hl',rr⟩:=r.mK;cases v;refine ZC I hu hl' rr hl λp xs' hp r'=>?_
   have sp:cZ H (upd H p (.lst xs')):=cZ.upd hp;exact k _ _ sp (.lst aL trivial (r'.same sp)) λ_=>.lst aL hp ((r'.bT (yW hl)).same sp)
  ·exact bx e
 ·exact bx e
theorem aPn{ro fr:au}{name:Str}{apos cpos:bX}{f:D->aa D->Res D}(pa:zd T)(slot:kN T name id)(hty:iF (.builtin id)=pure (.type "method_descriptor"))(hm:MtR X id (rm f fr))(ho:PE X o (gE fo ro))(ha:PA X (e::es) (gA fs rr))
 (hT:∀(d:D) (ds:aa D) (r:D) (v:V) (H:Hp),f d ds=.ok r->Rep All H v d->tyV X.K T v H)
 (hbase:jb o name X.env (eval o X.env)=eval o X.env:=by rfl)
 (hfew:zFw X cpos (e::es):=by rfl)
 (hline:(apos.endLine==cpos.line)=af:=by rfl)(hs:zSE X e es:=by rfl)(hplain:zSP X cpos es:=by rfl) :
  PE X (.Call (.Attribute o name apos) (e::es) [] cpos) (gE (bM f fo fs) fr):=
 PE.imp (YW pa slot hty hm ho ha hbase hfew hline hs hplain) λσ H Q z0=>by
  obtain⟨ρ,d,E,h,q⟩:=z0;obtain⟨x,h1,h⟩:=bL h;obtain⟨ds,h2,h⟩:=bL h;exact⟨ρ,x,E,h1,λv H1 s1 r1 _=>⟨hT x ds d v H1 h r1,ρ,ds,E.same s1,h2,λvs H2 s2 r2 _=>⟨x,ds,d,r1.same s2,r2,h,q.imp (s1.trans s2) λz=>z⟩⟩⟩
theorem aIi{X:Cx}(h:aI6 d ds=.ok r)(rp:Rep All H v d):tyV X.K "dict" v H:=by
 have:∃kvs,d=.dct kvs:=by
  unfold aI6 at h;split at h
  ·exact⟨_,rfl⟩
  ·exact⟨_,rfl⟩
  ·exact bx h
 obtain⟨kvs,rfl⟩:=this;cases rp with
 |dK e _ _ _=>exact .inr (.inr (.inl ⟨rfl,.inl ⟨_,e⟩⟩))
 |dT e _ _ _=>exact .inr (.inr (.inl ⟨rfl,.inr ⟨_,e⟩⟩))
theorem aMi(hu:X.A.units+20<cr):MtR X "dict.get" (rm aI6 ai):=by
 rintro Ψ s σ H x xs v us Q I rv vr ⟨a,ds,d,ra,rs,h,k⟩;unfold aI6 at h;split at h
 ·split at h
  ·rename_i hf;cases h;obtain⟨vv,uu,rfl,rfl,r,rk⟩:=iK rs vr;obtain⟨H1,a1,o,rfl,I1,bk,g,hc⟩:=aBk I ra r hf;cases rv;refine aLx 0x1 I1 g rk λw' s' I' rw'=>⟨_,H,bk s' I',rw',?_⟩
   rcases hc with ⟨rfl,h2⟩|⟨w,dd,rfl,h2,h3⟩
   ·rw[h2] at k;exact k.non
   ·rw[h2] at k;exact k.self h3 λz=>by cases z
  ·exact bx h
 ·split at h
  ·rename_i hf;cases h;cases rs with
   |cons r t=>
    cases t with
    |cons r' t=>
     cases t;cases vr with
     |cons rk vt=>
      cases vt with
      |cons rk' vt=>
       cases vt;obtain⟨H1,a1,o,rfl,I1,bk,g,hc⟩:=aBk I ra r hf;cases rv;refine aLy 0x1 I1 g rk rk' λw' s' I' rw'=>⟨_,H,bk s' I',rw',?_⟩
       rcases hc with ⟨rfl,h2⟩|⟨w,dd,rfl,h2,h3⟩
       ·rw[h2] at k;exact k.self r' λz=>by cases z
       ·rw[h2] at k;exact k.self h3 λz=>by cases z
  ·exact bx h
 ·exact bx h
noncomputable def spD(f:aa D->Res D)(n:ag):Sp:=λvs H Q _=>∃ds d,ds.length=n/\bZ All H vs ds/\f ds=.ok d/\kR H d af Q
theorem aBn{E:XK}(h:spD f n vs H Q E):vs.length=n:=by
 obtain⟨ds,d,h1,r,_⟩:=h;rw[r.length,h1]
theorem aIj(F:xU X.prog X.w X.K X.mg X.base CX0 k fad fd ps (spD f n))(hr:nH k X.A)(hg:Gl X x)(hm:X.mg x=ae (.ref fad))(hk:jz X.K (.ref fad)=af)(hb:Binds X.K fd ps [])
 (ha:PA X (e::es) (gA fs rr))(hdb:nDb x:=by decide)(he:zSE X e es:=by rfl)(hpl:zSP X pos es:=by rfl) :
  PE X (.Call (.Name x p) (e::es) [] pos) (gE (aM (bO n f) fs) af):=
 PE.imp (RJ F hr hg hm hk hb .nil aLz ha hdb he hpl) λσ H Q z0=>by
  obtain⟨ρ,d,E,h,q⟩:=z0;obtain⟨ds,h1,h⟩:=bL h;unfold bO at h;split at h
  ·rename_i hl;exact⟨ρ,ds,E,h1,λvs H1 s1 r1 _=>⟨ds,d,fg hl,by rw[eD];exact r1,h,q.imp s1 id⟩⟩
  ·exact bx h
end
end
noncomputable def NZ(x:Str):aa D:=x.cps.toList.map λc=>δ ⟨#[c]⟩
noncomputable def BX(xs:aa D):aa D:=xs.zipIdx.map λp=>.tup [.int p.2,p.1]
section
variable [KFrag]
noncomputable def aPo(x:Str):It:=⟨λi _=>i<x.cps.size,λi H v H'=>H'=H/\∃c,x.cps[i]?=ae c/\v=.str ⟨#[c]⟩,λi _=>x.cps.size<=i⟩
theorem aEx{i:ag}:(BX xs)[i]?=(xs[i]?).map λd=>.tup [.int i,d]:=by
 unfold BX;rw[io,List.getElem?_zipIdx,mM];cases xs[i]?<;>rfl
theorem aBo(xs:aa D):(BX xs).length=xs.length:=by simp[BX]
structure ItQ(K:bj)(P:am->Prop)(J:It)(H:Hp)(items:aa D):Prop where
 it:∀(P':am->Prop)(H':Hp),G9 P H H'->(∀a o,H a=ae o->P a->P' a)->(∀i,items.length<=i->J.stop i H')/\∀i d,items[i]?=ae d->J.go i H'/\∀x H'',J.yld i H' x H''->cZ H' H''/\Rep P' H'' x d
section
variable {K:bj} {P P':am->Prop} {J:It} {H H':Hp} {items:aa D}
theorem ItQ.keep'(h:ItQ K P J H items)(k:G9 P H H')(m:∀a o,H a=ae o->P a->P' a):ItQ K P' J H' items:=
 ⟨λP2 H2 k2 m2=>h.it P2 H2 (λa o e hp=>k2 a o (k a o e hp) (hp.imp (m a o e) id)) λa o e hp=>m2 a o (k a o e (.inl hp)) (m a o e hp)⟩
theorem ItQ.keep(h:ItQ K P J H items)(k:G9 P H H')(m:∀a,P a->P' a):ItQ K P' J H' items:=h.keep' k λa _ _=>m a
theorem ItQ.stop(h:ItQ K P J H items)(hi:items.length<=i):J.stop i H:=(h.it P H (λ_ _ e _=>e) λ_ _ _ hp=>hp).1 i hi
theorem ItQ.go(h:ItQ K P J H items)(hi:items[i]?=ae d):J.go i H/\∀x H',J.yld i H x H'->cZ H H'/\Rep P H' x d:=(h.it P H (λ_ _ e _=>e) λ_ _ _ hp=>hp).2 i d hi
theorem ItQ.lst(a:am)(e:J=Itl K a)(r:Rep P H (.ref a) (.lst items)):ItQ K P J H items:=by
 refine⟨λP H kk mm=>?_⟩;have r:=r.aEo kk mm;refine⟨λi hi=>?_,λi d hi=>?_⟩
 ·subst e;obtain⟨a',xs,e,hq,rr⟩:=r.mK;cases e;exact⟨xs,hq,by rw[rr.length];exact hi⟩
 ·subst e;obtain⟨a',xs,e,hq,rr⟩:=r.mK;cases e;obtain⟨v,h1,h2⟩:=rr.get hi;refine⟨⟨xs,v,hq,h1⟩,λx H' ⟨e,hy⟩=>?_⟩;subst e;refine⟨cZ.refl _,?_⟩;have:=hy xs hq;rw[h1] at this;cases this;exact h2
theorem ItQ.tup(a:am)(e:J=Itt K a)(r:Rep P H (.ref a) (.tup items)):ItQ K P J H items:=by
 refine⟨λP H kk mm=>?_⟩;have r:=r.aEo kk mm;refine⟨λi hi=>?_,λi d hi=>?_⟩
 ·subst e;obtain⟨a',xs,e,hq,rr⟩:=r.fK;cases e;exact⟨xs,.of hq,by rw[rr.length];exact hi⟩
 ·subst e;obtain⟨a',xs,e,hq,rr⟩:=r.fK;cases e;obtain⟨v,h1,h2⟩:=rr.get hi;refine⟨⟨xs,v,.of hq,h1⟩,λx H' ⟨e,hy⟩=>?_⟩;subst e;refine⟨cZ.refl _,?_⟩;have:=hy xs (.of hq);rw[h1] at this;cases this;exact h2
theorem ItQ.rng(lo:ah)(n:ag)(e:J=Itr lo n)(r:items=(bz n).map λ(k:ag)=>ε (lo+k)):ItQ K P J H items:=by
 refine⟨λP H k m=>?_⟩;refine⟨λi hi=>?_,λi d hi=>?_⟩
 ·subst e r;show n<=i;simpa using hi
 ·subst e r;have hlt:i<n:=by
   have:=(du.mp hi).1;simpa using this
  refine⟨hlt,λx H' ⟨e,hy⟩=>?_⟩;subst e;have e2:ε (lo+(i:ah))=d:=by simpa[hlt] using hi
  rw[hy,<-e2];exact⟨cZ.refl _,.int _⟩
theorem ItQ.chs(z:Str)(e:J=aPo z)(r:items=NZ z):ItQ K P J H items:=by
 refine⟨λP H k m=>?_⟩;refine⟨λi hi=>?_,λi d hi=>?_⟩
 ·subst e r;show z.cps.size<=i;simpa[NZ] using hi
 ·subst e r;have hlt:i<z.cps.size:=by
   have:=(du.mp hi).1;simpa[NZ] using this
  refine⟨hlt,λx H' ⟨e,c,hc,hv⟩=>?_⟩;subst e hv;refine⟨cZ.refl _,?_⟩;have e2:δ ⟨#[c]⟩=d:=by
   unfold NZ at hi;rw[io,kP,hc] at hi;simpa using hi
  rw[<-e2];exact .str _
end
noncomputable def gI(K:bj)(f:FI):TI:=λσ H R=>∃ρ items k,ER H σ ρ/\f ρ=.ok (items,k)/\∀J H1,cZ H H1->ItQ K All J H1 items->(k=af->ItQ K (New H) J H1 items)->R J H1
def gIV(K:bj)(i:ag):TI:=λσ H R=>∃v d items,σ[i]?=ae (ae v)/\Rep All H v d/\nP d=.ok items/\∀J,(∀P:am->Prop,Rep P H v d->ItQ K P J H items)->R J H
section
variable {X:Cx} {tg l a b:Expr} {rr:au} {fs:FA} {p pos:bX}
theorem V8(I1:Inv X Ψ σ H1 s1)(r:Rep All H1 v d)(ru:RelV v u)(hi:nP d=.ok items)
 (q:∀J,(∀P:am->Prop,Rep P H1 v d->ItQ X.K P J H1 items)->R J H1):ϑ (aw X.prog X.w) X.A (i7 u) (PIE X Ψ σ tg R) X.xe s1:=by
 cases d<;>simp only[nP] at hi<;>cases hi
 ·obtain⟨a,xs,rfl,e,rr⟩:=r.fK;cases ru;obtain⟨its,rv,p,hz⟩:=I1.tuple (.of e);refine lb (show s1.heap.IsTuple a its.toArray from p) ?_;refine⟨s1.heap.objs.size,[s1.heap.objs.size],_,_,H1,rfl,I1.kept λb o e=>br _ e,YH a _,⟨_,cx _ rfl,rfl,rfl⟩,λb hb=>?_,q _ λP r=>.tup a rfl r⟩;have e:b=s1.heap.objs.size:=by simpa using hb
  subst e;exact I1.aGe (ba _) (I1.hok.fresh (ba _))
 ·obtain⟨a,xs,rfl,e,rr⟩:=r.mK;cases ru;obtain⟨its,rv,p,hz⟩:=I1.list e;refine CD p.isList ?_;refine⟨s1.heap.objs.size,[s1.heap.objs.size],_,_,H1,rfl,I1.kept λb o e=>br _ e,aAb a _,⟨_,cx _ rfl,rfl,rfl⟩,λb hb=>?_,q _ λP r=>.lst a rfl r⟩;have e:b=s1.heap.objs.size:=by simpa using hb
  subst e;exact I1.aGe (ba _) (I1.hok.fresh (ba _))
theorem aGs(hN:X.N[i]?=ae x)(hv:Vis X.env.scope x)(hd:nDb x:=by decide)(hcd:nCd x:=by decide):PI X tg (.Name x pos) (gIV X.K i):=by
 rintro Ψ s σ H R I ⟨v,d,items,hσ,r,hi,q⟩;exact thn (fH hN hv hd hcd Ψ s σ H (λw H1=>w=v/\H1=H) I ⟨v,hσ,rfl,rfl⟩) λu s1 z0=>by
  obtain⟨w,H1,I1,ru,e1,e2⟩:=z0;subst e1 e2;exact V8 I1 r ru hi q
theorem vY(h:jP i=af):-(2 ^ 62)<=i/\i<2 ^ 62:=by
 simp only[jP,bc,dE] at h;exact h
theorem PI.imp(h:PI X tg l w)(i:∀σ H R,w' σ H R->w σ H R):PI X tg l w':=λΨ s σ H R I q=>h Ψ s σ H R I (i σ H R q)
theorem sJ(hg:Gl X "range")(hm:X.mg "range"=aj)(ha:PA X [a] (gA fs rr))(hs:cf [a] X.env=[(ai,eval a X.env)]:=by rfl):PI X tg (.Call (.Name "range" p) [a] [] pos) (gI X.K (lL fs vU)):=
 PI.imp (aAc hg hm ha hs) λσ H R z0=>by
  obtain⟨ρ,items,k,E,h,q⟩:=z0;obtain⟨xs,h1,h⟩:=bL h;unfold vU at h;split at h
  ·split at h
   ·rename_i hb;cases h;obtain⟨b1,b2⟩:=vY hb;refine⟨ρ,_,E,h1,λvs H1 s1 r1 _=>?_⟩;cases r1 with
    |cons r t=>
     cases t;cases r.inv;exact⟨_,rfl,b1,b2,q _ H1 s1 (.rng 0 _ rfl rfl) λ_=>.rng 0 _ rfl rfl⟩
   ·exact bx h
  ·exact bx h
theorem aIk(hg:Gl X "range")(hm:X.mg "range"=aj)(ha:PA X [a,b] (gA fs rr))(hs:cf [a,b] X.env=[(ai,eval a X.env),(ai,eval b X.env)]:=by rfl)(hs2:cf [b] X.env=[(ai,eval b X.env)]:=by rfl):PI X tg (.Call (.Name "range" p) [a,b] [] pos) (gI X.K (lL fs aAy)):=
 PI.imp (aAd hg hm ha hs hs2) λσ H R z0=>by
  obtain⟨ρ,items,k,E,h,q⟩:=z0;obtain⟨xs,h1,h⟩:=bL h;unfold aAy at h;split at h
  ·split at h
   ·rename_i hb;cases h;rw[bc] at hb;obtain⟨b1,b2⟩:=vY hb.1;obtain⟨b3,b4⟩:=vY hb.2;refine⟨ρ,_,E,h1,λvs H1 s1 r1 _=>?_⟩;cases r1 with
    |cons r t=>
     cases t with
     |cons r' t=>
      cases t;cases r.inv;cases r'.inv;exact⟨_,_,rfl,⟨b1,b2,b3,b4⟩,q _ H1 s1 (.rng _ _ rfl rfl) λ_=>.rng _ _ rfl rfl⟩
   ·exact bx h
  ·exact bx h
end
theorem aEy(n:ag)(ρ bs:aa D)(i:ag)(h:i<n):(RW n ρ++bs).getD i .uD=ρ.getD i .uD:=by
 rw[ef,kK (by simp[RW];exact h)];simp[RW,h]
theorem V9(n:ag)(ρ:aa D):(RW n ρ).length=n:=by simp[RW]
def TgC(g:TG)(t:D->Res (aa D))(n m:ag):Prop:=∀(v:V)(d:D)(bs:aa D)(σ:L2.St)(H:Hp)(Q:L2.St->Hp->Prop),σ.length=n->Rep All H v d->t d=.ok bs->
 (∀σ2,Ext (σ++b9 m aj) σ2->(∀j b,bs[j]?=ae b->∃w,σ2[n+j]?=ae (ae w)/\Rep All H w b)->Q σ2 H)->g v (σ++b9 m aj) H Q
theorem ER.ext(E:ER H σ ρ)(hn:σ.length=n)(x:Ext (σ++b9 m aj) σ2)(hb:∀j b,bs[j]?=ae b->∃w,σ2[n+j]?=ae (ae w)/\Rep All H w b):ER H σ2 (RW n ρ++bs):=by
 intro i hi;by_cases h:i<n
 ·rw[aEy n ρ bs i h] at hi ⊢;obtain⟨v,h1,h2⟩:=E i hi;exact⟨v,x.2 i v (by rw[kK (by rw[hn];exact h)];exact h1),h2⟩
 ·have e:(RW n ρ++bs).getD i .uD=bs.getD (i-n) .uD:=by
   rw[ef,hI (by rw[V9];lia),V9,<-ef]
  rw[e] at hi ⊢;cases hq:bs[i-n]? with
  |none=>rw[ef,hq] at hi;exact bf rfl hi
  |some b=>
   obtain⟨w,h1,h2⟩:=hb (i-n) b hq;rw[ef,hq];exact⟨w,by rw[<-h1];congr 1;lia,h2⟩
theorem vB{K:bj}{n m:ag}{g:TG}{tc:TT}(tg:TgC g t n m)(hc:∀σ H Q,gT c σ H Q->tc σ H Q){σ:L2.St}{H:Hp}{Q:VK}(hn:σ.length=n)(h:gE (fG n it t c f k) af σ H Q) :
  R5 (gI K it) g tc (gE f k) m σ H Q:=by
 obtain⟨ρ,d,E,h,q⟩:=h;obtain⟨⟨items,kk⟩,h1,h⟩:=bL h;split at h
 ·rename_i hlim;obtain⟨ys,h2,h⟩:=bL h;cases h;refine⟨ρ,items,kk,E,h1,λJ H1 s1 hJ _ p hp=>?_⟩;have hp0:H p=aj:=s1.free hp;refine⟨λi n' vs H'=>n'=items.length-i/\i<=items.length/\H' p=ae (.lst vs)/\cZ H1 H'/\∃acc,acc.length<=i/\bZ (λa=>H a=aj/\a≠p) H' vs acc/\gD (iH n t c f k ρ) acc (items.drop i)=.ok ys,⟨items.length,?_⟩,?_⟩
  ·exact⟨rfl,cq _,aL,cZ.upd hp,[],cq _,.nil,h2⟩
  ·rintro i n' vs H' ⟨rfl,hi,hH,sm,acc,hal,racc,hf⟩;refine⟨hH,?_⟩;have hJ':ItQ K All J H' items:=hJ.keep (.same sm) λ_ z=>z
   rcases ou i items.length with hlt|hge
   ·refine .inr ?_;have e:items[i]?=ae items[i]:=ff hlt;obtain⟨g1,g2⟩:=hJ'.go e;have hl1:items.length<=lim:=fg hlim;refine⟨g1,?_,λx H2 hy=>?_⟩
    ·rw[racc.length];exact Ae hal (c_ hlt (dj hl1 (by rw[dk];decide)))
    ·obtain⟨sH,rx⟩:=g2 x H2 hy;have hH:=sH p _ hH;have sm:=sm.trans sH;have racc:=racc.same sH;rw[mP hlt] at hf;obtain⟨acc2,hs,hf⟩:=bL hf;obtain⟨bs,hb,hs⟩:=bL hs;obtain⟨ok,hok,hs⟩:=bL hs;refine tg x items[i] bs σ H2 _ hn rx hb λσ2 hx hbs=>⟨hx,hc _ _ _ ?_⟩
     have E2:ER H2 σ2 (RW n ρ++bs):=(E.same (s1.trans sm)).ext hn hx hbs;refine⟨_,ok,E2,hok,λH4 s4=>?_⟩;cases ok with
     |true=>
      rw[av rfl];rw[av rfl] at hs;obtain⟨y,hy2,hs⟩:=bL hs;split at hs
      ·rename_i hk;cases hs;refine⟨_,y,E2.same s4,hy2,λw H5 s5 r5 n5=>⟨s5 p _ (s4 p _ hH),items.length-(i+1),by lia,rfl,hlt,aL,?_,acc++[y],?_,?_,hf⟩⟩
       ·exact λb o e=>by
         rw[bF (cD e hp)];exact s5 b o (s4 b o (sm b o e))
       ·rw[bp,zg];lia
       ·have hp5:H5 p=ae (.lst vs):=s5 p _ (s4 p _ hH);have ry:Rep (λa=>H a=aj/\a≠p) H5 w y:=by
         rw[iv] at hk;rcases hk with hk|hk
         ·exact(n5 hk).mono λa ha=>⟨((s1.trans sm).trans s4).free ha,λz=>by subst z;have h0:=s4 _ _ hH;rw[show H4 _=aj from ha] at h0;cases h0⟩
         ·exact r5.bT hk
        have all:bZ (λa=>H a=aj/\a≠p) H5 (vs++[w]) (acc++[y]):=(racc.same (s4.trans s5)).snoc ry;refine all.keep (λb o e hb=>?_) λ_ z=>z
        rw[bF]
        ·exact e
        ·rcases hb with hb|hb
         ·exact hb.2
         ·intro z;subst z;rw[hp5] at e;cases e;cases hb
      ·exact bx hs
     |false=>
      rw[ax 0x2];rw[ax 0x2] at hs;cases hs;exact⟨items.length-(i+1),by lia,rfl,hlt,s4 p _ hH,sm.trans s4,acc,by lia,racc.same s4,hf⟩
   ·refine .inl ⟨hJ'.stop hge,?_⟩;rw[mS hge] at hf;cases hf;exact q _ _ (s1.trans sm) (.lst hH trivial racc.all) λ_=>.lst hH hp0 (racc.mono λa z=>z.1)
 ·exact bx h
def gIx:aa ag->TGs
 |[]=>aQj
 |i::is=>aL8 (xG i) (gIx is)
noncomputable def nQ:aa ag->aa V->L2.St->L2.St
 |i::is,v::vs,σ=>nQ is vs (σ.set i (ae v))
 |_,_,σ=>σ
theorem R_:∀(is:aa ag)(vs:aa V)(σ:L2.St),vs.length=is.length->Q (nQ is vs σ) H->gIx is vs σ H Q
 |[],[],σ,_,q=>⟨rfl,q⟩
 |i::is,v::vs,σ,h,q=>⟨v,vs,rfl,R_ is vs (σ.set i (ae v)) (by simpa using h) q⟩
 |[],_::_,_,h,_=>by simp at h
 |_::_,[],_,h,_=>by simp at h
theorem N5:∀(is:aa ag)(vs:aa V)(σ:L2.St),(nQ is vs σ).length=σ.length
 |[],_,_=>by simp[nQ]
 |_::_,[],_=>by simp[nQ]
 |i::is,v::vs,σ=>by rw[nQ,N5 is vs];simp
theorem yX:∀(is:aa ag)(vs:aa V)(σ:L2.St)(k:ag),k∉is->(nQ is vs σ)[k]?=σ[k]?
 |[],_,_,_,_=>by simp[nQ]
 |_::_,[],_,_,_=>by simp[nQ]
 |i::is,v::vs,σ,k,h=>by
  rw[bP,jg] at h;rw[nQ,yX is vs _ k h.2,dv (Ne.symm h.1)]
theorem V_:∀(is:aa ag)(vs:aa V)(σ:L2.St)(j i:ag)(v:V),is.Nodup->(∀i∈is,i<σ.length)->is[j]?=ae i->vs[j]?=ae v->(nQ is vs σ)[i]?=ae (ae v)
 |[],_,_,_,_,_,_,_,h,_=>by simp at h
 |_::_,[],_,_,_,_,_,_,_,h=>by simp at h
 |a::is,w::vs,σ,0,i,v,hn,hl,h1,h2=>by
  have e1:a=i:=by simpa using h1
  have e2:w=v:=by simpa using h2
  subst e1 e2;rw[nQ,yX is vs _ a (fE.mp hn).1,gi (hl a (bo ..))]
 |a::is,w::vs,σ,j+1,i,v,hn,hl,h1,h2=>by
  rw[nQ];exact V_ is vs _ j i v (fE.mp hn).2 (λi hi=>by rw[CF];exact hl i (bw _ hi)) (by simpa using h1) (by simpa using h2)
theorem fW(n:ag):TgC (xG n) lM n 1:=by
 intro v d bs σ H Q hn r h q;cases h;have hl:(σ++b9 1 (aj:aq V)).length=n+1:=by simp[hn]
 refine q _ ⟨by simp,λi w hi=>?_⟩ λj b hj=>?_
 ·have:i≠n:=λz=>by
   subst z;rw[hI 0x1] at hi;simp[hn] at hi
  rw[dv (Ne.symm this)];exact hi
 ·have e:j=0:=by
   have:=(du.mp hj).1;simp at this;exact this
  subst e;have e:d=b:=by simpa using hj
  subst e;exact⟨v,by rw[CH,gi 0x1],r⟩
theorem aBp(K:bj)(n m:ag):TgC (aP3 K m (gIx (CI n m))) (aKn m) n m:=by
 intro v d bs σ H Q hn r h q;cases d<;>simp only[aKn] at h<;>(try (exact bx h;done))
 split at h
 ·rename_i hm;cases h;have hm':=fg hm;obtain⟨a,xs,rfl,e,rr⟩:=r.fK;refine⟨a,xs,rfl,.of e,by rw[rr.length];exact hm',R_ _ _ _ (by rw[rr.length,hm'];simp) ?_⟩;refine q _ ⟨by rw[N5],λi w hi=>?_⟩ λj b hj=>?_
  ·rw[yX]
   ·exact hi
   ·intro hmem;have:=CL.mp hmem;rw[hI 0x1] at hi;rw[kH] at hi;split at hi<;>cases hi
  ·obtain⟨w,h1,h2⟩:=rr.get hj;have hjm:j<m:=by rw[<-hm'];exact(du.mp hj).1
   refine⟨w,V_ _ _ _ j (n+j) w (List.nodup_range' ..) (λi hi=>?_) ?_ h1,h2⟩
   ·have:=CL.mp hi;simp[hn];lia
   ·rw[List.getElem?_range' hjm];simp
 ·exact bx h
section
theorem aIl(S:c7 X.N X.env.scope scope ownN)(hn:X.N.length=n)(hm:ownN.length=m)(hcalm:X.calm=af)(hi:PI X tg iter (gI X.K it))(ht:TgC g t n m)(hg:∀X',dW X X' scope ownN->PG X' tg g)(he:∀X',dW X X' scope ownN->PE X' elt (gE fe re))
 (hs:∀x,e6 iter X.env x=pure x):PE X (.ListComp elt [⟨tg,iter,[],0⟩] scope pos) (gE (fG n it t g8 fe re) af):=by
 intro Ψ s σ H Q I h;subst hm;exact aEp S hcalm hi hg he hs Ψ s σ H Q I (vB ht (λσ H Q h=>by obtain⟨ρ,b,E,h,q⟩:=h;cases h;exact q H (cZ.refl H)) (I.len.trans hn) h)
theorem aBq(S:c7 X.N X.env.scope scope ownN)(hn:X.N.length=n)(hm:ownN.length=m)(hcalm:X.calm=af)(hi:PI X tg iter (gI X.K it))(ht:TgC g t n m)(hg:∀X',dW X X' scope ownN->PG X' tg g)(hc:∀X',dW X X' scope ownN->PT X' c (gT gc))(he:∀X',dW X X' scope ownN->PE X' elt (gE fe re))
 (hs:∀x,e6 iter X.env x=pure x):PE X (.ListComp elt [⟨tg,iter,[c],0⟩] scope pos) (gE (fG n it t gc fe re) af):=by
 intro Ψ s σ H Q I h;subst hm;exact aB9 S hcalm hi hg hc he hs Ψ s σ H Q I (vB ht (λσ H Q h=>h) (I.len.trans hn) h)
end
end
variable [KFrag]
theorem j5.bT:∀{v:aa (Key×V)}{d:aa (D×D)},j5 P H v d->ι (d.map (·.2))=af->j5 P' H v d
 |_,_,.nil,_=>.nil
 |_,_,.cons r t,h=>by
  rw[bu,ι,bc] at h;exact .cons (r.bT h.1) (t.bT h.2)
theorem sZ.bT:∀{v:aa (aa Key×V)}{d:aa (D×D)},sZ P H v d->ι (d.map (·.2))=af->sZ P' H v d
 |_,_,.nil,_=>.nil
 |_,_,.cons r t,h=>by
  rw[bu,ι,bc] at h;exact .cons (r.bT h.1) (t.bT h.2)
theorem Rep.aQo(r:Rep P H (.ref a) d)(h:inner d=af)(hp:P' a):Rep P' H (.ref a) d:=by
 cases r with
 |tup e r=>cases h
 |lst e p r=>exact .lst e hp (r.bT h)
 |cel e p r=>exact .cel e hp (r.bT h)
 |frz e r=>cases h
 |dK e p r n=>exact .dK e hp (r.bT h) n
 |dT e p r n=>exact .dT e hp (r.bT h) n
 |fdK e r n=>cases h
 |fdT e r n=>cases h
 |exc n e q=>cases h
 |ins n e q=>cases h
 |adr=>cases h
 |dlK e p r n=>exact .dlK e hp (r.bT h) n
 |dlT e p r n=>exact .dlT e hp (r.bT h) n
def Own(own:ag->au)(σ:L2.St)(a:am):Prop:=∃i,own i=af/\σ[i]?=ae (ae (.ref a))
structure ES(own:ag->au)(H:Hp)(σ:L2.St)(ρ:aa D):Prop where
 len:σ.length=ρ.length
 at_:∀i,ρ.getD i .uD≠.uD->∃v,σ[i]?=ae (ae v)/\(own i=ai->Rep (λa=>¬Own own σ a) H v (ρ.getD i .uD))
 own:∀i v,own i=af->σ[i]?=ae (ae v)->∃a o,v=.ref a/\Rep All H v (ρ.getD i .uD)/\inner (ρ.getD i .uD)=af/\H a=ae o/\Y8 o=af/\∀j,own j=af->σ[j]?=ae (ae (.ref a))->j=i
variable {own:ag->au}
theorem ES.er(e:ES own H σ ρ):ER H σ ρ:=λi hi=>by
 obtain⟨v,h1,h2⟩:=e.at_ i hi;cases ho:own i with
 |false=>exact⟨v,h1,(h2 ho).all⟩
 |true=>
  obtain⟨a,o,_,h3,_⟩:=e.own i v ho h1;exact⟨v,h1,h3⟩
theorem ES.live(e:ES own H σ ρ)(h:Own own σ a):∃o,H a=ae o/\Y8 o=af:=by
 obtain⟨i,hi,hs⟩:=h;obtain⟨b,o,eb,_,_,h3,h4,_⟩:=e.own i _ hi hs;cases eb;exact⟨o,h3,h4⟩
theorem ES.same(e:ES own H σ ρ)(s:cZ H H'):ES own H' σ ρ:=by
 refine⟨e.len,λi hi=>?_,λi v hi hv=>?_⟩
 ·obtain⟨v,h1,h2⟩:=e.at_ i hi;exact⟨v,h1,λho=>(h2 ho).same s⟩
 ·obtain⟨a,o,h1,h2,h3,h4,h5,h6⟩:=e.own i v hi hv;exact⟨a,o,h1,h2.same s,h3,s _ _ h4,h5,h6⟩
def KU(own:ag->au)(σ:L2.St)(H:Hp)(σ':L2.St)(H':Hp):Prop:=∀a o,H a=ae o->¬Own own σ a->H' a=ae o/\¬Own own σ' a
theorem KU.trans(a:KU own σ H σ1 H1)(b:KU own σ1 H1 σ2 H2):KU own σ H σ2 H2:=λc o e n=>let ⟨e1,n1⟩:=a c o e n;b c o e1 n1
theorem KU.same(s:cZ H H'):KU own σ H σ H':=λa o e n=>⟨s a o e,n⟩
theorem KU.keep(k:KU own σ H σ' H')(e:ES own H σ ρ):G9 (λa=>¬Own own σ a) H H':=λa o h hp=>by
 by_cases ho:Own own σ a
 ·obtain⟨o',h1,h2⟩:=e.live ho;rw[h] at h1;cases h1;rcases hp with hp|hp
  ·exact bf ho hp
  ·rw[h2] at hp;cases hp
 ·exact(k a o h ho).1
theorem KU.rep(k:KU own σ H σ' H')(e:ES own H σ ρ)(r:Rep (λa=>¬Own own σ a) H v d):Rep (λa=>¬Own own σ' a) H' v d:=r.aEo (k.keep e) λa o h n=>(k a o h n).2
def kRt(own:ag->au)(D:Ends)(σ:L2.St)(H:Hp)(d:Mi.D):Prop:=if own rtX=af then ∃d0 ρ',d=.tup (d0::ρ')/\∀v σ' H',KU own σ H σ' H'->ES own H' σ' ρ'->Rep (λa=>(Own own σ a\/H a=aj)/\∀i b xs,ρ'.getD i .uD=.cel b xs->a≠b) H' v d0->D.rt v H'
  else ∀v H',(∀a o,H a=ae o->¬Own own σ a->H' a=ae o)->Rep (λa=>Own own σ a\/H a=aj) H' v d->D.rt v H'
theorem kRt.old{D:Ends}(h:kRt own D σ H d)(hx:own rtX=ai):∀v H',(∀a o,H a=ae o->¬Own own σ a->H' a=ae o)->Rep (λa=>Own own σ a\/H a=aj) H' v d->D.rt v H':=by
 unfold kRt at h;rw[ax (by rw[hx];simp)] at h;exact h
theorem kRt.mk{D:Ends}(hx:own rtX=ai)(h:∀v H',(∀a o,H a=ae o->¬Own own σ a->H' a=ae o)->Rep (λa=>Own own σ a\/H a=aj) H' v d->D.rt v H'):kRt own D σ H d:=by
 unfold kRt;rw[ax (by rw[hx];simp)];exact h
def kS(own:ag->au)(D:Ends)(σ:L2.St)(H:Hp):Fl->Prop
 |.nx ρ=>∀σ' H',KU own σ H σ' H'->ES own H' σ' ρ->D.nx σ' H'
 |.bk ρ=>∀σ' H',KU own σ H σ' H'->ES own H' σ' ρ->D.bk σ' H'
 |.ct ρ=>∀σ' H',KU own σ H σ' H'->ES own H' σ' ρ->D.ct σ' H'
 |.rt d=>kRt own D σ H d
theorem kS.step{D:Ends}{σ σ':L2.St}{H H':Hp}{fl:Fl}(k:KU own σ H σ' H')(h:kS own D σ H fl):kS own D σ' H' fl:=by
 cases fl with
 |nx ρ=>exact λσ2 H2 k2 e=>h σ2 H2 (k.trans k2) e
 |bk ρ=>exact λσ2 H2 k2 e=>h σ2 H2 (k.trans k2) e
 |ct ρ=>exact λσ2 H2 k2 e=>h σ2 H2 (k.trans k2) e
 |rt d=>
  have old:∀a,(Own own σ' a\/H' a=aj)->Own own σ a\/H a=aj:=λa ha=>by
   cases q:H a with
   |none=>exact .inr rfl
   |some o=>
    refine .inl (EE λn=>?_);obtain⟨e1,n1⟩:=k a o q n;rcases ha with ha|ha
    ·exact n1 ha
    ·rw[e1] at ha;cases ha
  have h:kRt own D σ H d:=h;show kRt own D σ' H' d;unfold kRt at h ⊢;by_cases hx:own rtX=af
  ·rw[av hx] at h ⊢;obtain⟨d0,ρ',e,g⟩:=h;exact⟨d0,ρ',e,λv σ2 H2 k2 E2 r=>g v σ2 H2 (k.trans k2) E2 (r.mono λa ha=>⟨old a ha.1,ha.2⟩)⟩
  ·rw[ax hx] at h ⊢;exact λv H2 hk r=>h v H2 (λa o e n=>let ⟨e1,n1⟩:=k a o e n;hk a o e1 n1) (r.mono λa ha=>old a ha)
noncomputable def tS(own:ag->au)(f:FS):TS:=λD σ H=>∃ρ fl,ES own H σ ρ/\f ρ=.ok fl/\kS own D σ H fl
theorem PS.imp{st:bq}(h:PS X st t)(i:∀D σ H,t' D σ H->t D σ H):PS X st t':=λΨ s σ H D I q=>h Ψ s σ H D I (i D σ H q)
theorem PSs.imp{st:aa bq}{t t':TS}(h:PSs X st t)(i:∀D σ H,t' D σ H->t D σ H):PSs X st t':=λΨ s σ H D I q=>h Ψ s σ H D I (i D σ H q)
section
variable {X:Cx} {a b c e:Expr} {pos pos':bX} {fe:FE} {re:au} {gc:FT} {f g:FS} {st:bq} {rest s1 s2:aa bq}
theorem fX:PSs X [] (tS own vV):=PSs.imp aHg λD σ H z0=>by
 obtain⟨ρ,fl,E,h,q⟩:=z0;cases h;exact q σ H (λa o e n=>⟨e,n⟩) E
theorem aIm{D:Ends}(h:tS own (bN f g) D σ H):aOs (tS own f) (tS own g) D σ H:=by
 obtain⟨ρ,fl,E,h,q⟩:=h;obtain⟨r,h1,h2⟩:=bL h;refine⟨ρ,r,E,h1,?_⟩;cases r with
 |nx ρ'=>exact λσ' H' k E'=>⟨ρ',fl,E',h2,q.step k⟩
 |bk ρ'=>cases h2;exact q
 |ct ρ'=>cases h2;exact q
 |rt d=>cases h2;exact q
theorem aJ(h1:PS X st (tS own f))(h2:PSs X rest (tS own g)):PSs X (st::rest) (tS own (bN f g)):=PSs.imp (xT h1 h2) λ_ _ _=>aIm
theorem aV(h1:PS X st (tS own f)):PSs X [st] (tS own f):=yE h1
theorem iW(hc:PT X c (gT gc))(ha:PSs X s1 (tS own f))(hb:PSs X s2 (tS own g)):PS X (.If c s1 s2 pos) (tS own (sIf gc f g)):=PS.imp (aHh hc ha hb) λD σ H z0=>by
 obtain⟨ρ,fl,E,h,q⟩:=z0;obtain⟨k,h1,h2⟩:=bL h;refine⟨ρ,k,E.er,h1,λH' s=>?_⟩;cases k with
 |true=>rw[av rfl];rw[av rfl] at h2;exact⟨ρ,fl,E.same s,h2,q.step (.same s)⟩
 |false=>rw[ax 0x2];rw[ax 0x2] at h2;exact⟨ρ,fl,E.same s,h2,q.step (.same s)⟩
theorem eN(he:PE X e (gE fe re))(hx:own rtX=ai:=by rfl):PS X (.Return (ae e) pos) (tS own (oM fe re)):=PS.imp (aGd he) λD σ H z0=>by
 obtain⟨ρ,fl,E,h,q⟩:=z0;obtain⟨d,h1,h2⟩:=bL h;split at h2
 ·rename_i hk;cases h2;refine⟨ρ,d,E.er,h1,λv H' s r n=>q.old hx v H' (λa o e _=>s a o e) ?_⟩;rw[iv] at hk;rcases hk with hk|hk
  ·exact(n hk).mono λa ha=>.inr ha
  ·exact r.bT hk
 ·exact bx h2
theorem IK(ho:own i=af)(hN:X.N[i]?=ae x)(hv:Vis X.env.scope x)(hd:nDb x:=by decide)(hcd:nCd x:=by decide)(hx:own rtX=ai:=by rfl):PS X (.Return (ae (.Name x pos')) pos) (tS own (aAz i)):=
 PS.imp (aGd (fH hN hv hd hcd)) λD σ H z0=>by
 obtain⟨ρ,fl,E,h,q⟩:=z0;obtain⟨d,h1,h2⟩:=bL h;cases h2;obtain⟨v,hv,r,e⟩:=E.er.var h1;obtain⟨a,o,rfl,r2,hin,_⟩:=E.own i v ho hv;rw[e] at hin;exact⟨_,hv,q.old hx _ H (λa o e _=>e) (r.aQo hin (.inl ⟨i,ho,hv⟩))⟩
theorem jT(ho:own i=ai)(a:am):Own own (σ.set i (ae v)) a↔Own own σ a:=by
 constructor
 ·rintro⟨j,hj,e⟩;have:i≠j:=λz=>by subst z;rw[ho] at hj;cases hj
  rw[dv this] at e;exact⟨j,hj,e⟩
 ·rintro⟨j,hj,e⟩;have:i≠j:=λz=>by subst z;rw[ho] at hj;cases hj
  exact⟨j,hj,by rw[dv this];exact e⟩
theorem eE{ρ:aa D}:(ρ.set i d).getD j .uD=if i=j/\i<ρ.length then d else ρ.getD j .uD:=by
 rw[ef,ef,oD];by_cases h:i=j
 ·subst h;by_cases h2:i<ρ.length
  ·simp[h2]
  ·simp[h2]
 ·simp[h]
theorem ES.set(E:ES own H σ ρ)(ho:own i=ai)(r:Rep (λa=>¬Own own σ a) H v d):ES own H (σ.set i (ae v)) (ρ.set i d):=by
 have hO:(λa=>¬Own own (σ.set i (ae v)) a)=λa=>¬Own own σ a:=funext λa=>by rw[jT ho]
 refine⟨by simp[E.len],λj hj=>?_,λj w hj hw=>?_⟩
 ·rw[eE] at hj ⊢;rw[hO];by_cases h:i=j/\i<ρ.length
  ·rw[av h];obtain⟨rfl,hl⟩:=h;exact⟨v,by rw[gi (by rw[E.len];exact hl)],λ_=>r⟩
  ·rw[ax h] at hj ⊢;obtain⟨w,h1,h2⟩:=E.at_ j hj;by_cases hij:i=j
   ·subst hij;have:i<σ.length:=(du.mp h1).1;rw[E.len] at this;exact bf ⟨rfl,this⟩ h
   ·exact⟨w,by rw[dv hij];exact h1,h2⟩
 ·have hij:i≠j:=λz=>by subst z;rw[ho] at hj;cases hj
  rw[dv hij] at hw;rw[eE,ax λz=>hij z.1];obtain⟨a,o,h1,h2,h3,h4,h5,h6⟩:=E.own j w hj hw;refine⟨a,o,h1,h2,h3,h4,h5,λk hk hs=>h6 k hk ?_⟩;have hik:i≠k:=λz=>by subst z;rw[ho] at hk;cases hk
  rwa [dv hik] at hs
theorem ES.aRo{i:ag}{a:am}{o:HO}{d:D}(E:ES own H σ ρ)(s:cZ H H')(ho:own i=af)(hn:H a=aj)(r:Rep All H' (.ref a) d)(hin:inner d=af)(ha:H' a=ae o)(hm:Y8 o=af) :
  ES own H' (σ.set i (ae (.ref a))) (ρ.set i d)/\KU own σ H (σ.set i (ae (.ref a))) H':=by
 have hO:∀b,H b≠aj->¬Own own σ b->¬Own own (σ.set i (ae (.ref a))) b:=λb hb n z0=>by
  obtain⟨j,hj,e⟩:=z0;by_cases hij:i=j
  ·subst hij;by_cases hl:i<σ.length
   ·rw[gi hl] at e;cases e;exact hb hn
   ·rw[oD,av rfl,ax hl] at e;cases e
  ·rw[dv hij] at e;exact n ⟨j,hj,e⟩
 refine⟨⟨by simp[E.len],λj hj=>?_,λj w hj hw=>?_⟩,λb ob e n=>⟨s b ob e,hO b (by rw[e];simp) n⟩⟩
 ·rw[eE] at hj ⊢;by_cases h:i=j/\i<ρ.length
  ·rw[av h];obtain⟨rfl,hl⟩:=h;exact⟨.ref a,by rw[gi (by rw[E.len];exact hl)],λz=>by rw[ho] at z;cases z⟩
  ·rw[ax h] at hj ⊢;obtain⟨w,h1,h2⟩:=E.at_ j hj;by_cases hij:i=j
   ·subst hij;have:i<σ.length:=(du.mp h1).1;rw[E.len] at this;exact bf ⟨rfl,this⟩ h
   ·exact⟨w,by rw[dv hij];exact h1,λhj=>((h2 hj).dom.same s).mono λb ⟨n,hb⟩=>hO b hb n⟩
 ·by_cases hij:i=j
  ·subst hij;have hl:i<σ.length:=by
    have:=(du.mp hw).1;simpa using this
   rw[gi hl] at hw;cases hw;rw[eE,av ⟨rfl,by rw[<-E.len];exact hl⟩];refine⟨a,o,rfl,r,hin,ha,hm,λk hk hs=>?_⟩;by_cases hik:i=k
   ·exact hik.symm
   ·rw[dv hik] at hs;obtain⟨o',h1,_⟩:=E.live ⟨k,hk,hs⟩;rw[hn] at h1;cases h1
  ·rw[dv hij] at hw;rw[eE,ax λz=>hij z.1];obtain⟨b,ob,h1,h2,h3,h4,h5,h6⟩:=E.own j w hj hw;refine⟨b,ob,h1,h2.same s,h3,s _ _ h4,h5,λk hk hs=>?_⟩;by_cases hik:i=k
   ·subst hik;by_cases hl:i<σ.length
    ·rw[gi hl] at hs;cases hs;rw[hn] at h4;cases h4
    ·rw[oD,av rfl,ax hl] at hs;cases hs
   ·rw[dv hik] at hs;exact h6 k hk hs
theorem aGt(r:Rep P H v d)(hin:inner d=af):∃a o,v=.ref a/\P a/\H a=ae o/\Y8 o=af:=by
 cases r with
 |lst e p r=>exact⟨_,_,rfl,p,e,rfl⟩
 |cel e p r=>exact⟨_,_,rfl,p,e,rfl⟩
 |dK e p r n=>exact⟨_,_,rfl,p,e,rfl⟩
 |dT e p r n=>exact⟨_,_,rfl,p,e,rfl⟩
 |dlK e p r n=>exact⟨_,_,rfl,p,e,rfl⟩
 |dlT e p r n=>exact⟨_,_,rfl,p,e,rfl⟩
 |fdK e r n=>cases hin
 |fdT e r n=>cases hin
 |_=>cases hin
theorem aBr(E:ES own H σ ρ)(r:Rep (New H) H' v d):Rep (λa=>¬Own own σ a) H' v d:=r.mono λa ha ho=>by
 obtain⟨o,h1,_⟩:=E.live ho;rw[show H a=aj from ha] at h1;cases h1
theorem yZ(ho:own i=o)(h:tS own (bW o i fe re) D' σ H):aHi (gE fe re) (xG i) D' σ H:=by
 obtain⟨ρ,fl,E,h,q⟩:=h;obtain⟨d,h1,h2⟩:=bL h;cases o with
 |true=>
  simp only[eI] at h2;split at h2
  ·rename_i hk;cases h2;refine⟨ρ,d,E.er,h1,λv H' s r n=>?_⟩;rw[bc] at hk;obtain⟨a,ob,rfl,hn,ha,hm⟩:=aGt (n hk.1) hk.2;obtain⟨E2,k⟩:=E.aRo s ho hn r hk.2 ha hm;exact q _ H' k E2
  ·exact bx h2
 |false=>
  simp only[iL,fF] at h2;split at h2
  ·rename_i hk;cases h2;refine⟨ρ,d,E.er,h1,λv H' s r n=>?_⟩;rw[iv] at hk;have r2:Rep (λa=>¬Own own σ a) H' v d:=by
    rcases hk with hk|hk
    ·exact aBr E (n hk)
    ·exact r.bT hk
   exact q _ H' (λa ob e hn=>⟨s a ob e,by rw[jT ho];exact hn⟩) ((E.same s).set ho r2)
  ·exact bx h2
theorem aY(ho:own i=o)(hN:X.N.Nodup)(hi:X.N[i]?=ae x)(hx:Loc X.env.scope x)(he:PE X e (gE fe re))(hs:zSw X e x pos' pos:=by rfl)(hf:zFn X x:=by first|exact .inl rfl|exact .inr rfl|assumption) :
  PS X (.Assign [.Name x pos'] e pos) (tS own (bW o i fe re)):=PS.imp (LR hN hi hx he hs hf) λ_ _ _=>yZ ho
theorem aRp{i:ag}{x:Str}{o:au}(he:PE X e (gE fe re))(ho:own i=o:=by rfl)(hN:X.N.Nodup:=by assumption)(hi:X.N[i]?=ae x:=by exact rfl)(hx:Loc X.env.scope x:=by trivial)(hs:zSw X e x pos' pos:=by rfl)(hf:zFn X x:=by first|exact .inl rfl|exact .inr rfl|assumption):PS X (.Assign [.Name x pos'] e pos) (tS own (bW o i fe re)):=aY ho hN hi hx he hs hf
theorem ES.mut{i:ag}{a:am}{o:HO}{d:D}(E:ES own H σ ρ)(ho:own i=af)(hi:σ[i]?=ae (ae (.ref a)))(hm:Y8 o=af)(r:Rep All (upd H a o) (.ref a) d)(hin:inner d=af) :
  ES own (upd H a o) σ (ρ.set i d)/\KU own σ H σ (upd H a o):=by
 have hOa:Own own σ a:=⟨i,ho,hi⟩
 obtain⟨a',oa,ea,_,_,hHa,hma,huq⟩:=E.own i _ ho hi;cases ea;have k:KU own σ H σ (upd H a o):=λb ob e n=>⟨by rw[bF (λz=>by subst z;exact n hOa)];exact e,n⟩
 have hl:i<ρ.length:=by rw[<-E.len];exact(du.mp hi).1
 refine⟨⟨by simp[E.len],λj hj=>?_,λj w hj hw=>?_⟩,k⟩
 ·rw[eE] at hj ⊢;by_cases h:i=j/\i<ρ.length
  ·obtain⟨rfl,_⟩:=h;exact⟨_,hi,λz=>by rw[ho] at z;cases z⟩
  ·rw[ax h] at hj ⊢;obtain⟨w,h1,h2⟩:=E.at_ j hj;exact⟨w,h1,λhj=>k.rep E (h2 hj)⟩
 ·by_cases hij:i=j
  ·subst hij;rw[hi] at hw;cases hw;rw[eE,av ⟨rfl,hl⟩];exact⟨a,o,rfl,r,hin,aL,hm,huq⟩
  ·rw[eE,ax λz=>hij z.1];obtain⟨b,ob,h1,h2,h3,h4,h5,h6⟩:=E.own j w hj hw;subst h1;have hba:b≠a:=λz=>by subst z;exact hij (h6 i ho hi)
   refine⟨b,ob,rfl,?_,h3,by rw[bF hba];exact h4,h5,h6⟩;refine(h2.aQo (P':=λc=>c=b) h3 rfl).keep (λc oc hc hp=>?_) λ_ _=>trivial
   rw[bF]
   ·exact hc
   ·intro z;subst z;rcases hp with hp|hp
    ·exact hba hp.symm
    ·rw[hHa] at hc;cases hc;rw[hma] at hp;cases hp
theorem ES.ownAt(E:ES own H σ ρ)(ho:own i=af)(hd:ρ.getD i .uD≠.uD):∃a o,σ[i]?=ae (ae (.ref a))/\Rep All H (.ref a) (ρ.getD i .uD)/\inner (ρ.getD i .uD)=af/\H a=ae o/\Y8 o=af:=by
 obtain⟨v,h1,_⟩:=E.at_ i hd;obtain⟨a,o,rfl,h2,h3,h4,h5,_⟩:=E.own i v ho h1;exact⟨a,o,h1,h2,h3,h4,h5⟩
theorem y_{a:am}(r:Rep All H (.ref a) (.lst xs)):∃vs,H a=ae (.lst vs)/\bZ All H vs xs:=by
 cases r with
 |lst e _ r=>exact⟨_,e,r⟩
theorem bZ.upd{a:am}{xs:aa D}{o:HO}{ob:HO}(r:bZ All H vs xs)(hp:ι xs=af)(ha:H a=ae ob)(hm:Y8 ob=af):bZ All (upd H a o) vs xs:=by
 refine(r.bT (P':=λ_=>cg) hp).keep (λc oc hc h=>?_) λ_ h=>h.elim
 rw[bF]
 ·exact hc
 ·intro z;subst z;rcases h with h|h
  ·exact h
  ·rw[ha] at hc;cases hc;rw[hm] at h;cases h
theorem vC:ι (xs++ys)=(ι xs&&ι ys):=by
 induction xs with
 |nil=>simp[ι]
 |cons x xs ih=>rw[fj,ι,ι,ih,Cd]
theorem kE(ho:own i=af)(hN:X.N[i]?=ae x)(hv:Vis X.env.scope x)(he:PE X e (gE fe re))(hd:nDb x:=by decide)(hcd:nCd x:=by decide)
 (hbase:jb (.Name x p1) "append" X.env (eval (.Name x p1) X.env)=eval (.Name x p1) X.env:=by rfl)
 (hs1:zSE X e []:=by rfl)
 (hfew:zFw X cpos [e]:=by rfl)
 (hline:(apos.endLine==cpos.line)=af:=by rfl)
 (hs:eB (.Call (.Attribute (.Name x p1) "append" apos) [e] [] cpos) aj pos.line X.env=pure ai:=by rfl) :
  PS X (.Expr (.Call (.Attribute (.Name x p1) "append" apos) [e] [] cpos) pos) (tS own (BV i fe)):=
 PS.imp (yF (YW mT zf CM yJ (fH hN hv hd hcd) (eQ he j8 hs1) hbase hfew hline hs1 rfl) hs) λD' σ H z0=>by
 obtain⟨ρ,fl,E,h,q⟩:=z0;obtain⟨d,h1,h2⟩:=bL h;split at h2
 ·rename_i xs hx;split at h2
  ·rename_i hk;cases h2;rw[bc] at hk;obtain⟨a,o,hσ,r,hin,ha,hm⟩:=E.ownAt ho (by rw[hx];intro z;cases z);rw[hx] at r hin;obtain⟨vs,hl,rr⟩:=y_ r;refine⟨_,hσ,.inl ⟨rfl,vs,.of hl⟩,ρ,d,E.er,h1,λv H' s rv _=>⟨a,vs,v,rfl,rfl,s _ _ hl,by rw[rr.length];exact aBg hk.1,?_⟩⟩;have E':=E.same s;have hl':=s _ _ hl;obtain⟨E2,k2⟩:=E'.mut ho hσ rfl (.lst aL trivial (((rr.same s).snoc rv).upd (by rw[vC];simp only[bc];exact⟨hin,by simp[ι,hk.2]⟩) hl' rfl)) (by show ι (xs++[d])=af;rw[vC];simp only[bc];exact⟨hin,by simp[ι,hk.2]⟩);exact q _ _ ((KU.same s).trans k2) E2
  ·exact bx h2
 ·exact bx h2
end
end Mi
namespace L2
open PySem PySem.Spec PyProof.Rows
section
variable {X:Cx} {scope:dL} {own:aa Str}
theorem aEz{y:Str}{py:bX}{iy:ag}(hNn:X.N.Nodup)(hiy:X.N[iy]?=ae y)(hxy:Loc X.env.scope y)(hfy:zFn X y){Ψ:aa (am×bg)}{σ:St}{D:Ends}{p C:am}{H5:Hp}{s6:ar}{m6:Str->aq ak}(f:Inv X Ψ σ H5 s6)(k:aA3 X Ψ H5 C)(n:s6.heap.Ns C m6)(q:xG iy (.ref p) σ H5 D.nx):my (aw X.prog X.w) X.A X.xe (ae (kA (.Name y py) X.env)) (λ_ s'=>SP X Ψ D .next s') (.ref p) C (.ok .next) s6:=by
 obtain⟨oC,esC,epC,hoC,hdC,_⟩:=id n;have finP:=f.RG (pins':=Ψ++[(C,oC)]) λp hp=>(e5.mp hp).elim (λz=>f.pin p (fA _ z)) λz=>by
  have z':p=(C,oC):=by simpa using z
  subst z';exact⟨hoC,k.1,k.2.1,k.2.2.1,λv z=>by rw[hdC] at z;cases z⟩
 refine thn (bJ (pos:=py) hNn hiy hxy hfy _ _ σ H5 (.ref p) (.ref p) D.nx finP rfl q) λ_ s7 ⟨σ7,H7,I7,q7⟩=>?_
 obtain⟨g7,hC7,_⟩:=I7.pin (C,oC) (fA _ (fA _ 0x2));refine⟨m6,n.at' λo e=>?_,λh' sb=>⟨σ7,H7,Inv.turned (t':=s7.toks) I7.t_ (λb o hb e=>sb.extBut b o hb e) hC7 k.2.1 k.2.2.2.1 k.2.2.2.2.1 k.2.2.2.2.2,q7⟩⟩;rw[hoC] at e;cases e;exact g7
theorem aMj{elt iter tg:Expr}{ifs:aa Expr}{wi:TI}{g:TG}{tc:TT}{te:TE}{pos:bX}(S:c7 X.N X.env.scope scope own)(hcalm:X.calm=af)(hi:PI X tg iter wi)
 (hg:∀X',dW X X' scope own->PG X' tg g)(hc:(ifs=[]/\tc=λ_ H Q=>Q af H)\/∃c,ifs=[c]/\∀X',dW X X' scope own->PT X' c tc)(he:∀X',dW X X' scope own->PE X' elt te)
 (hs:∀x,e6 iter X.env x=pure x){y:Str}{py pos2:bX}{iy:ag}(hNn:X.N.Nodup)(hiy:X.N[iy]?=ae y)(hxy:Loc X.env.scope y)(hfy:zFn X y)(hsw:eB (.ListComp elt [⟨tg,iter,ifs,0⟩] scope pos) (ae (.Name y py)) pos2.line X.env=pure af):PS X (.Assign [.Name y py] (.ListComp elt [⟨tg,iter,ifs,0⟩] scope pos) pos2) (aHi (R5 wi g tc te own.length) (xG iy)):=by
 intro Ψ s σ H D I h;rw[exec_Assign_Name_used _ _ _ _ hsw];refine ao (ju (ao ?_));show ϑ _ X.A (do let _ <- Ca (.ListComp elt [⟨tg,iter,ifs,0⟩] scope pos) scope X.env _ (zr []) ai (eval iter X.env) (ae (kA (.Name y py) X.env))) _ _ s;exact ao (dA (R6 (QQ:=λ_ s'=>SP X Ψ D .next s') S hcalm hi hg hc he hs I h (aEz hNn hiy hxy hfy)) (λ_ s' hq=>aI (aI hq)) λ_ _ e=>e)
theorem N6{elt iter tg c:Expr}{wi:TI}{g:TG}{tc:TT}{te:TE}{pos:bX}(S:c7 X.N X.env.scope scope own)(hcalm:X.calm=af)(hi:PI X tg iter wi)
 (hg:∀X',dW X X' scope own->PG X' tg g)(hc:∀X',dW X X' scope own->PT X' c tc)(he:∀X',dW X X' scope own->PE X' elt te)
 (hs:∀x,e6 iter X.env x=pure x){y:Str}{py pos2:bX}{iy:ag}(hNn:X.N.Nodup)(hiy:X.N[iy]?=ae y)(hxy:Loc X.env.scope y)(hfy:zFn X y)(hsw:eB (.ListComp elt [⟨tg,iter,[c],0⟩] scope pos) (ae (.Name y py)) pos2.line X.env=pure af):PS X (.Assign [.Name y py] (.ListComp elt [⟨tg,iter,[c],0⟩] scope pos) pos2) (aHi (R5 wi g tc te own.length) (xG iy)):=
 aMj S hcalm hi hg (.inr ⟨c,rfl,hc⟩) he hs hNn hiy hxy hfy hsw
theorem aF0{elt iter tg:Expr}{wi:TI}{g:TG}{te:TE}{pos:bX}(S:c7 X.N X.env.scope scope own)(hcalm:X.calm=af)(hi:PI X tg iter wi)
 (hg:∀X',dW X X' scope own->PG X' tg g)(he:∀X',dW X X' scope own->PE X' elt te)
 (hs:∀x,e6 iter X.env x=pure x){y:Str}{py pos2:bX}{iy:ag}(hNn:X.N.Nodup)(hiy:X.N[iy]?=ae y)(hxy:Loc X.env.scope y)(hfy:zFn X y)(hsw:eB (.ListComp elt [⟨tg,iter,[],0⟩] scope pos) (ae (.Name y py)) pos2.line X.env=pure af):PS X (.Assign [.Name y py] (.ListComp elt [⟨tg,iter,[],0⟩] scope pos) pos2) (aHi (R5 wi g (λ_ H Q=>Q af H) te own.length) (xG iy)):=
 aMj S hcalm hi hg (.inl ⟨rfl,rfl⟩) he hs hNn hiy hxy hfy hsw
end
end L2
namespace Mi
open PySem L2 PySem.SeqAt PySem.Spec PyProof.Rows
section
variable [KFrag]
variable {own:ag->au}
section
variable {X:Cx} {a b c e:Expr} {pos pos':bX} {fb fe:FE} {re:au} {gc:FT} {f g:FS} {st:bq} {s1 s2:aa bq}
variable {scope:dL} {ownN:aa Str} {elt iter tg:Expr} {it:FI} {t:D->Res (aa D)} {gt:TG}
theorem aIn(S:c7 X.N X.env.scope scope ownN)(hn:X.N.length=n)(hm:ownN.length=m)(hcalm:X.calm=af)(hi:PI X tg iter (gI X.K it))(ht:TgC gt t n m)(hg:∀X',dW X X' scope ownN->PG X' tg gt)(he:∀X',dW X X' scope ownN->PE X' elt (gE fe re))
 (hs:∀x,e6 iter X.env x=pure x)(ho:own iy=o)(hNn:X.N.Nodup)(hiy:X.N[iy]?=ae y)(hxy:Loc X.env.scope y)(hfy:zFn X y)(hsw:eB (.ListComp elt [⟨tg,iter,[],0⟩] scope pos) (ae (.Name y py)) pos2.line X.env=pure af) :
  PS X (.Assign [.Name y py] (.ListComp elt [⟨tg,iter,[],0⟩] scope pos) pos2) (tS own (bW o iy (fG n it t g8 fe re) af)):=by
 intro Ψ s σ H D I h;subst hm;refine aF0 S hcalm hi hg he hs hNn hiy hxy hfy hsw Ψ s σ H D I ?_;exact vB ht (λσ H Q h=>by obtain⟨ρ,b,E,h,q⟩:=h;cases h;exact q H (cZ.refl H)) (I.len.trans hn) (yZ ho h)
theorem aBs(S:c7 X.N X.env.scope scope ownN)(hn:X.N.length=n)(hm:ownN.length=m)(hcalm:X.calm=af)(hi:PI X tg iter (gI X.K it))(ht:TgC gt t n m)(hg:∀X',dW X X' scope ownN->PG X' tg gt)(hc:∀X',dW X X' scope ownN->PT X' c (gT gc))(he:∀X',dW X X' scope ownN->PE X' elt (gE fe re))
 (hs:∀x,e6 iter X.env x=pure x)(ho:own iy=o)(hNn:X.N.Nodup)(hiy:X.N[iy]?=ae y)(hxy:Loc X.env.scope y)(hfy:zFn X y)(hsw:eB (.ListComp elt [⟨tg,iter,[c],0⟩] scope pos) (ae (.Name y py)) pos2.line X.env=pure af) :
  PS X (.Assign [.Name y py] (.ListComp elt [⟨tg,iter,[c],0⟩] scope pos) pos2) (tS own (bW o iy (fG n it t gc fe re) af)):=by
 intro Ψ s σ H D I h;subst hm;refine N6 S hcalm hi hg hc he hs hNn hiy hxy hfy hsw Ψ s σ H D I ?_;exact vB ht (λσ H Q h=>h) (I.len.trans hn) (yZ ho h)
theorem IV[d4 κ]{k:κ}{v:V}(e:p.1=k)(h:k∉r.map (·.1)):putK (p::r) k v=(k,v)::r:=by
 unfold putK;rw[av (by simp[e]),bu,av e,e]
 congr 1
 have:∀q∈r,(λkv:κ×V=>if kv.1=k then (kv.1,v) else kv) q=id q:=λq hq=>by
  have:q.1≠k:=λz=>h (c6.mpr ⟨q,hq,z⟩)
  simp[this]
 rw[Ad this,List.map_id]
theorem IW[d4 κ]{k:κ}{v:V}(e:¬p.1=k):putK (p::r) k v=p::putK r k v:=by
 unfold putK;rw[mi,c8 e,zh];split
 ·rw[bu,ax e]
 ·rfl
theorem jU[d4 κ]:∀{kvs:aa (κ×V)},(kvs.map (·.1)).Nodup->((putK kvs k v).map (·.1)).Nodup:=λ{kvs} h=>by
 by_cases hk:DR kvs k=aj
 ·exact aI0 v h hk
 ·unfold putK;rw[av (by rw[uW];exact Option.isSome_iff_ne_none.mpr hk),c5];have:(λx:κ×V=>x.1) ∘ (λkv:κ×V=>if kv.1=k then (kv.1,v) else kv)=λx=>x.1:=by
   funext q
   simp only[CO];split<;>rfl
  rw[this];exact h
theorem xW(rv:Rep P H v d):∀{kvs:aa (Key×V)}{ds:aa (D×D)},j5 P H kvs ds->(kvs.map (·.1)).Nodup->j5 P H (putK kvs k v) (putD ds (kD k) d)
 |_,_,.nil,_=>.cons rv .nil
 |_,_,.cons (k:=k') (v:=v') r t,hn=>by
  rw[bu] at hn;obtain⟨h1,h2⟩:=fE.mp hn;rw[putD,aBj];by_cases h:k'=k
  ·subst h;rw[av 0x2,IV rfl h1];exact .cons rv t
  ·rw[ax (by simpa using h),IW h];exact .cons r (xW rv t h2)
theorem I_(rv:Rep P H v d):∀{kvs:aa (aa Key×V)}{ds:aa (D×D)},sZ P H kvs ds->(kvs.map (·.1)).Nodup->sZ P H (putK kvs k v) (putD ds (.tup (k.map kD)) d)
 |_,_,.nil,_=>.cons rv .nil
 |_,_,.cons (k:=k') (v:=v') r t,hn=>by
  rw[bu] at hn;obtain⟨h1,h2⟩:=fE.mp hn;rw[putD,aIf];by_cases h:k'=k
  ·subst h;rw[av 0x2,IV rfl h1];exact .cons rv t
  ·rw[ax (by simpa using h),IW h];exact .cons r (I_ rv t h2)
theorem j5.length:∀{kvs:aa (Key×V)}{ds:aa (D×D)},j5 P H kvs ds->kvs.length=ds.length
 |_,_,.nil=>rfl
 |_,_,.cons _ t=>by rw[aS,aS,j5.length t]
theorem sZ.length:∀{kvs:aa (aa Key×V)}{ds:aa (D×D)},sZ P H kvs ds->kvs.length=ds.length
 |_,_,.nil=>rfl
 |_,_,.cons _ t=>by rw[aS,aS,sZ.length t]
theorem JB{a:am}(ha:H a=ae ob)(hm:Y8 ob=af):G9 (λ_=>cg) H (L2.upd H a o):=λc oc hc h=>by
 rw[bF]
 ·exact hc
 ·intro z;subst z;rcases h with h|h
  ·exact h.elim
  ·rw[ha] at hc;cases hc;rw[hm] at h;cases h
theorem oU(hd:d.pure=af):∀{ds:aa (D×D)},ι (ds.map (·.2))=af->ι ((putD ds k d).map (·.2))=af
 |[],_=>by simp[putD,ι,hd]
 | (q,w)::r,h=>by
  rw[bu,ι,bc] at h;rw[putD];split
  ·rw[bu,ι,bc];exact⟨hd,h.2⟩
  ·rw[bu,ι,bc];exact⟨h.1,oU hd h.2⟩
theorem aPp{ad:am}{y v:V}{ds:aa (D×D)}{k d:D}(I:Inv X Ψ σ H s)(rd:Rep All H (.ref ad) (.dct ds))(hin:ι (ds.map (·.2))=af)(rk:Rep All H y k)(hk:BR ds k=af)(hl:ds.length<aT)(rv:Rep All H v d)(hd:d.pure=af) :
  ∃H1 o,Inv X Ψ σ H1 s/\aGg H1 ad y v (L2.upd H ad o)/\Y8 o=af/\Rep All (L2.upd H ad o) (.ref ad) (.dct (putD ds k d)):=by
 unfold BR at hk;rw[bc] at hk;obtain⟨h1,h2⟩:=hk;have rv':Rep (λ_=>cg) H v d:=rv.bT hd;cases rd with
 |@dK _ kvs ds e _ r n=>
  have hlen:=r.length;rcases lO h1 rk with ⟨q,rfl,rfl⟩|⟨b,ks,rfl,eb,rfl⟩
  ·refine⟨H,.dK (putK kvs q v),I,.k e 0x1,rfl,.dK aL trivial ?_ (jU n)⟩;exact(xW rv' (r.bT hin) n).keep (JB e rfl) λ_ z=>z.elim
  ·cases r with
   |nil=>
    refine⟨L2.upd H ad (.dT []),.dT (putK [] ks v),oR I e,?_,rfl,.dT aL trivial ?_ (jU g9)⟩
    ·have:=aGg.t (H:=L2.upd H ad (.dT [])) (a:=ad) (b:=b) (kvs:=[]) (k:=ks) (v:=v) aL (by rw[bF (aHc eb e 0x7)];exact eb) hl;rwa [RD] at this
    ·exact(I_ (k:=ks) rv' .nil g9).keep (JB e rfl) λ_ z=>z.elim
   |cons r t=>
    rw[ki,mO] at h2;simp[isTup] at h2
 |@dT _ kvs ds e _ r n=>
  have hlen:=r.length;rcases lO h1 rk with ⟨q,rfl,rfl⟩|⟨b,ks,rfl,eb,rfl⟩
  ·cases r with
   |nil=>
    refine⟨L2.upd H ad (.dK []),.dK (putK [] q v),lQ I e,?_,rfl,.dK aL trivial ?_ (jU g9)⟩
    ·have:=aGg.k (H:=L2.upd H ad (.dK [])) (a:=ad) (kvs:=[]) (k:=q) (v:=v) aL hl;rwa [RD] at this
    ·exact(xW (k:=q) rv' .nil g9).keep (JB e rfl) λ_ z=>z.elim
   |cons r t=>
    rw[ki,mO] at h2;simp[isTup] at h2
  ·refine⟨H,.dT (putK kvs ks v),I,.t e eb 0x1,rfl,.dT aL trivial ?_ (jU n)⟩;exact(I_ rv' (r.bT hin) n).keep (JB e rfl) λ_ z=>z.elim
theorem EY(hu:X.A.units+20<cr)(ho:own i=af)(hN:X.N[i]?=ae x)(hvi:Vis X.env.scope x)(hk:PE X k (gE fk rk))(hv:PE X value (gE fv rv))
 (hs:eB value (ae (.Subscript (.Name x p1) k pos')) pos.line X.env=pure ai:=by rfl)(hd:nDb x:=by decide)(hcd:nCd x:=by decide) :
  PS X (.Assign [.Subscript (.Name x p1) k pos'] value pos) (tS own (RX i fk fv)):=by
 rintro Ψ s σ H D' I ⟨ρ,fl,E,h,q⟩;obtain⟨d,h0,h⟩:=bL h;obtain⟨kd,h1,h2⟩:=bL h;split at h2
 ·rename_i kvs hx;split at h2
  ·rename_i hg;cases h2;simp only[bc] at hg;obtain⟨⟨hg1,hg2⟩,hg3⟩:=hg;obtain⟨a,o,hσ,r,hin,ha,hm⟩:=E.ownAt ho (by rw[hx];intro z;cases z);rw[hx] at r hin;refine wpAny_Assign_Subscript (thn (hv Ψ s σ H (λv H1=>cZ H H1/\Rep All H1 v d) I ⟨ρ,d,E.er,h0,λv H1 s1 r1 _=>⟨s1,r1⟩⟩) λrr s1 ⟨v,H1,I1,rv1,sm1,rp1⟩=>
    thn (fH hN hvi hd hcd Ψ s1 σ H1 (λw H2=>w=.ref a/\H2=H1) I1 ⟨_,hσ,rfl,rfl⟩) λu s2 ⟨xx,H2,I2,rx,ex,eH⟩=>
    thn (hk Ψ s2 σ H2 (λw H3=>cZ H2 H3/\Rep All H3 w kd) I2 ⟨ρ,kd,by rw[eH];exact E.er.same sm1,h1,λv H1 s1 r1 _=>⟨s1,r1⟩⟩) λiv s3 ⟨y,H3,I3,ry,sm3,rp3⟩=>?_) hs
   subst ex eH;obtain rfl:u=cK a:=rx;have sm:=sm1.trans sm3;obtain⟨H4,o4,I4,g,hmo,rp⟩:=aPp I3 (r.same sm) hin rp3 hg2 (aBg hg1) (rp1.same sm3) hg3;obtain⟨E2,k2⟩:=(E.same sm).mut ho hσ hmo rp (oU hg3 hin);exact aAp 0x1 I4 g ry rv1 λs4 I5=>⟨σ,_,I5,q _ _ ((KU.same sm).trans k2) E2⟩
  ·exact bx h2
 ·exact bx h2
def TgS(own:ag->au)(g:TG)(t:D->aa D->Res (aa D)):Prop:=∀(v:V)(d:D)(ρ ρ':aa D)(σ:L2.St)(H:Hp)(Q:L2.St->Hp->Prop),ES own H σ ρ->Rep (λa=>¬Own own σ a) H v d->t d ρ=.ok ρ'->
 (∀σ',ES own H σ' ρ'->(∀a,Own own σ' a↔Own own σ a)->Q σ' H)->g v σ H Q
theorem nR(ho:own i=ai):TgS own (xG i) (tg1 i):=λv d ρ ρ' σ H Q E r h q=>by
 cases h;exact q _ (E.set ho r) λa=>jT ho a
theorem ES.sets:∀{is:aa ag}{vs:aa V}{ds:aa D}{σ:L2.St}{ρ:aa D},(∀i∈is,own i=ai)->ES own H σ ρ->bZ (λa=>¬Own own σ a) H vs ds->ES own H (nQ is vs σ) (aB0 is ds ρ)/\∀a,Own own (nQ is vs σ) a↔Own own σ a
 |[],_,_,_,_,_,E,_=>by simp only[nQ,aB0];exact⟨E,λ_=>trivial⟩
 |i::is,_,_,σ,ρ,h,E,.nil=>by simp only[nQ,aB0];exact⟨E,λ_=>trivial⟩
 |i::is,_,_,σ,ρ,h,E,.cons (v:=v) r t=>by
  have ho:=h i (bo ..);have hO:(λa=>¬Own own (σ.set i (ae v)) a)=λa=>¬Own own σ a:=funext λa=>by rw[jT ho]
  obtain⟨h1,h2⟩:=ES.sets (λj hj=>h j (bw _ hj)) (E.set ho r) (by rw[hO];exact t);exact⟨h1,λa=>(h2 a).trans (jT ho a)⟩
theorem nT(K:bj)(ho:∀i∈is,own i=ai):TgS own (aP3 K is.length (gIx is)) (tgN is):=λv d ρ ρ' σ H Q E r h q=>by
 cases d<;>simp only[tgN] at h<;>(try (exact bx h;done))
 split at h
 ·rename_i hl;cases h;have hl':=fg hl;obtain⟨a,xs,rfl,e,rr⟩:=r.fK;obtain⟨h1,h2⟩:=E.sets ho rr;exact⟨a,xs,rfl,.of e,by rw[rr.length];exact hl',R_ _ _ _ (by rw[rr.length];exact hl') (q _ h1 h2)⟩
 ·exact bx h
theorem ItQ.ku{K:bj}(h:ItQ K (λa=>¬Own own σ a) J H items)(k:KU own σ H σ' H')(E:ES own H σ ρ):ItQ K (λa=>¬Own own σ' a) J H' items:=h.keep' (k.keep E) λa o e n=>(k a o e n).2
theorem WD{K:bj}{g:TG}{t:D->aa D->Res (aa D)}{body:FS}{D':Ends}{J:It}{items:aa D}{σ:L2.St}{H1:Hp}{ρ:aa D}{fl:Fl}(tg:TgS own g t)(E:ES own H1 σ ρ)(hJ:ItQ K (λa=>¬Own own σ a) J H1 items)(hf:o9 t body items ρ=.ok fl)(q:kS own D' σ H1 fl) :
  ∃W:ag->ag->L2.St->Hp->Prop,(∃m,W 0 m σ H1)/\∀i m σ H,W i m σ H->
   (J.stop i H/\D'.nx σ H)\/(J.go i H/\∃N:L2.St->Hp->Prop,(∀σ' H',N σ' H'->∃m',m'<m/\W (i+1) m' σ' H')/\∀x H',J.yld i H x H'->g x σ H' λσ2 H2=>tS own body {D' with nx:=N,ct:=N,bk:=D'.nx} σ2 H2):=by
 refine⟨λi m σ' H'=>m=items.length-i/\i<=items.length/\ItQ K (λa=>¬Own own σ' a) J H' items/\∃ρ',ES own H' σ' ρ'/\o9 t body (items.drop i) ρ'=.ok fl/\kS own D' σ' H' fl,⟨items.length,rfl,cq _,hJ,ρ,E,hf,q⟩,?_⟩;rintro i m σ' H' ⟨rfl,hi,hJ',ρ',E',hf',q'⟩;rcases ou i items.length with hlt|hge
 ·refine .inr ?_;have e:items[i]?=ae items[i]:=ff hlt;obtain⟨g1,g2⟩:=hJ'.go e;rw[mP hlt] at hf';obtain⟨ρ1,h1,hf2⟩:=bL hf';obtain⟨r,h2,hf3⟩:=bL hf2;refine⟨g1,λσ2 H2=>ItQ K (λa=>¬Own own σ2 a) J H2 items/\∃ρ',ES own H2 σ2 ρ'/\o9 t body (items.drop (i+1)) ρ'=.ok fl/\kS own D' σ2 H2 fl,λσ2 H2 ⟨n1,n2⟩=>⟨items.length-(i+1),by lia,rfl,hlt,n1,n2⟩,λx H2 hy=>?_⟩;obtain⟨sH,rx⟩:=g2 x H2 hy;have ks:KU own σ' H' σ' H2:=λa o e n=>⟨sH a o e,n⟩
  have hJ':=hJ'.ku ks E';have q':=q'.step ks;have E':=E'.same sH;refine tg x items[i] ρ' ρ1 σ' H2 _ E' rx h1 λσ2 E2 hO=>?_
  have k0:KU own σ' H2 σ2 H2:=λa o e n=>⟨e,by rw[hO];exact n⟩
  have hJ2:=hJ'.ku k0 E';have q2:=q'.step k0;refine⟨ρ1,r,E2,h2,?_⟩;cases r with
  |nx ρ2=>exact λσ3 H3 k3 E3=>⟨hJ2.ku k3 E2,ρ2,E3,hf3,q2.step k3⟩
  |ct ρ2=>exact λσ3 H3 k3 E3=>⟨hJ2.ku k3 E2,ρ2,E3,hf3,q2.step k3⟩
  |bk ρ2=>cases hf3;exact λσ3 H3 k3 E3=>q2 σ3 H3 k3 E3
  |rt d=>cases hf3;exact q2
 ·refine .inl ⟨hJ'.stop hge,?_⟩;rw[mS hge] at hf';cases hf';exact q' σ' H' (λa o e n=>⟨e,n⟩) E'
theorem lR{tg iter:Expr}{body:aa bq}{g:TG}{t:D->aa D->Res (aa D)}{it:FI}{fb:FS}(hp:nN (aw X.prog X.w) X.A X.env X.xe)(hc:X.calm=af)(hi:PI X tg iter (gI X.K it))(ht:TgS own g t)(hg:PG X tg g)(hb:PSs X body (tS own fb))
 (hs:∀x,e6 iter X.env x=pure x:=by intro _;rfl):PS X (.For tg iter body [] pos) (tS own (G7 it t fb)):=PS.imp (aAf hp hc hi hg hb hs) λD' σ H z0=>by
 obtain⟨ρ,fl,E,h,q⟩:=z0;obtain⟨⟨items,k⟩,h1,h2⟩:=bL h;split at h2
 ·rename_i hk;exact⟨ρ,items,k,E.er,h1,λJ H1 s1 _ hJ=>WD ht (E.same s1) ((hJ hk).keep (λ_ _ e _=>e) λa ha ho=>by
   obtain⟨o,e1,_⟩:=E.live ho;rw[show H a=aj from ha] at e1;cases e1) h2 (q.step (.same s1))⟩
 ·exact bx h2
theorem aIo{g:TG}{t:D->aa D->Res (aa D)}{i:ag}{x:Str}{px:bX}{fb:FS}(ho:own i=ai)(hp:nN (aw X.prog X.w) X.A X.env X.xe)(hc:X.calm=af)(hN:X.N[i]?=ae x)(hv:Vis X.env.scope x)(ht:TgS own g t)(hg:PG X tg g)(hb:PSs X body (tS own fb))
 (hs:∀z,e6 (.Name x px) X.env z=pure z:=by intro _;rfl)(hd:nDb x:=by decide)(hcd:nCd x:=by decide):PS X (.For tg (.Name x px) body [] pos) (tS own (xM i t fb)):=PS.imp (aAf hp hc (aGs hN hv hd hcd) hg hb hs) λD' σ H z0=>by
 obtain⟨ρ,fl,E,h,q⟩:=z0;obtain⟨d,h1,h⟩:=bL h;obtain⟨items,h2,h3⟩:=bL h;obtain⟨v,hv,r,e⟩:=E.er.var h1;have hne:ρ.getD i .uD≠.uD:=λz=>by
  rw[z] at e;subst e;exact Rep.uD r
 obtain⟨w,hw,hr⟩:=E.at_ i hne;rw[hv] at hw;cases hw;have r2:=hr ho;rw[e] at r2;exact⟨v,d,items,hv,r,h2,λJ hJ=>WD ht E (hJ _ r2) h3 q⟩
theorem WF{N ps:aa Str}(hst:start N vs=vs.map ae++b9 (N.length-ps.length) aj)(hl:ds.length=ps.length)(r:bZ All H vs ds)(hown:∀i,i<ps.length->own i=ai)(noown:∀a,¬Own own (start N vs) a):ES own H (start N vs) (ds++b9 (N.length-ps.length) .uD):=by
 refine⟨by rw[hst];simp[r.length],λi hi=>?_,λi v hi hv=>?_⟩
 ·have hlt:i<ds.length:=Nat.lt_of_not_le λhge=>hi (by
   rw[ef,hI hge,kH];split<;>rfl)
  have e:(ds++b9 (N.length-ps.length) D.uD).getD i .uD=ds[i]:=by
   rw[ef,kK hlt,ff hlt];rfl
  obtain⟨v,g1,g2⟩:=r.get (i:=i) (d:=ds[i]) (by simp[hlt]);refine⟨v,by rw[hst,kK (by simp[r.length,hlt])];simp[g1],λ_=>?_⟩;rw[e];exact g2.mono λa _=>noown a
 ·exfalso;rw[hst] at hv;by_cases h:i<ps.length
  ·rw[hown i h] at hi;cases hi
  ·rw[hI (by simp[r.length,hl];lia)] at hv;rw[kH] at hv;split at hv<;>cases hv
theorem SJ{N ps:aa Str}{f:FS}{vs:aa V}{H:Hp}{Q:VK}{E:XK}(hx:own rtX=ai)(hown:∀i,i<ps.length->own i=ai)(h0:spD (fnS ps.length N.length f) ps.length vs H Q E):tS own f {nx:=λ_ H'=>Q .non H',rt:=Q} (start N vs) H:=by
 obtain⟨ds,d,hl,r,h,q⟩:=h0
 ·obtain⟨fl,h1,h2⟩:=bL h;have hst:start N vs=vs.map ae++b9 (N.length-ps.length) aj:=by
   show vs.map ae++b9 (N.length-vs.length) aj=_;rw[r.length,hl]
  have noown:∀a,¬Own own (start N vs) a:=λa z0=>by
   obtain⟨i,hi,e⟩:=z0;rw[hst] at e;by_cases h:i<ps.length
   ·rw[hown i h] at hi;cases hi
   ·rw[hI (by simp[r.length,hl];lia)] at e;rw[kH] at e;split at e<;>cases e
  have E0:ES own H (start N vs) (ds++b9 (N.length-ps.length) .uD):=WF hst hl r hown noown;refine⟨_,fl,E0,h1,?_⟩;have sm:∀{σ':L2.St}{H':Hp},KU own (start N vs) H σ' H'->cZ H H':=λk a o e=>(k a o e (noown a)).1
  cases fl with
  |nx ρ'=>cases h2;exact λσ' H' k E'=>q .non H' (sm k) .non λ_=>.non
  |rt d'=>
   cases h2;refine kRt.mk hx λv H' hk rp=>q v H' (λa o e=>hk a o e (noown a)) rp.all λ_=>rp.mono λa ha=>?_
   rcases ha with ha|ha
   ·exact bf ha (noown a)
   ·exact ha
  |bk ρ'=>exact bx h2
  |ct ρ'=>exact bx h2
theorem aMk{w:bd}{K:bj}{mg:Str->aq ak}{base:ay}{x qual:Str}{st:bq}{fad:am}{fd:cj}{N ps:aa Str}{k:ag}{f:FS}(F:Fun K x qual st fad fd)(S:bY N ps (aO st))(own:ag->au)(hown:∀i,i<ps.length->own i=ai)(hNl:ps.length<=N.length)
 (hbody:∀(cdv:ak) (A:bS) (outer:aa cv) (s:ar) (H:Hp) (E:XK),nH k (A.deeper (cS qual (aO st) s.heap.objs.size fad cdv))->PSs (lE CX0 P w K mg base N qual (aO st) fad cdv A outer s H E).nox (fB st) (tS own f))(hx:own rtX=ai:=by rfl):xU P w K mg base CX0 (k+1) fad fd ps (spD (fnS ps.length N.length f) ps.length):=
 F.ok S (λvs H Q E h=>aBn h) λcdv A outer s H vs Q E hr h=>⟨_,hbody cdv A outer s H E hr,SJ hx hown h⟩
end
end
variable [KFrag]
structure aPq where
 s₀:ar
 H₀:Hp
 env:cv
 outer:aa cv
 stack:aa cv
 ex:aa am
 fn:Str->au
 pn:aa (am×bg)
abbrev mkC(X:Cx)(scope:dL)(ownN:aa Str)(y:aPq):Cx:=
 {X with N:=X.N.map (gU ownN)++ownN,s₀:=y.s₀,H₀:=y.H₀,env:={y.env with scope:=iN scope X.env},outer:=y.outer,stack:=y.stack,ex:=y.ex,fn:=y.fn,pn:=y.pn,xe:=λ_ _=>cg}
theorem lU(cc:dW X X' scope ownN):∃y,X'=mkC X scope ownN y:=by
 refine⟨⟨X'.s₀,X'.H₀,X'.env,X'.outer,X'.stack,X'.ex,X'.fn,X'.pn⟩,?_⟩;obtain⟨h1,h2,h3,h4,h5,h6,h7,h8,h9,h10⟩:=cc;cases X' with
 |mk a b c d e f g h i j k l m n o p q=>
  cases j;dsimp only at *;subst h1 h2 h3 h4 h5 h6 h7 h8 h9 h10;rfl
section
theorem iY(S:c7 X.N X.env.scope scope ownN)(hn:X.N.length=n)(hm:ownN.length=m)(hcalm:X.calm=af)(hi:PI X tg iter (gI X.K it))(ht:TgC g t n m)(hg:∀y,PG (mkC X scope ownN y) tg g)(he:∀y,PE (mkC X scope ownN y) elt (gE fe re))
 (hs:∀x,e6 iter X.env x=pure x):PE X (.ListComp elt [⟨tg,iter,[],0⟩] scope pos) (gE (fG n it t g8 fe re) af):=
 aIl S hn hm hcalm hi ht (λX' cc=>by obtain⟨y,rfl⟩:=lU cc;exact hg y) (λX' cc=>by obtain⟨y,rfl⟩:=lU cc;exact he y) hs
theorem vZ(S:c7 X.N X.env.scope scope ownN)(hn:X.N.length=n)(hm:ownN.length=m)(hcalm:X.calm=af)(hi:PI X tg iter (gI X.K it))(ht:TgC g t n m)(hg:∀y,PG (mkC X scope ownN y) tg g)(hc:∀y,PT (mkC X scope ownN y) c (gT gc))(he:∀y,PE (mkC X scope ownN y) elt (gE fe re))
 (hs:∀x,e6 iter X.env x=pure x):PE X (.ListComp elt [⟨tg,iter,[c],0⟩] scope pos) (gE (fG n it t gc fe re) af):=
 aBq S hn hm hcalm hi ht (λX' cc=>by obtain⟨y,rfl⟩:=lU cc;exact hg y) (λX' cc=>by obtain⟨y,rfl⟩:=lU cc;exact hc y) (λX' cc=>by obtain⟨y,rfl⟩:=lU cc;exact he y) hs
theorem WK(S:c7 X.N X.env.scope scope ownN)(hn:X.N.length=n)(hm:ownN.length=m)(hcalm:X.calm=af)(hi:PI X tg iter (gI X.K it))(ht:TgC g t n m)(hg:∀y,PG (mkC X scope ownN y) tg g)(he:∀y,PE (mkC X scope ownN y) elt (gE fe re))
 (hs:∀x,e6 iter X.env x=pure x)(ho:own iy=o)(hNn:X.N.Nodup)(hiy:X.N[iy]?=ae y)(hxy:Loc X.env.scope y)(hfy:zFn X y)(hsw:eB (.ListComp elt [⟨tg,iter,[],0⟩] scope pos) (ae (.Name y py)) pos2.line X.env=pure af) :
  PS X (.Assign [.Name y py] (.ListComp elt [⟨tg,iter,[],0⟩] scope pos) pos2) (tS own (bW o iy (fG n it t g8 fe re) af)):=
 aIn S hn hm hcalm hi ht (λX' cc=>by obtain⟨y,rfl⟩:=lU cc;exact hg y) (λX' cc=>by obtain⟨y,rfl⟩:=lU cc;exact he y) hs ho hNn hiy hxy hfy hsw
theorem E_(S:c7 X.N X.env.scope scope ownN)(hn:X.N.length=n)(hm:ownN.length=m)(hcalm:X.calm=af)(hi:PI X tg iter (gI X.K it))(ht:TgC g t n m)(hg:∀y,PG (mkC X scope ownN y) tg g)(hc:∀y,PT (mkC X scope ownN y) c (gT gc))(he:∀y,PE (mkC X scope ownN y) elt (gE fe re))
 (hs:∀x,e6 iter X.env x=pure x)(ho:own iy=o)(hNn:X.N.Nodup)(hiy:X.N[iy]?=ae y)(hxy:Loc X.env.scope y)(hfy:zFn X y)(hsw:eB (.ListComp elt [⟨tg,iter,[c],0⟩] scope pos) (ae (.Name y py)) pos2.line X.env=pure af) :
  PS X (.Assign [.Name y py] (.ListComp elt [⟨tg,iter,[c],0⟩] scope pos) pos2) (tS own (bW o iy (fG n it t gc fe re) af)):=
 aBs S hn hm hcalm hi ht (λX' cc=>by obtain⟨y,rfl⟩:=lU cc;exact hg y) (λX' cc=>by obtain⟨y,rfl⟩:=lU cc;exact hc y) (λX' cc=>by obtain⟨y,rfl⟩:=lU cc;exact he y) hs ho hNn hiy hxy hfy hsw
end
def cL(P:bh)(w:bd)(K:bj)(mg:Str->aq ak)(base:ay)(k:ag)(x:Str)(n:ag)(f:aa D->Res D):Prop:=
 ∃(fad:am)(fd:cj)(ps:aa Str),xU P w K mg base CX0 k fad fd ps (spD f n)/\mg x=ae (.ref fad)/\jz K (.ref fad)=af/\Binds K fd ps []
section
theorem aR(C:cL X.prog X.w X.K X.mg X.base k x n f)(hr:nH k' X.A)(hkk:k<=k')(hg:Gl X x)(ha:PA X (e::es) (gA fs rr))(hdb:nDb x:=by decide)(he:zSE X e es:=by rfl)(hpl:zSP X pos es:=by rfl) :
  PE X (.Call (.Name x p) (e::es) [] pos) (gE (aM (bO n f) fs) af):=by
 obtain⟨fad,fd,ps,F,hm,hk,hb⟩:=C;exact aIj F (hr.mono hkk) hg hm hk hb ha hdb he hpl
theorem gG{K:bj}{st:bq}{fad:am}{fd:cj}{N ps:aa Str}{fs:FS}(F:Fun K x x st fad fd)(hm:mg x=ae (.ref fad))(hb:Binds K fd ps [])(S:bY N ps (aO st))(own:ag->au)(hown:∀i,i<ps.length->own i=ai)(hNl:ps.length<=N.length)
 (hbody:∀(cdv:ak) (A:bS) (outer:aa cv) (s:ar) (H:Hp) (E:XK),nH k (A.deeper (cS x (aO st) s.heap.objs.size fad cdv))->PSs (lE CX0 P w K mg base N x (aO st) fad cdv A outer s H E).nox (fB st) (tS own fs))(hx:own rtX=ai:=by rfl):cL P w K mg base (k+1) x ps.length (fnS ps.length N.length fs):=
 ⟨fad,fd,ps,aMk F S own hown hNl hbody hx,hm,F.kp,hb⟩
end
theorem xN(hr:nH k A):A.units+20<cr:=Ae (Nat.add_le_add_left (by decide:20<=64) _) hr.units
structure Bt(mg:Str->aq ak):Prop where
 len:mg "len"=aj
 min:mg "min"=aj
 max:mg "max"=aj
 list:mg "list"=aj
 tuple:mg "tuple"=aj
 sorted:mg "sorted"=aj
 range:mg "range"=aj
 isi:mg "isinstance"=aj
 int:mg "int"=aj
 bool:mg "bool"=aj
 str:mg "str"=aj
 dict:mg "dict"=aj
 all:mg "all"=aj
 enum:mg "enumerate"=aj
 sum:mg "sum"=aj
 zip:mg "zip"=aj
 abs:mg "abs"=aj
 reversed:mg "reversed"=aj
theorem dR:em "len"=ae (.builtin "len"):=0x6
theorem aBt:em "max"=ae (.builtin "max"):=0x6
theorem nU:em "sorted"=ae (.builtin "sorted"):=0x6
theorem SM:em "list"=ae (.type "list"):=0x6
theorem eG:em "tuple"=ae (.type "tuple"):=0x6
theorem aMl:em "int"=ae (.type "int"):=0x6
theorem ints_rep:∀ns:aa ah,bZ P H (ns.map V.int) (ns.map ε)
 |[]=>.nil
 |n::ns=>.cons (.int n) (ints_rep ns)
end Mi
namespace Mi
open PySem L2
theorem aBu{ns:aa ah}{E:XK}(main:∀ns:aa ah,ns.length<=63->f [.scr (ns.map ε)]=.ok (.bl af))(hl:ns.length<=63)(hO:Only H)(hS:SqL K H a (ns.map V.int)):@spD ⟨K⟩ f 1 [.ref a] H (λv _=>v=.bl af) E:=by
 letI:KFrag:=⟨K⟩
 refine⟨[.scr (ns.map ε)],.bl af,rfl,.cons (.frz ?_ (ints_rep ns)) .nil,main ns hl,λv H' s r n=>by cases r.inv;rfl⟩;rcases hS with (h|⟨o,h⟩)|h
 ·rcases hO a with z|⟨o,xs,z⟩
  ·rw[h] at z;cases z
  ·rw[h] at z;cases z
 ·exact .inl ⟨o,h⟩
 ·exact .inr h
end Mi
namespace Mi
universe u
section
variable {α:Type u} {us:aa α}
theorem l1(h:us.length=1):∃a,us=[a]:=Af.mp h
theorem l2(h:us.length=2):∃a b,us=[a,b]:=by
 cases us with
 |nil=>cases h
 |cons a t=>obtain⟨b,rfl⟩:=l1 (nh h);exact⟨a,b,rfl⟩
theorem l3(h:us.length=3):∃a b c,us=[a,b,c]:=by
 cases us with
 |nil=>cases h
 |cons a t=>obtain⟨b,c,rfl⟩:=l2 (nh h);exact⟨a,b,c,rfl⟩
theorem l4(h:us.length=4):∃a b c d,us=[a,b,c,d]:=by
 cases us with
 |nil=>cases h
 |cons a t=>obtain⟨b,c,d,rfl⟩:=l3 (nh h);exact⟨a,b,c,d,rfl⟩
theorem l5(h:us.length=5):∃a b c d e,us=[a,b,c,d,e]:=by
 cases us with
 |nil=>cases h
 |cons a t=>obtain⟨b,c,d,e,rfl⟩:=l4 (nh h);exact⟨a,b,c,d,e,rfl⟩
theorem l6(h:us.length=6):∃a b c d e f,us=[a,b,c,d,e,f]:=by
 cases us with
 |nil=>cases h
 |cons a t=>obtain⟨b,c,d,e,f,rfl⟩:=l5 (nh h);exact⟨a,b,c,d,e,f,rfl⟩
theorem l7(h:us.length=7):∃a b c d e f g,us=[a,b,c,d,e,f,g]:=by
 cases us with
 |nil=>cases h
 |cons a t=>obtain⟨b,c,d,e,f,g,rfl⟩:=l6 (nh h);exact⟨a,b,c,d,e,f,g,rfl⟩
end
open PySem L2 PySem.SeqAt PySem.Spec PyProof.Rows
def o6:D->D->Res D
 |.str x,.int n=>if ϒ (0<=n)&&ϒ (n<=100000)&&ϒ (x.length*n.toNat<=lim) then .ok (.str (lc x n)) else .bad
 |a,b=>bG .mul a b
def inX:D->D->Res D
 |.str c,.str x=>.ok (.bl (!(Bq x c 0 x.length 1).isEmpty))
 |a,b=>cV .isin a b
def aGu:D->aq ah->aq ah->Res D
 |.str x,lo,hi=>if ϒ (x.length<=lim) then .ok (.str (wg x lo hi)) else .bad
 |d,lo,hi=>aKm d lo hi
def aBv(a:FE)(lo hi:aa D->Res (aq ah)):FE:=λρ=>do let x <- a ρ;let l <- lo ρ;let h <- hi ρ;aGu x l h
def N7:D->Res (aa D)
 |.str x=>if ϒ (x.length<=lim) then .ok (NZ x) else .bad
 |d=>nP d
def cU(a:FE)(fr:au):FI:=λρ=>do let x <- a ρ;let xs <- N7 x;pure (xs,fr||x.pure)
variable [KFrag]
section
variable {X:Cx}
theorem gH:OpR X (e9 .Mult) (r2 o6 af):=by
 rintro Ψ s σ H x y v u Q I rx ry ⟨a,b,d,p,q,e,k⟩;by_cases hs:∃z n,a=.str z/\b=.int n
 ·obtain⟨z,n,rfl,rfl⟩:=hs;simp only[o6] at e;split at e
  ·rename_i hl;cases e;simp only[bc,dE] at hl;obtain⟨⟨h0,h1⟩,h2⟩:=hl;cases p.inv;cases q.inv;obtain⟨t,rfl⟩:=rx;obtain⟨t',rfl⟩:=ry;have hz:z.length*n.toNat<=aT:=dj h2 (by rw[dk];decide);refine SB.mul ⟨?_,λh3 _=>?_,λ_ _=>?_⟩ λt2 k2=>⟨.str _,H,I.tok k2,⟨t2,rfl⟩,k.str⟩
   ·rw[c8 0x1,c8 0x1];rfl
   ·have hn:0<n:=by lia
    have h4:(z.length:ah)*n<=2 ^ 63-1:=by
     have h5:((z.length*n.toNat:ag):ah)<=1000000:=by
      have:lim=1000000:=by unfold lim;exact Eq.refl _
      lia
     rw[Int.natCast_mul,Int.toNat_of_nonneg h0] at h5;lia
    have h6:=(Int.le_ediv_iff_mul_le hn).mpr h4;lia
   ·unfold EG;exact c8 0x1
  ·exact bx e
 ·have he:o6 a b=bG .mul a b:=by
   unfold o6;split
   ·exact bf ⟨_,_,rfl,rfl⟩ hs
   ·rfl
  rw[he] at e;exact aMe Ψ s σ H x y v u Q I rx ry ⟨a,b,d,p,q,e,k⟩
theorem WL(hu:X.A.units+20<cr):OpR X (dw .In) (r2 inX af):=by
 rintro Ψ s σ H x y v u Q I rx ry ⟨a,b,d,p,q,e,k⟩;by_cases hs:∃z n,a=.str z/\b=.str n
 ·obtain⟨z,n,rfl,rfl⟩:=hs;cases e;cases p.inv;cases q.inv;exact aAg Ψ s σ H _ _ v u Q I rx ry ⟨_,_,rfl,rfl,k.bl⟩
 ·have he:inX a b=cV .isin a b:=by
   unfold inX;split
   ·exact bf ⟨_,_,rfl,rfl⟩ hs
   ·rfl
  rw[he] at e;exact aPk hu Ψ s σ H x y v u Q I rx ry ⟨a,b,d,p,q,e,k⟩
theorem part_of(h:i8 v o):∃l:aq (ah×fw),partValue l=v/\l.map (·.1)=o:=by
 cases h with
 |none=>exact⟨aj,rfl,rfl⟩
 |int i t=>exact⟨ae (i,t),rfl,rfl⟩
theorem aMm(hK:KFrag.K=X.K):SlR X (λx lo hi H Q=>∃a d,Rep All H x a/\aGu a lo hi=.ok d/\kR H d af Q):=by
 rintro Ψ s σ H x v vl vu lo hi sl Q I rx hs pl pu ⟨a,d,p,e,k⟩;by_cases hz:∃z,a=.str z
 ·obtain⟨z,rfl⟩:=hz;simp only[aGu] at e;split at e
  ·rename_i hl;cases e;cases p.inv;obtain⟨t,rfl⟩:=rx;obtain⟨l,e1,e2⟩:=part_of pl;obtain⟨m,e3,e4⟩:=part_of pu;subst e1 e2 e3 e4;refine⟨"str",_,F.slot_str_getitem.lookup,zb _ _ _,?_⟩;obtain⟨o,ho,hc,hd⟩:=hs;refine wpAny_getItem_str_slice (st:=aj) ⟨o,ho,hc,hd⟩ rfl ?_;have hle:(wg z (l.map (·.1)) (m.map (·.1))).length<=aT:=dj (Txt.slice_le ..) (oO hl);have q:∀(t':fw)(k2:ag),EP X Ψ σ Q (.str (wg z (l.map (·.1)) (m.map (·.1))) t') {s with toks:=k2}:=λt' k2=>⟨.str _,H,I.tok k2,⟨t',rfl⟩,k.str⟩
   show Made.post (if ((1:ah)==1&&(CS (l.map (·.1)) (m.map (·.1)) 1 z.length).length==z.length)=af then .val (.str z t) else .str ⟨((CS (l.map (·.1)) (m.map (·.1)) 1 z.length).filterMap (z.cps[·]?)).toArray⟩) _ s;unfold wg at hle q;split
   ·rename_i hh;have:=q t s.toks;rw[av hh] at this;exact this
   ·rename_i hh;rw[ax hh] at hle;have:=q s.toks (s.toks+1);rw[ax hh] at this;exact⟨hle,this⟩
  ·exact bx e
 ·have he:aGu a lo hi=aKm a lo hi:=by
   unfold aGu;split
   ·exact bf ⟨_,rfl⟩ hz
   ·rfl
  rw[he] at e;exact aPm hK Ψ s σ H x v vl vu lo hi sl Q I rx hs pl pu ⟨a,d,p,e,k⟩
theorem WM{lo hi:aq Expr}{p2:bX}{fl fh:aa D->Res (aq ah)}(hK:KFrag.K=X.K)(he:PE X e (gE fe re))(hl:PO X lo (gO fl))(hh:PO X hi (gO fh)):PE X (.Subscript e (.Slice lo hi aj p2) pos) (gE (aBv fe fl fh) af):=
 PE.imp (aEc (aMm hK) he hl hh) λσ H Q z0=>by
  obtain⟨ρ,d,E,h,q⟩:=z0;obtain⟨x,h1,h⟩:=bL h;obtain⟨l,h2,h⟩:=bL h;obtain⟨u,h3,h⟩:=bL h;exact⟨ρ,x,E,h1,λv H1 s1 r1 _=>⟨ρ,l,E.same s1,h2,λH2 s2=>⟨ρ,u,E.same (s1.trans s2),h3,λH3 s3=>⟨x,d,r1.same (s2.trans s3),h,q.imp ((s1.trans s2).trans s3) id⟩⟩⟩⟩
theorem aF1{K:bj}(x:Str)(t:fw)(it:am):Turn P w K tg (aPo x) [it] it (λi h=>h.IsStrIter it (gj x) x t i) where
 mem:=by simp
 obj:=λi h st b hb=>by
  have e:b=it:=by simpa using hb
  subst e;obtain⟨o,e,c,d⟩:=st;exact⟨o,e,λv z=>by rw[d] at z;cases z⟩
 keep:=λi h h' st k=>by
  obtain⟨o,e,r⟩:=st;exact⟨o,k it 0x2 o e,r⟩
 item:=by
  intro Y hP hw hK hc i Ψ s σ H E I hf st hg;subst hP hw hK;obtain⟨f0,f1,f2,f3,f4,f5⟩:=hf it 0x2;have hx:x.cps[i]?=ae x.cps[i]:=lf hg;have fin:∀(h':ay)(ty:fN),(["enumerate","zip","dict_itemiterator","dict_reverseitemiterator","odict_iterator","itertools.zip_longest","itertools.pairwise"].contains ty=ai)->gj x=ty->h'.IsStrIter it ty x t (i+1)->fS it s.heap h'->
    ∃u,ae (nK ⟨#[x.cps[i]]⟩ s.toks)=ae u/\ϑ (aw Y.prog Y.w) Y.A (nV tg (.ref it) u) (λ_ s2=>∃v H',Inv Y Ψ σ H' s2/\RelV v u/\(aPo x).yld i H v H'/\s2.heap.IsStrIter it (gj x) x t (i+1)/\∀b∈[it],H' b=aj) E {s with heap:=h',toks:=s.toks+1}:=by
   intro h' ty hn hty st' sb;have I1:Inv Y Ψ σ H {s with heap:=h',toks:=s.toks+1}:=I.turned (λb o hb e=>(sb.2 b hb).trans e) f0 f1 f3 f4 f5;obtain⟨o,e,c,d⟩:=id st';exact⟨_,rfl,YG e c d hn ⟨.str ⟨#[x.cps[i]]⟩,H,I1,⟨_,rfl⟩,⟨rfl,_,hx,rfl⟩,by rw[hty];exact st',λb hb=>(hf b hb).1⟩⟩
  cases ha:x.cps.all (·<128)
  ·have hty:gj x="str_iterator":=by simp[gj,ha]
   rw[hty] at st;exact wpAny_pyNext_wide_item st hx λh' st' sb=>fin h' _ 0x4 hty st' sb
  ·have hty:gj x="str_ascii_iterator":=by simp[gj,ha]
   rw[hty] at st;exact wpAny_pyNext_ascii_item st hx λh' st' sb=>fin h' _ 0x4 hty st' sb
 done:=by
  intro Y hP hw hK hc i Ψ s σ H E I hf st hg;subst hP hw hK;obtain⟨f0,f1,f2,f3,f4,f5⟩:=hf it 0x2;have hx:x.cps[i]?=aj:=ni hg;cases ha:x.cps.all (·<128)
  ·have hty:gj x="str_iterator":=by simp[gj,ha]
   rw[hty] at st;exact wpAny_pyNext_wide_end (I.ok.hd hc) st hx λh' eb=>⟨rfl,I.turned (λb o hb e=>eb b o hb e) f0 f1 f3 f4 f5⟩
  ·have hty:gj x="str_ascii_iterator":=by simp[gj,ha]
   rw[hty] at st;exact wpAny_pyNext_ascii_end (I.ok.hd hc) st hx λh' eb=>⟨rfl,I.turned (λb o hb e=>eb b o hb e) f0 f1 f3 f4 f5⟩
 self:=λ_ _ _ _ _ st h=>by
  cases ha:x.cps.all (·<128)
  ·have hty:gj x="str_iterator":=by simp[gj,ha]
   rw[hty] at st;exact wpAny_pyIter_striter_wide st h
  ·have hty:gj x="str_ascii_iterator":=by simp[gj,ha]
   rw[hty] at st;exact wpAny_pyIter_striter_ascii st h
section
variable {tg l a:Expr}
theorem aBw(I1:Inv X Ψ σ H1 s1)(r:Rep All H1 v d)(ru:RelV v u)(hi:N7 d=.ok items)
 (q:∀J,(∀P:am->Prop,Rep P H1 v d->ItQ X.K P J H1 items)->R J H1):ϑ (aw X.prog X.w) X.A (i7 u) (PIE X Ψ σ tg R) X.xe s1:=by
 by_cases hz:∃z,d=.str z
 ·obtain⟨z,rfl⟩:=hz;simp only[N7] at hi;split at hi
  ·cases hi;cases r.inv;obtain⟨t,rfl⟩:=ru;refine wpAny_pyIter_strU ?_;refine⟨s1.heap.objs.size,[s1.heap.objs.size],_,_,H1,rfl,I1.kept λb o e=>br _ e,aF1 z t _,⟨_,cx _ rfl,rfl,rfl⟩,λb hb=>?_,q _ λP r=>.chs z rfl rfl⟩;have e:b=s1.heap.objs.size:=by simpa using hb
   subst e;exact I1.aGe (ba _) (I1.hok.fresh (ba _))
  ·exact bx hi
 ·have he:N7 d=nP d:=by
   unfold N7;split
   ·exact bf ⟨_,rfl⟩ hz
   ·rfl
  rw[he] at hi;exact V8 I1 r ru hi q
theorem eU(hl:PE X l (gE fl rl)):PI X tg l (gI X.K (cU fl rl)):=by
 rintro Ψ s σ H R I ⟨ρ,items,k,E,h,q⟩;obtain⟨d,h1,h⟩:=bL h;obtain⟨its,h2,h⟩:=bL h;cases h;refine thn (hl Ψ s σ H _ I ⟨ρ,d,E,h1,λv H1 s1 r1 n1=>(show(∃d',Rep All H1 v d/\d'=d/\∀J,(∀P:am->Prop,Rep P H1 v d->ItQ X.K P J H1 items)->R J H1) from ⟨d,r1,rfl,λJ hJ=>q J H1 s1 (hJ _ r1) λhk=>hJ _ ?_⟩)⟩) λu s1 ⟨v,H1,I1,ru,d',r1,e,q1⟩=>aBw I1 r1 ru h2 q1
 rw[iv] at hk;rcases hk with hk|hk
 ·exact n1 hk
 ·exact r1.bT hk
theorem SN{ch:aa am}{a:am}{o:HO}(I:Inv X Ψ σ H s)(k:∀b u,b∉ch->s.heap.get? b=ae u->h'.get? b=ae u)(hf:∀b∈ch,aA3 X Ψ H b)(hp:s.heap.objs.size<=a)
 (new:gC X.prog X.w (upd H a o) h' a o):Inv X Ψ σ (upd H a o) {s with heap:=h',toks:=t'}:=by
 have hn:H a=aj:=I.hok.fresh hp;have nch:∀b u,H b=ae u->b∉ch:=λb u e z=>by rw[(hf b z).1] at e;cases e
 have kU:∀b u,H b=ae u->upd H a o b=ae u:=λb u e=>by rw[bF (cD e hn)];exact e
 refine I.step (λb hb=>?_) (λb u _ _ hc e _=>k b u hc e) (λb u _ _ hc e _=>⟨u.slots,k b u hc e⟩) (λb u _ e n=>?_)
  (λb u hc e=>⟨u,k b u hc e⟩) (λb xs e=>kU b _ e) (λb u v e=>kU b _ e) (λb ps e=>⟨#[],by rw[kU b _ e];simp⟩) (λm hm=>?_) (λb u e=>?_) I.bare
 ·obtain⟨_,f1,_,f3,f4,f5⟩:=hf b hb;exact⟨f3,f1,f4,f5⟩
 ·rw[bF (λz=>bf (c_ (bn e) hp) (by rw[z];exact fR _))];exact n
 ·obtain⟨u,es,ep,hu,r⟩:=hm;exact⟨u,es,ep,k _ u (λz=>(hf _ z).2.1 rfl) hu,r⟩
 ·by_cases hb:b=a
  ·subst hb;rw[aL] at e;cases e;exact new
  ·rw[bF hb] at e;refine(I.hok b u e).stay (λc v hc q=>k c v ?_ q) (λc q=>kU c _ q) λc xs q=>kU c _ q
   rcases hc with z|z
   ·rw[z];exact nch b u e
   ·exact nch c _ z
end
end
end Mi
namespace Mi
open PySem L2
theorem aMn(b:au):asB (.bl b)=.ok b:=rfl
theorem fQ:lim=1000000:=by unfold lim;exact Eq.refl _
theorem N8(h:ρ.length=n):RW n ρ=ρ:=by
 subst h;apply CU
 ·simp[RW]
 ·intro i h1 h2;simp[RW,h2]
theorem cJ(h:ds.length=n):bO n f ds=f ds:=by
 unfold bO;rw[av (by simp[h])]
theorem aH(h1:a ρ=.ok x)(h2:b ρ=.ok y)(h3:f x y=.ok z):b2 f a b ρ=.ok z:=by
 unfold b2;rw[h1,θ,h2,θ,h3]
theorem bQ(h:f ρ=.ok d):bW ai i f af ρ=.ok (.nx (ρ.set i d)):=by
 unfold bW;rw[h,θ];rfl
theorem dU(h:f ρ=.ok d)(hp:d.pure=af):bW ai i f ai ρ=.ok (.nx (ρ.set i d)):=by
 unfold bW;rw[h,θ];simp only[hp,zh,iL,fF,eI]
theorem dY(h:f ρ=.ok d)(hp:inner d=af):bW af i f af ρ=.ok (.nx (ρ.set i d)):=by
 unfold bW;rw[h,θ];simp only[hp,gl,eI]
theorem aN(h1:f ρ=.ok (.nx ρ'))(h2:g ρ'=r):bN f g ρ=r:=by
 unfold bN;rw[h1,θ];exact h2
theorem aMo(h1:c ρ=.ok k)(h2:(if k then f ρ else g ρ)=r):sIf c f g ρ=r:=by
 unfold sIf;rw[h1,θ];exact h2
theorem xX(h1:c ρ=.ok af)(h2:f ρ=r):sIf c f g ρ=r:=aMo h1 (by rw[av rfl];exact h2)
theorem j6(h1:c ρ=.ok ai)(h2:g ρ=r):sIf c f g ρ=r:=aMo h1 (by rw[ax 0x2];exact h2)
theorem dZ(h1:f ρ=.ok (.bl k)):bTB f ρ=.ok k:=by
 unfold bTB;rw[h1,θ];rfl
theorem ZF(h1:a ρ=.ok af)(h2:b ρ=r):Y6 a b ρ=r:=by
 unfold Y6;rw[h1,θ,av rfl,h2]
theorem aF2(h1:a ρ=.ok ai):Y6 a b ρ=.ok ai:=by
 unfold Y6;rw[h1,θ,ax 0x2];rfl
theorem aB(h1:a ρ=.ok x)(h2:b ρ=.ok xs):aC a b ρ=.ok (x::xs):=by
 unfold aC;rw[h1,θ,h2,θ];rfl
theorem aQ(h1:a ρ=.ok xs)(h2:f xs=.ok d):aM f a ρ=.ok d:=by
 unfold aM;rw[h1,θ,h2]
theorem bI(h:a ρ=.ok xs)(hl:xs.length<=lim):cT a ρ=.ok (.tup xs):=by
 unfold cT;rw[h,θ,av (cb hl)];rfl
theorem gV(h:f ρ=.ok d)(hp:(k||d.pure)=af):oM f k ρ=.ok (.rt d):=by
 unfold oM;rw[h,θ,av hp]
theorem wI(h1:it ρ=.ok (xs,af))(h2:o9 t body xs ρ=r):G7 it t body ρ=r:=by
 unfold G7;rw[h1,θ];exact h2
theorem aIp(h1:fM i ρ=.ok d)(h2:nP d=.ok xs)(h3:o9 t body xs ρ=r):xM i t body ρ=r:=by
 unfold xM;rw[h1,θ,h2,θ];exact h3
theorem FJ(h:f ρ=.ok [.int n])(h1:0<=n)(h2:n<=1000000):lL f vU ρ=.ok ((bz n.toNat).map λ(k:ag)=>ε (0+(k:ah)),af):=by
 unfold lL;rw[h,θ];have:jP n=af:=by
  simp only[jP,bc,dE];lia
 simp only[vU,this,eI]
theorem FN(h1:g ρ=.ok d)(h2:f ρ=.ok k)(h3:ρ.getD i .uD=.dct kvs)(h4:kvs.length<lim)(h5:BR kvs k=af)(h6:d.pure=af):RX i f g ρ=.ok (.nx (ρ.set i (.dct (putD kvs k d)))):=by
 unfold RX;rw[h1,θ,h2,θ,h3];simp only[cb h4,h5,h6,gl,eI]
theorem lW(h1:f ρ=.ok d)(h3:ρ.getD i .uD=.lst xs)(h4:xs.length<lim)(h5:d.pure=af):BV i f ρ=.ok (.nx (ρ.set i (.lst (xs++[d])))):=by
 unfold BV;rw[h1,θ,h3];simp only[cb h4,h5,gl,eI]
theorem eO(h1:t x ρ=.ok ρ1)(h2:body ρ1=.ok (.nx ρ2))(h3:o9 t body xs ρ2=r):o9 t body (x::xs) ρ=r:=by
 rw[o9,h1,θ,h2,θ];exact h3
theorem SQ(L:aa D)(i:ah)(h0:0<=i)(h1:i<L.length):∃(h:i.toNat<L.length),getD (.lst L) (.int i)=.ok L[i.toNat]:=by
 have hlt:i.toNat<L.length:=by lia
 refine⟨hlt,?_⟩;show ξ ((ixD L.length i).bind λj=>L[j]?)=_;unfold ixD;rw[av h0,av h1];simp only[Ag];rw[ff hlt];rfl
theorem jV(L:aa D):fJ [.lst L]=.ok (.int L.length):=rfl
theorem gJ(h1:it ρ=.ok (xs,kk))(h2:xs.length<=lim)(h3:gD (iH n t c f k ρ) [] xs=.ok ys):fG n it t c f k ρ=.ok (.lst ys):=by
 unfold fG;rw[h1,θ];simp only[cb h2,eI];rw[h3];rfl
theorem gK(hρ:ρ.length=n)(h1:c (ρ++[x])=.ok b)(h2:b=af->f (ρ++[x])=.ok y/\(k||y.pure)=af):iH n lM c f k ρ acc x=.ok (if b then acc++[y] else acc):=by
 unfold iH;show(do let ok <- c (RW n ρ++[x]);_)=_;rw[N8 hρ,h1,θ];cases b with
 |true=>
  obtain⟨e1,e2⟩:=h2 rfl;rw[av rfl,e1,θ,av e2,av rfl];rfl
 |false=>
  rw[ax 0x2,ax 0x2];rfl
theorem fC(g:aa D->D->Res (aa D))(d:α->D)(p:α->au)(y:α->D)(h:∀acc a,g acc (d a)=.ok (if p a then acc++[y a] else acc)):∀(xs:aa α)(acc:aa D),gD g acc (xs.map d)=.ok (acc++(xs.filter p).map y)
 |[],acc=>by simp[gD]
 |x::xs,acc=>by
  rw[bu,gD,h];show gD g _ _=_;rw[fC g d p y h xs];by_cases hp:p x
  ·simp[hp]
  ·simp[hp]
theorem dH(a b:ah):bG .add (.int a) (.int b)=.ok (.int (a+b)):=rfl
theorem aGv(a b:ah):bG .sub (.int a) (.int b)=.ok (.int (a-b)):=rfl
theorem aBx(a b:ah)(h:lH b=af):bG .mul (.int a) (.int b)=.ok (.int (a*b)):=by
 show(if lH a||lH b then τ (ε (a*b)) else .bad)=_;rw[h,wj,av rfl]
theorem sO(a b:ah)(h:lH a=af):bG .mul (.int a) (.int b)=.ok (.int (a*b)):=by
 show(if lH a||lH b then τ (ε (a*b)) else .bad)=_;rw[h,BS,av rfl]
theorem fY(a b:ah)(h1:0<b)(h2:b<1073741824):bG .fdiv (.int a) (.int b)=.ok (.int (a / b)):=by
 show(if ϒ (0<b)&&ϒ (b<1073741824) then τ (ε (a / b)) else .bad)=_;rw[cb h1,cb h2,gl,av rfl]
theorem cG(a b:ah)(h1:0<b):bG .mod (.int a) (.int b)=.ok (.int (a % b)):=by
 show(if ϒ (0<b) then τ (ε (a % b)) else .bad)=_;rw[cb h1,av rfl]
theorem SX(a b:Str)(h:a.length+b.length<=lim):bG .add (.str a) (.str b)=.ok (.str (a++b)):=by
 show(if ϒ (a.length+b.length<=lim) then τ (δ (a++b)) else .bad)=_;rw[cb h,av rfl]
theorem str_len(a b:Str):(a++b).length=a.length+b.length:=by
 show(a.cps++b.cps).size=_;rw[Array.size_append];rfl
theorem S5(h1:a.gB aZ=af)(h2:b.gB aZ=af)(h:o8 o a b=ae k):cV (.ord o) a b=.ok (.bl k):=by
 show(if a.gB aZ&&b.gB aZ then (match o8 o a b with|some k=>τ (υ k)|none=>.bad) else .bad)=_;rw[h1,h2,h,gl,av rfl]
theorem nW(a b:aa D)(h:a.length+b.length<=lim)(ha:ι a=af)(hb:ι b=af):bG .add (.lst a) (.lst b)=.ok (.lst (a++b)):=by
 show(if ϒ (a.length+b.length<=lim)&&ι a&&ι b then τ (D.lst (a++b)) else .bad)=_;rw[cb h,ha,hb,gl,gl,av rfl]
theorem N_(n:ag)(h:n<=1000):bG .pow (.int 10) (.int n)=.ok (.int (10 ^ n)):=by
 have h1:ϒ ((0:ah)<=(n:ah))=af:=by simp
 have h2:ϒ ((n:ah)<=1000000)=af:=by simp;lia
 have h3:ϒ ((10:ah).natAbs<2 ^ 64)=af:=by decide
 show(if ϒ ((0:ah)<=(n:ah))&&ϒ ((n:ah)<=1000000)&&ϒ ((10:ah).natAbs<2 ^ 64) then τ (ε (10 ^ ((n:ah).toNat))) else .bad)=_;rw[h1,h2,h3,gl,gl,av rfl,nj]
open PySem.SeqAt PySem.Spec PyProof.Rows
theorem S6{P:bh}{w:bd}{H:Hp}{h:ay}{a:am}{o:HO}(x:gC P w H h a o):∃ob,h.get? a=ae ob:=by
 cases o with
 |lst xs=>obtain⟨_,_,_,_,e⟩:=x;exact⟨_,e⟩
 |tup xs=>obtain⟨_,_,_,_,e,_⟩:=x;exact⟨_,e⟩
 |dK kvs=>obtain⟨_,_,_,_,o,_,_,e,_⟩:=x;exact⟨_,e⟩
 |dT kvs=>obtain⟨_,_,_,_,o,_,_,e,_⟩:=x;exact⟨_,e⟩
 |set S n=>obtain⟨o,_,_,_,e,_⟩:=x;exact⟨_,e⟩
 |ins C dx fs=>obtain⟨_,_,_,e,_⟩:=x;exact⟨_,e⟩
 |own y=>exact x
 |xd fs=>obtain⟨_,⟨_,_,_,e,_⟩,_⟩:=x;exact⟨_,e⟩
 |rng lo hi=>obtain⟨_,_,_,e⟩:=x;exact⟨_,e⟩
 |frz ob u=>obtain⟨e,_⟩:=x;exact⟨_,e⟩
 |tbl ps=>exact⟨_,show h.get? a=ae _ from x⟩
 |met f y=>exact⟨_,show h.get? a=ae _ from x⟩
 |ext φ=>obtain⟨_,e,_⟩:=x;exact e
theorem aBy{K:bj}{h:ay}{C:am}{bmB:aa ak}{newId:fN}(X:K.In h)(q:oI K C bmB newId=af) :
  ∃bm N nm qn bs hdct sn sub ab col dd k0 k1 k2 k3 k5 mN,h.get? C=ae (wm nm qn C N bs bm hdct sn sub ab col dd k0 k1 k2 k3 k5 newId)/\h.Ns N mN/\mN "__init__"=aj/\wn h bmB bm:=by
 unfold oI at q;split at q
 ·rename_i dd cd sl ho;split at q
  ·rename_i C' bm k0 k1 k2 k3 n k5 hm hs;rw[bc,bc,bc,bc,bc] at q;obtain⟨⟨⟨⟨⟨q1,q2⟩,q3⟩,q4⟩,q5⟩,q6⟩:=q;have q1:=gy.mp q1;have q2:=gy.mp q2;rw[jh] at q3;subst q1 q2;obtain⟨nm,bs,mro,ns,qn,hd,sn,sub,ab,col,del⟩:=cd;obtain⟨l⟩:=sl;dsimp only at hm q3 q5 q6 hs;subst hm q3 hs;exact⟨bm,ns,nm,qn,bs,hd,sn,sub,ab,col,dd,k0,k1,k2,k3,k5,_,X _ _ ho,.of_isNs (PySem.W.isNs_of_in X q5),PySem.W.nsMap_none_of_in X q5 (gy.mp q6),PySem.W.tail_of_in X q4⟩
  ·cases q
 ·cases q
abbrev aKq:aa ak:=[.type "ValueError",.type "Exception",.type "BaseException",.type "object"]
theorem aF3{X:Cx}{x:Str}{C:am}{np cpos pos:bX}{e:Expr}{ta:TA}(hc:X.calm=af)(hg:Gl X x)(hm:X.mg x=ae (.ref C))(hq:oI X.K C aKq "ValueError.__new__"=af)(ha:PA X [e] ta)
 (he:cf [e] X.env=[(ai,eval e X.env)]:=by rfl)(hd:nDb x:=by decide) :
  PS X (.Raise (ae (.Call (.Name x np) [e] [] cpos)) aj pos) (λD σ H=>ta σ H λvs H1=>vs.length<=aT/\∀(Ψ:aa (am×bg))(s:ar)(h2:ay)(a:am)(us:aa ak),Inv X Ψ σ H1 s->CY s.heap h2 a (.ref C) us->X.xe (.ref a) {s with heap:=h2}):=by
 intro Ψ s σ H D I h;obtain⟨bm,N,nm,qn,bs,hdct,sn,sub,ab,col,dd,k0,k1,k2,k3,k5,mN,hC,hN,hni,T⟩:=aBy I.mod.kin hq;refine wpAny_Raise_call_subT (C:=C) (nm:=nm) (q:=qn) (N:=N) (bs:=bs) (bm:=bm) (hdct:=hdct) (sn:=sn) (sub:=sub) (ab:=ab) (col:=col) (dd:=dd) (k0:=k0) (k1:=k1) (k2:=k2) (k3:=k3) (k5:=k5)
  lg (mN:=mN) (T.hasType lg.hasBase) (I.ok.hd hc) (by rw[he];rfl) hni (lC I hg hm ⟨rfl,?_⟩ hd)
 rw[he];have h':=ha cpos Ψ s σ H _ I h;rw[he] at h';refine ze (dA h' (λus s2 ⟨vs,H1,I1,r,hl,hx⟩=>⟨rfl,by rw[<-r.length];exact hl,I1.bk _ _ hC,hN.keeps I1.bk,T.keeps I1.bk,λh2 a hm=>hx Ψ s2 h2 a us I1 hm⟩) λ_ _ y=>y)
section
variable [KFrag]
theorem PS.nox{X:Cx}{st:bq}{t:TS}(h:PS X.nox st t):PS X st t:=λΨ s σ H D I hw=>
 dA (h Ψ s σ H D (I.wish _) hw) (λ_ _ q=>SP.lF q) λ_ _ z=>dg z
end
open PySem.W PySem.Builtin PySem.Builtin.ObjectAttr PySem.Builtin.Getset_descriptor
def ExcAt(a C:am)(h:ay):Prop:=∃o,h.get? a=ae o/\o.cls=.ref C
structure XC(K:Frag)(C:am):Prop where
 cl:(clsIn K C).isSome=af
 ga:dm K (.ref C) "__getattribute__"=ae (ae (.builtin "BaseException.__getattribute__"))
 gh:dm K (.ref C) "__getattr__"=ae aj
 kc:dm K (.ref C) "__class__"=ae (ae (.builtin "object.__class__"))
 kg:kj K (.builtin "object.__class__") "__get__"=ae (ae (.builtin "getset_descriptor.__get__"))
 kt:wo K (.builtin "object.__class__")=ae af
 ob:iO K C (.type "object")=ae af
 be:iO K C (.type "BaseException")=ae af
section
variable {prog:bh} {w:bd} {A:bS} {E:ak->ar->Prop} {s:ar} {K:Frag} {x C:am}
theorem OD{M:wq}{h:ay}(p:ExcAt x C h):ix M h (iF (.ref x)) (.ref C):=by
 obtain⟨o,h1,h2⟩:=p;rw[<-h2];exact(oz h1).andThen .now
theorem aF4{M:wq}{h:ay}(X:K.In h)(c:XC K C):ix M h (find (.ref x) (.ref C) "__class__") (.bind (.builtin "getset_descriptor.__get__") (.builtin "object.__class__")):=by
 refine(oP (M:=M) X c.kc).andThen ((looks_specialIn (M:=M) X c.kg).andThen ?_);have L:ix M h (dataDescriptor? (ae (.builtin "object.__class__")) (ae (.builtin "getset_descriptor.__get__"))) (ae (.builtin "getset_descriptor.__get__",.builtin "object.__class__")):=(looks_takesIn (M:=M) X c.kt).andThen .now;exact L.andThen (Looks.tag .now)
theorem aIq{R:Result->ar->Prop}{tp:ak}(X:K.In s.heap)(p:ExcAt x C s.heap)(c:XC K C)(h:R (.ok (.ret (.ref C))) s) :
  codeAny (aw prog w) A (.call (.builtin "getset_descriptor.__get__") ⟨[.builtin "object.__class__",.ref x,tp],[]⟩) R s:=by
 obtain⟨hh,g,d,t,os⟩:=s;have L0:=OD (M:=aw prog w) p;have L1:=Ah (M:=aw prog w) X c.ob;refine wr C0.plain KF.entry_gs (C0.check _ _ _ _ _ _ _ _ KF.type_class (KF.args_gs _ _ _) ?_)
 (unfold cz.«getset_descriptor.__get__» descrGet;rw[dga_obj];refine ao (aI ?_);unfold descrGetter descrCheckInstance descrNameAndClass oQ;simp only[KF.owner_class])
 repeat lk
 refine⟨lh _ 0x6,km KF.entry_class ?_⟩
 (unfold cz.«object.__class__» shownTypeOf;repeat lk)
 exact h
theorem aBz{tk:fw}{Q:Fin->ar->Prop}(X:K.In s.heap)(p:ExcAt x C s.heap)(c:XC K C)(h:Q (.done (.ret (.ref C))) s) :
  ϑ (aw prog w) A (cz.«object.__getattribute__» ⟨[.ref x,.str "__class__" tk],[]⟩) Q E s:=by
 obtain⟨hh,g,d,t,os⟩:=s;have L0:=OD (M:=aw prog w) p;have L1:=aF4 (M:=aw prog w) (x:=x) X c;unfold cz.«object.__getattribute__»;refine ao (aI ?_);refine ao (aI ?_);refine ao (L0.at (ao (L1.at ?_)));show ϑ _ _ (l8 [_] (call _ [_,.ref x,.ref C]) >>= ret) _ _ _;exact ao (eJ (jx (aIq X p c (aI h))))
theorem aC0{M:wq}{nv:ak}{Q:Unit->ar->Prop}(X:K.In s.heap)(p:ExcAt x C s.heap)(c:XC K C)(h:Q () s):ϑ M A (C1 "BaseException.__getattribute__" ⟨[.ref x,nv],[]⟩) Q E s:=by
 obtain⟨hh,g,d,t,os⟩:=s;have L0:ix M hh (oQ (.ref x) (.type "BaseException")) af:=(OD (M:=M) p).andThen (Ah (M:=M) X c.be);have e1:builtinKind "BaseException.__getattribute__"=ae .slot:=by decide +kernel
 have e2:splitId "BaseException.__getattribute__"=ae ("BaseException","__getattribute__"):=by decide +kernel
 have ha:=F.args_bexc_ga (.ref x) nv;simp only[C1,e1,e2];refine ao (L0.at ?_)
 repeat (any_goals (first|assumption|wp_step))
theorem aIr{Q:aq ak->ar->Prop}(X:K.In s.heap)(p:ExcAt x C s.heap)(c:XC K C)(h:Q (ae (.ref C)) {s with toks:=s.toks+1}):ϑ (aw prog w) A (nk (.ref x) "__class__") Q E s:=by
 obtain⟨hh,g,d,t,os⟩:=s;have L0:=OD (M:=aw prog w) p;have L1:=oP (M:=aw prog w) X c.ga;have L2:=oP (M:=aw prog w) X c.gh;have e2:(wu "BaseException.__getattribute__"==wu "object.__getattribute__")=ai:=by decide +kernel
 have e1:(onTheHeap (cK C)&&wu "BaseException.__getattribute__"==wu "object.__getattribute__")=ai:=by rw[e2];rfl
 unfold nk getAttrBy? getAttrBy;refine ao (wpAny_mkText (ao (iP (eJ (ao (L0.at (ao (L1.at ?_))))))));dsimp only;rw[e1,ax 0x4];unfold getAttrByItsOwn hookBefore callGetattribute boundAndCalled;rw[av (show onTheHeap (cK C)=af from rfl)];refine ao (L2.at (ao (iP (eJ ?_))));rw[ax 0x4];refine ao (gz (C3.ga.bind (.ref x)) ?_);refine jx (wr C3.ga.plain F.entry_bexc_ga (aC0 (K:=K) (C:=C) X p c (aBz (K:=K) (C:=C) X p c ?_)));show ϑ _ _ (handedOut (.ref C)) _ _ _;exact aI (aI h)
theorem aF5(c:XC K C):KitX K (.ref x) (.ref C) (ExcAt x C) where
 ty:=λ_ _ _ p=>OD p
 it:=λM h X _=>by
  obtain⟨cd,hc⟩:=vb.mp c.cl;unfold clsIn at hc;split at hc
  ·rename_i ho;intro A' Q' E' s' k q
   (unfold isType loadHead;exact ao (wpAny_loadPart (k _ _ (X _ _ ho)) (aI q)))
  ·cases hc
 ne:=λh tp dd its n sl X e=>by
  obtain⟨cd,hc⟩:=vb.mp c.cl;unfold clsIn at hc;split at hc
  ·rename_i ho;refine Bool.eq_false_iff.mpr λq=>?_
   have z:C=tp:=EH (gy.mp q);subst z;cases (X _ _ ho).symm.trans e
  ·cases hc
 ca:=λX p h=>aIr X p c h
end
end Mi
namespace Mi
open PySem L2 PySem.W PySem.SeqAt PySem.Spec PyProof.Rows
noncomputable abbrev mrk(X:Cx)(v:ak):Cx:={X with A:=X.A.mark (ae v),calm:=ai}
section
variable {X:Cx} {Ψ:aa (am×bg)} {σ:L2.St} {H H2:Hp} {s:ar} {h h6:ay} {a:am}
theorem JC(I:Inv X Ψ σ H s)(v:ak):Inv (mrk X v) Ψ σ H s:=
 ⟨⟨I.ok.mod,I.ok.kind,I.ok.glob,I.ok.blt,I.ok.above,I.ok.inj,I.ok.has,I.ok.cab,(λz=>nomatch z),I.ok.frames,I.ok.stk,I.ok.exf,I.ok.bs,I.ok.bsz,I.ok.noex,I.ok.exfs,I.ok.YF,I.ok.frf⟩,I.os,I.bare,I.base,I.loc,I.cell,I.free,I.freeC,I.pin,I.hok,I.len⟩
theorem OJ{v:ak}(ok:X.Ok)(I:Inv (mrk X v) Ψ σ H s):Inv X Ψ σ H s:=
 ⟨ok,I.os,I.bare,I.base,I.loc,I.cell,I.free,I.freeC,I.pin,I.hok,I.len⟩
theorem aC1{fs:aa am}{o:HO}(u:Un fs [] H H2 h h6)(hg:h.get? a=aj)(hn:H2 a=aj):Un fs [] H (upd H2 a o) h h6:=by
 have ne:∀b ob,h.get? b=ae ob->b≠a:=λb ob q z=>by rw[z,hg] at q;cases q
 refine⟨u.keep,u.slot,λb ob q n hx=>by rw[bF (ne b ob q)];exact u.free b ob q n hx,u.there,λb xs q=>?_,λb ob xs q=>?_,λb ps q=>?_⟩
 ·have z:=u.tups b xs q;rw[bF (cD z hn)];exact z
 ·have z:=u.frzs b ob xs q;rw[bF (cD z hn)];exact z
 ·obtain⟨m,z⟩:=u.tbls b ps q;exact⟨m,by rw[bF (cD z hn)];exact z⟩
theorem S7{P:bh}{w:bd}{o:HO}(x:HOk P w H2 h6)(hn:H2 a=aj)(new:gC P w (upd H2 a o) h6 a o):HOk P w (upd H2 a o) h6:=λb u e=>by
 by_cases hb:b=a
 ·subst hb;rw[aL] at e;cases e;exact new
 ·rw[bF hb] at e;exact(x b u e).stay (λc v _ q=>q) (λc q=>by rw[bF (cD q hn)];exact q) λc xs q=>by rw[bF (cD q hn)];exact q
theorem aF6{i:ag}{x:Str}{v:aq ak}{t':ag}{h':ay}{m:Str->aq ak}(I:Inv X Ψ σ H s)(hN:X.N.Nodup)(hi:X.N[i]?=ae x)(hn:s.heap.Ns X.env.locals m)
 (hl:∀(i:ag) (x:Str) (v:V),X.N[i]?=ae x->σ[i]?=ae (ae v)->Vis X.env.scope x->∃u,RelV v u/\Look X.env s.heap m x u)
 (hn':h'.Ns X.env.locals (λy=>if y=x then v else m y))(hs:fS X.env.locals s.heap h'):Inv X Ψ (σ.set i aj) H {s with heap:=h',toks:=t'}:=by
 have hiσ:i<σ.length:=by rw[I.len];exact(du.mp hi).1
 have cne:=I.cne;have ne:∀b o,X.s₀.heap.get? b=ae o->b≠X.env.locals:=λb o e=>cu (c_ (bn e) I.ok.above)
 refine⟨I.ok,I.os,I.bare,⟨λb o e n hb hx=>(hs.2 b (ne b o e)).trans (I.base.keep b o e n hb hx),λb o e n hb hx=>?_,I.base.free,λb o e hx=>?_,I.base.tups,I.base.frzs,I.base.tbls⟩,⟨_,hn',λj y v' e1 e2 e3=>?_⟩,λy c e=>?_,I.free,I.freeC,λp hp=>?_,λb ob e=>?_,by simpa using I.len⟩
 ·obtain⟨sl,e1⟩:=I.base.slot b o e n hb hx;exact⟨sl,(hs.2 b (ne b o e)).trans e1⟩
 ·obtain⟨o',e1⟩:=I.base.there b o e hx;exact⟨o',(hs.2 b (ne b o e)).trans e1⟩
 ·by_cases hj:j=i
  ·subst hj;rw[gi hiσ] at e2;cases e2
  ·rw[dv (Ne.symm hj)] at e2;obtain⟨u',r',q⟩:=hl j y v' e1 e2 e3;refine⟨u',r',?_⟩;rcases q with ⟨k,e⟩|⟨k,c,e,z⟩
   ·refine .inl ⟨k,?_⟩;have:y≠x:=λe=>hj (GQ hN e1 (e▸hi))
    simp[this,e]
   ·exact .inr ⟨k,c,e,z.sameBut hs (cne y c e)⟩
 ·obtain⟨w',z⟩:=I.cell y c e;exact⟨w',z.sameBut hs (cne y c e)⟩
 ·obtain⟨e,n,ne,nf,d⟩:=I.pin p hp;exact⟨(hs.2 p.1 ne).trans e,n,ne,nf,d⟩
 ·refine(I.hok b ob e).stay (λc w' hc q=>(hs.2 c ?_).trans q) (λ_ q=>q) λ_ _ q=>q
  intro z;rcases hc with hc|hc
  ·rw[<-hc,z,I.free] at e;cases e
  ·rw[z,I.free] at hc;cases hc
end
variable [KFrag]
theorem JD{H:Hp}{a:am}{o:HO}(h:H a=aj):cZ H (upd H a o):=λb u e=>by rw[bF (cD e h)];exact e
theorem JF:em "ValueError"=ae (.type "ValueError"):=0x6
noncomputable def aPr(f:FE)(t:D->aa D->Res (aa D)):FS:=λρ=>do
 let d <- f ρ
 if d.pure then (do let ρ' <- t d ρ;.ok (.nx ρ')) else .bad
theorem aMp{X:Cx}{own:ag->au}{e tg:Expr}{pos:bX}{fe:FE}{re:au}{g:TG}{t:D->aa D->Res (aa D)}(he:PE X e (gE fe re))(ht:TgS own g t)(hg:PG X tg g)(hs:sK [tg] e pos.line X.env=pure ai:=by rfl)(hw:sL [tg] e X.env=pure aj:=by rfl)
 (h1:(kB [tg] X.env).map (·.2)=[kA tg X.env]:=by rfl):PS X (.Assign [tg] e pos) (tS own (aPr fe t)):=PS.imp (aL9 he hg hs hw h1) λD' σ H z0=>by
 obtain⟨ρ,fl,E,h,q⟩:=z0;obtain⟨d,h1,h2⟩:=bL h;split at h2
 ·rename_i hp;obtain⟨ρ',h3,h4⟩:=bL h2;cases h4;refine⟨ρ,d,E.er,h1,λv H1 s1 r _=>ht v d ρ ρ' σ H1 _ (E.same s1) (r.bT hp) h3 λσ2 E2 hO=>?_⟩;have k0:KU own σ H1 σ2 H1:=λa o e n=>⟨e,by rw[hO];exact n⟩
  exact q σ2 H1 ((KU.same s1).trans k0) E2
 ·exact bx h2
def zA(a:FA):FE:=λρ=>do let xs <- a ρ;if ϒ (xs.length<=lim)&&ι xs then pure (.lst xs) else .bad
theorem v5{X:Cx}{pos:bX}{es:aa Expr}{f:FA}{r:au}(h:PA X es (gA f r)):PE X (.List es pos) (gE (zA f) af):=PE.imp (aAi h) λσ H Q z0=>by
  obtain⟨ρ,d,E,h,q⟩:=z0;obtain⟨xs,h1,h⟩:=bL h;split at h
  ·rename_i hl;rw[bc] at hl;cases h;refine⟨ρ,xs,E,h1,λvs H1 s1 r1 n1=>⟨?_,λp hp=>?_⟩⟩
   ·rw[r1.length];exact dj (fg hl.1) (by rw[dk];decide)
   ·have sp:cZ H1 (upd H1 p (.lst vs)):=cZ.upd hp;exact q _ _ (s1.trans sp) (.lst aL trivial (r1.same sp)) λ_=>.lst aL (s1.free hp) ((r1.bT hl.2).same sp)
  ·exact bx h
end Mi
namespace Mi
open PySem L2 PySem.SeqAt PySem.Spec PyProof.Rows
section
variable [KFrag]
section
variable {a b e:Expr}
noncomputable def aQp(i j:ag)(f:FA):FS:=λρ=>do
 let ds <- f ρ
 match ds with
 |[d1,d2]=>if d1.pure&&d2.pure then .ok (.nx ((ρ.set i d1).set j d2)) else .bad
 |_=>.bad
theorem aMq(ho:own i=ai)(ho2:own j=ai)(hc:X.calm=af)(hN:X.N.Nodup)(hi:X.N[i]?=ae x)(hj:X.N[j]?=ae y)(hij:i≠j)(hx:X.env.scope.names.lookup x=ae .local)(hy:X.env.scope.names.lookup y=ae .local)(ha:PA X [a,b] (gA fs rr))
 (hw:sL [.Tuple [.Name x px,.Name y py] kt pt] (.Tuple [a,b] k2 pt2) X.env=pure (ae [x,y]))
 (hs:sK [.Tuple [.Name x px,.Name y py] kt pt] (.Tuple [a,b] k2 pt2) pos.line X.env=pure ai:=by rfl) :
  PS X (.Assign [.Tuple [.Name x px,.Name y py] kt pt] (.Tuple [a,b] k2 pt2) pos) (tS own (aQp i j fs)):=PS.imp (aLa hc hN hi hj hij hx hy ha hw hs) λD' σ H z0=>by
 obtain⟨ρ,fl,E,h,q⟩:=z0;obtain⟨ds,h1,h2⟩:=bL h;split at h2
 ·rename_i d1 d2;split at h2
  ·rename_i hp;rw[bc] at hp;cases h2;refine⟨ρ,_,E.er,h1,λvs H1 s1 r1 _=>?_⟩
   match vs,r1 with
   |[v,w],.cons r (.cons r' .nil)=>
    refine⟨v,w,rfl,?_⟩;have E1:=E.same s1;have E2:=E1.set ho (r.bT hp.1);have E3:=E2.set ho2 (r'.bT hp.2);exact q _ H1 (λa o e hn=>⟨s1 a o e,by rw[jT ho2,jT ho];exact hn⟩) E3
  ·exact bx h2
 ·exact bx h2
end
def DV(H:Hp)(a:am)(kvs:aa (Key×V)):Prop:=H a=ae (.dK kvs)\/(kvs=[]/\H a=ae (.dT []))
theorem aGw:∀{kvs:aa (κ×V)}{vs:aa (κ×ak)}{i:ag}{p:κ×V},KV kvs vs->kvs[i]?=ae p->∃u,vs[i]?=ae (p.1,u)/\RelV p.2 u
 |_,_,_,_,.nil,h=>by simp at h
 |_,_,0,_,.cons r _,h=>by
  simp at h;subst h;exact⟨_,by simp[r.1],r.2⟩
 |_,_,i+1,_,.cons _ t,h=>by
  obtain⟨u,h1,h2⟩:=aGw t (by simpa using h);exact⟨u,by simpa using h1,h2⟩
section
variable {a:am}
theorem aMr(hu:DV H a kvs):L2.Mut (H a):=by
 rcases hu with h|⟨_,h⟩<;>rw[h]<;>trivial
theorem aC2(I:Inv X Ψ σ H s)(hu:DV H a kvs):kvs.length<=aT/\(a==fy)=ai/\∃vs,KV kvs vs/\s.heap.DictOf (cC X.prog X.w) a vs:=by
 rcases hu with h|⟨rfl,h⟩
 ·exact RN I.hok h
 ·exact RN (lQ I h).hok aL
theorem aMs(I:Inv X Ψ σ H s)(hu:DV H a kvs)(ho:s.heap.get? a=ae o):∃u,H a=ae u/\∀(H':Hp)(h:ay),h.get? a=ae o->gC X.prog X.w H' h a u:=by
 rcases hu with h|⟨_,h⟩
 ·obtain⟨z,hs,vs,rel,o',es,ep,ho',c⟩:=I.hok a _ h;rw[ho] at ho';cases ho';exact⟨_,h,λH' h' e=>⟨z,hs,vs,rel,o,es,ep,e,c⟩⟩
 ·obtain⟨z,hs,xs,rel,o',es,ep,ho',c⟩:=I.hok a _ h;rw[ho] at ho';cases ho';cases rel;exact⟨_,h,λH' h' e=>⟨z,hs,[],.nil,o,es,ep,e,c⟩⟩
end
theorem WN(ea:∀ob,H a=ae ob->aE4 ob=af)(b:am)(o:HO)(e:H b=ae o)(h:aE4 o=ai):upd H a u b=ae o:=by
 rw[bF λz=>by rw[z] at e;rw[ea _ e] at h;cases h];exact e
theorem JG{P:am->Prop}(ea:∀ob,H a=ae ob->aE4 ob=af)(q:Rep P H v d)(h:d.pure=af):Rep P (upd H a u) v d:=q.G_ (WN ea) h
theorem O3{P:am->Prop}(ea:∀ob,H a=ae ob->aE4 ob=af)(q:bZ P H v d)(h:ι d=af):bZ P (upd H a u) v d:=q.G_ (WN ea) h
theorem v6:∀{acc:aa D}{y:D},ι acc=af->y.pure=af->ι (acc++[y])=af
 |[],y,_,h=>by show(y.pure&&af)=af;rw[h];rfl
 |x::acc,y,h,hy=>by
  rw[ι,bc] at h;show(x.pure&&ι (acc++[y]))=af;rw[h.1,v6 h.2 hy];rfl
theorem O4{P:am->Prop}{H:Hp}:∀{kvs:aa (Key×V)}{ds:aa (D×D)},j5 P H kvs ds->bZ P H (kvs.map (·.2)) (ds.map (·.2))
 |_,_,.nil=>.nil
 |_,_,.cons r t=>.cons r (O4 t)
structure aPs(K:bj)(x qual:Str)(st:bq)(f:am)(fd:cj)(T:am)(its:aE ak):Prop where
 ex:∃(oc:ak)(od:aq am)(kV doc pm:ak)(an:aq am)(cdv ct:ak)(osl:aE (aq ak)),
  fd=kL x qual (jN st) (fB st) (aO st) (.ref T) kV doc pm an cdv ct/\K.lookup f=ae ⟨oc,od,.func fd,osl⟩/\vg K cdv qual=af
 kp:jz K (.ref f)=af
 df:∃(tc:ak)(td:aq am)(tn:ag)(tl:aE (aq ak)),K.lookup T=ae ⟨tc,td,.seq its tn,tl⟩
section
variable {P:bh} {w:bd} {K:bj} {mg:Str->aq ak} {base:ay} {x qual:Str} {st:bq} {fad T:am} {its:aE ak} {fd:cj} {N ps:aa Str} {k:ag} {f:FS}
theorem aMt(F:aPs K x qual st fad fd T its)(S:bY N ps (aO st))(own:ag->au)(hown:∀i,i<ps.length->own i=ai)
 (hbody:∀(cdv:ak) (A:bS) (outer:aa cv) (s:ar) (H:Hp) (E:XK),nH k (A.deeper (cS qual (aO st) s.heap.objs.size fad cdv))->PSs (lE CX0 P w K mg base N qual (aO st) fad cdv A outer s H E).nox (fB st) (tS own f))(hx:own rtX=ai:=by rfl):xU P w K mg base CX0 (k+1) fad fd ps (spD (fnS ps.length N.length f) ps.length):=by
 obtain⟨oc,od,kV,doc,pm,an,cdv,ct,osl,rfl,lk,hcd⟩:=F.ex;exact aHn lk hcd S (λvs H Q E h=>aBn h) λA outer s H vs Q E hr h=>⟨_,(hbody cdv A outer s H E hr).nox,SJ hx hown h⟩
end
structure aMu(P:bh)(w:bd)(K:bj)(mg:Str->aq ak)(base:ay)(k:ag)(x kw:Str)(n:ag)(df:D)(f:aa D->Res D):Prop where
 ex:∃(fad:am)(fd:cj)(ps:aa Str)(u:ak)(v:V),xU P w K mg base CX0 k fad fd ps (spD f (n+1))/\mg x=ae (.ref fad)/\jz K (.ref fad)=af/\Binds K fd ps []/\Binds K fd ps [u]/\RelV v u/\(∀H:Hp,Rep All H v df)/\
  ∀(s:ar)(us:aa ak)(y:ak),K.In s.heap->us.length=n->kG s fd ⟨us,[(kw,y)]⟩ (ps.zip (us++[y]))
section
variable {X:Cx} {e:Expr} {es:aa Expr} {pos p:bX} {fs:FA} {rr:au} {x kw:Str} {k k' n:ag} {df:D} {f:aa D->Res D}
theorem zB(C:aMu X.prog X.w X.K X.mg X.base k x kw n df f)(hr:nH k' X.A)(hkk:k<=k')(hg:Gl X x)(ha:PA X (e::es) (gA fs rr))(hdb:nDb x:=by decide)(he:zSE X e es:=by rfl)(hpl:zSP X pos es:=by rfl) :
  PE X (.Call (.Name x p) (e::es) [] pos) (gE (aM (λds=>bO (n+1) f (ds++[df])) fs) af):=by
 obtain⟨fad,fd,ps,u,v,F,hm,hk,hb,hb1,ru,rv,_⟩:=C.ex;refine PE.imp (RJ F (hr.mono hkk) hg hm hk hb1 (.cons ru .nil) aLz ha hdb he hpl) λσ H Q h0=>?_
 obtain⟨ρ,d,E,h,q⟩:=h0;obtain⟨ds,h1,h⟩:=bL h;unfold bO at h;split at h
 ·rename_i hl;exact⟨ρ,ds,E,h1,λvs H1 s1 r1 _=>⟨ds++[df],d,fg hl,r1.append (.cons (rv H1) .nil),h,q.imp s1 id⟩⟩
 ·exact bx h
end
end
def vQ:D->D->Res D
 |.tup a,.tup b=>if ϒ (a.length+b.length<=lim) then .ok (.tup (a++b)) else .bad
 |_,_=>.bad
def aIs:D->Res D
 |.lst xs=>if ι xs then .ok (.lst xs.reverse) else .bad
 |_=>.bad
def wJ:aa D->aa D->aa (D×D)->aa (D×D)
 |k::ks,v::vs,m=>wJ ks vs (putD m k v)
 |_,_,m=>m
def FP:aa D->Res D
 |[.tup xs,.tup ys]=>if ϒ (xs.length<=1000)&&ϒ (ys.length=xs.length)&&xs.all mF&&ι ys then .ok (.dct (wJ xs ys [])) else .bad
 |_=>.bad
noncomputable def xY(c:FT)(body:FS):ag->aa D->Res Fl
 |0,_=>.bad
 |n+1,ρ=>do
  let k <- c ρ
  if k then (do
   let r <- body ρ
   match r with
   |.nx ρ'=>xY c body n ρ'
   |.ct ρ'=>xY c body n ρ'
   |.bk ρ'=>.ok (.nx ρ')
   |.rt d=>.ok (.rt d))
  else .ok (.nx ρ)
def aMv(c:FT)(body:FS):FS:=λρ=>xY c body 1000 ρ
noncomputable def aF7(i j:ag)(f:FE):FS:=λρ=>do
 let k <- f ρ
 match ρ.getD i .uD,k with
 |.lst xs,.int k=>if ϒ (0<=k)&&ϒ (k<=1000000) then (match xs[k.toNat]? with|some x=>.ok (.nx ((ρ.set i (.lst (xs.eraseIdx k.toNat))).set j x))|none=>.bad) else .bad
 |_,_=>.bad
def aMw:aa D->Res D
 |[.dct kvs]=>if kvs.all (λp=>!isTup p.1) then .ok (.int kvs.length) else .bad
 |ds=>fJ ds
noncomputable def fzD(i:ag)(kvs:aa (D×D))(ρ:aa D):aa D:=(ρ.map λd=>if d.pure then d else .uD).set i (.fdc kvs)
def aC3(n i:ag)(t:D->Res (aa D))(c:FT)(f:FE):FE:=λρ=>do
 let d <- fM i ρ
 match d with
 |.dct kvs=>if ϒ (kvs.length<=lim)&&(kvs.all (λp=>!isTup p.1)&&ι (kvs.map (·.2))) then (do
   let ys <- gD (iH n t c f ai (fzD i kvs ρ)) [] (mJ kvs)
   pure (.lst ys)) else .bad
 |_=>.bad
section
variable [KFrag]
section
theorem fZ:OpR X (e9 .Add) (r2 vQ ai):=by
 intro Ψ s σ H x y v u Q I rx ry h;obtain⟨a,b,d,p,q,e,k⟩:=h;unfold vQ at e;split at e
 ·rename_i da db;split at e
  ·rename_i hl;cases e;obtain⟨l1,xs1,rfl,e1,r1⟩:=p.inv;obtain⟨l2,xs2,rfl,e2,r2⟩:=q.inv;cases rx;cases ry;have hz:xs1.length+xs2.length<=aT:=by rw[r1.length,r2.length];exact oO hl
   obtain⟨its,w1,p1,_⟩:=I.tuple (.of e1);obtain⟨its2,w2,p2,_⟩:=I.tuple (.of e2);obtain⟨⟨cls,dd,data,sl⟩,ho,hc,n,hd⟩:=id p1;obtain⟨⟨cls2,dd2,data2,sl2⟩,ho2,hc2,n2,hd2⟩:=id p2;simp only at hc hd hc2 hd2;by_cases hv:its=[]
   ·have:xs1=[]:=w1.yI.mp hv;subst this;cases r1;refine yp ⟨_,ho,hc⟩ ⟨_,ho2,hc2⟩ yq yr yt yu (yw _ _)
     (tuple_addW0 l1 l2 its.toArray its2.toArray n n2 dd dd2 sl sl2 (by simp[hv])) ⟨by subst hc hd;exact ho,by subst hc2 hd2;exact ho2,.ref l2,H,I,rfl,?_⟩
    exact k.self (.tup e2 r2) (λz=>by cases z)
   ·refine aHr Ψ s σ H (.ref l1) (.ref l2) _ _ Q I rfl rfl ⟨l1,l2,xs1,xs2,rfl,rfl,.of e1,.of e2,λz=>hv (w1.yI.mpr z),hz,λz=>?_,λz p hp=>?_⟩
    ·subst z;cases r2;rw[eD] at k;exact k.self (.tup e1 r1) (λz=>by cases z)
    ·have sp:cZ H (upd H p (.tup (xs1++xs2))):=cZ.upd hp;exact k _ _ sp (.tup aL ((r1.append r2).same sp)) λz=>by cases z
  ·exact bx e
 ·exact bx e
theorem aIt(hK:KFrag.K=X.K):l_ X (.builtin "len") (rs aMw af):=by
 rintro Ψ s σ H xs us Q I vr ⟨ds,d,r,e,k⟩;unfold aMw at e;split at e
 ·rename_i ds;split at e
  ·rename_i hb;cases e;obtain⟨vv,uu,rfl,rfl,r,v⟩:=iK r vr;obtain⟨a,kvs,rfl,hu,rl⟩:∃a kvs,vv=.ref a/\DV H a kvs/\kvs.length=ds.length:=by
    cases r with
    |dK e _ rk _=>exact⟨_,_,rfl,.inl e,by have:=(O4 rk).length;simpa using this⟩
    |dT e _ rt _=>
     cases rt with
     |nil=>exact⟨_,[],rfl,.inr ⟨rfl,e⟩,rfl⟩
     |cons r t=>simp[isTup] at hb
   cases v;obtain⟨z,hs,vs,rel,dd⟩:=aC2 I hu;refine call_len_dict hs dd (by rw[<-rel.length];rw[dk] at z;lia) ?_;rw[<-rel.length,rl];exact⟨.int _,H,I.tok _,⟨_,rfl⟩,k.int⟩
  ·exact bx e
 ·exact dO hK Ψ s σ H xs us Q I vr ⟨_,d,r,e,k⟩
theorem aMx(hp:nN (aw X.prog X.w) X.A X.env X.xe)(hc:PT X c (gT gc))(hb:PSs X body (tS own fb)):PS X (.While c body [] pos) (tS own (aMv gc fb)):=
 PS.imp (U8 hp hc hb) λD σ H z0=>by
 obtain⟨ρ,fl,E,h,q⟩:=z0;refine⟨λm σ' H'=>∃ρ' ,ES own H' σ' ρ'/\xY gc fb m ρ'=.ok fl/\kS own D σ' H' fl,⟨1000,ρ,E,h,q⟩,?_⟩;rintro m σ H ⟨ρ,E,h,q⟩;cases m with
 |zero=>exact bx h
 |succ m=>
  rw[xY] at h;obtain⟨k,h1,h2⟩:=bL h;refine⟨ρ,k,E.er,h1,λH1 s=>?_⟩;cases k with
  |true=>
   rw[av rfl];rw[av rfl] at h2;obtain⟨r,h3,h4⟩:=bL h2;refine⟨λσ' H'=>∃ρ',ES own H' σ' ρ'/\xY gc fb m ρ'=.ok fl/\kS own D σ' H' fl,λσ' H' w=>⟨m,oq m,w⟩,ρ,r,E.same s,h3,?_⟩;have q1:=q.step (.same s);cases r with
   |nx ρ'=>exact λσ' H' ku E'=>⟨ρ',E',h4,q1.step ku⟩
   |ct ρ'=>exact λσ' H' ku E'=>⟨ρ',E',h4,q1.step ku⟩
   |bk ρ'=>cases h4;exact λσ' H' ku E'=>q1 σ' H' ku E'
   |rt d=>cases h4;exact q1
  |false=>
   rw[ax 0x2];rw[ax 0x2] at h2;cases h2;exact(q.step (.same s)) σ H1 (λa o e n=>⟨e,n⟩) (E.same s)
end
section
theorem aIu(ho:own i=af)(hN:X.N[i]?=ae x)(hv:Vis X.env.scope x)(hnd:X.N.Nodup)(hj:X.N[j]?=ae y)(hy:Loc X.env.scope y)(hoj:own j=ai)(he:PE X e (gE fe re))(hd:nDb x:=by decide)(hcd:nCd x:=by decide)
 (hbase:jb (.Name x p1) "pop" X.env (eval (.Name x p1) X.env)=eval (.Name x p1) X.env:=by rfl)
 (hs1:zSE X e []:=by rfl)
 (hfew:zFw X cpos [e]:=by rfl)
 (hline:(apos.endLine==cpos.line)=af:=by rfl)
 (hs:eB (.Call (.Attribute (.Name x p1) "pop" apos) [e] [] cpos) (ae (.Name y py)) pos.line X.env=pure ai:=by rfl)(hf:zFn X y:=by first|exact .inl rfl|exact .inr rfl|assumption) :
  PS X (.Assign [.Name y py] (.Call (.Attribute (.Name x p1) "pop" apos) [e] [] cpos) pos) (tS own (aF7 i j fe)):=
 PS.imp (LR hnd hj hy (YW mT oh Ai VD (fH hN hv hd hcd) (eQ he j8 hs1) hbase hfew hline hs1 rfl) hs hf) λD' σ H z0=>by
 obtain⟨ρ,fl,E,h,q⟩:=z0;obtain⟨d,h1,h2⟩:=bL h;split at h2
 ·rename_i xs k hx;split at h2
  ·rename_i hk;rw[bc,dE,dE] at hk;split at h2
   ·rename_i dx hdx;cases h2;obtain⟨a,o,hσ,r,hin,ha,hm⟩:=E.ownAt ho (by rw[hx];intro z;cases z);rw[hx] at r hin;obtain⟨vs,hl,rr⟩:=y_ r;obtain⟨v,hvx,rv⟩:=rr.get hdx;refine⟨_,hσ,.inl ⟨rfl,vs,.of hl⟩,ρ,_,E.er,h1,λu H' s ru _=>?_⟩;cases ru.inv;have hlt:k.toNat<vs.length:=(du.mp hvx).1;refine⟨a,vs,k,k.toNat,v,rfl,rfl,s _ _ hl,by lia,by lia,?_,hvx,?_⟩
    ·unfold mf;have h3:¬k<0:=by lia
     have h4:k<vs.length:=by lia
     first
      | (simp only[h3,fF,hk.1,h4,and_self,eI];done)
      | (simp[h3,hk.1,h4];done)
      | (simp[h3,hk.1,h4,hlt])
    ·have E':=E.same s;have hl':=s _ _ hl;have hin':ι xs=af:=hin;have pall:∀y∈xs,y.pure=af:=λy hy=>jR.mp hin' y hy
     have pdx:dx.pure=af:=pall dx (vd hdx);have pe:ι (xs.eraseIdx k.toNat)=af:=jR.mpr λy hy=>pall y (List.mem_of_mem_eraseIdx hy)
     have er:∀{vs:aa V}{ds:aa D}(n:ag),bZ All H' vs ds->bZ All H' (vs.eraseIdx n) (ds.eraseIdx n):=by
      intro vs ds n r;induction n generalizing vs ds with
      |zero=>cases r with
       |nil=>exact .nil
       |cons _ t=>exact t
      |succ n ih=>cases r with
       |nil=>exact .nil
       |cons r t=>exact .cons r (ih t)
     obtain⟨E2,k2⟩:=E'.mut ho hσ rfl (.lst aL trivial ((er k.toNat (rr.same s)).upd pe hl' rfl)) pe;have r1:=(bZ.cons (rv.same s) .nil).upd (o:=.lst (vs.eraseIdx k.toNat)) (by rw[ι,pdx];rfl) hl' rfl;cases r1 with
     |cons r1 _=>
      have E3:=E2.set hoj (r1.bT pdx);exact q _ _ (((KU.same s).trans k2).trans λb ob eb nb=>⟨eb,by rw[jT hoj];exact nb⟩) E3
   ·exact bx h2
  ·exact bx h2
 ·exact bx h2
theorem JH:∀l:aa α,(∀a∈l,f a=g a)->l.filterMap f=l.filterMap g
 |[],_=>rfl
 |a::l,h=>by rw[jt,jt,h a (bo ..),JH l λb hb=>h b (bw _ hb)]
theorem WP:∀its:aa ak,(bz its.length).filterMap (λk=>its[its.length-1-k]?)=its.reverse
 |[]=>rfl
 |a::r=>by
  rw[aS,List.range_succ,List.filterMap_append,gw];have e1:(bz r.length).filterMap (λk=>(a::r)[r.length+1-1-k]?)=(bz r.length).filterMap (λk=>r[r.length-1-k]?):=by
   apply JH;intro k hk;have hk:=hG.mp hk;have:r.length+1-1-k=(r.length-1-k)+1:=by lia
   rw[this,List.getElem?_cons_succ]
  rw[e1,WP r]
  congr 1
  simp
theorem JK(its:aa ak):vk its.toArray aj aj (ae (-1))=its.reverse.toArray:=by
 have hr:sliceRange ((its.length:ah)-1) (-1) (-1)=(bz its.length).map λk=>its.length-1-k:=picked_rev its.length
 have hb:j3 aj aj (ae (-1)) its.toArray.size=(((its.length:ah)-1),-1,-1):=rfl;unfold vk;rw[hb];show((sliceRange ((its.length:ah)-1) (-1) (-1)).filterMap (its.toArray[·]?)).toArray=_;rw[hr,BA,<-WP its];exact di Cr (JH _ λk _=>by simp)
theorem aMy(he:PE X e (gE fe re)):PE X (.Subscript e (.Slice aj aj (ae (.UnaryOp .USub (.Constant (.int 1) j p1) p3)) p2) pos) (gE (b1 aIs fe) af):=by
 rintro Ψ s σ H Q I ⟨ρ,d,E,h,q⟩;obtain⟨x,h1,h2⟩:=bL h;refine yB (thn (he Ψ s σ H (λv H1=>cZ H H1/\Rep All H1 v x) I ⟨ρ,x,E,h1,λv H1 s1 r1 _=>⟨s1,r1⟩⟩) λv s1 ⟨xv,H1,I1,r1,sm,rx⟩=>?_);refine BB ?_;rw[yA];refine aI (aI ?_);refine thn (aAl (aMa aGp aF) Ψ s1 σ H1 (λst H2=>st=ae (-1)/\cZ H1 H2) I1 ⟨ρ,.int (-1),E.same sm,rfl,λv H2 s2 r2 _=>by cases r2.inv;exact⟨-1,rfl,rfl,s2⟩⟩) λvs s2 ⟨st,H2,I2,ps,est,sm2⟩=>?_
 subst est;have I4:Inv X Ψ σ H2 {s2 with heap:=s2.heap.push {cls:=.type "slice",data:=.fields #[.none,.none,vs]}}:=I2.kept λb ob q=>br _ q
 unfold aIs at h2;split at h2
 ·rename_i ds;split at h2
  ·rename_i hp;cases h2;obtain⟨l,xs,rfl,hl,rr⟩:=(rx.same sm2).mK;cases r1;obtain⟨its,r,ht,hz⟩:=I4.list hl;have hlen:=r.length;refine yT ht.isList.typeIs za.lookup ?_ 0x5;refine BG ht.isList (BC ..) .none .none ps 0x2 ?_ (by rw[cm]<;>lia);rw[JK];refine⟨.ref _,_,I4.laid (o:=.lst xs.reverse) (λb ob q=>br _ q) (ba _) ⟨by rw[li];exact hz,_,0,r.reverse,cx _ rfl⟩,rfl,?_⟩;have hfr:H2 (s2.heap.push {cls:=.type "slice",data:=.fields #[.none,.none,vs]}).objs.size=aj:=I4.hok.fresh (ba _);have sp:=cZ.upd (o:=.lst xs.reverse) hfr;have rev:∀{P:am->Prop}{vs:aa V}{ds:aa D},bZ P H2 vs ds->bZ P H2 vs.reverse ds.reverse:=by
    intro P vs ds r;induction vs generalizing ds with
    |nil=>cases r;exact .nil
    |cons v vs ih=>cases r with
     |cons r t=>
      rw[gw,gw];exact(ih t).snoc r
   refine q _ _ ((sm.trans sm2).trans sp) (.lst aL trivial ((rev rr).same sp)) λ_=>.lst aL ?_ ((rev (rr.bT hp)).same sp)
   exact(sm.trans sm2).free hfr
  ·exact bx h2
 ·exact bx h2
end
def Itk(a:am)(o:bg)(u:HO)(kvs:aa (Key×V)):It where
 go:=λi H=>H a=ae (.frz o u)/\∃p,kvs[i]?=ae p
 yld:=λi H x H'=>H'=H/\∃p,kvs[i]?=ae p/\x=kV p.1
 stop:=λi H=>H a=ae (.frz o u)/\kvs.length<=i
theorem aMz(h:(cC P w).is k v=af):RelV (kV k) v:=by
 have h:Q_ k v=af:=h;rcases dM h with ⟨i,t,rfl,rfl⟩|⟨x,t,rfl,rfl⟩
 ·exact⟨t,rfl⟩
 ·exact⟨t,rfl⟩
theorem aC4{K:bj}{o:bg}{u:HO}{kvs:aa (Key×V)}{vs:aa (Key×ak)}{ep:ag}(hd:∀h:ay,h.get? a=ae o->h.DictAt (cC P w) a vs ep)(rel:KV kvs vs) :
  Turn P w K tg (Itk a o u kvs) [it] it (λi h=>h.IsKeyIter it a i vs.length ep) where
 mem:=by simp
 obj:=λi h st b hb=>by
  have e:b=it:=by simpa using hb
  subst e;obtain⟨o,e,c,d⟩:=st;exact⟨o,e,λv z=>by rw[d] at z;cases z⟩
 keep:=λi h h' st k=>st.at λo e=>k it 0x2 o e
 item:=by
  intro X hP hw hK hc i Ψ s σ H E I hf st hg;subst hP hw hK;obtain⟨ea,⟨k,x⟩,hx⟩:=hg;obtain⟨px,_⟩:=I.hok a _ ea;obtain⟨v,hv,rv⟩:=aGw rel hx;obtain⟨f0,f1,f2,f3,f4,f5⟩:=hf it 0x2;refine wpAny_pyNext_dict_item st (hd _ px) hv λkey h' hk st' sb=>?_
  have I1:Inv X Ψ σ H {s with heap:=h'}:=I.turned (λb o hb e=>(sb.2 b hb).trans e) f0 f1 f3 f4 f5;obtain⟨o',e,c,d⟩:=id st';exact⟨key,rfl,YG e c d 0x4 ⟨kV k,H,I1,aMz hk,⟨rfl,_,hx,rfl⟩,st',λb hb=>(hf b hb).1⟩⟩
 done:=by
  intro X hP hw hK hc i Ψ s σ H E I hf st hg;subst hP hw hK;obtain⟨ea,hx⟩:=hg;obtain⟨px,_⟩:=I.hok a _ ea;obtain⟨f0,f1,f2,f3,f4,f5⟩:=hf it 0x2;have hl:kvs.length=vs.length:=jr rel;exact wpAny_pyNext_dict_end (I.ok.hd hc) st (hd _ px) (List.getElem?_eq_none_iff.mpr 0x1) λh' eb=>⟨rfl,I.turned (λb o hb e=>eb b o hb e) f0 f1 f3 f4 f5⟩
 self:=λ_ _ _ _ _ st h=>C4 st h
section
variable {a:am}
theorem aF8(I:Inv X Ψ σ H s)(e:H a=ae (.frz o u))(hn:∀o u,X.H₀ a≠ae (.frz o u)):Inv X Ψ σ (upd H a u) s:=by
 have ne:∀b,H b=aj->b≠a:=λb h z=>by subst z;rw[e] at h;cases h
 have keepT:∀b xs,H b=ae (.tup xs)->upd H a u b=ae (.tup xs):=λb xs h=>by
  rw[bF (λz=>by subst z;rw[e] at h;cases h)];exact h
 have keepO:∀b x,H b=ae (.own x)->upd H a u b=ae (.own x):=λb x h=>by
  rw[bF (λz=>by subst z;rw[e] at h;cases h)];exact h
 refine⟨I.ok,I.os,I.bare,⟨I.base.keep,I.base.slot,λb o h1 h2 h3=>?_,I.base.there,λb xs h=>?_,λb o' u' h=>?_,λb ps h=>?_⟩,I.loc,I.cell,?_,λx c h=>?_,λp hp=>?_,λb ob h=>?_,I.len⟩
 ·have:=I.base.free b o h1 h2 h3;rw[bF (ne b this)];exact this
 ·exact keepT b xs (I.base.tups b xs h)
 ·have:=I.base.frzs b o' u' h;rw[bF (λz=>by subst z;exact hn _ _ h)];exact this
 ·obtain⟨more,h1⟩:=I.base.tbls b ps h;refine⟨more,?_⟩;rw[bF (λz=>by subst z;rw[e] at h1;cases h1)];exact h1
 ·rw[bF (ne _ I.free)];exact I.free
 ·have:=I.freeC x c h;rw[bF (ne _ this)];exact this
 ·obtain⟨h1,h2,h3⟩:=I.pin p hp;exact⟨h1,by rw[bF (ne _ h2)];exact h2,h3⟩
 ·by_cases hb:b=a
  ·subst hb;rw[aL] at h;cases h;obtain⟨_,h2⟩:=I.hok b _ e;exact h2.stay (λ_ _ _ q=>q) (λc hc=>keepO c b hc) keepT
  ·rw[bF hb] at h;exact(I.hok b _ h).stay (λ_ _ _ q=>q) (λc hc=>keepO c b hc) keepT
theorem aF9(I:Inv X Ψ σ H s)(hu:DV H a kvs):∀o u,X.H₀ a≠ae (.frz o u):=λo u h=>by
 have:=I.base.frzs a o u h;rcases hu with h|⟨_,h⟩<;>(rw[h] at this;cases this)
theorem aIv{i:ag}{np:bX}(hN:X.N[i]?=ae x)(hv:Vis X.env.scope x)(hd:nDb x:=by decide)(hcd:nCd x:=by decide) :
  PI X tg (.Name x np) (λσ H R=>∃a kvs u,σ[i]?=ae (ae (.ref a))/\DV H a kvs/\H a=ae u/\∀o,R (Itk a o u kvs) (upd H a (.frz o u))):=by
 rintro Ψ s σ H R I ⟨a,kvs,u,hσ,hu,hua,q⟩;refine thn (fH hN hv hd hcd Ψ s σ H (λv H1=>v=.ref a/\H1=H) I ⟨_,hσ,rfl,rfl⟩) λv s1 ⟨w,H1,I1,r1,e1,e2⟩=>?_
 subst e1 e2;cases r1;obtain⟨z,hs,vs,rel,dd⟩:=aC2 I1 hu;obtain⟨ep,da⟩:=dd.dictAt;obtain⟨o,es,ho,r⟩:=id da;have hda:∀h:ay,h.get? a=ae o->h.DictAt (cC X.prog X.w) a vs ep:=λh e=>⟨o,es,e,r⟩
 obtain⟨u',hu2,fu⟩:=aMs I1 hu ho;rw[hua] at hu2;cases hu2;have If:Inv X Ψ σ (upd H1 a (.frz o u)) s1:=I1.write (aMr hu) (.inl rfl) (λ_ _ _ q=>q) ⟨o,ho⟩ ⟨ho,fu _ _ ho⟩;refine wpAny_pyIter_dict hs da ?_;have I2:Inv X Ψ σ (upd H1 a (.frz o u)) {s1 with heap:=s1.heap.push {cls:=.type "dict_keyiterator",data:=.fields #[.ref a,.int 0 0,.int vs.length 0,.int ep 0]}}:=If.kept λb o e=>br _ e
 refine⟨s1.heap.objs.size,[s1.heap.objs.size],λi h=>h.IsKeyIter s1.heap.objs.size a i vs.length ep,Itk a o u kvs,_,rfl,I2,aC4 hda rel,⟨_,cx _ rfl,rfl,rfl⟩,λb hb=>?_,q o⟩;have e:b=s1.heap.objs.size:=by simpa using hb
 subst e;exact If.aGe (ba _) (If.hok.fresh (ba _))
end
theorem aN0(r:Rep P H (.ref a) (.dct ds))(hua:H a=ae u)(hp:ι (ds.map (·.2))=af):Rep P' (upd H a (.frz o u)) (.ref a) (.fdc ds):=by
 have hna:∀ob,H a=ae ob->aE4 ob=af:=λxs z=>by
  cases r with
  |dK e _ _ _=>rw[e] at z;cases z;rfl
  |dT e _ _ _=>rw[e] at z;cases z;rfl
 have goK:∀{kvs:aa (Key×V)}{ds:aa (D×D)},j5 P H kvs ds->ι (ds.map (·.2))=af->j5 P' (upd H a (.frz o u)) kvs ds:=by
  intro kvs ds r;induction kvs generalizing ds with
  |nil=>cases r;intro _;exact .nil
  |cons p kvs ih=>cases r with
   |cons r t=>
    intro h;rw[bu,ι,bc] at h;exact .cons ((JG hna r h.1).bT h.1) (ih t h.2)
 have goT:∀{kvs:aa (aa Key×V)}{ds:aa (D×D)},sZ P H kvs ds->ι (ds.map (·.2))=af->sZ P' (upd H a (.frz o u)) kvs ds:=by
  intro kvs ds r;induction kvs generalizing ds with
  |nil=>cases r;intro _;exact .nil
  |cons p kvs ih=>cases r with
   |cons r t=>
    intro h;rw[bu,ι,bc] at h;exact .cons ((JG hna r h.1).bT h.1) (ih t h.2)
 cases r with
 |dK e _ r n=>rw[e] at hua;cases hua;exact .fdK aL (goK r hp) n
 |dT e _ r n=>rw[e] at hua;cases hua;exact .fdT aL (goT r hp) n
theorem aPt(r:Rep P H v (.dct ds))(hb:ds.all (λp=>!isTup p.1)=af):∃a kvs u,v=.ref a/\DV H a kvs/\H a=ae u/\Y8 u=af/\∀{P'},∀H',bZ P' H' (kvs.map λp=>kV p.1) (mJ ds):=by
 cases r with
 |dK e _ rk _=>
  refine⟨_,_,_,rfl,.inl e,e,rfl,λ{P'} H'=>?_⟩;clear e;rename_i n;clear n;have go:∀{kvs:aa (Key×V)}{ds:aa (D×D)},j5 P H kvs ds->bZ P' H' (kvs.map λp=>kV p.1) (mJ ds):=by
   intro kvs ds r;induction kvs generalizing ds with
   |nil=>cases r;exact .nil
   |cons p kvs ih=>cases r with
    |@cons k v d r ds h t=>exact .cons (by cases k<;>first|exact .int _|exact .str _) (ih t)
  exact go rk
 |dT e _ rt _=>
  cases rt with
  |nil=>exact⟨_,[],_,rfl,.inr ⟨rfl,e⟩,e,rfl,λH'=>.nil⟩
  |cons r t=>simp[isTup] at hb
end
variable [KFrag]
theorem aFa{ρ:aa D}{f:D->D}(h:f .uD=.uD)(j:ag):(ρ.map f).getD j .uD=f (ρ.getD j .uD):=by
 rw[ef,ef,io];cases ρ[j]? with
 |none=>exact h.symm
 |some d=>rfl
theorem aPu(E:ER H σ ρ)(hσ:σ[i]?=ae (ae (.ref a)))(r:Rep All H (.ref a) (.dct ds))(hua:H a=ae u)(hmu:Y8 u=af)(hp:ι (ds.map (·.2))=af):ER (upd H a (.frz o u)) σ (fzD i ds ρ):=by
 have hna:∀ob,H a=ae ob->aE4 ob=af:=λxs z=>by rw[hua] at z;cases z;cases u<;>first|rfl|cases hmu
 intro j hj;unfold fzD at hj ⊢;rw[eE] at hj ⊢;by_cases h:i=j/\i<(ρ.map λd=>if d.pure then d else .uD).length
 ·rw[av h];obtain⟨rfl,_⟩:=h;exact⟨_,hσ,aN0 r hua hp⟩
 ·rw[ax h] at hj ⊢;rw[aFa 0x3] at hj ⊢;by_cases hpu:(ρ.getD j .uD).pure=af
  ·rw[av hpu] at hj ⊢;obtain⟨v,h1,h2⟩:=E j hj;exact⟨v,h1,JG hna h2 hpu⟩
  ·rw[ax hpu] at hj;exact bf rfl hj
section
variable {x c y:Str}
theorem aFb(S:c7 X.N X.env.scope scope [c])(hn:X.N.length=n)(hcalm:X.calm=af)(hN:X.N[i]?=ae x)(hv:Vis X.env.scope x)(hg:∀y,PG (mkC X scope [c] y) (.Name c cpos) (xG n))(hc:∀y,PT (mkC X scope [c] y) cnd (gT gc))(he:∀y,PE (mkC X scope [c] y) elt (gE fe re))
 (hs:∀z,e6 (.Name x np) X.env z=pure z)(ho:own iy=o)(hNn:X.N.Nodup)(hiy:X.N[iy]?=ae y)(hxy:Loc X.env.scope y)(hfy:zFn X y)(hsw:eB (.ListComp elt [⟨.Name c cpos,.Name x np,[cnd],0⟩] scope pos) (ae (.Name y py)) pos2.line X.env=pure af)
 (hd:nDb x:=by decide)(hcd:nCd x:=by decide) :
  PS X (.Assign [.Name y py] (.ListComp elt [⟨.Name c cpos,.Name x np,[cnd],0⟩] scope pos) pos2) (tS own (bW o iy (aC3 n i lM gc fe) af)):=by
 intro Ψ s σ H Dn I h;obtain⟨ρ,d,E,hcomp,q⟩:=yZ ho h;obtain⟨d0,h1,h2⟩:=bL hcomp;obtain⟨v,hσ,r,ed⟩:=E.var h1;split at h2
 ·rename_i ds;split at h2
  ·rename_i hb;rw[bc,bc] at hb;obtain⟨ys,h3,h4⟩:=bL h2;cases h4;obtain⟨a,kvs,u,rfl,hu,hua,hmu,rk⟩:=aPt r hb.2.1;have hlen:kvs.length=(mJ ds).length:=by have:=(rk (P':=All) H).length;simpa using this
   have hlim:(mJ ds).length<=lim:=by unfold mJ;rw[az];exact fg hb.1
   have hno:=aF9 I hu;have hσl:σ.length=n:=I.len.trans hn;have tg:=fW n;refine thn (N6 S hcalm (aIv hN hv hd hcd) (λX' cc=>by obtain⟨y,rfl⟩:=lU cc;exact hg y) (λX' cc=>by obtain⟨y,rfl⟩:=lU cc;exact hc y) (λX' cc=>by obtain⟨y,rfl⟩:=lU cc;exact he y) hs hNn hiy hxy hfy hsw Ψ s σ H
    {Dn with nx:=λσ' H'=>∃o,H' a=ae (.frz o u)/\Dn.nx σ' (upd H' a u)} I ⟨a,kvs,u,hσ,hu,hua,λo p hp=>?_⟩) λf s' hq=>?_
   ·have hpa:p≠a:=λz=>by subst z;rw[aL] at hp;cases hp
    have hp0:H p=aj:=by rw[bF hpa] at hp;exact hp
    have EF:ER (upd H a (.frz o u)) σ (fzD i ds ρ):=aPu E hσ r hua hmu hb.2.2;refine⟨λi' n' vs H'=>n'=kvs.length-i'/\i'<=kvs.length/\H' p=ae (.lst vs)/\cZ (upd H a (.frz o u)) H'/\∃acc,acc.length<=i'/\ι acc=af/\bZ All H' vs acc/\gD (iH n lM gc fe ai (fzD i ds ρ)) acc ((mJ ds).drop i')=.ok ys,⟨kvs.length,rfl,cq _,aL,cZ.upd hp,[],cq _,rfl,.nil,h3⟩,?_⟩;rintro i' n' vs H' ⟨rfl,hi,hH,sm,acc,hal,pacc,racc,hf⟩;have ea:H' a=ae (.frz o u):=sm a _ aL;refine⟨hH,?_⟩;rcases ou i' kvs.length with hlt|hge
    ·refine .inr ⟨⟨ea,_,ff hlt⟩,?_,λx H2 hy=>?_⟩
     ·rw[racc.length];exact Ae hal (c_ (hlen▸hlt) (dj hlim (by rw[dk];decide)))
     ·obtain⟨rfl,pr,hx,rfl⟩:=hy;have hlt2:i'<(mJ ds).length:=hlen▸hlt;obtain⟨dx,hdx,rx⟩:=(rk H2).at (i:=i') (v:=kV pr.1) (by simp[hx]);have edx:(mJ ds)[i']=dx:=by
       have:=ff hlt2;rw[hdx] at this;exact(c9 this).symm
      rw[mP hlt2,edx] at hf;obtain⟨acc2,hs,hf⟩:=bL hf;obtain⟨bs,hbs,hs⟩:=bL hs;obtain⟨ok,hok,hs⟩:=bL hs;refine tg (kV pr.1) dx bs σ H2 _ hσl rx hbs λσ2 hx2 hbs2=>⟨hx2,?_⟩
      have E2:ER H2 σ2 (RW n (fzD i ds ρ)++bs):=(EF.same sm).ext hσl hx2 hbs2;refine⟨_,ok,E2,hok,λH4 s4=>?_⟩;cases ok with
      |true=>
       rw[av rfl];rw[av rfl] at hs;obtain⟨yy,hy2,hs⟩:=bL hs;split at hs
       ·rename_i hk;cases hs;have py:yy.pure=af:=by simpa using hk
        refine⟨_,yy,E2.same s4,hy2,λw H5 s5 r5 n5=>⟨s5 p _ (s4 p _ hH),kvs.length-(i'+1),by lia,rfl,hlt,aL,?_,acc++[yy],?_,v6 pacc py,?_,hf⟩⟩
        ·exact λb ob e=>by
          rw[bF (cD e hp)];exact s5 b ob (s4 b ob (sm b ob e))
        ·rw[bp,zg];lia
        ·have hp5:H5 p=ae (.lst vs):=s5 p _ (s4 p _ hH);have hpn:∀ob,H5 p=ae ob->aE4 ob=af:=λxs z=>by rw[hp5] at z;cases z;rfl
         exact O3 hpn ((racc.same (s4.trans s5)).snoc r5) (v6 pacc py)
       ·exact bx hs
      |false=>
       rw[ax 0x2];rw[ax 0x2] at hs;cases hs;exact⟨kvs.length-(i'+1),by lia,rfl,hlt,s4 p _ hH,sm.trans s4,acc,by lia,pacc,racc.same s4,hf⟩
    ·refine .inl ⟨⟨ea,hge⟩,o,ea,?_⟩;rw[mS 0x1] at hf;cases hf;have hna:∀ob,H' a=ae ob->aE4 ob=af:=λxs z=>by rw[ea] at z;cases z;rcases hu with h|⟨_,h⟩<;>(rw[hua] at h;cases h;rfl)
     have sF:cZ H (upd H' a u):=λb ob e=>by
      by_cases hba:b=a
      ·subst hba;rw[aL,<-hua];exact e
      ·rw[bF hba];exact sm b ob (by rw[bF hba];exact e)
     have hpF:upd H' a u p=ae (.lst vs):=by rw[bF hpa];exact hH
     have rF:∀{P:am->Prop},bZ P (upd H' a u) vs ys:=λ{P}=>(O3 hna racc pacc).bT pacc
     exact q _ _ sF (.lst hpF trivial rF) λ_=>.lst hpF hp0 rF
   ·cases f with
    |next=>
     obtain⟨σ',H',I',o,ea,q'⟩:=hq;exact⟨σ',_,aF8 I' ea hno,q'⟩
    |brk=>exact hq
    |cont=>exact hq
    |ret u=>exact hq
  ·exact bx h2
 ·exact bx h2
end
end Mi
namespace Wz
open PySem PySem.Spec
noncomputable abbrev itO(t:am)(i:ag):bg:={cls:=.type "tuple_iterator",data:=.fields #[.ref t,.int i 0]}
noncomputable abbrev tuO(xs:aE ak)(n:ag)(dd:aq am)(sl:aE (aq ak)):bg:={cls:=.type "tuple",dict:=dd,data:=.seq xs n,slots:=sl}
abbrev zpO(f0 f1:ak)(TI TO:am):bg:={cls:=.type "zip",data:=.fields #[f0,f1,.bool ai,.ref TI,.ref TO]}
noncomputable abbrev prO(a b:ak):bg:={cls:=.type "tuple",data:=.seq #[a,b]}
theorem ZG(it t:am)(i:ag)(xs:aE ak)(n:ag)(dd:aq am)(sl:aE (aq ak))(x:ak)(hx:xs[i]?=ae x) :
  ji (cz.«tuple_iterator.__next__» ⟨[.ref it],[]⟩) (λ_ R s=>s.heap.get? it=ae (itO t i)/\s.heap.get? t=ae (tuO xs n dd sl)/\R (.ok (.ret x)) {s with heap:=s.heap.update it (gn (·.setIfInBounds 1 (cw (i+1))))}):=.of_wp λprog w A R s hs=>by
 obtain⟨hp,g,d,tk,os⟩:=s;obtain⟨e1,e2,hq⟩:=hs
 wp_walk
 rw[nj,hx]
 wp_walk
 exact⟨_,rfl,hq⟩
theorem ZJ(it t:am)(i:ag)(xs:aE ak)(n:ag)(dd:aq am)(sl:aE (aq ak))(hx:xs[i]?=aj) :
  ji (cz.«tuple_iterator.__next__» ⟨[.ref it],[]⟩) (λA R s=>A.handled=aj/\s.heap.get? it=ae (itO t i)/\s.heap.get? t=ae (tuO xs n dd sl)/\∀h' e,oS it s.heap h'->(∃o,h'.get? e=ae o/\o.cls=.type "StopIteration")->R (.error (.ref e)) {s with heap:=h'}):=.of_wp λprog w A R s hs=>by
 obtain⟨hp,g,d,tk,os⟩:=s;obtain⟨hh,e1,e2,hq⟩:=hs
 wp_walk
 rw[nj,hx]
 wp_walk
 have hh1:A.in1.handled=aj:=hh;unfold rc
 wp_walk
 exact hq _ _ (((lj ..).extBut.push _).push _) ⟨_,cx _ rfl,rfl⟩
section
variable {prog:bh} {w:bd} {A:bS} {E:ak->ar->Prop} {s:ar} {it t:am} {i:ag} {xs:aE ak} {x:ak} {n:ag} {dd:aq am} {sl:aE (aq ak)}
theorem drawn{Q:ak->ar->Prop}(e1:s.heap.get? it=ae (itO t i))(e2:s.heap.get? t=ae (tuO xs n dd sl))(hx:xs[i]?=ae x)
 (q:∀h',h'.get? it=ae (itO t (i+1))->fS it s.heap h'->Q x {s with heap:=h'}):ϑ (aw prog w) A (ll (.ref it)) Q E s:=by
 have ty:s.TypeIs (.ref it) "tuple_iterator":=⟨_,e1,rfl⟩
 refine ao (i9 ty wv ?_);refine jd wv ty C5 (C6 _) (ZG it t i xs n dd sl x hx) ⟨e1,e2,aI (q _ ?_ (lj ..))⟩;exact gL _ e1 rfl
theorem over{Q:ak->ar->Prop}(hh:A.handled=aj)(e1:s.heap.get? it=ae (itO t i))(e2:s.heap.get? t=ae (tuO xs n dd sl))(hx:xs[i]?=aj)
 (q:∀h' e,oS it s.heap h'->(∃o,h'.get? e=ae o/\o.cls=.type "StopIteration")->E (.ref e) {s with heap:=h'}):ϑ (aw prog w) A (ll (.ref it)) Q E s:=by
 have ty:s.TypeIs (.ref it) "tuple_iterator":=⟨_,e1,rfl⟩
 refine ao (i9 ty wv ?_);exact jd wv ty C5 (C6 _) (ZJ it t i xs n dd sl hx) ⟨hh,e1,e2,λh' e k o=>q h' e k o⟩
end
structure Apart(z TI TO i1 i2 l1 l2:am):Prop where
 zTI:z≠TI
 zTO:z≠TO
 z1:z≠i1
 z2:z≠i2
 zl:z≠l1
 zm:z≠l2
 TT:TI≠TO
 T1:TI≠i1
 T2:TI≠i2
 O1:TO≠i1
 O2:TO≠i2
 Ol:TO≠l1
 Om:TO≠l2
 ij:i1≠i2
 il:i1≠l1
 im:i1≠l2
 jl:i2≠l1
 jm:i2≠l2
structure W(z TI TO i1 i2 l1 l2:am)(o1 o2:bg)(f0 f1 a b:ak)(k1 k2:ag)(h:ay):Prop where
 z_:h.get? z=ae (zpO f0 f1 TI TO)
 ti:h.get? TI=ae (prO (.ref i1) (.ref i2))
 to:h.get? TO=ae (prO a b)
 j1:h.get? i1=ae (itO l1 k1)
 j2:h.get? i2=ae (itO l2 k2)
 t1:h.get? l1=ae o1
 t2:h.get? l2=ae o2
section
variable {z TI TO i1 i2 l1 l2:am} {o1 o2:bg} {f0 f1 g0 g1 a b c d:ak} {k1 k2:ag} {h h':ay}
theorem W.onZ(x:W z TI TO i1 i2 l1 l2 o1 o2 f0 f1 a b k1 k2 h)(ap:Apart z TI TO i1 i2 l1 l2)(e:h'.get? z=ae (zpO g0 g1 TI TO))(k:fS z h h'):W z TI TO i1 i2 l1 l2 o1 o2 g0 g1 a b k1 k2 h':=
 ⟨e,(k.2 _ ap.zTI.symm).trans x.ti,(k.2 _ ap.zTO.symm).trans x.to,(k.2 _ ap.z1.symm).trans x.j1,(k.2 _ ap.z2.symm).trans x.j2,(k.2 _ ap.zl.symm).trans x.t1,(k.2 _ ap.zm.symm).trans x.t2⟩
theorem W.onT(x:W z TI TO i1 i2 l1 l2 o1 o2 f0 f1 a b k1 k2 h)(ap:Apart z TI TO i1 i2 l1 l2)(e:h'.get? TO=ae (prO c d))(k:fS TO h h'):W z TI TO i1 i2 l1 l2 o1 o2 f0 f1 c d k1 k2 h':=
 ⟨(k.2 _ ap.zTO).trans x.z_,(k.2 _ ap.TT).trans x.ti,e,(k.2 _ ap.O1.symm).trans x.j1,(k.2 _ ap.O2.symm).trans x.j2,(k.2 _ ap.Ol.symm).trans x.t1,(k.2 _ ap.Om.symm).trans x.t2⟩
theorem W.on1{k:ag}(x:W z TI TO i1 i2 l1 l2 o1 o2 f0 f1 a b k1 k2 h)(ap:Apart z TI TO i1 i2 l1 l2)(e:h'.get? i1=ae (itO l1 k))(s:fS i1 h h'):W z TI TO i1 i2 l1 l2 o1 o2 f0 f1 a b k k2 h':=
 ⟨(s.2 _ ap.z1).trans x.z_,(s.2 _ ap.T1).trans x.ti,(s.2 _ ap.O1).trans x.to,e,(s.2 _ ap.ij.symm).trans x.j2,(s.2 _ ap.il.symm).trans x.t1,(s.2 _ ap.im.symm).trans x.t2⟩
theorem W.on2{k:ag}(x:W z TI TO i1 i2 l1 l2 o1 o2 f0 f1 a b k1 k2 h)(ap:Apart z TI TO i1 i2 l1 l2)(e:h'.get? i2=ae (itO l2 k))(s:fS i2 h h'):W z TI TO i1 i2 l1 l2 o1 o2 f0 f1 a b k1 k h':=
 ⟨(s.2 _ ap.z2).trans x.z_,(s.2 _ ap.T2).trans x.ti,(s.2 _ ap.O2).trans x.to,(s.2 _ ap.ij).trans x.j1,e,(s.2 _ ap.jl.symm).trans x.t1,(s.2 _ ap.jm.symm).trans x.t2⟩
theorem W.up(x:W z TI TO i1 i2 l1 l2 o1 o2 f0 f1 a b k1 k2 h)(k:∀c o,c=z\/c=TI\/c=TO\/c=i1\/c=i2\/c=l1\/c=l2->h.get? c=ae o->h'.get? c=ae o):W z TI TO i1 i2 l1 l2 o1 o2 f0 f1 a b k1 k2 h':=
 ⟨k _ _ 0x2 x.z_,k _ _ 0x2 x.ti,k _ _ 0x2 x.to,k _ _ 0x2 x.j1,k _ _ 0x2 x.j2,k _ _ 0x2 x.t1,k _ _ 0x2 x.t2⟩
end
def aFc(z TO i1 i2:am)(h h':ay):Prop:=∀c o,c≠z->c≠TO->c≠i1->c≠i2->h.get? c=ae o->h'.get? c=ae o
section
variable {s:ar} {z TI TO i1 i2 l1 l2:am} {f0 f1 a b:ak}
theorem W.ty{o1 o2:bg}{k1 k2:ag}(hw:W z TI TO i1 i2 l1 l2 o1 o2 f0 f1 a b k1 k2 s.heap):s.TypeIs (.ref z) "zip":=⟨_,hw.z_,rfl⟩
end
noncomputable abbrev nxt(z:am):Sem C7:=cz.«zip.__next__» ⟨[.ref z],[]⟩
abbrev Got(Q:ak->ar->Prop):C7->ar->Prop:=λr t=>∃v,r=.done (.ret v)/\Q v t
section
theorem there(e:s.heap.get? c=ae o)(q:Q (ae o) s):ϑ (aw prog w) A (loadIfAlive c) Q E s:=λΓ p _=>by
 show Sem.wp _ Γ (.loadIfAlive c pure) _ _ p s;rw[Sem.wp_loadIfAlive,e];exact q
theorem keptAt(j:ag)(v c d:ak)(hw:W z TI TO i1 i2 l1 l2 o1 o2 f0 f1 a b k1 k2 s.heap)(ap:Apart z TI TO i1 i2 l1 l2)(hj:(#[a,b]:aE ak).setIfInBounds j v=#[c,d])
 (q:∀h',W z TI TO i1 i2 l1 l2 o1 o2 f0 f1 c d k1 k2 h'->fS TO s.heap h'->Q () {s with heap:=h'}):ϑ (aw prog w) A (wx TO (·.setIfInBounds j v)) Q E s:=
 wpAny_updateSeq_pair hw.to λh' e sb=>q h' (hw.onT ap (by rw[e,hj]) sb) sb
theorem first(ap:Apart z TI TO i1 i2 l1 l2)(hw:W z TI TO i1 i2 l1 l2 (tuO xs n1 d1 s1) (tuO ys n2 d2 s2) .none (.bool ai) a b k k s.heap)(hx:xs[k]?=ae x)(hy:ys[k]?=ae y)
 (q:∀(h':ay) (p:am),W z TI TO i1 i2 l1 l2 (tuO xs n1 d1 s1) (tuO ys n2 d2 s2) (cw p) (.bool ai) x y (k+1) (k+1) h'->h'.get? p=ae (prO x y)->p=s.heap.objs.size->aFc z TO i1 i2 s.heap h'->Q (.ref p) {s with heap:=h'}) :
  ϑ (aw prog w) A (nxt z) (Got Q) E s:=by
 refine ao (m:=wy (.ref z) 2) (dh hw.z_ rfl rfl (ao (dh hw.z_ rfl rfl (ao (iS hw.ti rfl ?_)))));refine ao (ao (dh hw.z_ rfl (x:=.none) rfl (aI ?_)));rw[av rfl];refine ao (jw (ao (dh hw.z_ rfl (x:=.ref TO) rfl (ao (nq hw.z_ 0x2 λh1 e1 k1=>?_)))));have w1:W z TI TO i1 i2 l1 l2 (tuO xs n1 d1 s1) (tuO ys n2 d2 s2) .ellipsis (.bool ai) a b k k h1:=hw.onZ ap e1 k1;simp only[Aj,C8,om,k6];refine ao (ao (ao (Ak (ao (m:=ll (.ref i1)) (drawn w1.j1 w1.t1 hx λh2 e2 k2=>aI ?_)))));have w2:=w1.on1 ap e2 k2;refine ao (iS w2.to rfl (ao (keptAt 0 x x b w2 ap rfl λh3 w3 k3=>ao (Al (aI ?_)))));refine ao (ao (Ak (ao (m:=ll (.ref i2)) (drawn w3.j2 w3.t2 hy λh4 e4 k4=>aI ?_))));have w4:=w3.on2 ap e4 k4;refine ao (iS w4.to rfl (ao (keptAt 1 y x y w4 ap rfl λh5 w5 k5=>ao (Al (aI (aI ?_))))));have sd:aFc z TO i1 i2 s.heap h5:=λc o c1 c2 c3 c4 e=>(k5.2 c c2).trans ((k4.2 c c4).trans ((k3.2 c c2).trans ((k2.2 c c3).trans ((k1.2 c c1).trans e))))
 have sz:h5.objs.size=s.heap.objs.size:=by rw[k5.1,k4.1,k3.1,k2.1,k1.1]
 refine ao (iS w5.to rfl (ao (zC ?_)));have w6:W z TI TO i1 i2 l1 l2 (tuO xs n1 d1 s1) (tuO ys n2 d2 s2) .ellipsis (.bool ai) x y (k+1) (k+1) (h5.push (prO x y)):=w5.up λc o _ e=>br _ e
 refine ao (m:=EI (.ref z) (.ref h5.objs.size)) (ao (nq w6.z_ 0x2 λh7 e7 k7=>?_));have w7:W z TI TO i1 i2 l1 l2 (tuO xs n1 d1 s1) (tuO ys n2 d2 s2) (cw h5.objs.size) (.bool ai) x y (k+1) (k+1) h7:=w6.onZ ap e7 k7;refine nq w7.z_ 0x2 λh8 e8 k8=>aI ⟨_,rfl,?_⟩
 have w8:W z TI TO i1 i2 l1 l2 (tuO xs n1 d1 s1) (tuO ys n2 d2 s2) (cw h5.objs.size) (.bool ai) x y (k+1) (k+1) h8:=w7.onZ ap e8 k8;have nz:h5.objs.size≠z:=gS (bn w5.z_);exact q h8 _ w8 ((k8.2 _ nz).trans ((k7.2 _ nz).trans (cx _ rfl))) sz λc o c1 c2 c3 c4 e=>(k8.2 c c1).trans ((k7.2 c c1).trans (br _ (sd c o c1 c2 c3 c4 e)))
theorem aFd(hh:A.handled=aj)(ap:Apart z TI TO i1 i2 l1 l2)(hw:W z TI TO i1 i2 l1 l2 (tuO xs n1 d1 s1) (tuO ys n2 d2 s2) .none (.bool ai) a b k k s.heap)(hx:xs[k]?=aj)
 (q:∀h' e,aFc z TO i1 i2 s.heap h'->(∃o,h'.get? e=ae o/\o.cls=.type "StopIteration")->E (.ref e) {s with heap:=h'}) :
  ϑ (aw prog w) A (nxt z) Q E s:=by
 refine ao (m:=wy (.ref z) 2) (dh hw.z_ rfl rfl (ao (dh hw.z_ rfl rfl (ao (iS hw.ti rfl ?_)))));refine ao (m:=Am (.ref z)) (ao (dh hw.z_ rfl (x:=.none) rfl (aI ?_)));rw[av rfl];refine ao (jw (ao (dh hw.z_ rfl (x:=.ref TO) rfl (ao (nq hw.z_ 0x2 λh1 e1 k1=>?_)))));have w1:W z TI TO i1 i2 l1 l2 (tuO xs n1 d1 s1) (tuO ys n2 d2 s2) .ellipsis (.bool ai) a b k k h1:=hw.onZ ap e1 k1;simp only[Aj,C8,om,k6];refine ao (ao (ao (Ak (ao (m:=ll (.ref i1)) (over hh w1.j1 w1.t1 hx λh2 e k2 he=>?_)))));obtain⟨oe,he,hc⟩:=he;have ez:h2.get? z=ae (zpO .ellipsis (.bool ai) TI TO):=k2 _ _ ap.z1 w1.z_;have hez:e≠z:=λv=>by
  rw[v,ez] at he;cases he;exact bf (show gq "zip"=gq "StopIteration" from hc) 0x4
 exact nq ez 0x2 λh3 _ k3=>q h3 e (λc o c1 _ c3 _ v=>(k3.2 c c1).trans (k2 c o c3 ((k1.2 c c1).trans v))) ⟨oe,(k3.2 e hez).trans he,hc⟩
theorem taken{T:am}(ap:Apart z TI TO i1 i2 l1 l2)(hw:W z TI TO i1 i2 l1 l2 o1 o2 (cw T) (.bool bb) a b k1 k2 s.heap)(hT:s.heap.get? T=ae oT)
 (q:∀h',W z TI TO i1 i2 l1 l2 o1 o2 (cw T) (.bool af) a b k1 k2 h'->fS z s.heap h'->Q ai {s with heap:=h'}):ϑ (aw prog w) A (Am (.ref z)) Q E s:=by
 refine ao (dh hw.z_ rfl rfl (ao (there hT ?_)));refine ao (dh hw.z_ rfl rfl ?_);cases bb
 ·exact ao (nq hw.z_ 0x2 λh1 e1 k1=>aI (q h1 (hw.onZ ap e1 k1) k1))
 ·exact aI (q _ hw (EJ _ _))
theorem more{T:am}{bb:au}{oT:bg}{Q:ak->ar->Prop}(ap:Apart z TI TO i1 i2 l1 l2)(hw:W z TI TO i1 i2 l1 l2 (tuO xs n1 d1 s1) (tuO ys n2 d2 s2) (cw T) (.bool bb) a b k k s.heap)(hT:s.heap.get? T=ae oT)(hx:xs[k]?=ae x)(hy:ys[k]?=ae y)
 (q:∀h' p,W z TI TO i1 i2 l1 l2 (tuO xs n1 d1 s1) (tuO ys n2 d2 s2) (cw T) (.bool af) a b (k+1) (k+1) h'->h'.get? p=ae (prO x y)->aFc z TO i1 i2 s.heap h'->Q (.ref p) {s with heap:=h'}) :
  ϑ (aw prog w) A (nxt z) (Got Q) E s:=by
 refine ao (m:=wy (.ref z) 2) (dh hw.z_ rfl rfl (ao (dh hw.z_ rfl rfl (ao (iS hw.ti rfl ?_)))));refine ao (m:=Am (.ref z)) (taken ap hw hT λh1 w1 k1=>?_);rw[ax nS];dsimp only;rw[<-C9];simp only[om,k6];refine ao (ao (ao (eJ (ao (m:=ll (.ref i1)) (drawn w1.j1 w1.t1 hx λh2 e2 k2=>aI (aI ?_))))));have w2:=w1.on1 ap e2 k2;refine ao (ao (eJ (ao (m:=ll (.ref i2)) (drawn w2.j2 w2.t2 hy λh3 e3 k3=>aI (aI (aI ?_))))));have w3:=w2.on2 ap e3 k3;refine ao (zC (aI ⟨_,rfl,?_⟩) (hsz:=by show(2:ag)<=aT;decide));exact q _ _ (w3.up λc o _ e=>br _ e) (cx _ rfl) λc o c1 c2 c3 c4 e=>br _ ((k3.2 c c4).trans ((k2.2 c c3).trans ((k1.2 c c1).trans e)))
theorem aIw{T:am}{bb:au}{oT:bg}{Q:Fin->ar->Prop}(hh:A.handled=aj)(ap:Apart z TI TO i1 i2 l1 l2)(hw:W z TI TO i1 i2 l1 l2 (tuO xs n1 d1 s1) (tuO ys n2 d2 s2) (cw T) (.bool bb) a b k k s.heap)(hT:s.heap.get? T=ae oT)(hx:xs[k]?=aj)
 (q:∀h' e,aFc z TO i1 i2 s.heap h'->(∃o,h'.get? e=ae o/\o.cls=.type "StopIteration")->E (.ref e) {s with heap:=h'}) :
  ϑ (aw prog w) A (nxt z) Q E s:=by
 refine ao (m:=wy (.ref z) 2) (dh hw.z_ rfl rfl (ao (dh hw.z_ rfl rfl (ao (iS hw.ti rfl ?_)))));refine ao (taken ap hw hT λh1 w1 k1=>?_);rw[ax nS];dsimp only;rw[<-C9];simp only[om,k6];exact ao (ao (ao (eJ (ao (over hh w1.j1 w1.t1 hx λh2 e k2 he=>q h2 e (λc o c1 _ c3 _ v=>k2 c o c3 ((k1.2 c c1).trans v)) he)))))
end
theorem five(h:ay)(a b c d e:bg)(fa:a.isFreed=ai)(fb:b.isFreed=ai)(fc:c.isFreed=ai)(fd:d.isFreed=ai)(fe:e.isFreed=ai) :
  (((((h.push a).push b).push c).push d).push e).get? h.objs.size=ae a/\(((((h.push a).push b).push c).push d).push e).get? (h.objs.size+1)=ae b/\(((((h.push a).push b).push c).push d).push e).get? (h.objs.size+2)=ae c/\(((((h.push a).push b).push c).push d).push e).get? (h.objs.size+3)=ae d/\(((((h.push a).push b).push c).push d).push e).get? (h.objs.size+4)=ae e/\
  (∀x o,h.get? x=ae o->(((((h.push a).push b).push c).push d).push e).get? x=ae o)/\(((((h.push a).push b).push c).push d).push e).objs.size=h.objs.size+5:=by
 have z1:(h.push a).objs.size=h.objs.size+1:=eS ..;have z2:((h.push a).push b).objs.size=h.objs.size+2:=(eS ..).trans (by rw[z1]);have z3:(((h.push a).push b).push c).objs.size=h.objs.size+3:=(eS ..).trans (by rw[z2]);have z4:((((h.push a).push b).push c).push d).objs.size=h.objs.size+4:=(eS ..).trans (by rw[z3]);have up:∀{h:ay}{x:am}{o q:bg},h.get? x=ae o->(h.push q).get? x=ae o:=λe=>br _ e
 have g2:=cx (h.push a) (o:=b) fb;have g3:=cx ((h.push a).push b) (o:=c) fc;have g4:=cx (((h.push a).push b).push c) (o:=d) fd;have g5:=cx ((((h.push a).push b).push c).push d) (o:=e) fe;rw[z1] at g2;rw[z2] at g3;rw[z3] at g4;rw[z4] at g5;exact⟨up (up (up (up (cx h fa)))),up (up (up g2)),up (up g3),up g4,g5,λx o q=>up (up (up (up (up q)))),(eS ..).trans (by rw[z4])⟩
theorem aC5(t u:am)(xs ys:aE ak) :
  ji (cz.«zip.__new__» ⟨[.type "zip",.ref t,.ref u],[]⟩) (λ_ R s=>s.heap.IsTuple t xs/\s.heap.IsTuple u ys/\∀h' n,n=s.heap.objs.size->h'.get? n=ae (itO t 0)->h'.get? (n+1)=ae (itO u 0)->h'.get? (n+2)=ae (prO (.ref n) (.ref (n+1)))->h'.get? (n+3)=ae (prO .none .none)->h'.get? (n+4)=ae (zpO .none (.bool ai) (n+2) (n+3))->
   (∀x o,s.heap.get? x=ae o->h'.get? x=ae o)->h'.objs.size=n+5->R (.ok (.ret (.ref (n+4)))) {s with heap:=h'}):=
 .of_wp λprog w A R s hs=>by
  obtain⟨hp,g,d,tk,os⟩:=s;obtain⟨ht,hu,q⟩:=hs;have sub:=sub_zip;have p1:An (Ao ⟨hp,g,d,tk,os⟩) t xs:=ht;have p2:An (Ao ⟨hp.push {cls:=.type "tuple_iterator",data:=.fields #[.ref t,.int 0 0]},g,d,tk,os⟩) u ys:=EK hu _;have f:=five hp (itO t 0) (itO u 0) (prO (.ref hp.objs.size) (.ref (hp.objs.size+1))) (prO .none .none) (zpO .none (.bool ai) (hp.objs.size+2) (hp.objs.size+3)) rfl rfl rfl rfl rfl
  wp_walk using lb p1,lb p2
  refine⟨_,rfl,?_⟩;have fin:=q _ hp.objs.size rfl f.1 f.2.1 f.2.2.1 f.2.2.2.1 f.2.2.2.2.1 f.2.2.2.2.2.1 f.2.2.2.2.2.2;have gen:∀m1 m2 m3 m4:ag,m1=hp.objs.size+1->m2=hp.objs.size+2->m3=hp.objs.size+3->m4=hp.objs.size+4->R (.ok (.ret (.ref m4))) ⟨((((hp.push (itO t 0)).push (itO u 0)).push (prO (.ref hp.objs.size) (.ref m1))).push (prO .none .none)).push (zpO .none (.bool ai) m2 m3),g,d,tk,os⟩:=by
   intro m1 m2 m3 m4 q1 q2 q3 q4;subst q1 q2 q3 q4;exact fin
  exact gen _ _ _ _ (eS ..) ((eS ..).trans (di (·+1) (eS ..))) ((eS ..).trans (di (·+1) ((eS ..).trans (di (·+1) (eS ..))))) ((eS ..).trans (di (·+1) ((eS ..).trans (di (·+1) ((eS ..).trans (di (·+1) (eS ..)))))))
section
variable {prog:bh} {w:bd} {A:bS} {E:ak->ar->Prop} {s:ar}
theorem aN1{t u:am}{xs ys:aE ak}{Q:ak->ar->Prop}(ht:s.heap.IsTuple t xs)(hu:s.heap.IsTuple u ys)
 (q:∀h' n,n=s.heap.objs.size->h'.get? n=ae (itO t 0)->h'.get? (n+1)=ae (itO u 0)->h'.get? (n+2)=ae (prO (.ref n) (.ref (n+1)))->h'.get? (n+3)=ae (prO .none .none)->h'.get? (n+4)=ae (zpO .none (.bool ai) (n+2) (n+3))->
   (∀x o,s.heap.get? x=ae o->h'.get? x=ae o)->h'.objs.size=n+5->Q (.ref (n+4)) {s with heap:=h'}) :
  ϑ (aw prog w) A (call (.type "zip") [.ref t,.ref u]) Q E s:=
 Ap F.called_zip 0x4 (F.typeCall_zip_2 _ _) (F.newCall_zip_2 _ _) (λobj=>F.args_object_init_3 obj _ _) F.entry_zip_new (aC5 t u xs ys)
  ⟨ht,hu,λh' n e a1 a2 a3 a4 a5 k z=>⟨⟨_,a5,rfl⟩,q h' n e a1 a2 a3 a4 a5 k z⟩⟩
end
theorem O5:ja (.type "zip") "keys"=pure aj:=by rw[ib,ig];kernel_rfl
theorem noGet:ja (.type "zip") "__getattr__"=pure aj:=by rw[ib,ig];kernel_rfl
theorem O6:kn ko "zip.__getattribute__"=ae cz.«object.__getattribute__»:=w_ (id':= "object.__getattribute__") 0x8 0x6 0x6 0x8
theorem jW(a:am)(f0 f1:ak)(TI TO:am)(u:fw):ji (cz.«object.__getattribute__» ⟨[.ref a,.str "keys" u],[]⟩) (λA R s=>s.heap.get? a=ae (zpO f0 f1 TI TO)/\Aq (.ref a) "keys" A R s):=.of_wp λprog w A R s hs=>by
 obtain⟨hp,g,d,tk,os⟩:=s;obtain⟨e,hh,q⟩:=hs;have ty:(⟨hp,g,d,tk,os⟩:ar).TypeIs (.ref a) "zip":=⟨_,e,rfl⟩
 have no:=O5
 wp_walk
 exact Ar hh q (As 0x6 (by size_fits))
section
variable {prog:bh} {w:bd} {A:bS} {E:ak->ar->Prop} {hp:ay} {g:aE jn} {d:jo} {tk:ag} {os:jp} {a TI TO:am} {f0 f1:ak}
theorem gone{u:fw}{kw:aa (Str×ak)}{Q:ak->ar->Prop}(e:hp.get? a=ae (zpO f0 f1 TI TO))(hh:A.handled=aj)(hk:kw=[])(q:∀h' tk' x,Au hp h' x (.ref a) "keys"->E (.ref x) ⟨h',g,d,tk',os⟩) :
  ϑ (aw prog w) A (call (.builtin "zip.__getattribute__") ([.ref a]++[.str "keys" u]) kw) Q E ⟨hp,g,d,tk,os⟩:=by
 subst hk;exact jd Av ⟨_,e,rfl⟩ O6 (F.args_zip_getattribute_2 _ _) (jW a f0 f1 TI TO u) ⟨e,hh,λh' tk' x hx=>q h' tk' x hx⟩
theorem lacks{Q:aq ak->ar->Prop}(e:hp.get? a=ae (zpO f0 f1 TI TO))(hh:A.handled=aj)(q:∀h' tk',(∀b o,hp.get? b=ae o->h'.get? b=ae o)->Q aj ⟨h',g,d,tk',os⟩):ϑ (aw prog w) A (nk (.ref a) "keys") Q E ⟨hp,g,d,tk,os⟩:=by
 have ty:∀tk',(⟨hp,g,d,tk',os⟩:ar).TypeIs (.ref a) "zip":=λ_=>⟨_,e,rfl⟩
 have f3:=Av.lookup;have f4:=Av.bind (.ref a);have f5:=noGet;have sub:=Aw
 wp_walk using gone e hh
 case hk=>rfl
 intro h' tk' x hx;obtain⟨t,u,ex⟩:=hx.there;show ϑ _ _ (Ax _ _ _ _ _ _ _) _ _ _
 wp_walk
 exact q _ _ hx.keeps
end
def ZS(z TI TO i1 i2 l1 l2:am)(o1 o2:bg)(k:ag)(h:ay):Prop:=∃f0 f1 a b,W z TI TO i1 i2 l1 l2 o1 o2 f0 f1 a b k k h/\
 ((f0=.none/\f1=.bool ai)\/∃(T:am)(bb:au)(u v:ak),f0=cw T/\f1=.bool bb/\h.get? T=ae (prO u v)/\T≠z/\T≠TO/\T≠i1/\T≠i2)
section
variable {prog:bh} {w:bd} {A:bS} {E:ak->ar->Prop} {s:ar} {z TI TO i1 i2 l1 l2 d:am} {n1 n2:ag} {d1 d2:aq am} {s1 s2:aE (aq ak)} {x y:ak} {k:ag} {xs ys:aE ak}
theorem apart{h:ay}{c d:am}{o od:bg}{T:fN}(e:h.get? c=ae o)(hc:o.cls=.type T)(ed:h.get? d=ae od)(hd:od.cls=.type "dict")(ne:(gq T==gq "dict")=ai):c≠d:=λq=>by
 subst q;rw[e] at ed;cases ed;rw[hc] at hd;rw[hd] at ne;simp at ne
theorem ZS.keep{h h':ay}{od:bg}(Z:ZS z TI TO i1 i2 l1 l2 (tuO xs n1 d1 s1) (tuO ys n2 d2 s2) k h)(ed:h.get? d=ae od)(hd:od.cls=.type "dict")(e:∀c o,c≠d->h.get? c=ae o->h'.get? c=ae o):ZS z TI TO i1 i2 l1 l2 (tuO xs n1 d1 s1) (tuO ys n2 d2 s2) k h':=by
 obtain⟨f0,f1,a,b,hw,hf⟩:=Z;refine⟨f0,f1,a,b,⟨e _ _ (apart hw.z_ rfl ed hd 0x4) hw.z_,e _ _ (apart hw.ti rfl ed hd 0x4) hw.ti,e _ _ (apart hw.to rfl ed hd 0x4) hw.to,e _ _ (apart hw.j1 rfl ed hd 0x4) hw.j1,e _ _ (apart hw.j2 rfl ed hd 0x4) hw.j2,e _ _ (apart hw.t1 rfl ed hd 0x4) hw.t1,e _ _ (apart hw.t2 rfl ed hd 0x4) hw.t2⟩,?_⟩;rcases hf with hf|⟨T,bb,u,v,h1,h2,h3,h4⟩
 ·exact .inl hf
 ·exact .inr ⟨T,bb,u,v,h1,h2,e _ _ (apart h3 rfl ed hd 0x4) h3,h4⟩
theorem aIx{Q:aq ak->ar->Prop}(ap:Apart z TI TO i1 i2 l1 l2)(Z:ZS z TI TO i1 i2 l1 l2 (tuO xs n1 d1 s1) (tuO ys n2 d2 s2) k s.heap)(hx:xs[k]?=ae x)(hy:ys[k]?=ae y)
 (q:∀h' p,ZS z TI TO i1 i2 l1 l2 (tuO xs n1 d1 s1) (tuO ys n2 d2 s2) (k+1) h'->h'.get? p=ae (prO x y)->aFc z TO i1 i2 s.heap h'->Q (ae (.ref p)) {s with heap:=h'}):ϑ (aw prog w) A (fz (.ref z)) Q E s:=by
 obtain⟨f0,f1,a,b,hw,hf⟩:=Z;refine ao (iP (i9 hw.ty xf (ip xf hw.ty Da ?_ (Dc _))));rcases hf with ⟨rfl,rfl⟩|⟨T,bb,u,v,rfl,rfl,hT,t1,t2,t3,t4⟩
 ·refine first ap hw hx hy λh' p w' ep pp sd=>aI (q h' p ⟨_,_,_,_,w',.inr ⟨p,ai,x,y,rfl,rfl,ep,?_⟩⟩ ep sd)
  subst pp;have lt:∀{c o},s.heap.get? c=ae o->s.heap.objs.size≠c:=λe=>gS (bn e)
  exact⟨lt hw.z_,lt hw.to,lt hw.j1,lt hw.j2⟩
 ·exact more ap hw hT hx hy λh' p w' ep sd=>aI (q h' p ⟨_,_,_,_,w',.inr ⟨T,af,u,v,rfl,rfl,sd _ _ t1 t2 t3 t4 hT,t1,t2,t3,t4⟩⟩ ep sd)
theorem aN2{Q:aq ak->ar->Prop}(hh:A.handled=aj)(ap:Apart z TI TO i1 i2 l1 l2)(Z:ZS z TI TO i1 i2 l1 l2 (tuO xs n1 d1 s1) (tuO ys n2 d2 s2) k s.heap)(hx:xs[k]?=aj)
 (q:∀h',aFc z TO i1 i2 s.heap h'->Q aj {s with heap:=h'}):ϑ (aw prog w) A (fz (.ref z)) Q E s:=by
 obtain⟨f0,f1,a,b,hw,hf⟩:=Z;refine ao (iP (i9 hw.ty xf (ip xf hw.ty Da ?_ (Dc _))));have stop:∀h' e,aFc z TO i1 i2 s.heap h'->(∃o,h'.get? e=ae o/\o.cls=.type "StopIteration")->ϑ (aw prog w) A (do if <- oQ (.ref e) (.type "StopIteration") then pure aj else throw (.ref e)) Q E {s with heap:=h'}:=λh' e sd he=>ao (r_ (T:= "StopIteration") (b:=af) he Ay (aI (q h' sd)))
 rcases hf with ⟨rfl,rfl⟩|⟨T,bb,u,v,rfl,rfl,hT,_⟩
 ·exact aFd hh ap hw hx λh' e sd he=>stop h' e sd he
 ·exact aIw hh ap hw hT hx λh' e sd he=>stop h' e sd he
end
theorem vD:kn ko "dict.update.loop"=ae cz.«dict.update.loop»:=Az 0x8
section
variable {prog:bh} {w:bd} {K:Type} [d4 K] {knd:KeyKind prog w K} {A:bS} {R:Except ak Flow->ar->Prop} {z TI TO i1 i2 l1 l2 d:am} {n1 n2:ag} {d1 d2:aq am} {s1 s2:aE (aq ak)} {xs ys:aE ak} {ks:aa K}
theorem JL(hh:A.handled=aj)(ap:Apart z TI TO i1 i2 l1 l2)(hdz:d≠z)(hdT:d≠TO)(hd1:d≠i1)(hd2:d≠i2)(hsz:ys.size=xs.size)(hk:∀(i:ag) (x:ak),xs[i]?=ae x->∃k,ks[i]?=ae k/\knd.is k x=af) :
  ∀(m k:ag)(s:ar)(kvs:aa (K×ak)),k+m=xs.size->kvs.length+m<=aT->ZS z TI TO i1 i2 l1 l2 (tuO xs n1 d1 s1) (tuO ys n2 d2 s2) k s.heap->s.heap.DictOf knd d kvs->
  (∀h' tk,h'.DictOf knd d (kQ kvs ((ks.zip ys.toList).drop k))->(∀c o,c≠d->c≠z->c≠TO->c≠i1->c≠i2->s.heap.get? c=ae o->h'.get? c=ae o)->R (.ok (.ret .none)) {s with heap:=h',toks:=tk})->
  codeAny (aw prog w) A (.builtin "dict.update.loop" ⟨[.ref d,.ref z,cw k,.none],[]⟩) R s:=by
 intro m;induction m with
 |zero=>
  intro k s kvs hkm hl Z hd q;refine km vD ?_;rw[lm (show se "dict.update.loop"=af by decide +kernel) _];refine ao (m:=fz (.ref z)) (aN2 hh ap Z (ni 0x1) λh' kp=>?_);refine ao (m:=AA d []) ?_;unfold AA;rw[k6];refine ao (aI (aI (aI ?_)));have e:(ks.zip ys.toList).drop k=[]:=mS (by rw[Dd];have:ys.toList.length=ys.size:=kz;lia);rw[e] at q;obtain⟨o,es,ep,ho,r⟩:=hd;exact q _ s.toks ⟨o,es,ep,kp d o hdz hdT hd1 hd2 ho,r⟩ λc o _ c1 c2 c3 c4 e=>kp c o c1 c2 c3 c4 e
 |succ m ih=>
  intro k s kvs hkm hl Z hd q;have hlt:k<xs.size:=by lia
  have hlt2:k<ys.size:=by lia
  have hx:xs[k]?=ae xs[k]:=lf hlt;have hy:ys[k]?=ae ys[k]:=lf hlt2;obtain⟨key,hkey,his⟩:=hk k _ hx;refine km vD ?_;rw[lm (show se "dict.update.loop"=af by decide +kernel) _];refine ao (m:=fz (.ref z)) (aIx ap Z hx hy λh' p Z' hp kp=>?_);refine ao (eJ (ao (Df ?_)));refine ao (me (T:= "tuple") ⟨_,hp,rfl⟩ ?_);rw[av 0x4];refine ao (iS hp rfl (aI ?_));show ϑ _ _ (l8 [xs[k],ys[k]] (dictSet d xs[k] ys[k])) _ _ _;have hd':h'.DictOf knd d kvs:=let ⟨o,es,ep,ho,r⟩:=hd;⟨o,es,ep,kp d o hdz hdT hd1 hd2 ho,r⟩
  obtain⟨od,es,ep,ho,hc,_⟩:=id hd';refine eJ (Dg his hd' (λh2 hd2' sb=>?_) 0x1);refine aI ⟨lh _ 0x6,?_⟩;have ek:(cw (k+1):ak)=cw ((k+1:ag):ah):=rfl;rw[ek];have hzip:(ks.zip ys.toList).drop k=(key,ys[k])::(ks.zip ys.toList).drop (k+1):=by
   have hlz:(ks.zip ys.toList)[k]?=ae (key,ys[k]):=by
    rw[List.getElem?_zip_eq_some];exact⟨hkey,by rw[kP];exact hy⟩
   obtain⟨h1,h2⟩:=du.mp hlz;rw[mP h1,h2]
  have ls:(je kvs key ys[k]).length<=kvs.length+1:=by
   unfold je;split
   ·rw[az];lia
   ·rw[bp];exact ba _
  refine ih (k+1) _ (je kvs key ys[k]) 0x1 0x1 (Z'.keep ho hc.1 λc o hcd e=>(sb.2 c hcd).trans e) hd2' λh3 tk hd3 kp3=>?_
  refine q h3 tk (by rw[hzip];exact hd3) λc o c0 c1 c2 c3 c4 e=>kp3 c o c0 c1 c2 c3 c4 ((sb.2 c c0).trans (kp c o c1 c2 c3 c4 e))
end
section
variable {prog:bh} {w:bd} {K:Type} [d4 K] {knd:KeyKind prog w K} {A:bS} {E:ak->ar->Prop} {hp:ay} {g:aE jn} {dr:jo} {tk:ag} {os:jp} {z TI TO i1 i2 l1 l2:am} {n1 n2:ag} {d1 d2:aq am} {s1 s2:aE (aq ak)} {xs ys:aE ak} {ks:aa K}
theorem aFe{Q:ak->ar->Prop}(hh:A.handled=aj)(ap:Apart z TI TO i1 i2 l1 l2){a b:ak}(hw:W z TI TO i1 i2 l1 l2 (tuO xs n1 d1 s1) (tuO ys n2 d2 s2) .none (.bool ai) a b 0 0 hp)(hsz:ys.size=xs.size)(hxs:xs.size<=1000)(hk:∀(i:ag) (x:ak),xs[i]?=ae x->∃k,ks[i]?=ae k/\knd.is k x=af)
 (q:∀h' tk',h'.DictOf knd hp.objs.size (kQ [] (ks.zip ys.toList))->aFc z TO i1 i2 hp h'->Q (.ref hp.objs.size) ⟨h',g,dr,tk',os⟩) :
  ϑ (aw prog w) A (call (.type "dict") [.ref z]) Q E ⟨hp,g,dr,tk,os⟩:=by
 have hnew:(hp.push {cls:=.type "dict",data:=.dict #[]}).DictOf knd hp.objs.size []:=zj hp;have up:∀c o,hp.get? c=ae o->(hp.push {cls:=.type "dict",data:=.dict #[]}).get? c=ae o:=λc o e=>br _ e
 have lt:∀{c o},hp.get? c=ae o->hp.objs.size≠c:=λe=>gS (bn e)
 refine AB (Q₁:=λv s₁=>v=.ref hp.objs.size/\s₁=⟨hp.push {cls:=.type "dict",data:=.dict #[]},g,dr,tk,os⟩) Dh (Di _) Dj (Dk _ ⟨rfl,rfl⟩) λv s₁ hv=>?_
 obtain⟨rfl,rfl⟩:=hv;have ty:(⟨hp.push {cls:=.type "dict",data:=.dict #[]},g,dr,tk,os⟩:ar).TypeIs (.ref hp.objs.size) "dict":=hnew.typeIs;have ez:=up _ _ hw.z_;have tz:(⟨hp.push {cls:=.type "dict",data:=.dict #[]},g,dr,tk,os⟩:ar).TypeIs (.ref z) "zip":=⟨_,ez,rfl⟩
 refine⟨ty,Dl _ _,ao (m:=EL "__init__" _) (ao (AC ty (aI ?_)))⟩;refine ao (m:=iF (.ref z)) (me tz ?_);rw[av 0x4];refine ao (lacks ez hh λh' tk' kp=>?_);rw[av (show(aj:aq ak).isNone=af from rfl)];refine ao (jw (ao (wpAny_pyIter_zip (TI:=TI) (TO:=TO) (f0:=.none) (kp _ _ ez) (aI ⟨lh _ 0x6,?_⟩))));have hd':h'.DictOf knd hp.objs.size []:=let ⟨o,es,ep,ho,r⟩:=hnew;⟨o,es,ep,kp _ _ ho,r⟩
 refine JL (A:=A.in1) (ks:=ks) (show A.in1.handled=aj from hh) ap (lt hw.z_) (lt hw.to) (lt hw.j1) (lt hw.j2) hsz hk xs.size 0 ⟨h',g,dr,tk',os⟩ [] 0x1 (by rw[dQ,dk];lia) ⟨_,_,_,_,hw.up λc o _ e=>kp c o (up c o e),.inl ⟨rfl,rfl⟩⟩ hd' λh2 tk2 hd2 kp2=>?_
 exact⟨rfl,q h2 tk2 hd2 λc o c1 c2 c3 c4 e=>kp2 c o (λx=>lt e x.symm) c1 c2 c3 c4 (kp c o (up c o e))⟩
end
end Wz
namespace Mi
open PySem L2 PySem.SeqAt PySem.Spec PyProof.Rows
section
variable [KFrag]
theorem boot_zip:em "zip"=ae (.type "zip"):=0x6
theorem WQ:em "dict"=ae (.type "dict"):=0x6
theorem aC6{pr:bh}:∀{vs:aa V}{us:aa ak}{ds:aa D},bZ P H vs ds->Vals vs us->ds.all mF=af->∃ks:aa Key,ks.map kD=ds/\ks.length=us.length/\∀(i:ag)(u:ak),us[i]?=ae u->∃k,ks[i]?=ae k/\(cC pr w).is k u=af
 |_,_,_,.nil,.nil,_=>⟨[],rfl,rfl,λi u h=>by simp at h⟩
 |v::vs,u::us,d::ds,.cons r t,.cons rv tv,h=>by
  rw[ki,bc] at h;obtain⟨ks,h1,h2,h3⟩:=aC6 t tv h.2;obtain⟨k,hk1,hk2⟩:∃k:Key,kD k=d/\(cC pr w).is k u=af:=by
   cases r with
   |int i=>exact⟨.inl i,rfl,xJ rv⟩
   |str x=>exact⟨.inr x,rfl,xJ rv⟩
   |_=>cases h.1
  refine⟨k::ks,by rw[bu,hk1,h1],by rw[aS,aS,h2],λi u' hu=>?_⟩;cases i with
  |zero=>simp at hu;subst hu;exact⟨k,rfl,hk2⟩
  |succ i=>exact h3 i u' (by simpa using hu)
theorem JM(r:Rep P H v d):∀{kvs:aa (Key×V)}{ds:aa (D×D)},j5 P H kvs ds->(kvs.map (·.1)).Nodup->j5 P H (putK kvs k v) (putD ds (kD k) d)
 |_,_,.nil,_=>.cons r .nil
 |_,_,.cons (k:=k') r' t,hn=>by
  rw[bu,fE] at hn;rw[putD,aBj];by_cases h:k'=k
  ·rw[IV h (by rw[<-h];exact hn.1),av (cb h),h];exact .cons r t
  ·rw[IW h,ax (by simpa using h)];exact .cons r' (JM r t hn.2)
theorem WR:∀{ks:aa Key}{vs:aa V}{ds:aa D}{kvs:aa (Key×V)}{es:aa (D×D)},bZ P H vs ds->j5 P H kvs es->(kvs.map (·.1)).Nodup->j5 P H (e_ kvs (ks.zip vs)) (wJ (ks.map kD) ds es)/\((e_ kvs (ks.zip vs)).map (·.1)).Nodup
 |[],_,_,_,_,_,r,n=>by
  rw[zv];exact⟨by cases ‹aa D›<;>exact r,n⟩
 |k::ks,_,_,kvs,es,.nil,r,n=>⟨r,n⟩
 |k::ks,_,_,kvs,es,.cons rv tv,r,n=>WR (ks:=ks) tv (JM rv r n) (jU n)
theorem aN3(r:Vals vs us):∀ks:aa Key,KV (ks.zip vs) (ks.zip us):=by
 induction r with
 |nil=>intro ks;rw[vw,vw];exact .nil
 |cons h t ih=>
  intro ks;cases ks with
  |nil=>exact .nil
  |cons k ks=>exact .cons ⟨rfl,h⟩ (ih ks)
theorem aC7{n l m:ag}(hl:l<n)(hm:m<n):Wz.Apart (n+4) (n+2) (n+3) n (n+1) l m:=by
 constructor<;>(intro h;replace h:@Eq ag _ _:=h;lia)
section
theorem aIy(hg:Gl X "dict")(hm:X.mg "dict"=aj)(hg2:Gl X "zip")(hm2:X.mg "zip"=aj)(ha:PA X [a,b] (gA fs rr))(hc:X.calm=af:=by rfl)(hs2:cf [a,b] X.env=(ai,eval a X.env)::cf [b] X.env:=by rfl)(hpl2:(eW pos2 (cf [b] X.env)).any (·.1)=ai:=by rfl)
 (hs:cf [.Call (.Name "zip" p2) [a,b] [] pos2] X.env=(ai,eval (.Call (.Name "zip" p2) [a,b] [] pos2) X.env)::cf [] X.env:=by rfl) :
  PE X (.Call (.Name "dict" p) [.Call (.Name "zip" p2) [a,b] [] pos2] [] pos) (gE (aM FP fs) af):=by
 rintro Ψ s σ H Q I ⟨ρ,d,E,h,q⟩;obtain⟨xs,h1,h2⟩:=bL h;unfold FP at h2;split at h2
 ·rename_i xs ys;split at h2
  ·rename_i hb;cases h2;simp only[bc,dE] at hb;obtain⟨⟨⟨hb1,hb2⟩,hb3⟩,hb4⟩:=hb;refine ik (nA I hg hm WQ ?_);refine iA ?_ hs rfl;rw[hs];show ϑ _ _ (lI ((ai,eval (.Call (.Name "zip" p2) [a,b] [] pos2) X.env)::eW pos (cf [] X.env))) _ _ s;refine n4 ?_;refine ik (nA I hg2 hm2 boot_zip ?_);refine iA (thn (ha pos2 Ψ s σ H (λvs H1=>cZ H H1/\bZ All H1 vs [.tup xs,.tup ys]) I ⟨ρ,_,E,h1,λvs H1 s1 r1 _=>⟨s1,r1⟩⟩) λus s1 ⟨vs,H1,I1,r1,sm,rp⟩=>?_) hs2 hpl2;cases rp with
   |cons rp1 rp=>
    cases rp with
    |cons rp2 rp=>
     cases rp;obtain⟨l1,vs1,rfl,e1,rr1⟩:=rp1.fK;obtain⟨l2,vs2,rfl,e2,rr2⟩:=rp2.fK;cases r1 with
     |cons q1 r1=>
      cases r1 with
      |cons q2 r1=>
       cases r1;cases q1;cases q2;obtain⟨its1,w1,p1,_⟩:=I1.tuple (.of e1);obtain⟨its2,w2,p2,_⟩:=I1.tuple (.of e2);have t1:s1.heap.IsTuple l1 its1.toArray:=p1;have t2:s1.heap.IsTuple l2 its2.toArray:=p2;obtain⟨⟨c1,dd1,da1,sl1⟩,g1,hc1,m1,hd1⟩:=id p1;obtain⟨⟨c2,dd2,da2,sl2⟩,g2,hc2,m2,hd2⟩:=id p2;simp only at hc1 hd1 hc2 hd2;subst hc1 hd1 hc2 hd2;have hl1:=bn g1;have hl2:=bn g2;refine Wz.aN1 t1 t2 λh' n hn z1 z2 z3 z4 z5 kp zsz=>?_
       subst hn;refine nX ?_;have n1:=w1.length;have n2:=w2.length;have m1:=rr1.length;have m2:=rr2.length;obtain⟨ks,k1,k2,k3⟩:=aC6 rr1 w1 hb3;refine Wz.aFe (I1.ok.hd hc) (aC7 hl1 hl2) ⟨z5,z3,z4,z1,z2,kp _ _ g1,kp _ _ g2⟩ (by simp only[cm];lia) (by simp only[cm];lia) (λi u hu=>k3 i u (by simpa using hu)) λh2 tk dd kp2=>?_
       have hfr:H1 h'.objs.size=aj:=I1.hok.fresh (by rw[zsz];lia);have kall:∀c o,s1.heap.get? c=ae o->h2.get? c=ae o:=λc o e=>by
        have:=bn e;exact kp2 c o (cu (c_ this (sg _ 4))) (cu (c_ this (sg _ 3))) (cu this) (cu (c_ this (sg _ 1))) (kp c o e)
       have rel:KV (e_ [] (ks.zip vs2)) (kQ [] (ks.zip its2)):=(aN3 w2 ks).merge .nil;have hz:(e_ [] (ks.zip vs2)).length<=aT:=by
        have:=iU (ks.zip vs2) [];rw[dQ,Dd] at this;rw[dk];lia
       obtain⟨rk,nd⟩:=WR (rr2) j5.nil g9;rw[k1] at rk;have sp:cZ H1 (upd H1 h'.objs.size (.dK (e_ [] (ks.zip vs2)))):=cZ.upd hfr;have pv:ι ((wJ xs ys []).map (·.2))=af:=by
        have go:∀(a b:aa D)(m:aa (D×D)),ι b=af->ι (m.map (·.2))=af->ι ((wJ a b m).map (·.2))=af:=by
         intro a;induction a with
         |nil=>intro b m _ hm;cases b<;>exact hm
         |cons x a ih=>
          intro b m hb hm;cases b with
          |nil=>exact hm
          |cons y b=>
           rw[ι,bc] at hb;refine ih b _ hb.2 ?_;have hp:=oU (ds:=m) (k:=x) hb.1 hm;exact hp
        exact go xs ys [] hb4 rfl
       have rk2:∀{P:am->Prop},j5 P (upd H1 h'.objs.size (.dK (e_ [] (ks.zip vs2)))) (e_ [] (ks.zip vs2)) (wJ xs ys []):=λ{P}=>(rk.keep (.same sp) λ_ h=>h).bT pv
       refine⟨.ref h'.objs.size,_,I1.laid (a:=h'.objs.size) (t':=tk) (o:=.dK (e_ [] (ks.zip vs2))) kall (by rw[zsz];lia) (VF hz (dS.mpr ?_) rel (by simpa using dd)),rfl,?_⟩
       ·exact Ne.symm (cu (c_ I1.big (by rw[zsz];exact sg _ 5)))
       ·exact q _ _ (sm.trans sp) (.dK aL trivial rk2 nd) λ_=>.dK aL (sm.free hfr) rk2 nd
  ·exact bx h2
 ·exact bx h2
end
end
def aN4(i:ag)(f:FE):FS:=λρ=>do
 let d <- f ρ
 match ρ.getD i .uD,d with
 |.lst xs,.lst ys=>if ϒ (xs.length+ys.length<=lim)&&ι ys then .ok (.nx (ρ.set i (.lst (xs++ys)))) else .bad
 |_,_=>.bad
noncomputable def aOx:aa D->Res D
 |[.bl b]=>.ok (.int (if b then 1 else 0))
 |[.int i]=>.ok (.int i)
 |_=>.bad
section
variable [KFrag]
theorem aIz{X:Cx}:l_ X (.type "int") (rs aOx af):=by
 rintro Ψ s σ H xs us Q I vr ⟨ds,d,r,e,k⟩;unfold aOx at e;split at e
 ·cases e;obtain⟨vv,uu,rfl,rfl,r,v⟩:=iK r vr;cases r.inv;cases v;exact call_int_bool ⟨.int _,H,I.tok _,⟨_,rfl⟩,k.int⟩
 ·cases e;obtain⟨vv,uu,rfl,rfl,r,v⟩:=iK r vr;cases r.inv;obtain⟨t,rfl⟩:=v;exact call_int_int ⟨.int _,H,I,⟨_,rfl⟩,k.int⟩
 ·exact bx e
section
variable {X:Cx} {own:ag->au} {e:Expr} {fe:FE} {re:au} {pos:bX}
theorem aGx{i:ag}{x:Str}{p1 apos cpos:bX}(ho:own i=af)(hN:X.N[i]?=ae x)(hv:Vis X.env.scope x)(he:PE X e (gE fe re))(hd:nDb x:=by decide)(hcd:nCd x:=by decide)
 (hbase:jb (.Name x p1) "extend" X.env (eval (.Name x p1) X.env)=eval (.Name x p1) X.env:=by rfl)
 (hs1:zSE X e []:=by rfl)
 (hfew:zFw X cpos [e]:=by rfl)
 (hline:(apos.endLine==cpos.line)=af:=by rfl)
 (hs:eB (.Call (.Attribute (.Name x p1) "extend" apos) [e] [] cpos) aj pos.line X.env=pure ai:=by rfl) :
  PS X (.Expr (.Call (.Attribute (.Name x p1) "extend" apos) [e] [] cpos) pos) (tS own (aN4 i fe)):=
 PS.imp (yF (YW mT BN PySem.F.type_list_extend aAn (fH hN hv hd hcd) (eQ he j8 hs1) hbase hfew hline hs1 rfl) hs) λD' σ H z0=>by
 obtain⟨ρ,fl,E,h,q⟩:=z0;obtain⟨d,h1,h2⟩:=bL h;split at h2
 ·rename_i xs ys hx;split at h2
  ·rename_i hk;cases h2;rw[bc,dE] at hk;obtain⟨a,o,hσ,r,hin,ha,hm⟩:=E.ownAt ho (by rw[hx];intro z;cases z);rw[hx] at r hin;obtain⟨vs,hl,rr⟩:=y_ r;refine⟨_,hσ,.inl ⟨rfl,vs,.of hl⟩,ρ,_,E.er,h1,λv H' s rv _=>?_⟩;obtain⟨b,zs,rfl,hb,_,rz⟩:=rv.inv;have E':=E.same s;have hl':=s _ _ hl;refine⟨a,b,vs,zs,rfl,rfl,hl',hb,by rw[rr.length,rz.length];exact dj hk.1 (by rw[dk];decide),?_⟩;have hp:ι (xs++ys)=af:=by rw[vC,bc];exact⟨hin,hk.2⟩
   obtain⟨E2,k2⟩:=E'.mut (o:=.lst (vs++zs)) (d:=.lst (xs++ys)) ho hσ rfl (.lst aL trivial (((rr.same s).append rz).upd hp hl' rfl)) hp;exact q _ _ ((KU.same s).trans k2) E2
  ·exact bx h2
 ·exact bx h2
end
end
noncomputable abbrev FX:=aa D->Res (D×aa D)
noncomputable abbrev FXT:=aa D->Res (au×aa D)
noncomputable abbrev FXA:=aa D->Res (aa D×aa D)
noncomputable def x2R(f:D->D->Res D)(fa:FE)(fb:FX):FX:=λρ=>do
 let x <- fa ρ
 let p <- fb ρ
 let d <- f x p.1
 if d.pure then .ok (d,p.2) else .bad
def xTB(f:FX):FXT:=λρ=>do
 let p <- f ρ
 let b <- asB p.1
 .ok (b,p.2)
noncomputable def aGy:FXA:=λρ=>.ok ([],ρ)
noncomputable def O7(f:FX)(g:FXA):FXA:=λρ=>do
 let p <- f ρ
 let q <- g p.2
 if p.1.pure then .ok (p.1::q.1,q.2) else .bad
noncomputable def wK(f:FE)(g:FXA):FXA:=λρ=>do
 let d <- f ρ
 let q <- g ρ
 if d.pure then .ok (d::q.1,q.2) else .bad
def aJ0(f:FXA):FX:=λρ=>do
 let p <- f ρ
 if ϒ (p.1.length<=lim)&&ι p.1 then .ok (.lst p.1,p.2) else .bad
def aC8(o:au)(i:ag)(f:FX):FS:=λρ=>do
 let p <- f ρ
 if (if o then inner p.1 else af) then .ok (.nx (p.2.set i p.1)) else .bad
noncomputable def aGz(c:FXT)(f g:FS):FS:=λρ=>do
 let p <- c ρ
 if p.1 then f p.2 else g p.2
noncomputable def bPu(f:FE):FE:=λρ=>do
 let d <- f ρ
 if d.pure then .ok d else .bad
section
variable [KFrag]
section
variable {own:ag->au}
def NS(own:ag->au)(ρ ρ':aa D):Prop:=∀i,own i=ai->ρ'.getD i .uD=ρ.getD i .uD
theorem NS.refl:NS own ρ ρ:=λ_ _=>rfl
theorem NS.trans(a:NS own ρ ρ1)(b:NS own ρ1 ρ2):NS own ρ ρ2:=λi h=>(b i h).trans (a i h)
theorem NS.set(ho:own i=af):NS own ρ (ρ.set i d):=λj hj=>by
 rw[eE,ax];rintro⟨rfl,_⟩;rw[ho] at hj;cases hj
def kX(own:ag->au)(σ:L2.St)(H:Hp)(ρ:aa D)(d:D)(ρ':aa D)(Q:VK):Prop:=∀v H',KU own σ H σ H'->ES own H' σ ρ'->NS own ρ ρ'->Rep (New H) H' v d->Q v H'
noncomputable def gX(own:ag->au)(f:FX):TE:=λσ H Q=>∃ρ d ρ',ES own H σ ρ/\f ρ=.ok (d,ρ')/\kX own σ H ρ d ρ' Q
noncomputable def gXT(own:ag->au)(f:FXT):TT:=λσ H Q=>∃ρ d ρ',ES own H σ ρ/\f ρ=.ok (d,ρ')/\∀H',KU own σ H σ H'->ES own H' σ ρ'->NS own ρ ρ'->Q d H'
noncomputable def gXA(own:ag->au)(f:FXA):TA:=λσ H Q=>∃ρ d ρ',ES own H σ ρ/\f ρ=.ok (d,ρ')/\∀vs H',KU own σ H σ H'->ES own H' σ ρ'->NS own ρ ρ'->bZ (New H) H' vs d->Q vs H'
theorem S8(k:KU own σ H σ H1)(E1:ES own H1 σ ρ1)(h:H1 a=aj):H a=aj:=by
 cases q:H a with
 |none=>rfl
 |some o=>
  by_cases n:Own own σ a
  ·obtain⟨o',e,_⟩:=E1.live n;rw[h] at e;cases e
  ·have:=(k a o q n).1;rw[h] at this;cases this
theorem aC9(E:ES own H σ ρ)(h:H a=aj):¬Own own σ a:=λn=>by
 obtain⟨o',e,_⟩:=E.live n;rw[h] at e;cases e
theorem aJ1(E:ES own H σ ρ)(E1:ES own H1 σ ρ1)(k:KU own σ H1 σ H2):G9 (New H) H1 H2:=λa o e hp=>by
 refine(k a o e ?_).1;rcases hp with hp|hp
 ·exact aC9 E hp
 ·intro n;obtain⟨o',e',hm⟩:=E1.live n;rw[e] at e';cases e';rw[hp] at hm;cases hm
theorem Rep.ku(r:Rep (New H) H1 v d)(E:ES own H σ ρ)(E1:ES own H1 σ ρ1)(k:KU own σ H1 σ H2):Rep (New H) H2 v d:=r.keep (aJ1 E E1 k) λ_ h=>h
theorem ES.aRq(E:ES own H σ ρ)(k:KU own σ H σ H')(E':ES own H' σ ρ')(ns:NS own ρ ρ')(ho:own i=af)(hn:H a=aj)(r:Rep All H' (.ref a) d)(hin:inner d=af)(ha:H' a=ae o)(hm:Y8 o=af) :
  ES own H' (σ.set i (ae (.ref a))) (ρ'.set i d)/\KU own σ H (σ.set i (ae (.ref a))) H':=by
 have hO:∀b,H b≠aj->¬Own own σ b->¬Own own (σ.set i (ae (.ref a))) b:=λb hb n z0=>by
  obtain⟨j,hj,e⟩:=z0;by_cases hij:i=j
  ·subst hij;by_cases hl:i<σ.length
   ·rw[gi hl] at e;cases e;exact hb hn
   ·rw[oD,av rfl,ax hl] at e;cases e
  ·rw[dv hij] at e;exact n ⟨j,hj,e⟩
 have hna:¬Own own σ a:=aC9 E hn;refine⟨⟨by simp[E'.len],λj hj=>?_,λj w hj hw=>?_⟩,λb ob e n=>⟨(k b ob e n).1,hO b (by rw[e];simp) n⟩⟩
 ·rw[eE] at hj ⊢;by_cases h:i=j/\i<ρ'.length
  ·rw[av h];obtain⟨rfl,hl⟩:=h;exact⟨.ref a,by rw[gi (by rw[E'.len];exact hl)],λz=>by rw[ho] at z;cases z⟩
  ·rw[ax h] at hj ⊢;obtain⟨w,h1,h2⟩:=E'.at_ j hj;by_cases hij:i=j
   ·subst hij;have:i<σ.length:=(du.mp h1).1;rw[E'.len] at this;exact bf ⟨rfl,this⟩ h
   ·refine⟨w,by rw[dv hij];exact h1,λhoj=>?_⟩;rw[ns j hoj] at hj ⊢;obtain⟨w',h1',h2'⟩:=E.at_ j hj;rw[h1] at h1';cases h1';exact(h2' hoj).dom.keep (λc oc hc hp=>k.keep E c oc hc (hp.imp And.left id)) λb ⟨n,hb⟩=>hO b hb n
 ·by_cases hij:i=j
  ·subst hij;have hl:i<σ.length:=by
    have:=(du.mp hw).1;simpa using this
   rw[gi hl] at hw;cases hw;rw[eE,av ⟨rfl,by rw[<-E'.len];exact hl⟩];refine⟨a,o,rfl,r,hin,ha,hm,λk hk hs=>?_⟩;by_cases hik:i=k
   ·exact hik.symm
   ·rw[dv hik] at hs;exact bf ⟨k,hk,hs⟩ hna
  ·rw[dv hij] at hw;rw[eE,ax λz=>hij z.1];obtain⟨b,ob,h1,h2,h3,h4,h5,h6⟩:=E'.own j w hj hw;refine⟨b,ob,h1,h2,h3,h4,h5,λk hk hs=>?_⟩;by_cases hik:i=k
   ·subst hik;by_cases hl:i<σ.length
    ·rw[gi hl] at hs;cases hs;subst h1;exact bf ⟨j,hj,hw⟩ hna
    ·rw[oD,av rfl,ax hl] at hs;cases hs
   ·rw[dv hik] at hs;exact h6 k hk hs
end
section
variable {own:ag->au} {X:Cx} {a b e:Expr} {pos pos':bX} {fa fe:FE} {re:au} {xb xe:FX}
theorem aRr{fr:au}(h:gX own (x2R f fa xb) σ H Q):tOp (r2 f fr) (gE fa af) (gX own xb) σ H Q:=by
 obtain⟨ρ,d,ρ',E,h,q⟩:=h;obtain⟨x,h1,h⟩:=bL h;obtain⟨⟨y,ρ1⟩,h2,h⟩:=bL h;obtain⟨z,h3,h⟩:=bL h;split at h
 ·rename_i hz;cases h;refine⟨ρ,x,E.er,h1,λv H1 s1 r1 n1=>⟨ρ,y,ρ1,E.same s1,h2,λw H2 k2 E2 ns r2=>⟨x,y,_,((n1 rfl).ku E (E.same s1) k2).all,r2.all,h3,λu H3 s3 r3 _=>?_⟩⟩⟩;exact q u H3 ((KU.same s1).trans (k2.trans (.same s3))) (E2.same s3) ns (r3.bT hz)
 ·exact bx h
theorem aPv(E:ES own H σ ρ)(ho:own i=ai)(h:fM i ρ=.ok d):∃v,σ[i]?=ae (ae v)/\Rep (λa=>¬Own own σ a) H v d:=by
 obtain⟨v,hv,r,e⟩:=E.er.var h;have hne:ρ.getD i .uD≠.uD:=λz=>by
  rw[z] at e;subst e;exact Rep.uD r
 obtain⟨w,hw,hr⟩:=E.at_ i hne;rw[hv] at hw;cases hw;have r2:=hr ho;rw[e] at r2;exact⟨v,hv,r2⟩
theorem aRs{fr:au}{σ:L2.St}{H:Hp}{Q:VK}(ho:own i=ai)(h:gX own (x2R f (fM i) xb) σ H Q):tOp (r2 f fr) (aKj i) (gX own xb) σ H Q:=by
 obtain⟨ρ,d,ρ',E,h,q⟩:=h;obtain⟨x,h1,h⟩:=bL h;obtain⟨⟨y,ρ1⟩,h2,h⟩:=bL h;obtain⟨z,h3,h⟩:=bL h;obtain⟨v,hv,rv⟩:=aPv E ho h1;split at h
 ·rename_i hz;cases h;refine⟨v,hv,ρ,y,ρ1,E,h2,λw H2 k2 E2 ns r2=>⟨x,y,_,(k2.rep E rv).all,r2.all,h3,λu H3 s3 r3 _=>?_⟩⟩;exact q u H3 (k2.trans (.same s3)) (E2.same s3) ns (r3.bT hz)
 ·exact bx h
theorem aN5{pv:bX}{f:D->D->Res D}{fr:au}(ho:IxR X (r2 f fr))(hoi:own i=ai)(hN:X.N[i]?=ae x)(hv:Vis X.env.scope x)(hb:PE X b (gX own xb))(hs:GX b)(hd:nDb x:=by decide)(hcd:nCd x:=by decide):PE X (.Subscript (.Name x pv) b pos) (gX own (x2R f (fM i) xb)):=PE.imp (aLo ho (fH hN hv hd hcd) hb hs) λ_ _ _=>aRs hoi
theorem aN6:PA X [] (gXA own aGy):=PA.imp j8 λσ H Q z0=>by obtain⟨ρ,ds,ρ',E,h,q⟩:=z0;cases h;exact q [] H (.same (cZ.refl H)) E .refl .nil
theorem aJ2(he:PE X e (gX own xe))(hes:PA X es (gXA own f))(hs:zSE X e es:=by rfl):PA X (e::es) (gXA own (O7 xe f)):=PA.imp (eQ he hes hs) λσ H Q z0=>by
 obtain⟨ρ,ds,ρ',E,h,q⟩:=z0;obtain⟨⟨x,ρ1⟩,h1,h⟩:=bL h;obtain⟨⟨xs,ρ2⟩,h2,h⟩:=bL h;split at h
 ·rename_i hp;cases h;refine⟨ρ,x,ρ1,E,h1,λv H1 k1 E1 ns1 r1=>⟨ρ1,xs,ρ2,E1,h2,λvs H2 k2 E2 ns2 r2=>q _ _ (k1.trans k2) E2 (ns1.trans ns2) (.cons (r1.ku E E1 k2) (r2.mono λa ha=>S8 k1 E1 ha))⟩⟩
 ·exact bx h
theorem aFf(he:PE X e (gE fe re))(hes:PA X es (gXA own f))(hs:zSE X e es:=by rfl):PA X (e::es) (gXA own (wK fe f)):=PA.imp (eQ he hes hs) λσ H Q z0=>by
 obtain⟨ρ,ds,ρ',E,h,q⟩:=z0;obtain⟨x,h1,h⟩:=bL h;obtain⟨⟨xs,ρ2⟩,h2,h⟩:=bL h;split at h
 ·rename_i hp;cases h;refine⟨ρ,x,E.er,h1,λv H1 s1 r1 _=>⟨ρ,xs,ρ2,E.same s1,h2,λvs H2 k2 E2 ns2 r2=>?_⟩⟩;have rn:Rep (New H) H1 v x:=r1.bT hp;exact q _ _ ((KU.same s1).trans k2) E2 ns2 (.cons (rn.ku E (E.same s1) k2) (r2.mono λa ha=>s1.free ha))
 ·exact bx h
theorem aN7(h:PA X es (gXA own f)):PE X (.List es pos) (gX own (aJ0 f)):=PE.imp (aAi h) λσ H Q z0=>by
 obtain⟨ρ,d,ρ',E,h,q⟩:=z0;obtain⟨⟨xs,ρ1⟩,h1,h⟩:=bL h;split at h
 ·rename_i hl;cases h;rw[bc] at hl;refine⟨ρ,xs,_,E,h1,λvs H1 k1 E1 ns r1=>⟨?_,λp hp=>?_⟩⟩
  ·rw[r1.length];exact dj (fg hl.1) (by rw[dk];decide)
  ·have sp:cZ H1 (upd H1 p (.lst vs)):=cZ.upd hp;exact q _ _ (k1.trans (.same sp)) (E1.same sp) ns (.lst aL (S8 k1 E1 hp) (r1.same sp))
 ·exact bx h
theorem aFg(ho:own i=o)(h:tS own (aC8 o i xe) D' σ H):aHi (gX own xe) (xG i) D' σ H:=by
 obtain⟨ρ,fl,E,h,q⟩:=h;obtain⟨⟨d,ρ1⟩,h1,h2⟩:=bL h;cases o with
 |true=>
  simp only[eI] at h2;split at h2
  ·rename_i hk;cases h2;refine⟨ρ,d,ρ1,E,h1,λv H' k E1 ns r=>?_⟩;obtain⟨a,ob,rfl,hn,ha,hm⟩:=aGt r hk;obtain⟨E2,k2⟩:=E.aRq k E1 ns ho hn r.all hk ha hm;exact q _ H' k2 E2
  ·exact bx h2
 |false=>
  simp only[iL,fF,eI] at h2;cases h2;refine⟨ρ,d,ρ1,E,h1,λv H' k E1 ns r=>?_⟩;exact q _ H' (λa ob e hn=>⟨(k a ob e hn).1,by rw[jT ho];exact hn⟩) (E1.set ho (aBr E r))
theorem aN8(ho:own i=o)(hN:X.N.Nodup)(hi:X.N[i]?=ae x)(hx:Loc X.env.scope x)(he:PE X e (gX own xe))(hs:zSw X e x pos' pos:=by rfl)(hf:zFn X x:=by first|exact .inl rfl|exact .inr rfl|assumption) :
  PS X (.Assign [.Name x pos'] e pos) (tS own (aC8 o i xe)):=PS.imp (LR hN hi hx he hs hf) λ_ _ _=>aFg ho
end
end
def aQq:D->D->D->D->Res D
 |.str a,.int i,.str b,.int j=>.ok (.dct (putD [(.str a,.int i)] (.str b) (.int j)))
 |_,_,_,_=>.bad
def aJ3(k v l w:FE):FE:=λρ=>do
 let k <- k ρ
 let v <- v ρ
 let l <- l ρ
 let w <- w ρ
 aQq k v l w
section
variable [KFrag]
section
variable {X:Cx} {b e:Expr} {pos:bX}
theorem aJ4{r1 r2 r3 r4:au}(hk1:PE X k1 (gE g1 r1))(hv1:PE X v1 (gE h1 r2))(hk2:PE X k2 (gE g2 r3))(hv2:PE X v2 (gE h2 r4)):PE X (.Dict [ae k1,ae k2] [v1,v2] pos) (gE (aJ3 g1 h1 g2 h2) af):=
 PE.imp (aHy (VH hk1 hv1 (VH hk2 hv2 aHx)) rfl rfl 0x2 (cy rfl)) λσ H Q z0=>by
 obtain⟨ρ,d,E,h,q⟩:=z0;obtain⟨a1,e1,hA⟩:=bL h;obtain⟨a2,e2,hB⟩:=bL hA;obtain⟨a3,e3,hC⟩:=bL hB;obtain⟨a4,e4,hD⟩:=bL hC;clear h hA hB hC;unfold aQq at hD;split at hD
 ·rename_i x i y j;cases hD;intro p hp;have s0:cZ H (upd H p (.dK [])):=cZ.upd hp;refine⟨ρ,_,E.same s0,e1,λw1 H1 s1 q1 _=>?_⟩;cases q1.inv;refine⟨ρ,_,(E.same s0).same s1,e2,λw2 H2 s2 q2 _=>?_⟩;cases q2.inv;refine⟨ρ,_,((E.same s0).same s1).same s2,e3,λw3 H3 s3 q3 _=>?_⟩;cases q3.inv;refine⟨ρ,_,(((E.same s0).same s1).same s2).same s3,e4,λw4 H4 s4 q4 _=>?_⟩;cases q4.inv;have sm:cZ (upd H p (.dK [])) H4:=((s1.trans s2).trans s3).trans s4;refine⟨sm _ _ aL,[(.inr x,.int i),(.inr y,.int j)],rfl,cy rfl,?_⟩;have sf:cZ H (upd H4 p (.dK (e_ [] [(gf x,V.int i),(gf y,V.int j)]))):=λb o e=>by
   rw[bF (cD e hp)];exact sm b o (s0 b o e)
  have rk:∀P:am->Prop,j5 P (upd H4 p (.dK (e_ [] [(gf x,V.int i),(gf y,V.int j)]))) (putK [(gf x,V.int i)] (gf y) (V.int j)) (putD [(.str x,.int i)] (.str y) (.int j)):=λP=>xW (.int j) (.cons (.int i) .nil) 0x2
  have nd:((putK [(gf x,V.int i)] (gf y:Key) (V.int j)).map (·.1)).Nodup:=jU 0x2;exact q _ _ sf (.dK aL trivial (rk All) nd) λ_=>.dK aL hp (rk _) nd
 ·exact bx hD
end
section
theorem aPw(ha:PE X a (gE fa ra)):PE X a (gE (bPu fa) af):=PE.imp ha λσ H Q z0=>by
 obtain⟨ρ,d,E,h,q⟩:=z0;obtain⟨x,h1,h⟩:=bL h;split at h
 ·rename_i hp;cases h;exact⟨ρ,_,E,h1,λv H' s r _=>q v H' s r λ_=>r.bT hp⟩
 ·exact bx h
end
end
noncomputable def vG(i:ag):FX:=λρ=>match ρ.getD i .uD with
 |.lst xs=>(match xs[xs.length-1]? with|some x=>.ok (x,ρ.set i (.lst xs.dropLast))|none=>.bad)
 |_=>.bad
variable [KFrag]
section
variable {X:Cx} {own:ag->au} {a:Expr}
theorem aCa{i:ag}{x:Str}{p1 apos cpos:bX}(ho:own i=af)(hN:X.N[i]?=ae x)(hv:Vis X.env.scope x)(hd:nDb x:=by decide)(hcd:nCd x:=by decide)
 (hbase:jb (.Name x p1) "pop" X.env (eval (.Name x p1) X.env)=eval (.Name x p1) X.env:=by rfl)
 (hline:(apos.endLine==cpos.line)=af:=by rfl) :
  PE X (.Call (.Attribute (.Name x p1) "pop" apos) [] [] cpos) (gX own (vG i)):=
 PE.imp (aLr mT oh Ai aLt (fH hN hv hd hcd) hbase hline) λσ H Q z0=>by
 obtain⟨ρ,d,ρ',E,h,q⟩:=z0;unfold vG at h;split at h
 ·rename_i xs hx;split at h
  ·rename_i dx hdx;cases h;obtain⟨a,o,hσ,r,hin,ha,hm⟩:=E.ownAt ho (by rw[hx];intro z;cases z);rw[hx] at r hin;obtain⟨vs,hl,rr⟩:=y_ r;obtain⟨v,hvx,rv⟩:=rr.get hdx;have hlen:=rr.length;refine⟨_,hσ,.inl ⟨rfl,vs,.of hl⟩,a,vs,v,rfl,rfl,hl,by rw[hlen];exact hvx,?_⟩;have hin':ι xs=af:=hin;have pall:∀y∈xs,y.pure=af:=λy hy=>jR.mp hin' y hy
   have pdx:d.pure=af:=pall d (vd hdx);have pe:ι xs.dropLast=af:=jR.mpr λy hy=>pall y (List.dropLast_subset _ hy)
   have er:bZ All H vs.dropLast xs.dropLast:=by
    rw[Dm,Dm,hlen];exact rr.take _
   obtain⟨E2,k2⟩:=E.mut (o:=.lst vs.dropLast) (d:=.lst xs.dropLast) ho hσ rfl (.lst aL trivial (er.upd pe hl rfl)) pe;have r1:=(bZ.cons rv .nil).upd (o:=.lst vs.dropLast) (by rw[ι,pdx];rfl) hl rfl;cases r1 with
   |cons r1 _=>exact q _ _ k2 E2 (.set ho) (r1.bT pdx)
  ·exact bx h
 ·exact bx h
end
end Mi
namespace Mi
open PySem PySem.Spec
namespace Rv
theorem ZK:ja (.type "tuple") "__reversed__"=pure aj:=by rw[ib,ig];kernel_rfl
theorem ZL:ja (.type "reversed") "__len__"=pure aj:=by rw[ib,ig];kernel_rfl
theorem slot_next:kN "reversed" "__next__" "reversed.__next__":=
 .of (owner:= "reversed") (n:= "__next__") (by rw[ib,ig];kernel_rfl) 0x6 0x6 0x6
  (by first|exact .inl 0x6|exact .inr 0x6) (by rw[nu];kernel_rfl)
theorem zE:kN "reversed" "__length_hint__" "reversed.__length_hint__":=
 .of (owner:= "reversed") (n:= "__length_hint__") (by rw[ib,ig];kernel_rfl) 0x6 0x6 0x6
  (by first|exact .inl 0x6|exact .inr 0x6) (by rw[nu];kernel_rfl)
theorem O8:kN "reversed" "__iter__" "reversed.__iter__":=
 .of (owner:= "reversed") (n:= "__iter__") (by rw[ib,ig];kernel_rfl) 0x6 0x6 0x6
  (by first|exact .inl 0x6|exact .inr 0x6) (by rw[nu];kernel_rfl)
theorem entry_next:kn ko "reversed.__next__"=ae cz.«reversed.__next__»:=Az 0x8
theorem ZM:kn ko "reversed.__length_hint__"=ae cz.«reversed.__length_hint__»:=Az 0x8
theorem ZP:kn ko "reversed.__iter__"=ae cz.«dict_keyiterator.__iter__»:=
 w_ (id':= "dict_keyiterator.__iter__") 0x8 (by first|rfl|decide +kernel|(unfold String.splitOn;simp +decide [String.splitOnAux])) 0x6 0x8
theorem owner:EM.lookup (String.ofList ['d','e','s','r','e','v','e','r'].reverse)=ae EN:=by kernel_rfl
theorem args_next(a:ak):nw "reversed.__next__" ⟨[a],[]⟩:=by
 unfold nw;rw[AD (n:=['_','_','t','x','e','n','_','_']) 0x8 owner];kernel_rfl
theorem aCb(a:ak):nw "reversed.__iter__" ⟨[a],[]⟩:=by
 unfold nw;rw[AD (n:=['_','_','r','e','t','i','_','_']) 0x8 owner];kernel_rfl
theorem aCc(a:ak):nw "reversed.__length_hint__" ⟨[a],[]⟩:=by
 unfold nw;rw[AD (n:=['_','_','t','n','i','h','_','h','t','g','n','e','l','_','_']) 0x8 owner];kernel_rfl
theorem aCd:kN "reversed" "__init__" "object.__init__":=
 .of (owner:= "object") (n:= "__init__") (by rw[ib,ig];kernel_rfl) 0x6 0x6 0x6
  (by first|exact .inl 0x6|exact .inr 0x6) (by rw[nu];kernel_rfl)
theorem called:TypeCalled "reversed" "reversed.__new__" "object.__init__":=
 ⟨by decide +kernel,by decide +kernel,⟨_,_,PySem.F.mro_reversed⟩,PySem.F.made_reversed,by decide +kernel,by rw[nu];kernel_rfl,aCd⟩
noncomputable def obj(t:am)(i:ah):bg:={cls:=.type "reversed",data:=.fields #[.ref t,cw i]}
theorem aCe(t:am)(items:aE ak)(n:ag)(dct:aq am)(sl:aE (aq ak))(hz:(items.size:ah)<2 ^ 62) :
  ji (cz.«reversed.__new__» ⟨[.type "reversed",.ref t],[]⟩) (λ_ R s=>s.heap.get? t=ae {cls:=.type "tuple",dict:=dct,data:=.seq items n,slots:=sl}/\
   ∀tk,R (.ok (.ret (.ref s.heap.objs.size))) {s with heap:=s.heap.push (obj t ((items.size:ah)-1)),toks:=tk}):=
 .of_wp λprog w A R s h=>by
  obtain⟨hp,g,d,tk,os⟩:=s;obtain⟨hl,h⟩:=h;have hT:(Shared.mk hp g d tk os).TypeIs (.ref t) "tuple":=⟨_,hl,rfl⟩
  unfold cz.«reversed.__new__»;refine ao (gz (newClass_reversed _) ?_)
  try dsimp only
  refine ao (gz (by first|rfl|kernel_rfl) ?_);refine ao (gz (by first|rfl|kernel_rfl) ?_)
  try dsimp only
  refine ao (mI hT ZK ?_)
  try dsimp only
  refine ao ?_;refine ao (r_ (b:=ai) hT (by rw[nu];kernel_rfl) ?_);refine sr (λhab=>bf hab 0x4) (λ_=>?_);refine ao (mI hT og.lookup ?_);dsimp only;rw[av 0x6];refine aI ?_;rw[ax 0x4];refine ao (Do ⟨_,hl,rfl,n,rfl⟩ 0x1 ?_);refine ao (gz rfl ?_);dsimp only;refine ao ?_;unfold EO;exact gu (aI ⟨_,rfl,h _⟩)
theorem aFh{E:ak->ar->Prop}{s:ar}{t:am}{items:aE ak}{Q:ak->ar->Prop}(hL:s.heap.IsTuple t items)(hz:(items.size:ah)<2 ^ 62)
 (h:∀tk,Q (.ref s.heap.objs.size) {s with heap:=s.heap.push (obj t ((items.size:ah)-1)),toks:=tk}):ϑ (aw prog w) A (call (.type "reversed") [.ref t]) Q E s:=by
 obtain⟨⟨c,dct,dt,sl⟩,hl,hc,n,hd⟩:=hL;replace hc:c=.type "tuple":=hc;replace hd:dt=.seq items n:=hd;subst hc hd;refine Ap called 0x4 (PySem.F.typeCall_reversed_1 _) (PySem.F.newCall_reversed_1 _) (λobj=>Dp obj _) PySem.F.entry_reversed_new (aCe t items n dct sl hz) ⟨hl,λtk=>⟨⟨_,cx _ rfl,rfl⟩,h tk⟩⟩
def Is(h:ay)(a t:am)(i:ah):Prop:=∃o,h.get? a=ae o/\o.cls=.type "reversed"/\o.data=.fields #[.ref t,cw i]
theorem Is.ty{s:ar}(x:Is s.heap a t i):s.TypeIs (.ref a) "reversed":=let ⟨o,ho,hc,_⟩:=x;⟨o,ho,hc⟩
theorem Is.at(x:Is h a t i)(e:∀o,h.get? a=ae o->h'.get? a=ae o):Is h' a t i:=let ⟨o,ho,r⟩:=x;⟨o,e o ho,r⟩
section
variable {prog:bh} {w:bd} {A:bS} {E:ak->ar->Prop} {s:ar}
theorem next_item{i:ag}{items:aE ak}{x:ak}{Q:aq ak->ar->Prop}(hit:Is s.heap it t (i:ah))(hl:s.heap.IsTuple t items)(hx:items[i]?=ae x)(hz:(items.size:ah)<2 ^ 62)
 (hQ:∀h' tk,Is h' it t ((i:ah)-1)->fS it s.heap h'->Q (ae x) {s with heap:=h',toks:=tk}):ϑ (aw prog w) A (fz (.ref it)) Q E s:=by
 obtain⟨o,ho,hc,hd⟩:=id hit;have hi:i<items.size:=(su.mp hx).1;unfold fz;refine ao (iP (i9 hit.ty slot_next
  (ip slot_next hit.ty entry_next ?_ (args_next _))))
 unfold cz.«reversed.__next__»;refine ao (gz rfl ?_)
 try dsimp only
 refine ao (dh ho hd rfl ?_);refine ao (dh ho hd rfl ?_);show ϑ _ _ (if (i:ah)<0 then _ else _) _ _ s;rw[ax 0x1];refine ao (mI hl.typeIs og.lookup ?_);rw[ax 0x2];refine ao (Dq ?_);refine ao (iP (EQ hl 0x1 0x1 (by unfold mf;simp;lia) hx ?_));dsimp only;refine ao (dh ho hd rfl ?_);show ϑ _ _ (sv (.ref it) 1 (cw ((i:ah)-1)) >>= _) _ _ _;refine ao (jq ho hd 0x2 ?_);refine aI ⟨x,rfl,aI (hQ _ _ ?_ (lj ..))⟩;exact⟨_,gL _ ho (xg (kq hd _)),(AE ..).trans hc,by
  rw[kq hd];simp⟩
theorem next_end(hh:A.handled=aj)(hit:Is s.heap it t (-1))
 (hQ:∀h',oS it s.heap h'->Q aj {s with heap:=h'}):ϑ (aw prog w) A (fz (.ref it)) Q E s:=by
 obtain⟨o,ho,hc,hd⟩:=id hit;unfold fz;refine ao (iP (i9 hit.ty slot_next
  (ip slot_next hit.ty entry_next ?_ (args_next _))))
 unfold cz.«reversed.__next__»;refine ao (gz rfl ?_)
 try dsimp only
 refine ao (dh ho hd rfl ?_);refine ao (dh ho hd rfl ?_);show ϑ _ _ (if (-1:ah)<0 then _ else _) _ _ s;rw[av 0x4];refine ao (jw ?_);refine ao ?_;refine ao (jq ho hd 0x2 ?_);have h1:=gL (gn (·.set! 1 (cw (-1)))) ho (xg (kq hd _));have hd1:(gn (·.set! 1 (cw (-1))) o).data=.fields #[.ref t,cw (-1)]:=by rw[kq hd];simp
 refine jq h1 hd1 0x2 ?_;refine ao ?_;unfold ET;simp only[newExc,newTuple];refine ao ?_;refine ao (gu ?_ (by size_fits));refine ao (gz (by first|rfl|(simp only[AF];rfl)) ?_);refine gu ?_ (by size_fits);simp only[rc];refine ao (AG ?_)
 first|rw[show A.in1.handled=aj from hh]|rw[hh]
 refine ao (aI (AH ?_));refine ao (r_ ⟨_,cx _ rfl,rfl⟩ Ay ?_);exact aI (hQ _ ((((lj ..).trans (lj ..)).extBut.push _).push _))
theorem O9(hit:Is s.heap it t i)(h:Q (.ref it) s):ϑ (aw prog w) A (i7 (.ref it)) Q E s:=by
 refine Dr hit.ty O8 (ip O8 hit.ty ZP ?_ (aCb _));show ϑ _ _ (ret (.ref it)) _ _ s;exact aI ⟨_,rfl,"reversed",_,hit.ty,slot_next.lookup,h⟩
end
theorem walks{prog:bh}(hh:A.handled=aj)(I l:am)(hne:l≠I)(items:aE ak)(hz:(items.size:ah)<2 ^ 62) :
  Walks prog w A I [I,l] [I] items.size (λi v=>items[items.size-1-i]?=ae v) (λi h=>i<=items.size/\Is h I l ((items.size:ah)-1-(i:ah))/\h.IsTuple l items) where
 sub:=λb hb=>by simp at hb;simp[hb]
 frame:=λ_ _ _ x hk=>⟨x.1,x.2.1.at λo e=>hk I 0x2 o e,let ⟨o,e,r⟩:=x.2.2;⟨o,hk l 0x2 o e,r⟩⟩
 item:=λi s Q E hi x hQ=>by
  have e:(items.size:ah)-1-(i:ah)=((items.size-1-i:ag):ah):=by lia
  have hit:=x.2.1;rw[e] at hit;have hx:items[items.size-1-i]?=ae (items[items.size-1-i]' 0x1):=lf 0x1;refine next_item hit x.2.2 hx hz λh' tk hit' hs'=>?_
  have e2:((items.size-1-i:ag):ah)-1=(items.size:ah)-1-((i+1:ag):ah):=by lia
  rw[e2] at hit';exact hQ _ h' tk hx ⟨hi,hit',let ⟨o,eo,r⟩:=x.2.2;⟨o,(hs'.2 l hne).trans eo,r⟩⟩ λb o hb eo=>hs'.extBut b o (λh=>hb (by simp[h])) eo
 done:=λs Q E x hQ=>by
  have e:(items.size:ah)-1-(items.size:ah)=-1:=by lia
  have hit:=x.2.1;rw[e] at hit;exact next_end hh hit λh' he'=>hQ h' s.toks λb o hb eo=>he' b o (λh=>hb (by simp[h])) eo
 self:=λ_ _ _ _ x hQ=>O9 x.2.1 hQ
section
variable {prog:bh} {w:bd} {A:bS} {E:ak->ar->Prop} {s:ar}
theorem hint(hit:Is s.heap I l ((items.size:ah)-1))(hl:s.heap.IsTuple l items)(hz:items.size<=aT)(h:∀b tk,Q b {s with toks:=tk}):ϑ (aw prog w) A (Dt (.ref I)) Q E s:=by
 unfold Dt;refine ao (mI hit.ty ZL ?_);dsimp only;refine sr (λhab=>bf hab 0x6) (λ_=>?_);rw[ax 0x2];refine ao (mI hit.ty zE.lookup ?_);generalize hid:("reversed.__length_hint__" : fN)=id0
 wp_delta
 rw[show splitId id0=ae ("reversed","__length_hint__") from by subst hid;decide +kernel];subst hid;refine ao (r_ (T:= "reversed") (b:=af) hit.ty PySem.F.sub_reversed_self ?_);refine sr (λhab=>bf hab 0x4) (λ_=>?_);refine sr (λhab=>bf hab 0x6) (λ_=>?_);refine ao (jw ?_);refine ao (gz (zE.bind _) ?_);refine ao (iP (ip zE hit.ty ZM ?_ (aCc _)));obtain⟨o,ho,hc,hd⟩:=id hit;unfold cz.«reversed.__length_hint__»;refine ao (gz (a:=cK I) rfl ?_);refine ao (dh ho hd (x:=.ref l) rfl ?_);rw[ax (show ¬((cK l==d5)=af) from nS)];rw[dk] at hz;refine ao (Do (items:=items) hl 0x1 ?_);refine ao (gz (a:=ae (items.size:ah)) rfl ?_);dsimp only;refine ao (dh ho hd (x:=cw ((items.size:ah)-1)) rfl ?_);show ϑ _ _ (if (items.size:ah)<(items.size:ah)-1+1 then _ else _) _ _ _;rw[ax 0x1];refine ao (Dq (aI ⟨_,rfl,?_⟩));dsimp only;refine ao (gz (a:=ae ((items.size:ah)-1+1)) rfl ?_);dsimp only;rw[ax (by simp only[EU,jh,Bool.not_eq_false,bc,dE];lia),ax 0x1,ax (by simp only[vm,dE,dk];lia)];exact aI (h _ _)
theorem extend(hh:A.handled=aj)(hit:Is s.heap I l ((items.size:ah)-1))(hl:s.heap.IsTuple l items)(hIl:l≠I)(S:am)(hSr:S≠I)(hSd:S≠l)(res:ak)(c₀:ag)(hS:s.heap.get? S=ae {cls:=.type "list",data:=.seq #[] c₀})
 (hR:∀h' tk acc' c',(∀b o,b≠S->b≠I->s.heap.get? b=ae o->h'.get? b=ae o)->h'.get? S=ae {cls:=.type "list",dict:=aj,data:=.seq acc' c',slots:=#[]}->wf (λi v=>items[items.size-1-i]?=ae v) acc' items.size->R (.ok (.ret res)) {s with heap:=h',toks:=tk})(hn:items.size<=aT) :
  ϑ (aw prog w) A.in1 (ny (.ref S) (.ref I) res)
   (λfin s'=>match fin with|.done f=>R (.ok f) s'|.again c'=>c'.quiet=af/\codeAny (aw prog w) A c' R s') (λe s'=>R (.error e) s') s:=by
 have hz:(items.size:ah)<2 ^ 62:=by rw[dk] at hn;lia
 have W:=walks (prog:=prog) (w:=w) (A:=A.in1) hh I l hIl items hz;have hSf:S∉[I,l]:=by simp only[bP,nB,or_false,jg];exact⟨hSr,hSd⟩
 have st0:∀{h:ay},Is h I l ((items.size:ah)-1)->h.IsTuple l items->0<=items.size/\Is h I l ((items.size:ah)-1-((0:ag):ah))/\h.IsTuple l items:=λ{h} a b=>⟨cq _,by simpa using a,b⟩
 have key:∀(h:ay)(c₁ tk:ag),Is h I l ((items.size:ah)-1)->h.IsTuple l items->(∀b o,b≠S->s.heap.get? b=ae o->h.get? b=ae o)->
   h.get? S=ae {cls:=.type "list",data:=.seq #[] c₁}->codeAny (aw prog w) A (.builtin "list.extend.loop" ⟨[.ref S,.ref I,res],[]⟩) R {s with heap:=h,toks:=tk}:=by
  intro h c₁ tk h1 h2 hk hS₁;refine codeAny_extend_loopS W.toS hn S hSf res items.size 0 _ #[] c₁ rfl (cq _) (st0 h1 h2) hS₁ (ItemsOf.nil _) λs' acc' c' hm hS' hacc=>?_
  rw[Moved.eq_with hm];refine hR s'.heap s'.toks acc' c' (λb o hb hbI e=>hm.heap b o (λhmem=>?_) (hk b o hb e)) hS' hacc;rcases bP.mp hmem with e'|hmem
  ·exact hb e'
  ·exact hbI (d6.mp hmem)
 unfold ny;refine ao (me (T:= "reversed") hit.ty ?_);have h1:Du (.ref S) (.ref I)=ai:=by simp[Du,hSr]
 have n1:(gq "reversed"==gq "list")=ai:=by decide
 have n2:(gq "reversed"==gq "tuple")=ai:=by decide
 simp only[h1,n1,n2,zc,iL,fF];refine ao (O9 hit ?_);refine ao (eJ (hint hit hl hn λb tk=>?_));refine sr (λ_=>?_) (λ_=>aI ⟨AI Dw _,key _ c₀ _ hit hl (λb o _ e=>e) hS⟩);refine ao (jw ?_);refine ao ?_;show ϑ _ _ (wx S (·.push .none) >>= λ_=>wx S (·.pop)) _ _ _;refine ao (AJ hS rfl ?_);have hS₂:=gL (eL (·.push d5)) hS rfl;refine AJ (hz:=by seq_fits) hS₂ rfl ?_;have hS₃:=gL (eL (·.pop)) hS₂ rfl;have oth:∀b o,b≠S->s.heap.get? b=ae o->((s.heap.update S (eL (·.push d5))).update S (eL (·.pop))).get? b=ae o:=λb o hb e=>(jc _ _ (Ne.symm hb)).trans ((jc _ _ (Ne.symm hb)).trans e)
 refine aI ⟨AI Dw _,key _ _ _ (hit.at λo e=>oth I o (Ne.symm hSr) e) (let ⟨o,e,r⟩:=hl;⟨o,oth l o (Ne.symm hSd) e,r⟩) (λb o hb e=>oth b o hb e) hS₃⟩
theorem init(hh:A.handled=aj)(hit:Is s.heap I l ((items.size:ah)-1))(hl:s.heap.IsTuple l items)(hIl:l≠I)(S:am)(hSr:S≠I)(hSd:S≠l)(hS:s.heap.get? S=ae {cls:=.type "list",data:=.seq #[]})
 (hR:∀h' tk acc' c',(∀b o,b≠S->b≠I->s.heap.get? b=ae o->h'.get? b=ae o)->h'.get? S=ae {cls:=.type "list",dict:=aj,data:=.seq acc' c',slots:=#[]}->wf (λi v=>items[items.size-1-i]?=ae v) acc' items.size->R (.ok (.ret .none)) {s with heap:=h',toks:=tk})(hn:items.size<=aT) :
  ϑ (aw prog w) A.in1 (cz.«list.__init__» ⟨[.ref S,.ref I],[]⟩)
   (λfin s'=>match fin with|.done f=>R (.ok f) s'|.again c'=>c'.quiet=af/\codeAny (aw prog w) A c' R s') (λe s'=>R (.error e) s') s:=by
 show ϑ _ _ (do let old <- Dx (.ref S);EV (.ref S) (λ_=>#[]);letGo old.toList.reverse;ny (.ref S) (.ref I) .none) _ _ s;refine ao ?_;unfold Dx;refine ao (iS hS rfl (aI ?_));show ϑ _ _ (wx S (λ_=>#[]) >>= λ_=>letGo (#[]:aE ak).toList.reverse >>= λ_=>ny (.ref S) (.ref I) .none) _ _ s;refine ao (AJ hS rfl ?_);have hS₂:=gL (eL (λ_=>(#[]:aE ak))) hS rfl;have oth:∀b o,b≠S->s.heap.get? b=ae o->(s.heap.update S (eL (λ_=>(#[]:aE ak)))).get? b=ae o:=
  λb o hb e=>(jc _ _ (Ne.symm hb)).trans e
 refine ao (Al ?_);refine extend hh (hit.at λo e=>oth I o (Ne.symm hSr) e) (let ⟨o,e,r⟩:=hl;⟨o,oth l o (Ne.symm hSd) e,r⟩) hIl S hSr hSd .none _ hS₂ (λh' tk acc' c' hk hS' hacc=>?_) hn;exact hR h' tk acc' c' (λb o hb hbI e=>hk b o hb hbI (oth b o hb e)) hS' hacc
theorem aCf(hh:A.handled=aj)(hit:Is s.heap I l ((items.size:ah)-1))(hl:s.heap.IsTuple l items)(hIl:l≠I)(hn:items.size<=aT)
 (hQ:∀h' tk acc' c',(∀b o,b≠I->s.heap.get? b=ae o->h'.get? b=ae o)->h'.get? s.heap.objs.size=ae {cls:=.type "list",dict:=aj,data:=.seq acc' c',slots:=#[]}->wf (λi v=>items[items.size-1-i]?=ae v) acc' items.size->Q (.ref s.heap.objs.size) {s with heap:=h',toks:=tk}) :
  ϑ (aw prog w) A (call (.type "list") [.ref I]) Q E s:=by
 refine AB (Q₁:=λobj s₁=>obj=.ref s.heap.objs.size/\s₁={s with heap:=s.heap.push {cls:=.type "list",data:=.seq #[]}}) PySem.F.called_list (PySem.F.typeCall_list_1 _) PySem.F.entry_list_init
  (code_list_new _ ⟨rfl,rfl⟩) λobj s₁ h₁=>?_
 obtain⟨rfl,rfl⟩:=h₁;have hS:(s.heap.push {cls:=.type "list",data:=.seq #[]}).get? s.heap.objs.size=ae {cls:=.type "list",data:=.seq #[]}:=cx _ rfl;have lt:∀{b:am}{o:bg},s.heap.get? b=ae o->s.heap.objs.size≠b:=λe=>gS (bn e)
 have l1:s.heap.objs.size≠I:=let ⟨o,e,_⟩:=hit;lt e
 have l2:s.heap.objs.size≠l:=let ⟨o,e,_⟩:=hl;lt e
 refine⟨⟨_,hS,rfl⟩,PySem.F.args_list_init_2 _ _,init (A:=A.in1) hh (hit.at λo e=>br _ e) (let ⟨o,e,r⟩:=hl;⟨o,br _ e,r⟩) hIl _ l1 l2 hS (λh' tk acc' c' hk hS' hacc=>?_) hn⟩;exact⟨rfl,hQ h' tk acc' c' (λb o hb e=>hk b o (Ne.symm (lt e)) hb (br _ e)) hS' hacc⟩
end
end Rv
open L2 PySem.SeqAt PyProof.Rows
def aKr:D->Res D
 |.tup xs=>if ι xs&&ϒ (xs.length<=lim) then .ok (.lst xs.reverse) else .bad
 |_=>.bad
theorem S9:em "reversed"=ae (.type "reversed"):=0x6
variable [KFrag]
theorem bZ.rev{P:am->Prop}{H:Hp}:∀{vs:aa V}{ds:aa D},bZ P H vs ds->bZ P H vs.reverse ds.reverse
 |_,_,.nil=>.nil
 |_,_,.cons r t=>by rw[gw,gw];exact t.rev.snoc r
theorem aCg{ds:aa D}(h:ι ds=af):ι ds.reverse=af:=jR.mpr λy hy=>jR.mp h y (List.mem_reverse.mp hy)
theorem aFi{xs:aa V}{its acc:aa ak}(r:Vals xs its)(hl:acc.length=its.length)(h:∀j v,acc[j]?=ae v->its[its.length-1-j]?=ae v):Vals xs.reverse acc:=by
 have e:acc=its.reverse:=by
  refine Dy λj=>?_
  by_cases hj:j<its.length
  ·have h1:acc[j]?=ae (acc[j]' 0x1):=ff 0x1;have h2:=h j _ h1;rw[h1,List.getElem?_reverse hj,h2]
  ·rw[AK 0x1,AK (by rw[li];lia)]
 rw[e];clear e h hl;induction r with
 |nil=>exact .nil
 |cons h t ih=>
  rw[gw,gw];exact ih.append (.cons h .nil)
section
variable {X:Cx} {e:Expr} {fe:FE} {re:au} {p p2 pos pos2:bX}
theorem aJ5(hc:X.calm=af)(hg:Gl X "list")(hm:X.mg "list"=aj)(hg2:Gl X "reversed")(hm2:X.mg "reversed"=aj)(he:PE X e (gE fe re))(hs:cf [e] X.env=[(ai,eval e X.env)]:=by rfl)
 (hs2:cf [.Call (.Name "reversed" p2) [e] [] pos2] X.env=[(ai,eval (.Call (.Name "reversed" p2) [e] [] pos2) X.env)]:=by rfl) :
  PE X (.Call (.Name "list" p) [.Call (.Name "reversed" p2) [e] [] pos2] [] pos) (gE (b1 aKr fe) af):=by
 rintro Ψ s σ H Q I ⟨ρ,d,E,h,q⟩;obtain⟨d0,h1,h2⟩:=bL h;unfold aKr at h2;split at h2
 rotate_left
 ·exact bx h2
 rename_i ds;split at h2
 rotate_left
 ·exact bx h2
 rename_i hb;cases h2;rw[bc] at hb;refine ik (nA I hg hm SM ?_);refine iA ?_ hs2 rfl;rw[hs2];show ϑ _ _ (lI [(ai,eval (.Call (.Name "reversed" p2) [e] [] pos2) X.env)]) _ _ s;refine n4 ?_;refine ik (nA I hg2 hm2 S9 ?_);refine iA ?_ hs rfl;rw[hs];show ϑ _ _ (lI [(ai,eval e X.env)]) _ _ s;refine n4 (thn (he Ψ s σ H (λv H1=>cZ H H1/\Rep All H1 v (.tup ds)) I ⟨ρ,_,E,h1,λv H1 s1 r1 _=>⟨s1,r1⟩⟩) λu s1 ⟨x,H1,I1,ru,sm,rx⟩=>?_);obtain⟨t,xs,rfl,ex,rr⟩:=rx.fK;cases ru;obtain⟨its,rv,ht,hz⟩:=I1.tuple (.of ex);have htt:s1.heap.IsTuple t its.toArray:=ht;refine nX ?_;have hz':its.toArray.size<=aT:=by rw[cm,<-rv.length];exact hz
 refine Rv.aFh htt (by rw[dk] at hz';lia) λtk=>?_
 refine nX ?_;have hne:t≠s1.heap.objs.size:=let ⟨o,e,_⟩:=htt;cu (bn e)
 refine Rv.aCf (s:={s1 with heap:=s1.heap.push (Rv.obj t ((its.toArray.size:ah)-1)),toks:=tk}) (I:=s1.heap.objs.size) (l:=t) (items:=its.toArray) (I1.ok.hd hc) ⟨_,cx _ rfl,rfl,rfl⟩ (let ⟨o,e,r⟩:=htt;⟨o,br _ e,r⟩) hne hz' λh' tk' acc c hk hS hacc=>?_
 have hsz:((s1.heap.push (Rv.obj t ((its.toArray.size:ah)-1))).objs.size)=s1.heap.objs.size+1:=eS ..;have hfr:H1 (s1.heap.push (Rv.obj t ((its.toArray.size:ah)-1))).objs.size=aj:=I1.hok.fresh (by rw[hsz];lia);have hlen:acc.toList.length=its.length:=by have:=hacc.1;simpa using this
 have hv:Vals xs.reverse acc.toList:=aFi rv hlen λj v hj=>by
  have:=hacc.2 j v (by simpa using hj);simpa using this
 have sm2:cZ H1 (upd H1 (s1.heap.push (Rv.obj t ((its.toArray.size:ah)-1))).objs.size (.lst xs.reverse)):=cZ.upd hfr;refine⟨.ref (s1.heap.push (Rv.obj t ((its.toArray.size:ah)-1))).objs.size,_,I1.laid (a:=(s1.heap.push (Rv.obj t ((its.toArray.size:ah)-1))).objs.size) (o:=.lst xs.reverse) (h':=h') (t':=tk') (λb o e=>hk b o (cu (bn e)) (br _ e)) (by rw[hsz];lia) ⟨by rw[li];exact hz,acc.toList,c,hv,by simpa using hS⟩,rfl,?_⟩;exact q _ _ (sm.trans sm2) (.lst aL trivial (rr.rev.same sm2)) λ_=>.lst aL (sm.free hfr) ((rr.rev.bT (aCg hb.1)).same sm2)
end
end Mi
namespace Wl
open PySem PySem.Spec
noncomputable abbrev liO(xs:aE ak)(n:ag)(sl:aE (aq ak):=#[]):bg:={cls:=.type "list",data:=.seq xs n,slots:=sl}
theorem O5:ja (.type "list") "keys"=pure aj:=by rw[ib,ig];kernel_rfl
theorem noGet:ja (.type "list") "__getattr__"=pure aj:=by rw[ib,ig];kernel_rfl
theorem O6:kn ko "list.__getattribute__"=ae cz.«object.__getattribute__»:=w_ (id':= "object.__getattribute__") 0x8 0x6 0x6 0x8
theorem jW(a:am)(xs:aE ak)(n:ag)(sl:aE (aq ak))(u:fw):ji (cz.«object.__getattribute__» ⟨[.ref a,.str "keys" u],[]⟩) (λA R s=>s.heap.get? a=ae (liO xs n sl)/\Aq (.ref a) "keys" A R s):=.of_wp λprog w A R s hs=>by
 obtain⟨hp,g,d,tk,os⟩:=s;obtain⟨e,hh,q⟩:=hs;have ty:(⟨hp,g,d,tk,os⟩:ar).TypeIs (.ref a) "list":=⟨_,e,rfl⟩
 have no:=O5
 wp_walk
 exact Ar hh q (As 0x6 (by size_fits))
section
variable {prog:bh} {w:bd} {A:bS} {E:ak->ar->Prop} {hp:ay} {g:aE jn} {d:jo} {tk:ag} {os:jp} {a:am} {xs:aE ak} {n:ag} {sl:aE (aq ak)}
theorem gone(e:hp.get? a=ae (liO xs n sl))(hh:A.handled=aj)(hk:kw=[])(q:∀h' tk' x,Au hp h' x (.ref a) "keys"->E (.ref x) ⟨h',g,d,tk',os⟩) :
  ϑ (aw prog w) A (call (.builtin "list.__getattribute__") ([.ref a]++[.str "keys" u]) kw) Q E ⟨hp,g,d,tk,os⟩:=by
 subst hk;exact jd AL ⟨_,e,rfl⟩ O6 (F.args_list_getattribute_2 _ _) (jW a xs n sl u) ⟨e,hh,λh' tk' x hx=>q h' tk' x hx⟩
theorem lacks(e:hp.get? a=ae (liO xs n sl))(hh:A.handled=aj)(q:∀h' tk',(∀b o,hp.get? b=ae o->h'.get? b=ae o)->Q aj ⟨h',g,d,tk',os⟩):ϑ (aw prog w) A (nk (.ref a) "keys") Q E ⟨hp,g,d,tk,os⟩:=by
 have ty:∀tk',(⟨hp,g,d,tk',os⟩:ar).TypeIs (.ref a) "list":=λ_=>⟨_,e,rfl⟩
 have f3:=AL.lookup;have f4:=AL.bind (.ref a);have f5:=noGet;have sub:=Aw
 wp_walk using gone e hh
 case hk=>rfl
 intro h' tk' x hx;obtain⟨t,u,ex⟩:=hx.there;show ϑ _ _ (Ax _ _ _ _ _ _ _) _ _ _
 wp_walk
 exact q _ _ hx.keeps
end
theorem aH0{h:ay}(e:h.get? c=ae o)(hc:o.cls=.type T)(ed:h.get? d=ae od)(hd:od.cls=.type U)(ne:(gq T==gq U)=ai):c≠d:=λq=>by
 subst q;rw[e] at ed;cases ed;rw[hc] at hd;rw[hd] at ne;simp at ne
def Prs{prog:bh}{w:bd}{K:Type}[d4 K](knd:KeyKind prog w K)(items:aE ak)(ps:aa (K×ak))(h:ay):Prop:=items.size=ps.length/\∀(i:ag)(kv:K×ak),ps[i]?=ae kv->∃(p:am)(x:ak)(o:bg)(n:ag),items[i]?=ae (cK p)/\h.get? p=ae o/\o.cls=.type "tuple"/\o.data=.seq #[x,kv.2] n/\knd.is kv.1 x=af
theorem Prs.keep[d4 K]{knd:KeyKind prog w K}{ps:aa (K×ak)}{h h':ay}(x:Prs knd items ps h)(k:∀c o,o.cls=.type "tuple"->h.get? c=ae o->h'.get? c=ae o):Prs knd items ps h':=
 ⟨x.1,λi kv e=>let ⟨p,v,o,n,h1,h2,h3,h4,h5⟩:=x.2 i kv e;⟨p,v,o,n,h1,k p o h3 h2,h3,h4,h5⟩⟩
end Wl
namespace Wt
open PySem PySem.Spec Wl
noncomputable abbrev tpO(xs:aE ak)(n:ag)(sl:aE (aq ak)):bg:={cls:=.type "tuple",data:=.seq xs n,slots:=sl}
theorem O5:ja (.type "tuple") "keys"=pure aj:=by rw[ib,ig];kernel_rfl
theorem noGet:ja (.type "tuple") "__getattr__"=pure aj:=by rw[ib,ig];kernel_rfl
theorem O6:kn ko "tuple.__getattribute__"=ae cz.«object.__getattribute__»:=w_ (id':= "object.__getattribute__") 0x8 0x6 0x6 0x8
theorem jW(a:am)(xs:aE ak)(n:ag)(sl:aE (aq ak))(u:fw):ji (cz.«object.__getattribute__» ⟨[.ref a,.str "keys" u],[]⟩) (λA R s=>s.heap.get? a=ae (tpO xs n sl)/\Aq (.ref a) "keys" A R s):=.of_wp λprog w A R s hs=>by
 obtain⟨hp,g,d,tk,os⟩:=s;obtain⟨e,hh,q⟩:=hs;have ty:(⟨hp,g,d,tk,os⟩:ar).TypeIs (.ref a) "tuple":=⟨_,e,rfl⟩
 have no:=O5
 wp_walk
 exact Ar hh q (As 0x6 (by size_fits))
section
variable {prog:bh} {w:bd} {A:bS} {E:ak->ar->Prop} {hp:ay} {g:aE jn} {d:jo} {tk:ag} {os:jp} {a:am} {xs:aE ak} {n:ag} {sl:aE (aq ak)}
theorem gone(e:hp.get? a=ae (tpO xs n sl))(hh:A.handled=aj)(hk:kw=[])(q:∀h' tk' x,Au hp h' x (.ref a) "keys"->E (.ref x) ⟨h',g,d,tk',os⟩) :
  ϑ (aw prog w) A (call (.builtin "tuple.__getattribute__") ([.ref a]++[.str "keys" u]) kw) Q E ⟨hp,g,d,tk,os⟩:=by
 subst hk;exact jd AM ⟨_,e,rfl⟩ O6 (F.args_tuple_getattribute_2 _ _) (jW a xs n sl u) ⟨e,hh,λh' tk' x hx=>q h' tk' x hx⟩
theorem lacks(e:hp.get? a=ae (tpO xs n sl))(hh:A.handled=aj)(q:∀h' tk',(∀b o,hp.get? b=ae o->h'.get? b=ae o)->Q aj ⟨h',g,d,tk',os⟩):ϑ (aw prog w) A (nk (.ref a) "keys") Q E ⟨hp,g,d,tk,os⟩:=by
 have ty:∀tk',(⟨hp,g,d,tk',os⟩:ar).TypeIs (.ref a) "tuple":=λ_=>⟨_,e,rfl⟩
 have f3:=AM.lookup;have f4:=AM.bind (.ref a);have f5:=noGet;have sub:=Aw
 wp_walk using gone e hh
 case hk=>rfl
 intro h' tk' x hx;obtain⟨t,u,ex⟩:=hx.there;show ϑ _ _ (Ax _ _ _ _ _ _ _) _ _ _
 wp_walk
 exact q _ _ hx.keeps
end
end Wt
namespace Wl
open PySem PySem.Spec
section
variable {prog:bh} {w:bd} {A:bS} {E:ak->ar->Prop} {hp:ay} {g:aE jn} {d:jo} {tk:ag} {os:jp} {a:am} {xs:aE ak} {n:ag} {sl:aE (aq ak)}
noncomputable def tyN:au->fN
 |true=>"list"
 |false=>"tuple"
abbrev sqO(b:au)(xs:aE ak)(n:ag)(sl:aE (aq ak)):bg:={cls:=.type (tyN b),data:=.seq xs n,slots:=sl}
def aH1:au->ay->am->am->ag->Prop
 |true,h,it,l,k=>h.IsListIter it l k
 |false,h,it,l,k=>h.IsTupleIter it l k
theorem aN9(z:aH1 b h it l k)(e:h.get? c=ae o)(hc:o.cls=.type "tuple"):c≠it:=by
 cases b<;>exact let ⟨oi,ei,ci,_⟩:=z;aH0 e hc ei ci 0x4
theorem aJ6(z:aH1 b h it l k)(e:h'.get? it=h.get? it):aH1 b h' it l k:=by
 cases b<;>exact let ⟨oi,ei,r⟩:=z;⟨oi,e.trans ei,r⟩
theorem aNa(e:hp.get? a=ae (sqO b xs n sl))(hh:A.handled=aj)(q:∀h' tk',(∀b o,hp.get? b=ae o->h'.get? b=ae o)->Q aj ⟨h',g,d,tk',os⟩):ϑ (aw prog w) A (nk (.ref a) "keys") Q E ⟨hp,g,d,tk,os⟩:=by
 cases b
 ·exact Wt.lacks e hh q
 ·exact lacks e hh q
end
section
variable {prog:bh} {w:bd} {A:bS} {E:ak->ar->Prop} {s:ar} {it l:am} {items:aE ak} {nl k:ag} {sl:aE (aq ak)}
theorem aJ7{Q:aq ak->ar->Prop}(z:aH1 b s.heap it l k)(el:s.heap.get? l=ae (sqO b items nl sl))(hx:items[k]?=ae x)(hQ:∀h',aH1 b h' it l (k+1)->fS it s.heap h'->Q (ae x) {s with heap:=h'}):ϑ (aw prog w) A (fz (.ref it)) Q E s:=by
 cases b
 ·exact Bh z ⟨_,el,rfl,_,rfl⟩ hx hQ
 ·exact Bf z ⟨_,el,rfl,_,rfl⟩ hx hQ
theorem aNb{Q:aq ak->ar->Prop}(hh:A.handled=aj)(z:aH1 b s.heap it l k)(el:s.heap.get? l=ae (sqO b items nl sl))(hx:items[k]?=aj)(hQ:∀h',oS it s.heap h'->Q aj {s with heap:=h'}):ϑ (aw prog w) A (fz (.ref it)) Q E s:=by
 cases b
 ·exact Bi hh z ⟨_,el,rfl,_,rfl⟩ hx hQ
 ·exact Bg hh z ⟨_,el,rfl,_,rfl⟩ hx hQ
theorem aPx{Q:ak->ar->Prop}(el:s.heap.get? l=ae (sqO b items nl sl))(hQ:∀oi,aH1 b (s.heap.push oi) s.heap.objs.size l 0->Q (.ref s.heap.objs.size) {s with heap:=s.heap.push oi}):ϑ (aw prog w) A (i7 (.ref l)) Q E s:=by
 cases b
 ·exact lb ⟨_,el,rfl,_,rfl⟩ (hQ _ ⟨_,cx _ rfl,rfl,rfl⟩)
 ·exact CD ⟨_,el,rfl,_,rfl⟩ (hQ _ ⟨_,cx _ rfl,rfl,rfl⟩)
end
section
variable {prog:bh} {w:bd} {K:Type} [d4 K] {knd:KeyKind prog w K} {A:bS} {R:Except ak Flow->ar->Prop} {it l d:am} {items:aE ak} {ps:aa (K×ak)} {nl:ag} {sl:aE (aq ak)}
theorem JL(hh:A.handled=aj)(hdi:d≠it)(hdl:d≠l)(hil:l≠it) :
  ∀(m k:ag)(s:ar)(kvs:aa (K×ak)),k+m=items.size->kvs.length+m<=aT->aH1 b s.heap it l k->s.heap.get? l=ae (sqO b items nl sl)->Prs knd items ps s.heap->s.heap.DictOf knd d kvs->
  (∀h' tk,h'.DictOf knd d (kQ kvs (ps.drop k))->(∀c o,c≠d->c≠it->s.heap.get? c=ae o->h'.get? c=ae o)->R (.ok (.ret .none)) {s with heap:=h',toks:=tk})->
  codeAny (aw prog w) A (.builtin "dict.update.loop" ⟨[.ref d,.ref it,cw k,.none],[]⟩) R s:=by
 intro m;induction m with
 |zero=>
  intro k s kvs hkm hl Z el Pp hd q;refine km Wz.vD ?_;rw[lm (show se "dict.update.loop"=af by decide +kernel) _];refine ao (aNb hh Z el (ni 0x1) λh' kp=>?_);refine ao ?_;unfold AA;rw[k6];refine ao (aI (aI (aI ?_)));have e:ps.drop k=[]:=mS (by have:=Pp.1;lia);rw[e] at q;obtain⟨o,es,ep,ho,r⟩:=hd;exact q _ s.toks ⟨o,es,ep,kp d o hdi ho,r⟩ λc o _ c1 e=>kp c o c1 e
 |succ m ih=>
  intro k s kvs hkm hl Z el Pp hd q;have hlp:k<ps.length:=by have:=Pp.1;lia
  obtain⟨p,x,o,n,hi,hp,hpc,hpd,his⟩:=Pp.2 k ps[k] (ff hlp);have hpi:p≠it:=aN9 Z hp hpc;refine km Wz.vD ?_;rw[lm (show se "dict.update.loop"=af by decide +kernel) _];refine ao (aJ7 Z el hi λh' Z' kp=>?_);have hp':h'.get? p=ae o:=(kp.2 p hpi).trans hp;refine ao (eJ (ao (Df ?_)));refine ao (me ⟨_,hp',hpc⟩ ?_);rw[av 0x4];refine ao (iS hp' hpd (aI ?_));show ϑ _ _ (l8 [x,ps[k].2] (dictSet d x ps[k].2)) _ _ _;have hd':h'.DictOf knd d kvs:=let ⟨o,es,ep,ho,r⟩:=hd;⟨o,es,ep,(kp.2 d hdi).trans ho,r⟩
  obtain⟨od,es,ep,ho,hc,_⟩:=id hd';refine eJ (Dg his hd' (λh2 hd2' sb=>?_) 0x1);refine aI ⟨lh _ 0x6,?_⟩;have ek:(cw (k+1):ak)=cw ((k+1:ag):ah):=rfl;rw[ek];have hdrop:ps.drop k=ps[k]::ps.drop (k+1):=mP hlp;have ls:(je kvs ps[k].1 ps[k].2).length<=kvs.length+1:=by
   unfold je;split
   ·rw[az];lia
   ·rw[bp];exact ba _
  have keep:∀c o,c≠d->c≠it->s.heap.get? c=ae o->h2.get? c=ae o:=λc o c0 c1 e=>(sb.2 c c0).trans ((kp.2 c c1).trans e)
  have hdc:∀c (oc:bg),oc.cls=.type "tuple"->s.heap.get? c=ae oc->c≠d/\c≠it:=λc oc hoc e=>⟨let ⟨o1,_,_,e1,c1,_⟩:=hd;aH0 e hoc e1 c1.1 0x4,aN9 Z e hoc⟩
  refine ih (k+1) _ (je kvs ps[k].1 ps[k].2) 0x1 0x1 (aJ6 Z' (sb.2 it (Ne.symm hdi))) (keep l _ (Ne.symm hdl) hil el) (Pp.keep λc oc hoc e=>keep c oc (hdc c oc hoc e).1 (hdc c oc hoc e).2 e) hd2' λh3 tk hd3 kp3=>?_
  exact q h3 tk (by rw[hdrop];exact hd3) λc o c0 c1 e=>kp3 c o c0 c1 (keep c o c0 c1 e)
end
section
variable {prog:bh} {w:bd} {K:Type} [d4 K] {knd:KeyKind prog w K} {A:bS} {E:ak->ar->Prop} {hp:ay} {g:aE jn} {dr:jo} {tk:ag} {os:jp} {l:am} {items:aE ak} {ps:aa (K×ak)} {nl:ag} {sl:aE (aq ak)}
theorem aFj(hh:A.handled=aj)(el:hp.get? l=ae (sqO b items nl sl))(Pp:Prs knd items ps hp)(hz:items.size<=1000000)
 (q:∀h' tk',h'.DictOf knd hp.objs.size (kQ [] ps)->(∀c o,hp.get? c=ae o->h'.get? c=ae o)->Q (.ref hp.objs.size) ⟨h',g,dr,tk',os⟩) :
  ϑ (aw prog w) A (call (.type "dict") [.ref l]) Q E ⟨hp,g,dr,tk,os⟩:=by
 have hnew:(hp.push {cls:=.type "dict",data:=.dict #[]}).DictOf knd hp.objs.size []:=zj hp;have up:∀c o,hp.get? c=ae o->(hp.push {cls:=.type "dict",data:=.dict #[]}).get? c=ae o:=λc o e=>br _ e
 have lt:∀{c o},hp.get? c=ae o->hp.objs.size≠c:=λe=>gS (bn e)
 refine AB (Q₁:=λv s₁=>v=.ref hp.objs.size/\s₁=⟨hp.push {cls:=.type "dict",data:=.dict #[]},g,dr,tk,os⟩) Dh (Di _) Dj (Dk _ ⟨rfl,rfl⟩) λv s₁ hv=>?_
 obtain⟨rfl,rfl⟩:=hv;have ty:(⟨hp.push {cls:=.type "dict",data:=.dict #[]},g,dr,tk,os⟩:ar).TypeIs (.ref hp.objs.size) "dict":=hnew.typeIs;have ez:=up _ _ el;have tz:(⟨hp.push {cls:=.type "dict",data:=.dict #[]},g,dr,tk,os⟩:ar).TypeIs (.ref l) (tyN b):=⟨_,ez,rfl⟩
 refine⟨ty,Dl _ _,ao (ao (AC ty (aI ?_)))⟩;refine ao (me tz ?_);rw[av (by cases b<;>decide)];refine ao (aNa ez hh λh' tk' kp=>?_);rw[av (show(aj:aq ak).isNone=af from rfl)];refine ao (jw (ao (aPx (kp _ _ ez) λoi z0=>aI ⟨lh _ 0x6,?_⟩)));have hd':h'.DictOf knd hp.objs.size []:=let ⟨o,es,ep,ho,r⟩:=hnew;⟨o,es,ep,kp _ _ ho,r⟩
 have ltd:hp.objs.size<h'.objs.size:=let ⟨o,es,ep,ho,r⟩:=hd';bn ho
 have ltl:l<h'.objs.size:=bn (kp _ _ ez);refine JL (ps:=ps) (it:=h'.objs.size) (l:=l) (items:=items) (nl:=nl) (sl:=sl) (show A.in1.handled=aj from hh) (cu ltd) (lt el) (cu ltl) items.size 0 _ [] 0x1 (by rw[dQ,dk];lia) z0 (br _ (kp _ _ ez)) (Pp.keep λc o _ e=>br _ (kp c o (up c o e))) (let ⟨o,es,ep,ho,r⟩:=hd';⟨o,es,ep,br _ ho,r⟩) λh2 tk2 hd2 kp2=>?_
 exact⟨rfl,q h2 tk2 hd2 λc o e=>kp2 c o (λx=>lt e x.symm) (cu (bn (kp c o (up c o e)))) (br _ (kp c o (up c o e)))⟩
end
end Wl
namespace Mi
open PySem L2 PySem.SeqAt PySem.Spec PyProof.Rows
def nD:aa D->aq (aa (D×D))
 |[]=>ae []
 |.tup [k,v]::r=>if mF k&&v.pure then (nD r).map ((k,v)::·) else aj
 |_::_=>aj
def nF(kvs:aa (D×D))(more:aa (D×D)):aa (D×D):=more.foldl (λacc p=>putD acc p.1 p.2) kvs
def WT:D->Res D
 |.lst xs=>match nD xs with
  |some ps=>if ϒ (xs.length<=1000) then .ok (.dct (nF [] ps)) else .bad
  |none=>.bad
 |_=>.bad
section
variable [KFrag]
theorem WW(I:Inv X Ψ σ H s):∀{xs:aa D}{vs:aa V}{us:aa ak}{ps:aa (D×D)},bZ All H vs xs->Vals vs us->nD xs=ae ps->
  ∃(kvs:aa (Key×V))(prs:aa (Key×ak)),KV kvs prs/\j5 All H kvs ps/\ι (ps.map (·.2))=af/\us.length=prs.length/\∀(i:ag)(kv:Key×ak),prs[i]?=ae kv->∃(p:am)(x:ak)(o:bg)(n:ag),us[i]?=ae (cK p)/\s.heap.get? p=ae o/\o.cls=.type "tuple"/\o.data=.seq #[x,kv.2] n/\(cC X.prog X.w).is kv.1 x=af
 |[],_,_,_,.nil,.nil,h=>by
  cases h;exact⟨[],[],.nil,.nil,rfl,rfl,λi kv h=>by simp at h⟩
 |d::xs,_,_,ps,.cons r t,.cons rv tv,h=>by
  unfold nD at h;split at h
  ·rename_i h0;cases h0
  ·rename_i k v r' h0;injection h0 with h0 h1
   subst h0 h1;split at h
   ·rename_i hf;rw[bc] at hf;obtain⟨ps',hp,rfl⟩:=mq.mp h;obtain⟨kvs,prs,g1,g2,g3,g4,g5⟩:=WW I t tv hp;obtain⟨a,ws,rfl,ea,rr⟩:=r.fK;cases rv;obtain⟨its,rvs,o,ho,hc,n,hd⟩:=iI I ea;cases rr with
    |cons rk rr=>
     cases rr with
     |cons rw_ rr=>
      cases rr;cases rvs with
      |cons q1 rvs=>
       cases rvs with
       |cons q2 rvs=>
        cases rvs;rename_i wk ww uk uw;obtain⟨key,hk1,hk2⟩:∃key:Key,kD key=k/\(cC X.prog X.w).is key uk=af:=by
         cases rk with
         |int i=>exact⟨.inl i,rfl,xJ q1⟩
         |str x=>exact⟨.inr x,rfl,xJ q1⟩
         |_=>cases hf.1
        subst hk1;refine⟨(key,ww)::kvs,(key,uw)::prs,.cons ⟨rfl,q2⟩ g1,.cons rw_ g2,by rw[bu,ι,hf.2,g3];rfl,by rw[aS,aS,g4],λi kv hi=>?_⟩;cases i with
        |zero=>
         simp at hi;subst hi;exact⟨a,uk,o,n,rfl,ho,hc,hd,hk2⟩
        |succ i=>
         obtain⟨p,x,o',n',z1,z2⟩:=g5 i kv (by simpa using hi);exact⟨p,x,o',n',by simpa using z1,z2⟩
   ·cases h
  ·cases h
theorem FQ:∀{more:aa (Key×V)}{ds:aa (D×D)}{kvs:aa (Key×V)}{es:aa (D×D)},j5 P H more ds->j5 P H kvs es->(kvs.map (·.1)).Nodup->j5 P H (e_ kvs more) (nF es ds)/\((e_ kvs more).map (·.1)).Nodup
 |_,_,_,_,.nil,r,n=>⟨r,n⟩
 |_,_,_,_,.cons (k:=k) rv t,r,n=>by have:=FQ t (JM (k:=k) rv r n) (jU n);exact this
theorem wL:∀{ds es:aa (D×D)},ι (ds.map (·.2))=af->ι (es.map (·.2))=af->ι ((nF es ds).map (·.2))=af
 |[],_,_,h=>h
 | (k,v)::ds,es,h,h2=>by
  rw[bu,ι,bc] at h;exact wL (ds:=ds) h.2 (oU h.1 h2)
section
theorem aH2{f:D->Res D}(hf:∀d0 d,f d0=.ok d->∃xs ps,(d0=.lst xs\/d0=.tup xs)/\nD xs=ae ps/\xs.length<=1000/\d=.dct (nF [] ps))(hc:X.calm=af)(hg:Gl X "dict")(hm:X.mg "dict"=aj)(he:PE X e (gE fe re))(hs:cf [e] X.env=[(ai,eval e X.env)]:=by rfl) :
  PE X (.Call (.Name "dict" p) [e] [] pos) (gE (b1 f fe) af):=by
 rintro Ψ s σ H Q I ⟨ρ,d,E,h,q⟩;obtain⟨d0,h1,h2⟩:=bL h;obtain⟨xs,ps,h0,hps,hb,rfl⟩:=hf _ _ h2;refine ik (nA I hg hm WQ ?_);refine iA ?_ hs rfl;rw[hs];show ϑ _ _ (lI [(ai,eval e X.env)]) _ _ s;refine n4 (thn (he Ψ s σ H (λv H1=>cZ H H1/\Rep All H1 v d0) I ⟨ρ,_,E,h1,λv H1 s1 r1 _=>⟨s1,r1⟩⟩) λu s1 ⟨x,H1,I1,ru,sm,rx⟩=>?_);obtain⟨a,vs,its,b,nl,sl,rfl,rr,rv,hl⟩:∃a vs its b nl sl,x=.ref a/\bZ All H1 vs xs/\Vals vs its/\s1.heap.get? a=ae (Wl.sqO b its.toArray nl sl):=by
  rcases h0 with rfl|rfl
  ·obtain⟨_,_,rfl,e,p,r⟩:=rx.inv;obtain⟨hz,its,nl,rv,hl⟩:_/\∃(its:aa ak)(n:ag),Vals _ its/\s1.heap.get? _=ae {cls:=.type "list",data:=.seq its.toArray n}:=I1.hok _ _ e;exact⟨_,_,its,af,nl,_,rfl,r,rv,hl⟩
  ·obtain⟨a,vs,rfl,ea,rr⟩:=rx.fK;obtain⟨hz,its,rv,⟨cl,dd,da,sl⟩,hl,e1,nl,e2⟩:vs.length<=aT/\∃its:aa ak,Vals vs its/\j7 s1.heap a its.toArray:=I1.hok a _ ea;simp only[Prod.mk.injEq] at e1 e2;obtain⟨e2,e3⟩:=e2;subst e1 e2 e3;exact⟨_,_,its,ai,nl,sl,rfl,rr,rv,hl⟩
 cases ru;refine nX ?_;obtain⟨kvs,prs,g1,g2,g3,g4,g5⟩:=WW I1 rr rv hps;have hlen:its.length<=1000:=by rw[<-rv.length,rr.length];exact hb
 obtain⟨hp,g,dr,tk,os⟩:=s1;refine Wl.aFj (knd:=cC X.prog X.w) (ps:=prs) (items:=its.toArray) (I1.ok.hd hc) hl ⟨by rw[cm];exact g4,λi kv hi=>?_⟩ (by rw[cm];lia) λh' tk' hd kp=>?_
 ·obtain⟨p,x,o,n,z1,z2⟩:=g5 i kv hi;exact⟨p,x,o,n,by simpa using z1,z2⟩
 ·have hfr:H1 hp.objs.size=aj:=I1.hok.fresh (ba _);have rel:KV (e_ [] kvs) (kQ [] prs):=g1.merge .nil;have hz2:(e_ [] kvs).length<=aT:=by
   have:=iU kvs [];have l1:kvs.length=prs.length:=jr g1;rw[dQ] at this;rw[dk];lia
  obtain⟨rk,nd⟩:=FQ (kvs:=[]) g2 j5.nil g9;have sp:cZ H1 (upd H1 hp.objs.size (.dK (e_ [] kvs))):=cZ.upd hfr;have rk2:∀{P:am->Prop},j5 P (upd H1 hp.objs.size (.dK (e_ [] kvs))) (e_ [] kvs) (nF [] ps):=λ{P}=>(rk.keep (.same sp) λ_ h=>h).bT (wL g3 rfl)
  refine⟨.ref hp.objs.size,_,I1.laid (a:=hp.objs.size) (t':=tk') (o:=.dK (e_ [] kvs)) kp (ba _) (VF hz2 (dS.mpr ?_) rel hd),rfl,?_⟩
  ·exact Ne.symm (cu I1.big)
  ·exact q _ _ (sm.trans sp) (.dK aL trivial rk2 nd) λ_=>.dK aL (sm.free hfr) rk2 nd
theorem aCh(hc:X.calm=af)(hg:Gl X "dict")(hm:X.mg "dict"=aj)(he:PE X e (gE fe re))(hs:cf [e] X.env=[(ai,eval e X.env)]:=by rfl) :
  PE X (.Call (.Name "dict" p) [e] [] pos) (gE (b1 WT fe) af):=aH2 (λd0 d h=>by
 unfold WT at h
 repeat' split at h
 ·rename_i h1 h2;exact⟨_,_,.inl rfl,h1,fg h2,(Res.ok.inj h).symm⟩
 all_goals exact bx h) hc hg hm he hs
end
section
variable {X:Cx} {own:ag->au} {a b:Expr} {pos:bX} {fa:FE} {xb:FX}
theorem aJ8{o:ow}{f:D->D->Res D}{fr:au}(ho:OpR X (dw o) (r2 f fr))(ha:PE X a (gE fa af))(hb:PE X b (gX own xb))(hm:kF o b=ai):PT X (.Compare a [o] [b] pos) (gXT own (xTB (x2R f fa xb))):=
 PT.imp (aAh ho ha hb hm) λσ H Q z0=>by
  obtain⟨ρ,k,ρ',E,h,q⟩:=z0;obtain⟨⟨d,ρ1⟩,h1,h2⟩:=bL h;obtain⟨b,h3,h4⟩:=bL h2;cases h4;refine aRr ⟨ρ,d,_,E,h1,λv H' k1 E1 ns r=>?_⟩;cases aGn h3;cases r.inv;exact⟨_,rfl,q H' k1 E1 ns⟩
end
end
noncomputable def JN(i:ag):FX:=λρ=>match ρ.getD i .uD with
 |.lst (x::xs)=>.ok (x,ρ.set i (.lst xs))
 |_=>.bad
noncomputable def xB1(f:aa D->Res D)(fr:au)(x:FX):FX:=λρ=>do
 let p <- x ρ
 let d <- f [p.1]
 if fr||d.pure then .ok (d,p.2) else .bad
def aJ9(i:ag)(f:FX):FS:=λρ=>do
 let p <- f ρ
 match ρ.getD i .uD,p.2.getD i .uD with
 |.lst _,.lst xs=>if ϒ (xs.length<lim)&&p.1.pure then .ok (.nx (p.2.set i (.lst (xs++[p.1])))) else .bad
 |_,_=>.bad
section
variable [KFrag]
section
variable {X:Cx} {own:ag->au} {e:Expr} {p pos:bX} {xe:FX} {nm:Str} {id T:fN} {f:aa D->Res D} {fr:au}
theorem aJa(ho:own i=af)(hN:X.N[i]?=ae x)(hv:Vis X.env.scope x)(hd:nDb x:=by decide)(hcd:nCd x:=by decide)
 (hbase:jb (.Name x p1) "pop" X.env (eval (.Name x p1) X.env)=eval (.Name x p1) X.env:=by rfl)
 (hfew:((eW cpos (cf [.Constant (.int 0) zk zp] X.env)).all (λx=>!x.1)&&(yb cpos (yc [] X.env)).all (λx=>x.1.isSome)
  &&ϒ (([.Constant (.int 0) zk zp]:aa Expr).length+([]:aa sC).length+(if ([]:aa sC).isEmpty then 0 else 1)<30))=af:=by rfl)
 (hline:(apos.endLine==cpos.line)=af:=by rfl) :
  PE X (.Call (.Attribute (.Name x p1) "pop" apos) [.Constant (.int 0) zk zp] [] cpos) (gX own (JN i)):=
 PE.imp (YW mT oh Ai VD (fH hN hv hd hcd) (eQ aF j8 rfl) hbase hfew hline rfl rfl) λσ H Q z0=>by
 obtain⟨ρ,d,ρ',E,h,q⟩:=z0;unfold JN at h;split at h
 ·rename_i dx xs hx;cases h;obtain⟨a,o,hσ,r,hin,ha,hm⟩:=E.ownAt ho (by rw[hx];intro z;cases z);rw[hx] at r hin;obtain⟨vs,hl,rr⟩:=y_ r;cases rr with
  |@cons v _ vs' _ rv rr=>
   refine⟨_,hσ,.inl ⟨rfl,_,.of hl⟩,ρ,ε 0,E.er,rfl,λu H' s ru _=>?_⟩;cases ru.inv;refine⟨a,v::vs',0,0,v,rfl,rfl,s _ _ hl,by lia,by lia,?_,rfl,?_⟩
   ·unfold mf;simp
   ·have E':=E.same s;have hl':=s _ _ hl;have hin':ι (d::xs)=af:=hin;rw[ι,bc] at hin';obtain⟨E2,k2⟩:=E'.mut ho hσ rfl (.lst aL trivial ((rr.same s).upd hin'.2 hl' rfl)) hin'.2;have r1:=(bZ.cons (rv.same s) .nil).upd (o:=.lst vs') (by rw[ι,hin'.1];rfl) hl' rfl;cases r1 with
    |cons r1 _=>exact q _ _ ((KU.same s).trans k2) E2 (.set ho) (r1.bT hin'.1)
 ·exact bx h
theorem aCi(h:gX own (xB1 f fr xe) σ H Q):gX own xe σ H λv H'=>rs f fr [v] H' Q:=by
 obtain⟨ρ,d,ρ',E,h,q⟩:=h;obtain⟨⟨d1,ρ1⟩,h1,h⟩:=bL h;obtain⟨d2,h2,h⟩:=bL h;split at h
 ·rename_i hp;cases h;refine⟨ρ,d1,_,E,h1,λv H1 k1 E1 ns r1=>⟨[d1],_,.cons r1.all .nil,h2,λv H2 s2 r2 n2=>q v H2 (k1.trans (.same s2)) (E1.same s2) ns ?_⟩⟩;rw[iv] at hp;rcases hp with hp|hp
  ·exact(n2 hp).mono λa ha=>S8 k1 E1 ha
  ·exact r2.bT hp
 ·exact bx h
theorem aFk(hc:l_ X (.builtin id) (rs f fr))(hg:Gl X nm)(hm:X.mg nm=aj)(hv:em nm=ae (.builtin id))(he:PE X e (gX own xe))(hn:nm ≠ "__name__":=by decide)(hdb:(nm==("__debug__" : Str))=ai:=by decide)
 (hs:zSE X e []:=by rfl)(hpl:(eW pos (cf [] X.env)).any (·.1)=ai:=by rfl):PE X (.Call (.Name nm p) [e] [] pos) (gX own (xB1 f fr xe)):=
 PE.imp (GR hc hg hm hv (eQ he j8 hs) hn hdb hs hpl) λ_ _ _ h=>aCi h
theorem aCj(hc:l_ X (.type T) (rs f fr))(hg:Gl X nm)(hm:X.mg nm=aj)(hv:em nm=ae (.type T))(he:PE X e (gX own xe))(hn:nm ≠ "__name__":=by decide)(hdb:(nm==("__debug__" : Str))=ai:=by decide)
 (hs:zSE X e []:=by rfl)(hpl:(eW pos (cf [] X.env)).any (·.1)=ai:=by rfl):PE X (.Call (.Name nm p) [e] [] pos) (gX own (xB1 f fr xe)):=
 PE.imp (MN hc hg hm hv (eQ he j8 hs) hn hdb hs hpl) λ_ _ _ h=>aCi h
theorem aJb(ho:own i=af)(hN:X.N[i]?=ae x)(hv:Vis X.env.scope x)(he:PE X e (gX own xe))(hd:nDb x:=by decide)(hcd:nCd x:=by decide)
 (hbase:jb (.Name x p1) "append" X.env (eval (.Name x p1) X.env)=eval (.Name x p1) X.env:=by rfl)
 (hs1:zSE X e []:=by rfl)
 (hfew:zFw X cpos [e]:=by rfl)
 (hline:(apos.endLine==cpos.line)=af:=by rfl)
 (hs:eB (.Call (.Attribute (.Name x p1) "append" apos) [e] [] cpos) aj pos.line X.env=pure ai:=by rfl) :
  PS X (.Expr (.Call (.Attribute (.Name x p1) "append" apos) [e] [] cpos) pos) (tS own (aJ9 i xe)):=
 PS.imp (yF (YW mT zf CM yJ (fH hN hv hd hcd) (eQ he j8 hs1) hbase hfew hline hs1 rfl) hs) λD' σ H z0=>by
 obtain⟨ρ,fl,E,h,q⟩:=z0;obtain⟨⟨d,ρ'⟩,h1,h2⟩:=bL h;dsimp only at h2;split at h2
 ·rename_i xs0 xs hx0 hx;split at h2
  ·rename_i hk;cases h2;rw[bc] at hk;obtain⟨a,o,hσ,r,hin,ha,hm⟩:=E.ownAt ho (by rw[hx0];intro z;cases z);rw[hx0] at r;obtain⟨vs,hl,rr⟩:=y_ r;refine⟨_,hσ,.inl ⟨rfl,vs,.of hl⟩,ρ,_,ρ',E,h1,λv H' k E' ns rv=>?_⟩;obtain⟨a2,o2,hσ2,r2,hin2,ha2,hm2⟩:=E'.ownAt ho (by rw[hx];intro z;cases z);rw[hσ] at hσ2;cases hσ2;rw[hx] at r2 hin2;obtain⟨vs2,hl2,rr2⟩:=y_ r2;refine⟨a,vs2,v,rfl,rfl,hl2,by rw[rr2.length];exact aBg hk.1,?_⟩;have hp:ι (xs++[d])=af:=by
    rw[vC];simp only[bc];exact⟨hin2,by simp[ι,hk.2]⟩
   obtain⟨E2,k2⟩:=E'.mut ho hσ rfl (.lst aL trivial ((rr2.snoc rv.all).upd hp hl2 rfl)) hp;exact q _ _ (k.trans k2) E2
  ·exact bx h2
 ·exact bx h2
end
end
noncomputable def Itd(lo:ah)(n:ag):It:=⟨λi _=>i<n,λi H x H'=>H'=H/\x=.int (lo+(i:ag)*-1),λi _=>n<=i⟩
theorem S_{K:bj}(it:am)(lo:ah)(n:ag):Turn P w K tg (Itd lo n) [it] it (λi h=>sN h it (lo+(i:ag)*-1) ((n:ah)-(i:ag)) (-1)) where
 mem:=by simp
 obj:=λi h st b hb=>by
  have e:b=it:=by simpa using hb
  subst e;exact⟨_,st,λv z=>by
   have z':sP _=sQ v:=z;cases z'⟩
 keep:=λi h h' st k=>k it 0x2 _ st
 item:=by
  intro X hP hw hK hc i Ψ s σ H E I hf st hg;subst hP hw hK;obtain⟨f0,f1,f2,f3,f4,f5⟩:=hf it 0x2;have W:=Bj (prog:=X.prog) (w:=X.w) (I.ok.hd hc) it lo (-1) n;refine W.item i s _ _ hg st λv h' tk hv st' kk=>?_
  obtain⟨t,rfl⟩:=hv;have I1:Inv X Ψ σ H {s with heap:=h',toks:=tk}:=I.turned (λb o hb e=>kk b o (by simpa using hb) e) f0 f1 f3 f4 f5;exact⟨_,rfl,YG st' rfl rfl 0x4 ⟨.int (lo+(i:ag)*-1),H,I1,⟨t,rfl⟩,⟨rfl,rfl⟩,st',λb hb=>(hf b hb).1⟩⟩
 done:=by
  intro X hP hw hK hc i Ψ s σ H E I hf st hg;subst hP hw hK;obtain⟨f0,f1,f2,f3,f4,f5⟩:=hf it 0x2;exact Bk (I.ok.hd hc) st (by have:n<=i:=hg;lia) λh' eb=>⟨rfl,I.turned (λb o hb e=>eb b o hb e) f0 f1 f3 f4 f5⟩
 self:=λ_ _ _ _ _ st h=>Bl st h
theorem O_:sR a b (-1)=((a-b).toNat:ah):=by
 unfold sR;simp only[show ¬(-1:ah) > 0 by decide,fF]
 first|(split<;>lia)|(simp;lia)
theorem small_down(h1:0<=a)(h2:a<=1000)(h3:0<=b)(h4:b<=1000):Dz a b (-1)=af:=by
 unfold Dz;rw[O_];simp only[EW,bc,iv,dE,gy,show ¬(-1:ah) > 0 by decide,fF];lia
noncomputable def aKs:aa D->Res (aa D×au)
 |[.int a,.int b,.int c]=>if ϒ (0<=a)&&ϒ (a<=1000)&&ϒ (0<=b)&&ϒ (b<=1000)&&ϒ (c=-1) then .ok ((bz (a-b).toNat).map λ(k:ag)=>ε (a+(k:ag)*-1),af) else .bad
 |_=>.bad
section
variable [KFrag]
theorem ItQ.rgd{K:bj}(lo:ah)(n:ag)(e:J=Itd lo n)(r:items=(bz n).map λ(k:ag)=>ε (lo+(k:ag)*-1)):ItQ K P J H items:=by
 refine⟨λP H k m=>?_⟩;subst e r;refine⟨λi hi=>?_,λi d hi=>?_⟩
 ·show n<=i;simpa using hi
 ·have hlt:i<n:=by
   have:=(du.mp hi).1;simpa using this
  refine⟨hlt,λx H' ⟨e,hy⟩=>?_⟩;subst e;have e2:ε (lo+(i:ag)*-1)=d:=by simpa[hlt] using hi
  rw[hy,<-e2];exact⟨cZ.refl _,.int _⟩
theorem aPy(r:bZ P H vs [.int i,.int j,.int k]):vs=[.int i,.int j,.int k]:=by
 cases r with
 |cons r t=>cases t with
  |cons r' t=>cases t with
   |cons r'' t=>
    cases t;cases r.inv;cases r'.inv;cases r''.inv;rfl
theorem vals3(r:Vals [.int i,.int j,.int k] us):∃t u v,us=[.int i t,.int j u,.int k v]:=by
 cases r with
 |cons r t=>cases t with
  |cons r' t=>cases t with
   |cons r'' t=>
    cases t;obtain⟨t,rfl⟩:=r;obtain⟨u,rfl⟩:=r';obtain⟨v,rfl⟩:=r'';exact⟨t,u,v,rfl⟩
theorem aJc(h:aKs xs=.ok (items,k)):∃i j:ah,xs=[.int i,.int j,.int (-1)]/\(0<=i/\i<=1000/\0<=j/\j<=1000)/\items=(bz (i-j).toNat).map λ(k:ag)=>ε (i+(k:ag)*-1):=by
 unfold aKs at h;split at h
 ·split at h
  ·rename_i i j l hb;cases h;simp only[bc,dE] at hb;obtain⟨⟨⟨⟨b1,b2⟩,b3⟩,b4⟩,rfl⟩:=hb;exact⟨i,j,rfl,⟨b1,b2,b3,b4⟩,rfl⟩
  ·exact bx h
 ·exact bx h
theorem aJd(I:Inv X Ψ σ H s)(b1:0<=i)(b2:i<=1000)(b3:0<=j)(b4:j<=1000)(q:R (Itd i (i-j).toNat) H)(hh:h=s.heap.push {cls:=.type "range",data:=.fields #[.int i t,.int j u,.int (-1) v]}) :
  ϑ (aw X.prog X.w) X.A (i7 (.ref s.heap.objs.size)) (PIE X Ψ σ tg R) X.xe {s with heap:=h,toks:=s.toks}:=by
 have hr:IsRange h s.heap.objs.size i j (-1) t u v:=by rw[hh];exact Bn ..
 have I2:Inv X Ψ σ H {s with heap:=h,toks:=s.toks}:=I.kept λb o e=>by rw[hh];exact br _ e
 clear hh;refine Bm hr (small_down b1 b2 b3 b4) ?_;refine⟨_,[h.objs.size],_,_,H,rfl,I2.kept λb o e=>br _ e,S_ _ i (i-j).toNat,?_,λb hb=>?_,q⟩
 ·show sN _ _ (i+((0:ag):ah)*-1) ((((i-j).toNat:ag):ah)-((0:ag):ah)) (-1);rw[show i+((0:ag):ah)*-1=i by lia,show(((i-j).toNat:ag):ah)-((0:ag):ah)=sR i j (-1) by rw[O_];lia];exact cx _ rfl
 ·rw[d6.mp hb];exact I2.aGe (ba _) (I2.hok.fresh (ba _))
theorem aJe(hg:Gl X "range")(hm:X.mg "range"=aj)(ha:PA X [a,b,c] (gA fs rr))(hs:cf [a,b,c] X.env=(ai,eval a X.env)::cf [b,c] X.env:=by rfl)(hs2:(eW pos (cf [b,c] X.env)).any (·.1)=ai:=by rfl):PI X tg (.Call (.Name "range" p) [a,b,c] [] pos) (gI X.K (lL fs aKs)):=by
 rintro Ψ s σ H R I ⟨ρ,items,k,E,h,q⟩;obtain⟨xs,h1,h⟩:=bL h;obtain⟨i,j,rfl,⟨b1,b2,b3,b4⟩,rfl⟩:=aJc h;refine sT (nA I hg hm yi (iA (thn (ha pos Ψ s σ H (λvs H1=>vs=[.int i,.int j,.int (-1)]/\R (Itd i (i-j).toNat) H1) I ⟨ρ,_,E,h1,λvs H1 s1 r1 _=>⟨aPy r1,q _ H1 s1 (.rgd _ _ rfl rfl) λ_=>.rgd _ _ rfl rfl⟩⟩) λus s1 ⟨vs,H1,I1,r1,e,q⟩=>?_) hs hs2));subst e;obtain⟨t,u,v,rfl⟩:=vals3 r1;exact call_range_3 0x4 (aJd I1 b1 b2 b3 b4 q rfl) (.inl (Bp 0x1))
end
def JP:D->Res D
 |.tup xs=>match nD xs with
  |some ps=>if ϒ (xs.length<=1000) then .ok (.dct (nF [] ps)) else .bad
  |none=>.bad
 |_=>.bad
section
variable [KFrag]
theorem ZQ{X:Cx}{e:Expr}{fe:FE}{re:au}{p pos:bX}(hc:X.calm=af)(hg:Gl X "dict")(hm:X.mg "dict"=aj)(he:PE X e (gE fe re))(hs:cf [e] X.env=[(ai,eval e X.env)]:=by rfl) :
  PE X (.Call (.Name "dict" p) [e] [] pos) (gE (b1 JP fe) af):=by
 refine aH2 (λd0 d h=>?_) hc hg hm he hs;unfold JP at h
 repeat' split at h
 ·rename_i h1 h2;exact⟨_,_,.inr rfl,h1,fg h2,(Res.ok.inj h).symm⟩
 all_goals exact bx h
end
noncomputable def max2:aa D->Res D
 |[.int a,.int b]=>.ok (.int (if b > a then b else a))
 |_=>.bad
variable [KFrag]
theorem TF{X:Cx}(hc:X.calm=af):l_ X (.builtin "max") (rs max2 ai):=by
 rintro Ψ s σ H xs us Q I vr ⟨ds,d,r,e,k⟩;unfold max2 at e;split at e
 ·cases e;cases r with
  |cons r t=>
   cases r.inv;cases t with
   |cons r t=>
    cases r.inv;cases t;cases vr with
    |cons v vt=>
     obtain⟨t1,rfl⟩:=v;cases vt with
     |cons v vt=>
      obtain⟨t2,rfl⟩:=v;cases vt;refine max_two_ints (I.ok.hd hc) λh' tk hk=>⟨_,H,I.kept hk,?_,k.int⟩
      split
      ·exact⟨_,rfl⟩
      ·exact⟨_,rfl⟩
 ·exact bx e
end Mi
namespace Mi
open PySem
theorem aCk(o:bg)(f:aE ak->aE ak):(o.mapFields f).dict=o.dict:=by
 obtain⟨c,d,dt,sl⟩:=o;cases dt<;>rfl
theorem WX(T:am):(cK T !=d5)=af:=by simp
theorem aFl(L:am):¬((d5==cw L)=af):=by simp[cw]
def TrD(h B:ay)(e:am)(c:ak)(dd:aq am)(fl:ak):Prop:=
 ∃o vs T oT ts,(h.get? e=ae o/\o.cls=c/\o.dict=dd/\o.data=.fields vs)/\(vs[1]?=ae (.ref T)/\B.get? T=aj/\T≠e)/\h.get? T=ae oT/\oT.data=.fields ts/\ts[3]?=ae fl/\(dd≠aj->vs[2]?=ae .none)
def FD(B:ay)(l:aa cv)(e:am)(c:ak)(dd:aq am)(fl:ak)(h:ay):Prop:=B.StaysIn h/\B.get? e=aj/\h.FunFrames B l/\TrD h B e c dd fl
theorem FD.there{B h:ay}{l:aa cv}{e:am}{c fl:ak}{dd:aq am}(x:FD B l e c dd fl h):∃o,h.get? e=ae o/\o.cls=c/\o.dict=dd/\∃vs,o.data=.fields vs:=by
 obtain⟨_,_,_,o,vs,_,_,_,⟨a,b,d,f⟩,_⟩:=x;exact⟨o,a,b,d,vs,f⟩
section
variable {M:wq} {A:bS} {E:ak->ar->Prop} {s:ar} {B:ay} {env:cv} {outer l:aa cv} {L e:am} {oe:bg} {vs:aE ak} {head c:ak} {dd:aq am} {Q:Unit->ar->Prop}
theorem JQ{h:ay}{a:am}{o:bg}{ws:aE ak}(i:ag)(v:ak)(ho:h.get? a=ae o)(hd:o.data=.fields ws) :
  ∃h2:ay,h2=h.update a (gn (·.setIfInBounds i v))/\(∀b,b≠a->h2.get? b=h.get? b)/\∃o2,h2.get? a=ae o2/\o2.cls=o.cls/\o2.dict=o.dict/\o2.data=.fields (ws.setIfInBounds i v):=
 ⟨_,rfl,λb hb=>jc _ _ (Ne.symm hb),_,gL _ ho (xg (kq hd _)),AE _ _,aCk _ _,kq hd _⟩
theorem WY{had:au}(hfr:A.frames=ae (env::outer))(hl:s.heap.FunFrames B (env::outer))(hf:env.frame=ae L)(he:s.heap.get? e=ae oe)(hB:B.StaysIn s.heap)(hn:B.get? e=aj)(hd:oe.data=.fields vs)(hz:1<vs.size)(h2:oe.dict≠aj->vs[2]?=ae .none)
 (q:∀h',FD B (env::outer) e oe.cls oe.dict (cw L) h'->s.heap.UpToSlots h'->Q () {s with heap:=h'}) :
  ϑ M A (do let a <- frameOf env;let pl <- entryPlaceOf L had;let b <- DA head a .none (cw L) .none pl;sv (.ref e) 1 b) Q E s:=by
 have nf:e∉(env::outer).filterMap (·.frame):=λz=>by
  obtain⟨_,o,ho,k⟩:=hl.mem z;cases he.symm.trans ho;exact k _ hd
 refine ao (wpAny_frameOf_fun hfr hl hf λh1 so=>ao (wpAny_entryPlaceOf λpl hp=>?_));unfold DA;unfold newFields;refine ao (gu ?_ (hp.sizeOk5 _ _ _ _ _));generalize hon:({cls:=.type "traceback",dict:=aj,data:=.fields ([head,.ref L,.none,cw L,.none]++(if pl.isEmpty then b9 6 d5 else pl)).toArray}:bg)=on;have e1:h1.get? e=ae oe:=(so.2.1 e nf).trans he;have B1:B.StaysIn h1:=λb o k=>(so.2.1 b λz=>by rw[(hl.mem z).1] at k;cases k).trans (hB b o k)
 have e2:=br (h:=h1) on e1;obtain⟨h3,r3,k3,o3,g3,c3,d3,f3⟩:=JQ 1 (.ref h1.objs.size) e2 hd;have ne:h1.objs.size≠e:=gS (bn e1);have t3:h3.get? h1.objs.size=ae on:=(k3 _ ne).trans (cx h1 (by rw[<-hon];rfl));have keep:∀b o,b≠e->h1.get? b=ae o->h3.get? b=ae o:=λb o hb k=>(k3 b hb).trans (br _ k)
 have nr:∀b o,s.heap.get? b=ae o->(∀vs,o.data≠.fields vs)->b≠e:=λb o k z w=>by
  rw[w] at k;cases he.symm.trans k;exact z _ hd
 have up:s.heap.UpToSlots h3:=λb o k z=>by
  obtain⟨sl,w⟩:=so.2.2 b o k;exact⟨sl,keep b _ (nr b o k z) w⟩
 refine jq e2 hd hz ?_;rw[<-r3];refine q h3 ⟨λb o k=>keep b o (λz=>by rw[z,hn] at k;cases k) (B1 b o k),hn,hl.of_keeps λb o k z=>let ⟨sl,w⟩:=up b o k z;⟨_,w,rfl⟩,?_⟩ up;have don:on.data=.fields ([head,.ref L,.none,cw L,.none]++(if pl.isEmpty then b9 6 d5 else pl)).toArray:=by rw[<-hon]
 exact⟨o3,_,h1.objs.size,on,_,⟨g3,c3,d3,f3⟩,⟨by simp[hz],B1.fresh,ne⟩,t3,don,by simp,λz=>by rw[Array.getElem?_setIfInBounds,ax 0x4];exact h2 z⟩
theorem lX{fl:ak}(x:FD B l e c dd fl s.heap)(q:∀h',FD B l e c dd .none h'->s.heap.UpToSlots h'->Q () {s with heap:=h'}):ϑ M A (setFlight (.ref e) aj) Q E s:=by
 obtain⟨k1,k2,k3,o,vs,T,oT,ts,⟨g1,g2,g3,g4⟩,⟨t1,t2,t3⟩,u1,u2,u3,u4⟩:=x;obtain⟨h2,r2,j2,o2,p1,p2,p3,p4⟩:=JQ 3 d5 u1 u2;have hz:3<ts.size:=(su.mp u3).1;have up:∀b o,s.heap.get? b=ae o->(∀vs,o.data≠.fields vs)->h2.get? b=ae o:=λb o k z=>(j2 b λw=>by
  rw[w] at k;cases u1.symm.trans k;exact z _ u2).trans k
 unfold setFlight;refine ao (dh g1 g4 t1 ?_);rw[av (WX T)];refine jq u1 u2 hz ?_;show Q () {s with heap:=s.heap.update T (gn (·.setIfInBounds 3 d5))};rw[<-r2];exact q h2 ⟨λb o k=>(j2 b λw=>by rw[w,t2] at k;cases k).trans (k1 b o k),k2,k3.of_keeps λb o k z=>⟨o,up b o k z,rfl⟩,o,vs,T,o2,_,⟨(j2 e (Ne.symm t3)).trans g1,g2,g3,g4⟩,⟨t1,t2,t3⟩,p1,p4,by simp[hz],u4⟩ λb o k z=>⟨o.slots,up b o k z⟩
theorem TJ(hfr:A.frames=ae (env::outer))(hf:env.frame=ae L)(x:FD B (env::outer) e c dd .none s.heap)(q:∀h',FD B (env::outer) e c dd (cw L) h'->s.heap.UpToSlots h'->Q () {s with heap:=h'}):ϑ M A (AN (.ref e) env) Q E s:=by
 obtain⟨k1,k2,k3,o,vs,T,oT,ts,⟨g1,g2,g3,g4⟩,⟨t1,t2,t3⟩,u1,u2,u3,u4⟩:=x;obtain⟨h2,r2,j2,o2,p1,p2,p3,p4⟩:=JQ 3 d5 u1 u2;have up:∀b o,s.heap.get? b=ae o->(∀vs,o.data≠.fields vs)->h2.get? b=ae o:=λb o k z=>(j2 b λw=>by
  rw[w] at k;cases u1.symm.trans k;exact z _ u2).trans k
 unfold AN;simp only[hf];refine ao (dh g1 g4 t1 ?_);rw[av (WX T)];refine ao (dh u1 u2 u3 ?_);rw[ax (aFl L)];refine ao (jq u1 u2 (su.mp u3).1 ?_);rw[<-r2];have g1':h2.get? e=ae o:=(j2 e (Ne.symm t3)).trans g1;subst g2 g3;refine WY (s:={s with heap:=h2}) hfr (k3.of_keeps λb o k z=>⟨o,up b o k z,rfl⟩) hf g1' (λb o k=>(j2 b λw=>by rw[w,t2] at k;cases k).trans (k1 b o k)) k2 g4 (su.mp t1).1 u4 λh' y z=>q h' y λb o k w=>z b o (up b o k w) w
theorem aFm(hfr:A.frames=ae (env::outer))(hf:env.frame=ae L)(x:FD B (env::outer) e c dd .none s.heap)(q:∀h',FD B outer e c dd .none h'->s.heap.UpToSlots h'->Q () {s with heap:=h'}):ϑ M A (leaving env (.ref e)) Q E s:=by
 unfold leaving;refine ao (TJ hfr hf x λh1 x1 u1=>lX (s:={s with heap:=h1}) x1 λh2 x2 u2=>q h2 ⟨x2.1,x2.2.1,x2.2.2.1.2.2,x2.2.2.2⟩ (u1.trans u2))
theorem W0(hfr:A.frames=ae (env::outer))(hf:env.frame=ae L)(hl:s.heap.FunFrames B (env::outer))(he:s.heap.get? e=ae oe)(hB:B.StaysIn s.heap)(hn:B.get? e=aj)(hd:oe.data=.fields vs)(hv:vs[1]?=ae .none)(h2:oe.dict≠aj->vs[2]?=ae .none)
 (q:∀h',FD B outer e oe.cls oe.dict .none h'->s.heap.UpToSlots h'->Q () {s with heap:=h'}):ϑ M A (leaving env (.ref e)) Q E s:=by
 unfold leaving AN;simp only[hf];refine ao (ao (dh he hd hv ?_));rw[ax 0x4];exact WY hfr hl hf he hB hn hd (su.mp hv).1 h2 λh1 x1 u1=>lX (s:={s with heap:=h1}) x1 λh2 x2 u2=>q h2 ⟨x2.1,x2.2.1,x2.2.2.1.2.2,x2.2.2.2⟩ (u1.trans u2)
end
open PySem.W Builtin Builtin.ObjectAttr
noncomputable abbrev vMr:aa ak:=[.type "ValueError",.type "Exception",.type "BaseException",.type "object"]
def exC(K:Frag)(C:am):au:=match K.lookup C with
 |some o=>(match o.cls,o.data,o.slots.toList with
  |.type "type",.cls k,[_,_,_,_,ae (.builtin n),_]=>(match k.mro with
   |.ref C'::r=>C'==C&&n=="ValueError.__new__"&&!k.hasDel&&k.hasDict&&tailIn K vMr r&&nsOkIn K k.ns
   |_=>ai)
  |_,_,_=>ai)
 |none=>ai
structure ExO(h:ay)(C:am) where
 bm:aa ak
 N:am
 nm:Str
 qn:Str
 bs:aa ak
 sn:aa Str
 sub:aa ak
 ab:au
 col:aq au
 dd:aq am
 k0:aq ak
 k1:aq ak
 k2:aq ak
 k3:aq ak
 k5:aq ak
 mN:Str->aq ak
 ob:h.get? C=ae (wm nm qn C N bs bm af sn sub ab col dd k0 k1 k2 k3 k5 "ValueError.__new__")
 ns:h.Ns N mN
 tl:wn h vMr bm
theorem W2{K:Frag}{h:ay}{C:am}(X:K.In h)(q:exC K C=af):Nonempty (ExO h C):=by
 unfold exC at q;split at q
 ·rename_i o ho;split at q
  ·rename_i k k0 k1 k2 k3 n k5 e1 e2 e3;split at q
   ·rename_i C' r e4;rw[bc,bc,bc,bc,bc] at q;obtain⟨⟨⟨⟨⟨q1,q2⟩,q3⟩,q4⟩,q5⟩,q6⟩:=q;have q1:=gy.mp q1;have q2:=gy.mp q2;rw[jh] at q3;subst q1 q2;obtain⟨oc,od,dt,⟨sl⟩⟩:=o;dsimp only at e1 e2 e3;subst e1 e2 e3;obtain⟨nm,bs,mro,ns,qn,hd,sn,sub,ab,col,del⟩:=k;dsimp only at e4 q3 q4 q6;subst e4 q3 q4;exact⟨⟨r,ns,nm,qn,bs,sn,sub,ab,col,od,k0,k1,k2,k3,k5,_,X _ _ ho,.of_isNs (isNs_of_in X q6),tail_of_in X q5⟩⟩
   ·cases q
  ·cases q
 ·cases q
section
variable {prog:bh} {w:bd} {A:bS} {E:ak->ar->Prop} {K:Frag} {C:am}
theorem call_exc{h:ay}{g:aE jn}{d:jo}{t:ag}{os:jp}{f:am}{us:aa ak}{Q:ak->ar->Prop}(X:K.In h)(q:exC K C=af)(hi:dm K (.ref C) "__init__"=ae (ae (.ref f)))(hf:typeIn K (.ref f)=ae (.type "function"))(hz:us.length<=aT)
 (hq:ϑ (aw prog w) (A.under (.builtin "type.__call__" ⟨.ref C::us,[]⟩)) (call (.ref f) (.ref (h.objs.size+1)::us)) (λr s'=>r=.none/\Q (.ref (h.objs.size+1)) s') E
   ⟨(h.push {cls:=.type "tuple",data:=.seq us.toArray}).push {cls:=.ref C,data:=.fields #[.ref h.objs.size,.none,.none,.none,.bool ai,.none]},g,d,t,os⟩) :
  ϑ (aw prog w) A (call (.ref C) us) Q E ⟨h,g,d,t,os⟩:=by
 obtain⟨⟨bm,N,nm,qn,bs,sn,sub,ab,col,dd,k0,k1,k2,k3,k5,mN,hC,hN,T⟩⟩:=W2 X q;have F:=lg;have f1:=tc_lookup;have f2:=tc_bind (.ref C);have ty:(⟨h,g,d,t,os⟩:ar).TypeIs (.ref C) "type":=⟨_,hC,rfl⟩
 have kk:∀b o,h.get? b=ae o->((h.push {cls:=.type "tuple",data:=.seq us.toArray}).push {cls:=.ref C,data:=.fields #[.ref h.objs.size,.none,.none,.none,.bool ai,.none]}).get? b=ae o:=λb o e=>br _ (br _ e)
 have X1:=X.keeps kk;have c1:=kk _ _ hC;have hg:((h.push {cls:=.type "tuple",data:=.seq us.toArray}).push {cls:=.ref C,data:=.fields #[.ref h.objs.size,.none,.none,.none,.bool ai,.none]}).get? (h.objs.size+1)=ae {cls:=.ref C,data:=.fields #[.ref h.objs.size,.none,.none,.none,.bool ai,.none]}:=by heap_get
 have own:(cK C::bm).contains (.ref C)=af:=by simp
 refine jx (codeAny_of_tree (show ϑ _ _ (callAny (.ref C) _) _ _ _ from ?_))
 repeat (any_goals (first|with_reducible refine iX hC ?_|assumption|wp_step))
 refine⟨rfl,?_⟩;refine codeAny_call_builtin_at (lh _ 0x6) entry_typeCall (wpAny_check_type_call_sub hC ?_)
 repeat (first|with_reducible refine wpAny_madeBy_exc hC ?_|with_reducible refine iX hC ?_|wp_step)
 refine codeAny_call_builtin_code (lh _ F.quiet) (wpAny_check_new_subU F F.hasB T hC ?_);refine codeAny_exc_new_subU F F.hasB F T hC ?_ hz;show ϑ _ _ _ _ _ (⟨(h.push {cls:=.type "tuple",data:=.seq us.toArray}).push {cls:=.ref C,data:=.fields #[.ref h.objs.size,.none,.none,.none,.bool ai,.none]},g,d,t,os⟩:ar);unfold oQ
 repeat (first|with_reducible refine iX hg ?_|(with_reducible refine AO c1 ?_;rw[own])|wp_step)
 refine(oP X1 hi).at (M:=aw prog w) ?_;refine eJ (ao ((bind_fn X1 _ hf).at (ao (dA hq (λr s' hr=>?_) λ_ _ x=>x))));obtain⟨rfl,hQ⟩:=hr
 wp_walk
 exact hQ
theorem aCl{h:ay}{g:aE jn}{d:jo}{t:ag}{os:jp}{e:am}{us:aa ak}{oe:bg}{a0:am}{r1 r2 r3 r4 r5:ak}{Q:ak->ar->Prop}(X:K.In h)(q:exC K C=af)(he:h.get? e=ae oe)(hc:oe.cls=.ref C)(hd:oe.data=.fields #[.ref a0,r1,r2,r3,r4,r5])
 (hq:Q .none ⟨(h.push {cls:=.type "tuple",data:=.seq us.toArray}).update e (gn (·.setIfInBounds 0 (.ref h.objs.size))),g,d,t,os⟩)(hz:us.length<=aT) :
  ϑ (aw prog w) A (call (.builtin "ValueError.__init__") (.ref e::us)) Q E ⟨h,g,d,t,os⟩:=by
 obtain⟨⟨bm,N,nm,qn,bs,sn,sub,ab,col,dd,k0,k1,k2,k3,k5,mN,hC,hN,T⟩⟩:=W2 X q;have F:=lg;obtain⟨oc,od,dt,sl⟩:=oe;dsimp only at hc hd;subst hc hd;refine jx (wr F.init.plain F.initEntry (wpAny_check_init_subU F T hC he rfl ?_));have he1:=br (h:=h) {cls:=.type "tuple",data:=.seq us.toArray} he
 wp_walk
 exact hq
theorem TQ{h:ay}{l:aa ak}(T:wn h vMr l)(self:ak):refuseLoop self "__setattr__" l=pure ():=by
 induction T with
 |base=>exact DB.passes self
 |own _ _ _ _ ih=>rw[DC];exact ih
theorem aJf{h:ay}{g:aE jn}{d:jo}{t:ag}{os:jp}{x:am}{o:bg}{ws:aE ak}{name:Str}{v:ak}{Q:Unit->ar->Prop}(X:K.In h)(q:exC K C=af)(hs:dm K (.ref C) "__setattr__"=ae (ae (.builtin "object.__setattr__")))(hn:dm K (.ref C) name=ae aj)
 (ho:iO K C (.type "object")=ae af)(hx:h.get? x=ae o)(hc:o.cls=.ref C)(hd:o.dict=aj)(hw:o.data=.fields ws)
 (hq:∀h' tk,h'.Ns1 h.objs.size (λy=>if y=name then ae v else aj)->h'.get? x=ae {o with dict:=ae h.objs.size}->(∀b u,b≠x->h.get? b=ae u->h'.get? b=ae u)->Q () ⟨h',g,d,tk,os⟩) :
  ϑ (aw prog w) A (setAttr (cK x) name v) Q E (⟨h,g,d,t,os⟩:ar):=by
 obtain⟨⟨bm,N,nm,qn,bs,sn,sub,ab,col,dd,k0,k1,k2,k3,k5,mN,hC,hN,T⟩⟩:=W2 X q;have SF:=DB;have hpass:=TQ T (.ref x);have I:InstAt h x o C aj:=⟨hx,hc,by unfold notCls;rw[hw],by rw[hd];trivial⟩
 refine set_plain X I hs ?_;have sub:ix (aw prog w) h (oQ (.ref x) (.type "object")) af:=I.type.andThen (Ah X ho);refine wr SF.slot.plain SF.entry (@check_slot (aw prog w) _ _ ⟨h,g,d,t+1,os⟩ "object.__setattr__" "object" "__setattr__" (.ref x) [.str name t,v] [] _ SF.kind SF.split sub (SF.args (.ref x) (.str name t) v) ?_);have hm:ix (aw prog w) h (mroOf (.ref C)) (.ref C::bm):=((oz (part:=aj) hC).andThen .now).andThen .now;show ϑ _ _ (cz.«object.__setattr__» ⟨[.ref x,.str name t,v],[]⟩) _ _ _;rw[osa_eq,refuse_eq];refine ao (ao (I.type.here (s:=⟨h,g,d,t+1,os⟩) (ao (hm.here ?_))));rw[DC,hpass];refine aI (ao (I.type.here (ao ((oP X hn).here (ao (aI ?_))))));show ϑ _ _ (storeInOwnDict (.ref x) (.ref C) (.str name t) name v ai) _ _ (⟨h,g,d,t+1,os⟩:ar)
 repeat (first|(with_reducible refine iX hx ?_;rw[hc])|wp_step)
 rw[hd,ax (by simp[typeHasDict])];split
 ·rename_i z;cases z
 split
 ·rename_i z;rw[hw] at z;cases z
 have hx1:=br (h:=h) {cls:=.type "dict",data:=.dict #[]} hx;have ne:x≠h.objs.size:=cu (bn hx);refine ao (wpAny_alloc' (ao (wpAny_update' hx1 (aI ?_))));generalize hh2:((h.push {cls:=.type "dict",data:=.dict #[]}).update x λo=>{cls:=o.cls,dict:=ae h.objs.size,data:=o.data,slots:=o.slots})=h2;have g1:h2.get? h.objs.size=ae {cls:=.type "dict",data:=.dict #[]}:=by
  rw[<-hh2];exact(vF _ _ _ _ ne.symm).trans (DD rfl rfl)
 have g2:h2.get? x=ae {o with dict:=ae h.objs.size}:=by
  rw[<-hh2];refine gL _ hx1 ?_;obtain⟨oc,od,dt,sl⟩:=o;dsimp only at hw;subst hw;rfl
 have g3:∀b u,b≠x->h.get? b=ae u->h2.get? b=ae u:=λb u hb k=>by
  rw[<-hh2];exact(vF _ _ _ _ hb).trans (br _ k)
 have n1:h2.Ns h.objs.size (λ_=>aj):=⟨_,#[],_,g1,rfl,λe he=>bf he 0x2,λ_=>rfl⟩
 show ϑ _ _ (storeInDict h.objs.size (.str name _) name v) _ _ _;unfold storeInDict;unfold newKeyGuard;refine ao (aI (ao (wpAny_nsSet1 (EX n1) λh' hn' hs'=>?_)));obtain⟨od,_,_,g4,g5,g6⟩:=hn'.count (Within.cons name v Within.nil);refine ao (wpAny_lookBehind g4 (by rw[g5];exact pastItsLine_dict (dj g6 (by rw[aS,dQ,dk];lia))) ?_)
 wp_walk
 exact hq h' _ hn' ((hs'.2 x ne).trans g2) λb u hb k=>(hs'.2 b (cu (bn k))).trans (g3 b u hb k)
end
open L2 PySem.SeqAt PySem.Spec PyProof.Rows
def XO0(a C:am)(h:ay):Prop:=∃t,h.get? a=ae {cls:=.ref C,data:=.fields #[.ref t,.none,.none,.none,.bool ai,.none]}
def XO1(a C dx:am)(h:ay):Prop:=∃t,h.get? a=ae {cls:=.ref C,dict:=ae dx,data:=.fields #[.ref t,.none,.none,.none,.bool ai,.none]}
theorem XO0.stay(x:XO0 a C h1)(k:∀o,h1.get? a=ae o->h2.get? a=ae o):XO0 a C h2:=let ⟨t,e⟩:=x;⟨t,k _ e⟩
theorem XO1.stay(x:XO1 a C dx h1)(k:∀o,h1.get? a=ae o->h2.get? a=ae o):XO1 a C dx h2:=let ⟨t,e⟩:=x;⟨t,k _ e⟩
theorem XO.stay(x:XO a C dx h1)(k:∀o,h1.get? a=ae o->h2.get? a=ae o):XO a C dx h2:=let ⟨o,e,r⟩:=x;⟨o,k _ e,r⟩
theorem XD.stay(x:XD dx fs h1)(k:∀o,h1.get? dx=ae o->h2.get? dx=ae o):XD dx fs h2:=let ⟨m,n,r⟩:=x;⟨m,n.at k,r⟩
section
theorem aH3(x:XO0 a C h):gC P w H h a (.ext (XO0 a C)):=⟨x,let ⟨_,e⟩:=x;⟨_,e⟩,λ_ _ y k=>y.stay k⟩
theorem aNc(x:XO1 a C dx h):gC P w H h a (.ext (XO1 a C dx)):=⟨x,let ⟨_,e⟩:=x;⟨_,e⟩,λ_ _ y k=>y.stay k⟩
theorem aPz(x:XO a C dx h):gC P w H h a (.ext (XO a C dx)):=⟨x,let ⟨o,e,_⟩:=x;⟨o,e⟩,λ_ _ y k=>y.stay k⟩
theorem aQ0(x:XD dx fs h):gC P w H h dx (.ext (XD dx fs)):=⟨x,let ⟨_,⟨o,_,_,e,_⟩,_⟩:=x;⟨o,e⟩,λ_ _ y k=>y.stay k⟩
end
def CX2(P:bh)(w:bd):CXT:=λouter H s E e s'=>∃(a C:am)(dd:aq am)(H1:Hp)(B:ay),e=.ref a/\s'.os=s.os/\iz s'.gens/\FD B outer a (.ref C) dd .none s'.heap/\
 (∀h6:ay,B.StaysIn h6->s'.heap.UpToSlots h6->Un (L2.frs outer) [] H H1 s.heap h6/\HOk P w H1 h6)/\H1 a=aj/\s.heap.get? a=aj/\E (.ref C) dd H1
noncomputable def hid(H:Hp)(a:am):Hp:=λb=>if b=a then aj else H b
theorem zF(h:b≠a):hid H a b=H b:=ax h
theorem W3:hid H a a=aj:=av rfl
section
variable {P:bh} {w:bd} {K:bj} {mg:Str->aq ak} {base:ay} {N:aa Str} {qual:Str} {scope:dL} {f C:am} {cd:ak} {A:bS} {outer:aa cv} {s:ar} {H:Hp} {E:XK}
theorem aCm(I:Inv (lE (CX2 P w) P w K mg base N qual scope f cd A outer s H E) Ψ σ H1 s1)(ea:H1 a=ae (.ext (XO1 a C dx)))(hg:s.heap.get? a=aj)(hE:E (.ref C) (ae dx) (hid H1 a)) :
  (lE (CX2 P w) P w K mg base N qual scope f cd A outer s H E).xe (.ref a) s1:=by
 let env:=cS qual scope s.heap.objs.size f cd
 have hfr:L2.frs (env::outer)=s.heap.objs.size::L2.frs outer:=by
  unfold L2.frs;rw[jt];rfl
 have hin:∀v∈(env::outer),∀b,v.frame=ae b->b∈a::L2.frs (env::outer):=λv hv b hb=>bw _ (s_.mpr ⟨v,hv,hb⟩)
 have stk:s1.heap.FunFrames base (env::outer):=I.stack;have sfree:∀b∈L2.frs (env::outer),H1 b=aj:=I.GP;have u0:Un (L2.frs outer) [] H H1 s.heap s1.heap:=I.base;obtain⟨⟨t,ht⟩,_⟩:=I.hok a _ ea;show ϑ (aw P w) (A.deeper env) (leaving env (.ref a)) (λ_ s''=>CX2 P w outer H s E (.ref a) s'') (λe' s''=>CX2 P w outer H s E e' s'') s1;refine W0 I.ok.frames rfl (DE stk hin) ht (λb o q=>sB _ q) (A7 _ 0x2) rfl rfl (λ_=>rfl) λh' x1 x4=>?_
 refine⟨a,C,ae dx,hid H1 a,_,rfl,I.os,I.bare,x1,λh6 st up=>?_,W3,hg,hE⟩;have na:∀b o,s.heap.get? b=ae o->b≠a:=λb o e z=>by rw[z,hg] at e;cases e
 have k:∀b o,s1.heap.get? b=ae o->b≠a->b∉L2.frs (env::outer)->h6.get? b=ae o:=λb o eb h1 hb=>st b o (xS _ eb (by simp only[bP,jg];exact⟨h1,hb⟩))
 have up6:s1.heap.UpToSlots h6:=x4.trans up;have nL:∀b o,s.heap.get? b=ae o->b∉L2.frs outer->b∉L2.frs (env::outer):=λb o eb hb z=>by
  rw[hfr] at z;rcases bP.mp z with z|z
  ·exact bf (bn eb) (by rw[z];exact fR _)
  ·exact hb z
 have slot:∀b o,s1.heap.get? b=ae o->b∈L2.frs outer->∃sl,h6.get? b=ae {o with slots:=sl}:=λb o eb hb=>by
  obtain⟨_,o',ho',hd⟩:=stk.mem (show b∈L2.frs (env::outer) by rw[hfr];exact bw _ hb);rw[eb] at ho';cases ho';exact up6 b o eb hd
 have nt:∀b u,H1 b=ae u->(∀φ,u≠.ext φ)->b≠a:=λb u e1 e2 z=>by rw[z,ea] at e1;cases e1;exact e2 _ rfl
 refine⟨⟨λb o eb hn hb hx'=>k b o (u0.keep b o eb hn hb hx') (na b o eb) (nL b o eb hb),λb o eb hn hb hx'=>?_,λb o eb hn hx'=>?_,λb o eb hx'=>?_,λb xs q=>?_,λb o u q=>?_,λb ps q=>?_⟩,λb u eb=>?_⟩
 ·obtain⟨sl,e1⟩:=u0.slot b o eb hn hb hx';obtain⟨sl',e2⟩:=slot b _ e1 hb;exact⟨sl',e2⟩
 ·rw[zF (na b o eb)];exact u0.free b o eb hn hx'
 ·obtain⟨o',e1⟩:=u0.there b o eb hx';by_cases hb:b∈L2.frs outer
  ·obtain⟨sl,e2⟩:=slot b o' e1 hb;exact⟨_,e2⟩
  ·exact⟨o',k b o' e1 (na b o eb) (nL b o eb hb)⟩
 ·have e1:=u0.tups b xs q;rw[zF (nt b _ e1 λφ z=>by cases z)];exact e1
 ·have e1:=u0.frzs b o u q;rw[zF (nt b _ e1 λφ z=>by cases z)];exact e1
 ·obtain⟨m1,e1⟩:=u0.tbls b ps q;exact⟨m1,by rw[zF (nt b _ e1 λφ z=>by cases z)];exact e1⟩
 ·have hb:b≠a:=λz=>by rw[z,W3] at eb;cases eb
  rw[zF hb] at eb;refine(I.hok b u eb).stay (λc v hc q=>k c v q (λz=>?_) λz=>?_) (λc q=>?_) λc xs q=>?_
  ·rcases hc with hc|hc
   ·exact hb (hc▸z)
   ·rw[z,ea] at hc;cases hc
  ·have:=sfree c z;rcases hc with hc|hc
   ·rw[hc,eb] at this;cases this
   ·rw[hc] at this;cases this
  ·rw[zF (nt c _ q λφ z=>by cases z)];exact q
  ·rw[zF (nt c _ q λφ z=>by cases z)];exact q
theorem ZR:U_ (CX2 P w) (lE (CX2 P w) P w K mg base N qual scope f cd A outer s H E) E:=by
 intro Ψ σ Hm sm e s' I hx;obtain⟨a,C,dd,H1,B,rfl,os',bare',fly,clo,hn,hgone,hE⟩:=hx
 let env:=cS qual scope s.heap.objs.size f cd
 have hfr:L2.frs (env::outer)=s.heap.objs.size::L2.frs outer:=by
  unfold L2.frs;rw[jt];rfl
 have u0:Un (L2.frs outer) [] H Hm s.heap sm.heap:=I.base;show ϑ (aw P w) (A.deeper env) (leaving env (.ref a)) (λ_ s''=>CX2 P w outer H s E (.ref a) s'') (λe' s''=>CX2 P w outer H s E e' s'') s';refine aFm I.ok.frames rfl fly λh' x1 x4=>?_
 have hgone0:s.heap.get? a=aj:=by
  cases q:s.heap.get? a with
  |none=>rfl
  |some o=>
   obtain⟨o',e1⟩:=u0.there a o q 0x2;rw[hgone] at e1;cases e1
 refine⟨a,C,dd,H1,B,rfl,os'.trans I.os,bare',x1,λh6 st up=>?_,hn,hgone0,hE⟩;obtain⟨u2,hok⟩:=clo h6 st (x4.trans up);have nL:∀b o,s.heap.get? b=ae o->b∉L2.frs outer->b∉L2.frs (env::outer):=λb o eb hb z=>by
  rw[hfr] at z;rcases bP.mp z with z|z
  ·exact bf (bn eb) (by rw[z];exact fR _)
  ·exact hb z
 refine⟨⟨λb o eb hn hb hx'=>u2.keep b o (u0.keep b o eb hn hb hx') (u0.free b o eb hn hx') (nL b o eb hb) 0x2,λb o eb hn hb hx'=>?_,λb o eb hn hx'=>?_,λb o eb hx'=>?_,λb xs q=>u2.tups b xs (u0.tups b xs q),λb o u q=>u2.frzs b o u (u0.frzs b o u q),λb ps q=>?_⟩,hok⟩
 ·obtain⟨sl,e1⟩:=u0.slot b o eb hn hb hx';obtain⟨sl',e2⟩:=u2.slot b _ e1 (u0.free b o eb hn hx') (show b∈L2.frs (env::outer) by rw[hfr];exact bw _ hb) 0x2;exact⟨sl',e2⟩
 ·obtain⟨o',e1⟩:=u0.there b o eb hx';exact u2.free b o' e1 (u0.free b o eb hn hx') 0x2
 ·obtain⟨o',e1⟩:=u0.there b o eb hx';exact u2.there b o' e1 0x2
 ·obtain⟨m1,q1⟩:=u0.tbls b ps q;obtain⟨m2,q2⟩:=u2.tbls b _ q1;exact⟨m1++m2,by rw[<-A9];exact q2⟩
end
structure XI(K:Frag)(C f:am):Prop where
 cl:exC K C=af
 init:dm K (.ref C) "__init__"=ae (ae (.ref f))
 fn:isFn K (.ref f)=af
 kp:keepIn K (.ref C)=af
 sa:dm K (.ref C) "__setattr__"=ae (ae (.builtin "object.__setattr__"))
 ob:iO K C (.type "object")=ae af
def wM(C:am)(fl:aa Str):Sp:=λvs H Q _=>∃(e:am)(ts:aa Str),vs=.ref e::ts.map V.str/\ts.length=fl.length/\H e=ae (.ext (XO0 e C))/\∀dx,H dx=aj->Q .non (upd (upd H dx (.ext (XD dx (fl.zip ts)))) e (.ext (XO1 e C dx)))
theorem aNd(e:H a=ae o):upd H a o=H:=by
 funext b
 unfold upd;split
 ·rename_i z;rw[z,e]
 ·rfl
section
theorem aJg(M:XI X.K C f)(F:xU X.prog X.w X.K X.mg X.base CX0 k f fd ps (wM C fl))(hr:nH (k+1) X.A)(hb:Binds X.K fd ps [])(I:Inv X Ψ σ H s)(r:Vals (ts.map V.str) us)(hl:ts.length=fl.length)(hz:us.length<=aT)(hex:X.ex=[])
 (h:∀a dx s2,X.s₀.heap.get? a=aj->H a=aj->H dx=aj->dx≠a->Inv X Ψ σ (upd (upd H dx (.ext (XD dx (fl.zip ts)))) a (.ext (XO1 a C dx))) s2->Q (.ref a) s2) :
  ϑ (aw X.prog X.w) X.A (call (.ref C) us) Q X.xe s:=by
 obtain⟨hh,g,d,t,os⟩:=s;have I:Inv X Ψ σ H ⟨hh,g,d,t,os⟩:=I;generalize hot:({cls:=.type "tuple",data:=.seq us.toArray}:bg)=ot;generalize hoe:({cls:=.ref C,data:=.fields #[.ref hh.objs.size,.none,.none,.none,.bool ai,.none]}:bg)=oe;have fa:H (hh.objs.size+1)=aj:=I.hok.fresh (iu _);have I1:Inv X Ψ σ H ⟨hh.push ot,g,d,t,os⟩:=I.kept λb u q=>br _ q
 have ge:((hh.push ot).push oe).get? (hh.objs.size+1)=ae oe:=DD (by rw[eS]) (by rw[<-hoe];rfl);have I2:Inv X Ψ σ (upd H (hh.objs.size+1) (.ext (XO0 (hh.objs.size+1) C))) ⟨(hh.push ot).push oe,g,d,t,os⟩:=
  I1.laid (λb u q=>br _ q) (zo (eS _ _)) (aH3 ⟨hh.objs.size,by rw[ge,hoe]⟩)
 have ng:X.s₀.heap.get? (hh.objs.size+1)=aj:=by
  cases z:X.s₀.heap.get? (hh.objs.size+1) with
  |none=>rfl
  |some o=>
   obtain⟨o',e1⟩:=I.base.there _ o z (by rw[hex];simp);exact bf (bn e1) (by show ¬hh.objs.size+1<hh.objs.size;lia)
 have r2:Vals (V.ref (hh.objs.size+1)::ts.map V.str) (cK (hh.objs.size+1)::us):=.cons rfl r;have sp:wM C fl (V.ref (hh.objs.size+1)::ts.map V.str) (upd H (hh.objs.size+1) (.ext (XO0 (hh.objs.size+1) C))) (λv H'=>v=.non/\∃dx,H dx=aj/\dx≠hh.objs.size+1/\H'=upd (upd H dx (.ext (XD dx (fl.zip ts)))) (hh.objs.size+1) (.ext (XO1 (hh.objs.size+1) C dx))) (λ_ _ _=>cg):=
  ⟨_,ts,rfl,hl,aL,λdx hd=>⟨rfl,dx,by
   have ne:dx≠hh.objs.size+1:=λz=>by rw[z,aL] at hd;cases hd
   rw[bF ne] at hd;refine⟨hd,ne,?_⟩
   funext b
   unfold upd;split
   ·rfl
   ·rfl⟩⟩
 have hln:(cK (hh.objs.size+1)::us++[]).length=ps.length:=by
  rw[eD];have e:=r2.length;rw[F.len _ _ _ _ sp] at e;exact e.symm
 have hb':=hb ⟨(hh.push ot).push oe,g,d,t,os⟩ (cK (hh.objs.size+1)::us) I2.kIn hln;rw[eD] at hb';refine call_exc I.kIn M.cl M.init (gy.mp M.fn) hz ?_;rw[hot,hoe];refine jx (jy (F.run _ X.stack _ _ ⟨cK (hh.objs.size+1)::us,[]⟩ (cK (hh.objs.size+1)::us) _ _ _ (hr.make C us []) (I2.env0.make C us []) hb' r2 sp) λr s' hq=>?_);cases r with
 |error e=>exact hq.elim
 |ok fl=>
  cases fl with
  |ret u=>
   obtain⟨v,H',I3,rv,ev,dx,e1,e2,e3⟩:=I2.after hq;subst ev e3;exact⟨rv,h _ dx s' ng fa e1 e2 I3⟩
  |next=>exact dg hq
  |brk=>exact dg hq
  |cont=>exact dg hq
end
noncomputable def tBase(C:am)(t:TA):TE:=λσ H Q=>t σ H λvs H1=>∃a vs',vs=.ref a::vs'/\vs'.length<=aT/\H1 a=ae (.ext (XO0 a C))/\Q .non H1
theorem aCn(q:exC X.K C=af)(hg:Gl X x)(hm:X.mg x=ae (.ref M))(hga:kj X.K (.ref M) "__getattribute__"=ae (ae (.builtin "type.__getattribute__")))(hr:xh X.K M (.type "type")=af)
 (hf:xi X.K (.ref M) (.type "type") "__init__"=ae (.val (.builtin "ValueError.__init__")))(ha:PA X (e::es) t)(hdb:nDb x:=by decide)(he:zSE X e es:=by rfl)(hpl:(eW cp (cf es X.env)).any (·.1)=ai:=by rfl)
 (ht:eval (.Call (.Attribute (.Name x np) "__init__" ap) (e::es) [] cp) X.env=(do
   let ov <- eval (.Name x np) X.env
   yj ap.atName
   let (f,first) <- l8 [ov] (getMethod ov "__init__" pl)
   callWith cp f first (eW cp (cf (e::es) X.env)) (yb cp (yc [] X.env))):=by rfl):PE X (.Call (.Attribute (.Name x np) "__init__" ap) (e::es) [] cp) (tBase C t):=by
 intro Ψ s σ H Q I h;refine methodCall_KW (lC I hg hm ?_ hdb) ht;refine method_cls I.kIn hga (cls_value I.kIn hr hf rfl ?_);refine Bx (thn (ha cp Ψ _ σ H _ (I.tok _) h) λus s1 ⟨vs,H1,I1,r1,a,vs',ev,hz,ea,q1⟩=>?_) he hpl;subst ev;obtain⟨us,rfl,r5⟩:∃us2,us=cK a::us2/\Vals vs' us2:=by
  cases r1 with
  |cons r0 r1=>cases r0;exact⟨_,rfl,r1⟩
 obtain⟨⟨t0,ht0⟩,_⟩:=I1.hok a _ ea;obtain⟨hh,g,d,t,os⟩:=s1;refine aCl I1.kIn q ht0 rfl rfl ?_ (by rw[<-r5.length];exact hz);generalize hot:({cls:=.type "tuple",data:=.seq us.toArray}:bg)=ot;have I2:Inv X Ψ σ H1 ⟨hh.push ot,g,d,t,os⟩:=I1.kept λb u q=>br _ q
 have e2:(hh.push ot).get? a=ae _:=br _ ht0;obtain⟨h3,r3,k3,o3,g3,c3,d3,f3⟩:=JQ 0 (.ref hh.objs.size) e2 rfl;rw[<-r3];have g4:h3.get? a=ae {cls:=.ref C,data:=.fields #[.ref hh.objs.size,.none,.none,.none,.bool ai,.none]}:=by
  rw[r3];exact gL _ e2 rfl
 have I3:Inv X Ψ σ (upd H1 a (.ext (XO0 a C))) ⟨h3,g,d,t,os⟩:=I2.write (by rw[ea];exact True.intro) (.inl rfl) (λb u hb z=>(k3 b hb).trans z) ⟨_,g4⟩ (aH3 ⟨_,g4⟩);rw[aNd ea] at I3;exact⟨.non,H1,I3,rfl,q1⟩
def aNe(C:am)(f:Str)(ta tv:TE):TS:=λD σ H=>tv σ H λy H1=>ta σ H1 λx H2=>∃(a:am)(t:Str),x=.ref a/\y=.str t/\H2 a=ae (.ext (XO0 a C))/\∀dx,H2 dx=aj->D.nx σ (upd (upd H2 dx (.ext (XD dx [(f,t)]))) a (.ext (XO1 a C dx)))
theorem aCo{ta tv:TE}(M:XI X.K C fi)(hn:dm X.K (.ref C) f=ae aj)(ha:PE X o ta)(hv:PE X value tv)(hs:eB value (ae (.Attribute o f pos')) pos.line X.env=pure ai:=by rfl):PS X (.Assign [.Attribute o f pos'] value pos) (aNe C f ta tv):=by
 intro Ψ s σ H D I h;refine plainObj_wpAny_Assign_Attribute (thn (hv Ψ s σ H _ I h) λu s1 ⟨y,H1,I1,ry,q⟩=>thn (ha Ψ s1 σ H1 _ I1 q) λov s2 ⟨x,H2,I2,rx,a,t,ex,ey,ea,q2⟩=>?_) hs;subst ex ey;obtain rfl:ov=cK a:=rx;obtain⟨tk,rfl⟩:∃tk,u=nK t tk:=ry;obtain⟨⟨t0,ht0⟩,_⟩:=I2.hok a _ ea;obtain⟨hh,g,d,tt,os⟩:=s2;refine aJf I2.kIn M.cl M.sa hn M.ob ht0 rfl rfl rfl λh' tk' n1 g1 k1=>?_
 have ne:hh.objs.size≠a:=gS (bn ht0);have fr:H2 hh.objs.size=aj:=I2.hok.fresh (ba _);have hn1:upd H2 a (.ext (XO1 a C hh.objs.size)) hh.objs.size=aj:=by rw[bF ne];exact fr
 have hg1:hh.get? hh.objs.size=aj:=A8 (ba _);have mu:L2.Mut (H2 a):=by rw[ea];exact True.intro
 have xd:XD hh.objs.size [(f,t)] h':=by
  refine⟨_,n1,λg hg=>?_,λg=>?_⟩
  ·by_cases z:g=f
   ·simp[z]
   ·simp[z] at hg
  ·by_cases z:g=f
   ·subst z;rw[List.lookup_cons_self];exact⟨tk,av rfl⟩
   ·rw[iw,dS.mpr z];exact ax z
 have I3:Inv X Ψ σ (upd (upd H2 a (.ext (XO1 a C hh.objs.size))) hh.objs.size (.ext (XD hh.objs.size [(f,t)]))) ⟨h',g,d,tk',os⟩:=
  I2.un (aC1 (Un.write mu (.inl rfl) (λb u hb z=>k1 b u hb z) ⟨_,g1⟩) hg1 hn1) (S7 (I2.hok.write mu (.inl rfl) (λb u hb z=>k1 b u hb z) ⟨_,g1⟩ (aNc ⟨t0,g1⟩)) hn1 (aQ0 xd))
 have e:upd (upd H2 a (.ext (XO1 a C hh.objs.size))) hh.objs.size (.ext (XD hh.objs.size [(f,t)]))=upd (upd H2 hh.objs.size (.ext (XD hh.objs.size [(f,t)]))) a (.ext (XO1 a C hh.objs.size)):=by
  funext b
  unfold upd;by_cases h1:b=a
  ·have h2:b≠hh.objs.size:=λz=>ne (z.symm.trans h1)
   rw[ax h2,av h1,av h1]
  ·rw[ax h1,ax h1]
 rw[e] at I3;exact⟨σ,_,I3,q2 hh.objs.size fr⟩
end Mi
namespace Mi
open PySem L2 PySem.W PySem.SeqAt PySem.Spec PyProof.Rows
noncomputable def noE{α:Type}(f:aa D->Res α):aa D->Res α:=λρ=>match f ρ with|.ok a=>.ok a|_=>.bad
theorem dC(h:f ρ=.ok a):noE f ρ=.ok a:=by unfold noE;rw[h]
theorem vH{f:aa D->Res α}:(∃a,f ρ=.ok a/\noE f ρ=.ok a)\/noE f ρ=.bad:=by
 unfold noE;cases f ρ with
 |ok a=>exact .inl ⟨a,rfl,rfl⟩
 |err c as=>exact .inr rfl
 |bad=>exact .inr rfl
def noT(t:D->aa D->Res (aa D)):D->aa D->Res (aa D):=λx=>noE (t x)
noncomputable def aCp:aa D->aq (aa Str)
 |[]=>ae []
 |.str t::r=>(aCp r).map (t::·)
 |_=>aj
def nG(c:Str)(fl:aa Str)(fa:FA):FS:=λρ=>do
 let ds <- fa ρ
 match aCp ds with
 |some ts=>if ts.length=fl.length then .err c [.exc c (fl.zip ts)] else .bad
 |none=>.bad
section
variable [KFrag]
theorem W4:∀{ds:aa D}{ts:aa Str}{vs:aa V},aCp ds=ae ts->bZ P H vs ds->vs=ts.map V.str
 |[],_,_,h,.nil=>by cases h;rfl
 |d::r,ts,_,h,.cons r1 t=>by
  cases d with
  |str x=>
   unfold aCp at h;obtain⟨ts',h1,rfl⟩:=mq.mp h;cases r1.inv;rw[W4 h1 t];rfl
  |_=>cases h
def aH4(own:ag->au)(E:XK)(σ:L2.St)(H:Hp)(c:Str)(as:aa D):Prop:=∃fs C,as=[.exc c fs]/\nsIn KFrag.K bi c=ae (ae (.ref C))/\∀σ' H' dx,KU own σ H σ' H'->XDs H' fs dx->E (.ref C) dx H'
def kZ(own:ag->au)(E:XK)(D:Ends)(σ:L2.St)(H:Hp):Res Fl->Prop
 |.ok fl=>kS own D σ H fl
 |.err c as=>aH4 own E σ H c as
 |.bad=>cg
noncomputable def tZ(own:ag->au)(E:XK)(f:FS):TS:=λD σ H=>∃ρ,ES own H σ ρ/\kZ own E D σ H (f ρ)
def aNf(E:XK)(H:Hp)(c:Str)(as:aa D):Prop:=∃fs C,as=[.exc c fs]/\nsIn KFrag.K bi c=ae (ae (.ref C))/\∀H' dx,cZ H H'->XDs H' fs dx->E (.ref C) dx H'
def kZE(E:XK)(H:Hp)(Q:VK):Res D->Prop
 |.ok d=>kR H d af Q
 |.err c as=>aNf E H c as
 |.bad=>cg
noncomputable def gZ(E:XK)(f:FE):TE:=λσ H Q=>∃ρ,ER H σ ρ/\kZE E H Q (f ρ)
noncomputable def spZ(f:aa D->Res D)(n:ag):Sp:=λvs H Q E=>∃ds,ds.length=n/\bZ All H vs ds/\kZE E H Q (f ds)
def vI(P:bh)(w:bd)(K:bj)(mg:Str->aq ak)(base:ay)(k:ag)(x:Str)(n:ag)(f:aa D->Res D):Prop:=
 ∃(fad:am)(fd:cj)(ps:aa Str),xU P w K mg base (CX2 P w) k fad fd ps (spZ f n)/\mg x=ae (.ref fad)/\jz K (.ref fad)=af/\Binds K fd ps []
theorem vI.cal{K:bj}{base:ay}{k:ag}{x:Str}{n:ag}{f:aa D->Res D}(Z:vI P w K mg base k x n f):cL P w K mg base k x n f:=by
 obtain⟨fad,fd,ps,F,hm,hk,hb⟩:=Z;have go:∀{vs H Q E},spD f n vs H Q E->spZ f n vs H Q (λ_ _ _=>cg):=λ⟨ds,d,h1,r,h,q⟩=>⟨ds,h1,r,by rw[h];exact q⟩
 refine⟨fad,fd,ps,⟨λvs H Q E h=>F.len vs H Q _ (go h),λA outer s H args us vs Q E hr he hb hv h=>jy (F.run A outer s H args us vs Q _ hr he hb hv (go h)) λr s' hq=>?_⟩,hm,hk,hb⟩;cases r with
 |ok fl=>cases fl<;>exact hq
 |error e=>
  obtain⟨_,_,_,_,_,_,_,_,_,_,_,_,z⟩:=hq;exact z.elim
section
variable {own:ag->au} {E:XK} {D':Ends} {σ σ':L2.St} {H H':Hp}
theorem aH4.step(k:KU own σ H σ' H')(h:aH4 own E σ H c as):aH4 own E σ' H' c as:=let ⟨fs,C,h1,h2,h3⟩:=h;⟨fs,C,h1,h2,λσ2 H2 dx k2 x=>h3 σ2 H2 dx (k.trans k2) x⟩
theorem kZ.step(k:KU own σ H σ' H')(h:kZ own E D' σ H r):kZ own E D' σ' H' r:=by
 cases r with
 |ok fl=>exact kS.step k h
 |err c as=>exact aH4.step k h
 |bad=>exact h
theorem aH4.expr(h:aH4 own E σ H c as):aNf E H c as:=let ⟨fs,C,h1,h2,h3⟩:=h;⟨fs,C,h1,h2,λH' dx sm x=>h3 σ H' dx (.same sm) x⟩
end
section
variable {own:ag->au} {E:XK} {X:Cx} {st:bq} {rest s1 s2:aa bq} {f g:FS} {c e:Expr} {gc:FT} {pos pos':bX} {fe:FE}
theorem jX(h:PS X.nox st (tS own f)):PS X st (tZ own E (noE f)):=PS.imp (PS.nox h) λD σ H ⟨ρ,es,k⟩=>by
 rcases vH with ⟨fl,h1,h2⟩|h2
 ·rw[h2] at k;exact⟨ρ,fl,es,h1,k⟩
 ·rw[h2] at k;exact k.elim
theorem ZV:PSs X [] (tZ own E vV):=PSs.imp fX λD σ H ⟨ρ,es,k⟩=>⟨ρ,_,es,rfl,k⟩
theorem xO(h:PS X st (tZ own E f)):PSs X [st] (tZ own E f):=yE h
theorem fU(h1:PS X st (tZ own E f))(h2:PSs X rest (tZ own E g)):PSs X (st::rest) (tZ own E (bN f g)):=PSs.imp (xT h1 h2) λD σ H ⟨ρ,es,k⟩=>by
 refine⟨ρ,es,?_⟩;cases hf:f ρ with
 |ok r=>
  cases r with
  |nx ρ'=>
   have e:bN f g ρ=g ρ':=by unfold bN;rw[hf];rfl
   rw[e] at k;exact λσ' H' ku E'=>⟨ρ',E',k.step ku⟩
  |bk ρ'=>
   have e:bN f g ρ=.ok (.bk ρ'):=by unfold bN;rw[hf];rfl
   rw[e] at k;exact k
  |ct ρ'=>
   have e:bN f g ρ=.ok (.ct ρ'):=by unfold bN;rw[hf];rfl
   rw[e] at k;exact k
  |rt d=>
   have e:bN f g ρ=.ok (.rt d):=by unfold bN;rw[hf];rfl
   rw[e] at k;exact k
 |err c as=>
  have e:bN f g ρ=.err c as:=by unfold bN;rw[hf];rfl
  rw[e] at k;exact k
 |bad=>
  have e:bN f g ρ=.bad:=by unfold bN;rw[hf];rfl
  rw[e] at k;exact k
theorem aNg(hc:PT X c (gT gc))(ha:PSs X s1 (tZ own E f))(hb:PSs X s2 (tZ own E g)):PS X (.If c s1 s2 pos) (tZ own E (sIf (noE gc) f g)):=PS.imp (aHh hc ha hb) λD σ H ⟨ρ,es,k⟩=>by
 rcases vH (f:=gc) with ⟨b,h1,h2⟩|h2
 ·have e:sIf (noE gc) f g ρ=if b then f ρ else g ρ:=by unfold sIf;rw[h2];rfl
  rw[e] at k;refine⟨ρ,b,es.er,h1,λH' sm=>?_⟩;cases b with
  |true=>rw[av rfl];rw[av rfl] at k;exact⟨ρ,es.same sm,k.step (.same sm)⟩
  |false=>rw[ax 0x2];rw[ax 0x2] at k;exact⟨ρ,es.same sm,k.step (.same sm)⟩
 ·have e:sIf (noE gc) f g ρ=.bad:=by unfold sIf;rw[h2];rfl
  rw[e] at k;exact k.elim
theorem aQ1(hc:PT X c (gXT own xc))(ha:PSs X s1 (tZ own E f))(hb:PSs X s2 (tZ own E g)):PS X (.If c s1 s2 pos) (tZ own E (aGz (noE xc) f g)):=PS.imp (aHh hc ha hb) λD σ H ⟨ρ,es,k⟩=>by
 rcases vH (f:=xc) with ⟨⟨b,ρ1⟩,h1,h2⟩|h2
 ·have e:aGz (noE xc) f g ρ=if b then f ρ1 else g ρ1:=by unfold aGz;rw[h2];rfl
  rw[e] at k;refine⟨ρ,b,ρ1,es,h1,λH' ku E1 ns=>?_⟩;cases b with
  |true=>rw[av rfl];rw[av rfl] at k;exact⟨ρ1,E1,k.step ku⟩
  |false=>rw[ax 0x2];rw[ax 0x2] at k;exact⟨ρ1,E1,k.step ku⟩
 ·have e:aGz (noE xc) f g ρ=.bad:=by unfold aGz;rw[h2];rfl
  rw[e] at k;exact k.elim
theorem aNh(ho:own i=o)(hN:X.N.Nodup)(hi:X.N[i]?=ae x)(hx:Loc X.env.scope x)(he:PE X e (gZ E fe))(hs:zSw X e x pos' pos:=by rfl)(hf:zFn X x:=by first|exact .inl rfl|exact .inr rfl|assumption) :
  PS X (.Assign [.Name x pos'] e pos) (tZ own E (bW o i fe af)):=PS.imp (LR hN hi hx he hs hf) λD σ H ⟨ρ,es,k⟩=>by
 refine⟨ρ,es.er,?_⟩;cases hfe:fe ρ with
 |ok d=>
  have e:bW o i fe af ρ=bW o i (λ_=>.ok d) af ρ:=by unfold bW;rw[hfe]
  rw[e] at k;cases hs2:bW o i (λ_=>.ok d) af ρ with
  |ok fl=>
   rw[hs2] at k;obtain⟨ρ',d',_,h1,q⟩:=yZ ho ⟨ρ,fl,es,hs2,k⟩;cases h1;exact q
  |err c as=>
   exfalso;unfold bW at hs2;rw[θ] at hs2;generalize (if o=af then af&&inner d else af||d.pure)=b at hs2;cases b<;>cases hs2
  |bad=>rw[hs2] at k;exact k.elim
 |err c as=>
  have e:bW o i fe af ρ=.err c as:=by unfold bW;rw[hfe];rfl
  rw[e] at k;exact aH4.expr k
 |bad=>
  have e:bW o i fe af ρ=.bad:=by unfold bW;rw[hfe];rfl
  rw[e] at k;exact k.elim
end
section
variable {own:ag->au} {E:XK}
theorem aCq{K:bj}{g:TG}{t:D->aa D->Res (aa D)}{body:FS}{D':Ends}{J:It}{items:aa D}{σ:L2.St}{H1:Hp}{ρ:aa D}{rr:Res Fl}(tg:TgS own g t)(es:ES own H1 σ ρ)(hJ:ItQ K (λa=>¬Own own σ a) J H1 items)(hf:o9 (noT t) body items ρ=rr)(q:kZ own E D' σ H1 rr) :
  ∃W:ag->ag->L2.St->Hp->Prop,(∃m,W 0 m σ H1)/\∀i m σ H,W i m σ H->
   (J.stop i H/\D'.nx σ H)\/(J.go i H/\∃N:L2.St->Hp->Prop,(∀σ' H',N σ' H'->∃m',m'<m/\W (i+1) m' σ' H')/\∀x H',J.yld i H x H'->g x σ H' λσ2 H2=>tZ own E body {D' with nx:=N,ct:=N,bk:=D'.nx} σ2 H2):=by
 refine⟨λi m σ' H'=>m=items.length-i/\i<=items.length/\ItQ K (λa=>¬Own own σ' a) J H' items/\∃ρ',ES own H' σ' ρ'/\o9 (noT t) body (items.drop i) ρ'=rr/\kZ own E D' σ' H' rr,⟨items.length,rfl,cq _,hJ,ρ,es,hf,q⟩,?_⟩;rintro i m σ' H' ⟨rfl,hi,hJ',ρ',E',hf',q'⟩;rcases ou i items.length with hlt|hge
 ·refine .inr ?_;have e:items[i]?=ae items[i]:=ff hlt;obtain⟨g1,g2⟩:=hJ'.go e;rw[mP hlt] at hf';rcases vH with ⟨ρ1,h1,h2⟩|h2
  ·have hf2:(do let r <- body ρ1;match r with|.nx ρ'=>o9 (noT t) body (items.drop (i+1)) ρ'|.ct ρ'=>o9 (noT t) body (items.drop (i+1)) ρ'|.bk ρ'=>.ok (.nx ρ')|.rt d=>.ok (.rt d):Res Fl)=rr:=by
    rw[<-hf'];show _=(noE (t items[i]) ρ' >>= _);rw[h2];rfl
   refine⟨g1,λσ2 H2=>ItQ K (λa=>¬Own own σ2 a) J H2 items/\∃ρ',ES own H2 σ2 ρ'/\o9 (noT t) body (items.drop (i+1)) ρ'=rr/\kZ own E D' σ2 H2 rr,λσ2 H2 ⟨n1,n2⟩=>⟨items.length-(i+1),by lia,rfl,hlt,n1,n2⟩,λx H2 hy=>?_⟩;obtain⟨sH,rx⟩:=g2 x H2 hy;have ks:KU own σ' H' σ' H2:=λa o e n=>⟨sH a o e,n⟩
   have hJ':=hJ'.ku ks E';have q':=q'.step ks;have E':=E'.same sH;refine tg x items[i] ρ' ρ1 σ' H2 _ E' rx h1 λσ2 E2 hO=>?_
   have k0:KU own σ' H2 σ2 H2:=λa o e n=>⟨e,by rw[hO];exact n⟩
   have hJ2:=hJ'.ku k0 E';have q2:=q'.step k0;refine⟨ρ1,E2,?_⟩;cases hb:body ρ1 with
   |ok r=>
    rw[hb] at hf2;cases r with
    |nx ρ2=>exact λσ3 H3 k3 E3=>⟨hJ2.ku k3 E2,ρ2,E3,hf2,q2.step k3⟩
    |ct ρ2=>exact λσ3 H3 k3 E3=>⟨hJ2.ku k3 E2,ρ2,E3,hf2,q2.step k3⟩
    |bk ρ2=>
     have hf2:τ (Fl.nx ρ2)=rr:=hf2;subst hf2;exact λσ3 H3 k3 E3=>q2 σ3 H3 k3 E3
    |rt d=>
     have hf2:τ (Fl.rt d)=rr:=hf2;subst hf2;exact q2
   |err c as=>
    rw[hb] at hf2;have hf2:Res.err c as=rr:=hf2;subst hf2;exact q2
   |bad=>
    rw[hb] at hf2;have hf2:Res.bad=rr:=hf2;subst hf2;exact q2
  ·have hf2:Res.bad=rr:=by
    rw[<-hf'];show _=(noE (t items[i]) ρ' >>= _);rw[h2];rfl
   subst hf2;exact q'.elim
 ·refine .inl ⟨hJ'.stop hge,?_⟩;rw[mS hge] at hf';have hf':τ (Fl.nx ρ')=rr:=hf';subst hf';exact q' σ' H' (λa o e n=>⟨e,n⟩) E'
end
section
variable {P:bh} {w:bd} {K:bj} {mg:Str->aq ak} {base:ay} {N:aa Str} {qual:Str} {scope:dL} {fad C:am} {cd:ak} {A:bS} {outer:aa cv} {s:ar} {H:Hp} {E:XK} {own:ag->au} {pos:bX}
theorem aNi(ho:own i=ai)(hN:N[i]?=ae x)(hv:Vis scope x)(ht:TgS own g t)(hg:PG (lE (CX2 P w) P w K mg base N qual scope fad cd A outer s H E) tg g)(hb:PSs (lE (CX2 P w) P w K mg base N qual scope fad cd A outer s H E) body (tZ own E fb))
 (hs:∀z,e6 (.Name x px) (cS qual scope s.heap.objs.size fad cd) z=pure z:=by intro _;rfl)(hd:nDb x:=by decide)(hcd:nCd x:=by decide):PS (lE (CX2 P w) P w K mg base N qual scope fad cd A outer s H E) (.For tg (.Name x px) body [] pos) (tZ own E (xM i (noT t) fb)):=by
 refine PS.imp (aAf DF rfl (aGs hN hv hd hcd) hg hb hs) λD' σ H1 ⟨ρ,es,k⟩=>?_
 cases h1:fM i ρ with
 |ok d=>
  cases h2:nP d with
  |ok items=>
   have e:xM i (noT t) fb ρ=o9 (noT t) fb items ρ:=by unfold xM;rw[h1];show(nP d >>= _)=_;rw[h2];rfl
   rw[e] at k;obtain⟨v,hv,rv,e⟩:=es.er.var h1;have hne:ρ.getD i .uD≠.uD:=λz=>by
    rw[z] at e;subst e;exact Rep.uD rv
   obtain⟨w',hw,hr⟩:=es.at_ i hne;rw[hv] at hw;cases hw;have r2:=hr ho;rw[e] at r2;exact⟨v,d,items,hv,rv,h2,λJ hJ=>aCq ht es (hJ _ r2) rfl k⟩
  |err c as=>cases d<;>cases h2
  |bad=>
   have e:xM i (noT t) fb ρ=.bad:=by unfold xM;rw[h1];show(nP d >>= _)=_;rw[h2];rfl
   rw[e] at k;exact k.elim
 |err c as=>
  unfold fM at h1;split at h1<;>cases h1
 |bad=>
  have e:xM i (noT t) fb ρ=.bad:=by unfold xM;rw[h1];rfl
  rw[e] at k;exact k.elim
theorem aCr(R:vI P w K mg base k x n v)(hr:nH k' (A.deeper (cS qual scope s.heap.objs.size fad cd)))(hkk:k<=k')(hg:Gl (lE (CX2 P w) P w K mg base N qual scope fad cd A outer s H E) x)(ha:PA (lE (CX2 P w) P w K mg base N qual scope fad cd A outer s H E) (e::es) (gA fa r))
 (hdb:nDb x:=by decide)(he:cf (e::es) (cS qual scope s.heap.objs.size fad cd)=(ai,eval e (cS qual scope s.heap.objs.size fad cd))::cf es (cS qual scope s.heap.objs.size fad cd):=by rfl)(hpl:(eW cpos (cf es (cS qual scope s.heap.objs.size fad cd))).any (·.1)=ai:=by rfl) :
  PE (lE (CX2 P w) P w K mg base N qual scope fad cd A outer s H E) (.Call (.Name x p) (e::es) [] cpos) (gZ E (aM (bO n v) (noE fa))):=by
 obtain⟨fm,fdm,ps,F,hm,hk,hb⟩:=R;refine PE.imp (RJ F (hr.mono hkk) hg hm hk hb .nil ZR ha hdb he hpl) λσ H1 Q ⟨ρ,er,k⟩=>?_
 rcases vH with ⟨ds,h1,h2⟩|h2
 ·have e:aM (bO n v) (noE fa) ρ=bO n v ds:=by unfold aM;rw[h2];rfl
  rw[e] at k;unfold bO at k;split at k
  ·rename_i hl;refine⟨ρ,ds,er,h1,λvs H' sm rs _=>⟨ds,fg hl,by rw[eD];exact rs,?_⟩⟩;cases hv:v ds with
   |ok d=>rw[hv] at k;exact kR.imp k sm id
   |err c as=>
    rw[hv] at k;obtain⟨fs,C,e1,e2,e3⟩:=k;exact⟨fs,C,e1,e2,λH2 dx s2 x=>e3 H2 dx (sm.trans s2) x⟩
   |bad=>rw[hv] at k;exact k
  ·exact k.elim
 ·have e:aM (bO n v) (noE fa) ρ=.bad:=by unfold aM;rw[h2];rfl
  rw[e] at k;exact k.elim
end
theorem W5{K:bj}{mg:Str->aq ak}{base:ay}{x:Str}{st:bq}{fad:am}{fd:cj}{N ps:aa Str}{k:ag}{f:FS}(F:Fun K x x st fad fd)(hm:mg x=ae (.ref fad))(hb:Binds K fd ps [])(S:bY N ps (aO st))(own:ag->au)(hown:∀i,i<ps.length->own i=ai)(hNl:ps.length<=N.length)
 (hbody:∀(cdv:ak) (A:bS) (outer:aa cv) (s:ar) (H:Hp) (E:XK),nH k (A.deeper (cS x (aO st) s.heap.objs.size fad cdv))->PSs (lE (CX2 P w) P w K mg base N x (aO st) fad cdv A outer s H E) (fB st) (tZ own E f))(hx:own rtX=ai:=by rfl):vI P w K mg base (k+1) x ps.length (fnS ps.length N.length f):=by
 refine⟨fad,fd,ps,?_,hm,F.kp,hb⟩;obtain⟨oc,od,kV,doc,pm,an,cdv,ct,osl,rfl,lk,hcd⟩:=F.ex;refine aHn lk hcd S (λvs H Q E ⟨ds,h1,r,_⟩=>by rw[r.length,h1]) λA outer s H vs Q E hr ⟨ds,hl,r,h⟩=>?_
 refine⟨_,hbody cdv A outer s H E hr,?_⟩;have hst:start N vs=vs.map ae++b9 (N.length-ps.length) aj:=by
  show vs.map ae++b9 (N.length-vs.length) aj=_;rw[r.length,hl]
 have noown:∀a,¬Own own (start N vs) a:=λa ⟨i,hi,e⟩=>by
  rw[hst] at e;by_cases h:i<ps.length
  ·rw[hown i h] at hi;cases hi
  ·rw[hI (by simp[r.length,hl];lia)] at e;rw[kH] at e;split at e<;>cases e
 cases hv:fnS ps.length N.length f ds with
 |ok d=>
  rw[hv] at h;obtain⟨ρ,fl,es,h1,q⟩:=SJ (E:=E) hx hown ⟨ds,d,hl,r,hv,h⟩;exact⟨ρ,es,by rw[h1];exact q⟩
 |err c as=>
  rw[hv] at h;refine⟨_,WF hst hl r hown noown,?_⟩;cases hf:f (ds++b9 (N.length-ps.length) .uD) with
  |ok fl=>
   exfalso;unfold fnS at hv;rw[hf] at hv;cases fl<;>cases hv
  |err c' as'=>
   unfold fnS at hv;rw[hf] at hv;cases hv;obtain⟨fs,C,e1,e2,e3⟩:=h;exact⟨fs,C,e1,e2,λσ' H' dx kk x=>e3 H' dx (λa o e=>(kk a o e (noown a)).1) x⟩
  |bad=>
   exfalso;unfold fnS at hv;rw[hf] at hv;cases hv
 |bad=>rw[hv] at h;exact h.elim
end
open Builtin Builtin.ObjectAttr
noncomputable def aE5(tbl:aa (Str×au))(i:ag):FE:=λρ=>match ρ.getD i .uD with
 |.exc c _=>(match tbl.lookup c with|some b=>.ok (.bl b)|none=>.bad)
 |_=>.bad
def aQ2(v:aa D->Res D)(n:ag)(fa:FA)(cs:aa Str)(ic ie:ag):FS:=λρ=>do
 let ds <- fa ρ
 match bO n v ds with
 |.err c [.exc c' fs]=>if c'==c&&cs.contains c&&ϒ (ie<ρ.length) then .ok (.nx (((ρ.set ie (.exc c fs)).set ic (.exc c fs)).set ie .uD)) else .bad
 |_=>.bad
def aRt(X:Cx)(C:am)(fl:aa Str)(t:TA):TE:=λσ H Q=>t σ H λvs H1=>∃ts:aa Str,vs=ts.map V.str/\ts.length=fl.length/\∀a dx,X.s₀.heap.get? a=aj->H1 a=aj->H1 dx=aj->dx≠a->Q (.ref a) (upd (upd H1 dx (.ext (XD dx (fl.zip ts)))) a (.ext (XO1 a C dx)))
section
variable {X:Cx} {C f:am}
theorem aNj(M:XI X.K C f)(F:xU X.prog X.w X.K X.mg X.base CX0 k f fd ps (wM C fl))(hr:nH (k+1) X.A)(hb:Binds X.K fd ps [])(hz:fl.length<=aT)(hex:X.ex=[])(hg:Gl X x)(hm:X.mg x=ae (.ref C))(ha:PA X (e::es) t)
 (hdb:nDb x:=by decide)(he:zSE X e es:=by rfl)(hpl:zSP X pos es:=by rfl):PE X (.Call (.Name x p) (e::es) [] pos) (aRt X C fl t):=by
 intro Ψ s σ H Q I h;refine ik (lC I hg hm ?_ hdb);refine Bv I.ok.mod.kin M.kp (thn (ha pos Ψ s σ H _ I h) λus s1 ⟨vs,H1,I1,r,ts,ev,hl,q⟩=>⟨I1.kIn,?_⟩) he hpl;subst ev;exact aJg M F hr hb I1 r hl (show us.length<=aT from by rw[<-r.length,az,hl];exact hz) hex λa dx s2 g1 g2 g3 g4 I2=>⟨.ref a,_,I2,rfl,q a dx g1 g2 g3 g4⟩
def aJh(X:Cx)(te:TE):TS:=λ_ σ H=>te σ H λv H1=>∃a C dx,v=.ref a/\H1 a=ae (.ext (XO1 a C dx))/\exC X.K C=af/\∀Ψ s,Inv X Ψ σ H1 s->X.xe (.ref a) s
theorem aCs(hc:X.calm=af)(he:PE X e te):PS X (.Raise (ae e) aj pos) (aJh X te):=by
 intro Ψ s σ H D I h;have hh:=I.ok.hd hc;show ϑ _ _ (exec (.Raise (ae e) aj pos) X.env) _ _ _;rw[DH];refine ao (ju (show _ from ?_));simp only[evalOpt,DI];unfold raiseStmt;refine ao (ao (dA (he Ψ s σ H _ I h) (λu s1 ⟨v,H1,I1,rv,a,C,dx,ev,ea,qC,q⟩=>ao (ju (aI ?_))) λ_ _ x=>x));subst ev;obtain rfl:u=cK a:=rv;obtain⟨⟨t0,ht⟩,_⟩:=I1.hok a _ ea;have out:=q _ _ I1;obtain⟨hp,g,d,tk,os⟩:=s1;obtain⟨⟨bm,N,nm,qn,bs,sn,sub,ab,col,dd,k0,k1,k2,k3,k5,mN,hC,hN,T⟩⟩:=W2 I1.kIn qC;have hcB:(cK C::bm).contains (.type "BaseException")=af:=by rw[AQ,T.hasType lg.hasBase,wj]
 repeat (first|with_reducible refine iX ht ?_|with_reducible refine iX hC ?_|(with_reducible refine AO hC ?_;rw[hcB])|wp_step)
 exact wpAny_raiseNew_none hh out
end
variable [KFrag]
section
variable {P:bh} {w:bd} {K:bj} {mg:Str->aq ak} {base:ay} {N:aa Str} {qual:Str} {scope:dL} {fad C fi:am} {cd:ak} {A:bS} {outer:aa cv} {s:ar} {H:Hp} {E:XK} {own:ag->au} {pos p cpos:bX} {x:Str} {e:Expr} {es:aa Expr} {fa:FA} {r:au} {fl:aa Str} {k k':ag} {fd:cj} {ps:aa Str}
theorem aJi(hK:KFrag.K=K)(hn:nsIn K bi x=ae (ae (.ref C)))(M:XI K C fi)(F:xU P w K mg base CX0 k fi fd ps (wM C fl))(hr:nH k' (A.deeper (cS qual scope s.heap.objs.size fad cd)))(hkk:k+1<=k')(hb:Binds K fd ps [])(hz:fl.length<=aT)(hg:Gl (lE (CX2 P w) P w K mg base N qual scope fad cd A outer s H E) x)(hm:mg x=ae (.ref C))(ha:PA (lE (CX2 P w) P w K mg base N qual scope fad cd A outer s H E) (e::es) (gA fa r))
 (hdb:nDb x:=by decide)(he:cf (e::es) (cS qual scope s.heap.objs.size fad cd)=(ai,eval e (cS qual scope s.heap.objs.size fad cd))::cf es (cS qual scope s.heap.objs.size fad cd):=by rfl)(hpl:(eW cpos (cf es (cS qual scope s.heap.objs.size fad cd))).any (·.1)=ai:=by rfl) :
  PS (lE (CX2 P w) P w K mg base N qual scope fad cd A outer s H E) (.Raise (ae (.Call (.Name x p) (e::es) [] cpos)) aj pos) (tZ own E (nG x fl (noE fa))):=by
 subst hK;refine PS.imp (aCs rfl (aNj M F (hr.mono hkk) hb hz rfl hg hm ha hdb he hpl)) λD σ H1 ⟨ρ,er,q⟩=>?_
 rcases vH with ⟨ds,h1,h2⟩|h2
 ·have e0:nG x fl (noE fa) ρ=(match aCp ds with|some ts=>if ts.length=fl.length then .err x [.exc x (fl.zip ts)] else .bad|none=>.bad):=by unfold nG;rw[h2];rfl
  rw[e0] at q;split at q
  ·rename_i ts hts;split at q
   ·rename_i hl;obtain⟨fs,C',e1,e2,e3⟩:=q;cases e1;rw[hn] at e2;cases e2;refine⟨ρ,ds,er.er,h1,λvs H2 sm rs _=>⟨ts,W4 hts rs,hl,λa dx g1 g2 g3 g4=>⟨a,C,dx,rfl,aL,M.cl,λΨ s2 I2=>aCm I2 aL g1 ?_⟩⟩⟩;have eh:hid (upd (upd H2 dx (.ext (XD dx (fl.zip ts)))) a (.ext (XO1 a C dx))) a=upd H2 dx (.ext (XD dx (fl.zip ts))):=by
     funext b
     unfold hid;by_cases hb:b=a
     ·rw[av hb,hb,bF (Ne.symm g4)];exact g2.symm
     ·rw[ax hb,bF hb]
    rw[eh];exact e3 σ _ (ae dx) (.same (sm.trans (JD g3))) aL
   ·exact q.elim
  ·exact q.elim
 ·have e0:nG x fl (noE fa) ρ=.bad:=by unfold nG;rw[h2];rfl
  rw[e0] at q;exact q.elim
end
theorem XO.exc(x:XO a C dx h):ExcAt a C h:=let ⟨o,e,c,_⟩:=x;⟨o,e,c⟩
end Mi
namespace Mi
open PySem L2 PySem.W PySem.SeqAt PySem.Spec PyProof.Rows
def aQ3(K:Frag)(cM:ak)(t:TA)(sp:Sp)(ie:ag)(ts:TS):TS:=λD σ H=>t σ H λvs H1=>sp vs H1 (λ_ _=>cg) λCv dd H2=>∃C,Cv=.ref C/\lq K (.ref C) cM=ae af/\∀a,H2 a=aj->ts {nx:=λσ' H'=>D.nx (σ'.set ie aj) H',rt:=λ_ _=>cg} (σ.set ie (ae (.ref a))) (upd H2 a (.ext (XO a C dd)))
theorem aJj
  (hst:X.stack=X.env::X.outer) (hfr:X.env.frame=ae X.env.locals) (F:xU X.prog X.w X.K X.mg X.base (CX2 X.prog X.w) k fad fd ps sp) (hr:nH k X.A) (hg:Gl X f) (hm:X.mg f=ae (.ref fad)) (hk:keepIn X.K (.ref fad)=af) (hb:Binds X.K fd ps [])
  (ha:PA X.nox (e::es) t) (hgM:Gl X mx) (hmM:X.mg mx=ae cM) (hN:X.N.Nodup) (hin:X.N[ie]?=ae n) (hln:X.env.scope.names.lookup n=ae .local)
  (hs:∀v,PSs (mrk X v).nox (b0::suite) ts)
  (hdb:(f==("__debug__" : Str))=ai:=by decide) (hdM:(mx==("__debug__" : Str))=ai:=by decide) (he:zSE X e es:=by rfl) (hpl:zSP X cpos es:=by rfl)
  (hsw:eB (.Call (.Name f p) (e::es) [] cpos) aj xpos.line X.env=pure ai:=by rfl) :
  PS X (.Try [.Expr (.Call (.Name f p) (e::es) [] cpos) xpos] [.ExceptHandler (ae (.Name mx mp)) (ae n) (b0::suite) hpos] [] [] pos) (aQ3 X.K cM t sp ie ts):=by
 intro Ψ s σ H D I h;refine DJ (lT (yf ?_ I.quiet hsw));refine ik (lC I hg hm ?_ hdb);refine callWith_K I.ok.mod.kin hk (dA (ha cpos Ψ s σ H _ (I.wish _) h) (λus s1 ⟨vs,H1,I1,r,q⟩=>⟨I1.kIn,?_⟩) λ_ _ z=>dg z) he hpl;have I1:Inv X Ψ σ H1 s1:=I1.lF;have hl:(us++[]).length=ps.length:=by rw[eD,<-r.length];exact F.len _ _ _ _ q
 have hb':=hb s1 us I1.kIn hl;rw[eD] at hb';refine jx (jy (F.run X.A X.stack s1 H1 ⟨us,[]⟩ us vs _ _ hr I1.env0 hb' r q) λr s' hq=>?_);cases r with
 |ok fl=>
  cases fl with
  |ret u=>obtain⟨_,_,_,_,_,_,_,z⟩:=hq;exact z.elim
  |next=>exact dg hq
  |brk=>exact dg hq
  |cont=>exact dg hq
 |error e=>
  obtain⟨a,C',dd,H2,B,rfl,os',bare',fly,clo,hn,hgone,C,eC,hx,hE⟩:=hq;cases eC;rw[hst] at fly;refine TJ (by rw[I.ok.frames,hst]) hfr fly λh4 held4 sm4=>?_
  refine lX held4 λh5 fly5 sm5=>?_
  have up5:s'.heap.UpToSlots h5:=xj sm4 sm5;have I5:Inv X Ψ σ H2 {s' with heap:=h5}:=by
   obtain⟨un,hok⟩:=clo h5 fly5.1 up5;exact I1.call' os' un hok bare' (λb z=>bf z 0x2)
  refine DL (DM ?_) (by intro q;cases q);refine lC (JC I5 _) hgM hmM ?_ hdM;have LT:ix (aw X.prog X.w) h5 (iF (.ref a)) (.ref C'):=by
   obtain⟨ob,hob,hc,_⟩:=fly5.there;rw[<-hc];exact(oz hob).andThen .now
  refine(exm_one I5.kIn LT hx).here ?_;refine codeAny_handlers_suite_as ?_;refine lX fly5 λh6 fly6 sm6=>?_
  obtain⟨un6,hok6⟩:=clo h6 fly6.1 (xj up5 sm6);have I6:Inv X Ψ σ (upd H2 a (.ext (XO a C' dd))) {s' with heap:=h6}:=
   I1.call' os' (aC1 un6 hgone hn) (S7 hok6 hn (aPz fly6.there)) bare' (λb z=>bf z 0x2)
  refine LQ (v:=.ref a) I6 hN hin (.inl hln) rfl (λs7 I7 _=>?_) (.inr hln);refine dA (hs (.ref a) Ψ s7 _ _ _ ((JC I7 _).wish _) (hE a hn)) (λfl s8 q8=>?_) λ_ _ z=>dg z
  cases fl with
  |ret u=>obtain⟨_,_,_,_,_,z⟩:=q8;exact z.elim
  |brk=>obtain⟨_,_,_,z⟩:=q8;exact z.elim
  |cont=>obtain⟨_,_,_,z⟩:=q8;exact z.elim
  |next=>
   obtain⟨σ8,H8,I8,q⟩:=q8;have I8:Inv X Ψ σ8 H8 s8:=OJ I.ok I8.lF;obtain⟨m,hm8,hl8⟩:=id I8.loc;refine wpAny_nameGoes_keeps hln hm8 (by rw[I.ok.kind];rfl) λh9 v hn9 sb9=>?_
   exact⟨_,H8,aF6 I8 hN hin hm8 hl8 hn9 sb9,q⟩
section
variable [KFrag]
theorem W6(ho:own i=ai)(a:am):Own own (σ.set i aj) a↔Own own σ a:=by
 constructor
 ·rintro⟨j,hj,e⟩;have:i≠j:=λz=>by subst z;rw[ho] at hj;cases hj
  rw[dv this] at e;exact⟨j,hj,e⟩
 ·rintro⟨j,hj,e⟩;have:i≠j:=λz=>by subst z;rw[ho] at hj;cases hj
  exact⟨j,hj,by rw[dv this];exact e⟩
theorem ES.drop{own:ag->au}(ho:own i=ai)(es:ES own H σ ρ):ES own H (σ.set i aj) (ρ.set i .uD):=by
 refine⟨by simp[es.len],λj hj=>?_,λj v hj hv=>?_⟩
 ·rw[eE] at hj ⊢;by_cases h:i=j/\i<ρ.length
  ·rw[av h] at hj;exact bf rfl hj
  ·rw[ax h] at hj ⊢;obtain⟨v,h1,h2⟩:=es.at_ j hj;have ne:i≠j:=λz=>by
    subst z;have:i<σ.length:=(du.mp h1).1;exact h ⟨rfl,by rw[<-es.len];exact this⟩
   exact⟨v,by rw[dv ne];exact h1,λo=>(h2 o).mono λa n z=>n ((W6 ho a).mp z)⟩
 ·have ne:i≠j:=λz=>by subst z;rw[ho] at hj;cases hj
  rw[dv ne] at hv;obtain⟨a,o,h1,h2,h3,h4,h5,h6⟩:=es.own j v hj hv;have e:(ρ.set i .uD).getD j .uD=ρ.getD j .uD:=by rw[eE,ax (λz=>ne z.1)]
  refine⟨a,o,h1,by rw[e];exact h2,by rw[e];exact h3,h4,h5,λl hl hs=>h6 l hl ?_⟩;have:i≠l:=λz=>by subst z;rw[ho] at hl;cases hl
  rwa [dv this] at hs
section
theorem aNk(hK:KFrag.K=X.K)(hst:X.stack=X.env::X.outer)(hfr:X.env.frame=ae X.env.locals)(R:vI X.prog X.w X.K X.mg X.base k f n v)(hr:nH k' X.A)(hkk:k<=k')(hg:Gl X f)(ha:PA X.nox (e::es) (gA fa ra))(hgM:Gl X mx)(hmM:X.mg mx=ae cM)
 (hcs:∀c,cs.contains c=af->∃C,nsIn X.K bi c=ae (ae (.ref C))/\lq X.K (.ref C) cM=ae af)
 (hN:X.N.Nodup)(hin:X.N[ie]?=ae nm)(hln:X.env.scope.names.lookup nm=ae .local)(hic:X.N[ic]?=ae cn)(hlc:Loc X.env.scope cn)(hfc:X.fn cn=af\/X.env.scope.names.lookup cn=ae .local)(oc:own ic=ai)(oe:own ie=ai)(hne:ie≠ic)
 (hdb:(f==("__debug__" : Str))=ai:=by decide)(hdM:(mx==("__debug__" : Str))=ai:=by decide)(he:zSE X e es:=by rfl)(hpl:zSP X cpos es:=by rfl)
 (hsw:eB (.Call (.Name f p) (e::es) [] cpos) aj xpos.line X.env=pure ai:=by rfl)(hs2:eB (.Name nm ep) (ae (.Name cn tp)) ap.line X.env=pure ai:=by rfl)(hd1:(nm==("__debug__" : Str))=ai:=by decide)(hd2:(nm==("__classdict__" : Str))=ai:=by decide) :
  PS X (.Try [.Expr (.Call (.Name f p) (e::es) [] cpos) xpos] [.ExceptHandler (ae (.Name mx mp)) (ae nm) [.Assign [.Name cn tp] (.Name nm ep) ap] hpos] [] [] pos) (tS own (aQ2 v n fa cs ic ie)):=by
 obtain⟨fm,fdm,ps,F,hm,hk,hb⟩:=R;refine PS.imp (aJj hst hfr F (hr.mono hkk) hg hm hk hb ha hgM hmM hN hin hln (λv=>yE (LR hN hic hlc (fH hin (.inl hln) hd1 hd2) hs2 hfc)) hdb hdM he hpl hsw) λD σ H ⟨ρ,fl,es,h,q⟩=>?_
 obtain⟨ds,h1,h⟩:=bL h;refine⟨ρ,ds,es.er,h1,λvs H1 sm rs _=>?_⟩;split at h
 ·rename_i c c' fs hv;split at h
  ·rename_i hc;rw[bc,bc] at hc;have ec:=gy.mp hc.1.1;subst ec;cases h;unfold bO at hv;split at hv
   ·rename_i hl;obtain⟨C,hn,hx⟩:=hcs _ hc.1.2;refine⟨ds,fg hl,rs,?_⟩;rw[hv];refine⟨fs,C,rfl,by rw[hK];exact hn,λH2 dd s2 xd=>⟨C,rfl,hx,λa ha=>?_⟩⟩;have hl2:ie<σ.length:=by
     rw[es.len];exact fg hc.2
    have rp:∀P,Rep P (upd H2 a (.ext (XO a C dd))) (.ref a) (.exc c' fs):=λP=>.exc (by rw[hK];exact hn) aL (by
     cases dd with
     |none=>exact xd
     |some d=>
      have xd:H2 d=ae (.ext (XD d fs)):=xd;show upd _ _ _ d=_;rw[bF (λz=>by rw[z,ha] at xd;cases xd)];exact xd)
    have sm3:cZ H (upd H2 a (.ext (XO a C dd))):=sm.trans (s2.trans (JD ha));have es3:=(((es.same sm3).set oe (rp _)).set oc (rp _)).drop oe;refine⟨.ref a,by rw[gi hl2],?_⟩;exact q _ _ (λb o eb nb=>⟨sm3 b o eb,λz=>nb ((jT oe b).mp ((jT oc b).mp ((W6 oe b).mp z)))⟩) es3
   ·cases hv
  ·exact bx h
 ·exact bx h
end
section
theorem aJk(er:ER H σ ρ)(h:ρ.getD i .uD=.exc c fs):∃a C dx,σ[i]?=ae (ae (.ref a))/\nsIn KFrag.K bi c=ae (ae (.ref C))/\H a=ae (.ext (XO a C dx)):=by
 obtain⟨v,h1,r1⟩:=er i (by rw[h];intro z;cases z);rw[h] at r1;obtain⟨a,C,dx,rfl,n,e,q⟩:=r1.inv;exact⟨a,C,dx,h1,n,e⟩
theorem nY(hK:KFrag.K=X.K)(ht:∀c b,tbl.lookup c=ae b->∃C,nsIn X.K bi c=ae (ae (.ref C))/\XC X.K C/\ft X.K (.ref C) u=ae b)(hu:∀u',RelV v u'->u'=u)(hg:Gl X "isinstance")(hm:X.mg "isinstance"=aj)(hN:X.N[i]?=ae y)(hv:Vis X.env.scope y)(ha:PE X ce (tC v))
 (hst:cf [ce] X.env=(ai,eval ce X.env)::cf [] X.env)(hpl:(eW pos (cf [ce] X.env)).any (·.1)=ai)
 (hd:(y==("__debug__" : Str))=ai:=by decide)(hcd:(y==("__classdict__" : Str))=ai:=by decide) :
  PE X (.Call (.Name "isinstance" p) [.Name y np,ce] [] pos) (gE (aE5 tbl i) af):=by
 have hc:l_ X (.builtin "isinstance") (λvs H Q=>∃a C dx b,vs=[.ref a,v]/\H a=ae (.ext (XO a C dx))/\XC X.K C/\ft X.K (.ref C) u=ae b/\Q (.bl b) H):=by
  intro Ψ s σ H vs us Q I r ⟨a,C,dx,b,e,ea,c,hk,q⟩;subst e;cases r with
  |cons r1 r=>
   cases r with
   |cons r2 r=>
    cases r;cases r1;have e2:=hu _ r2;subst e2;obtain⟨px,_⟩:=I.hok a _ ea;exact kia_one (aF5 c) I.kIn px.exc hk 0x7 λtk=>⟨.bl b,H,I.tok tk,rfl,q⟩
 refine PE.imp (GR hc hg hm 0x6 (eQ (fH hN hv hd hcd) (eQ ha j8 hst)) (hpl:=hpl)) λσ H Q ⟨ρ,d,er,h,q⟩=>?_
 unfold aE5 at h;split at h
 ·rename_i c fs hρ;split at h
  ·rename_i b hb;cases h;obtain⟨a,C,dx,h1,n,e⟩:=aJk er hρ;obtain⟨C',n',xc,hk⟩:=ht c b hb;rw[hK,n'] at n;cases n;exact⟨.ref a,h1,a,C,dx,b,rfl,e,xc,hk,q _ _ (λ_ _ z=>z) (.bl b) λ_=>.bl b⟩
  ·exact bx h
 ·exact bx h
end
end
noncomputable def aNl(s:bq)(j:ag):bq:=match s with
 |.ClassDef _ _ _ b _ _ _ _ _ _ _=>b.getD j (.Pass ⟨0,0,0,0⟩)
 |_=>.Pass ⟨0,0,0,0⟩
def aNm(P:bh)(w:bd)(K:Frag)(mg:Str->aq ak)(base:ay)(k:ag)(c:Str)(fl:aa Str):Prop:=
 ∃(C fi:am)(fd:cj)(ps:aa Str),nsIn K bi c=ae (ae (.ref C))/\mg c=ae (.ref C)/\XI K C fi/\xU P w K mg base CX0 k fi fd ps (wM C fl)/\Binds K fd ps []/\fl.length<=aT
def aE6(p:Str->au->Prop):aa (Str×au)->Prop
 |[]=>gN
 | (c,b)::r=>p c b/\aE6 p r
theorem mQ:∀{t:aa (Str×au)},aE6 p t->∀c b,t.lookup c=ae b->p c b
 |[],_,_,_,h=>by cases h
 | (d,e)::r,⟨h1,h2⟩,c,b,h=>by
  rw[iw] at h;split at h
  ·rename_i z;rw[gy.mp z];cases h;exact h1
  ·exact mQ h2 c b h
def aQ4(p:Str->Prop):aa Str->Prop
 |[]=>gN
 |c::r=>p c/\aQ4 p r
theorem aCt:∀{t:aa Str},aQ4 p t->∀c,t.contains c=af->p c
 |[],_,_,h=>by cases h
 |d::r,⟨h1,h2⟩,c,h=>by
  rw[AQ] at h;rcases(iv _ _).mp h with z|z
  ·rw[gy.mp z];exact h1
  ·exact aCt h2 c z
theorem W7{K:Frag}{x qual:Str}{st:bq}{fad C M:am}{fd:cj}{N ps:aa Str}{f:Str}{k:ag}(F:Fun K x qual st fad fd)(S:bY N ps (aO st))(hN:N.length=2)(hp:ps.length=2)
 (hbody:∀(cdv:ak) (A:bS) (outer:aa cv) (s:ar) (H:Hp) (E:XK),nH k (A.deeper (cS qual (aO st) s.heap.objs.size fad cdv))->
   PSs (lE CX0 P w K mg base N qual (aO st) fad cdv A outer s H E).nox (fB st) (aOs (aL7 (tBase C (aHl (aKj 0) (aHl (aKj 1) aQl)))) (aNe C f (aKj 0) (aKj 1)))):xU P w K mg base CX0 (k+1) fad fd ps (wM C [f]):=by
 refine F.ok S (λvs H Q E ⟨e,ts,h1,h2,_⟩=>by rw[h1,hp];simp at h2;simp[h2]) λcdv A outer s H vs Q E hr ⟨e,ts,h1,h2,h3,h4⟩=>⟨_,hbody cdv A outer s H E hr,?_⟩
 obtain⟨t,rfl⟩:∃t,ts=[t]:=by
  match ts,h2 with
  |[t],_=>exact⟨t,rfl⟩
 subst h1;have e0:L2.start N [V.ref e,V.str t]=[ae (V.ref e),ae (V.str t)]:=by
  unfold L2.start;rw[hN];rfl
 show aOs _ _ _ (L2.start N [V.ref e,V.str t]) H;rw[e0];refine⟨.ref e,rfl,.str t,rfl,e,[.str t],rfl,show 1<=aT from by decide,h3,?_⟩;exact⟨.str t,rfl,.ref e,rfl,e,t,rfl,rfl,h3,λdx hd=>h4 dx hd⟩
section
variable [KFrag]
section
variable {P:bh} {w:bd} {K:bj} {mg:Str->aq ak} {base:ay} {N:aa Str} {qual:Str} {scope:dL} {fad:am} {cd:ak} {A:bS} {outer:aa cv} {s:ar} {H:Hp} {E:XK} {own:ag->au} {pos p cpos:bX} {x:Str} {e:Expr} {es:aa Expr} {fa:FA} {r:au} {fl:aa Str} {k k':ag}
theorem xZ(R:aNm P w K mg base k x fl)(hK:KFrag.K=K)(hr:nH k' (A.deeper (cS qual scope s.heap.objs.size fad cd)))(hkk:k+1<=k')(hg:Gl (lE (CX2 P w) P w K mg base N qual scope fad cd A outer s H E) x)(ha:PA (lE (CX2 P w) P w K mg base N qual scope fad cd A outer s H E) (e::es) (gA fa r))
 (hdb:nDb x:=by decide)(he:cf (e::es) (cS qual scope s.heap.objs.size fad cd)=(ai,eval e (cS qual scope s.heap.objs.size fad cd))::cf es (cS qual scope s.heap.objs.size fad cd):=by rfl)(hpl:(eW cpos (cf es (cS qual scope s.heap.objs.size fad cd))).any (·.1)=ai:=by rfl) :
  PS (lE (CX2 P w) P w K mg base N qual scope fad cd A outer s H E) (.Raise (ae (.Call (.Name x p) (e::es) [] cpos)) aj pos) (tZ own E (nG x fl (noE fa))):=by
 obtain⟨C,fi,fd,ps,hn,hm,M,F,hb,hz⟩:=R;exact aJi hK hn M F hr hkk hb hz hg hm ha hdb he hpl
end
end
noncomputable def zG(c:Str):FS:=λ_=>.err c [.exc c []]
section
variable {P:bh} {w:bd} {K:bj} {mg:Str->aq ak} {base:ay} {N:aa Str} {qual:Str} {scope:dL} {f C:am} {cd:ak} {A:bS} {outer:aa cv} {s:ar} {H:Hp} {E:XK}
theorem PB(I:Inv (lE (CX2 P w) P w K mg base N qual scope f cd A outer s H E) Ψ σ H1 s1)(keeps:∀b o,s1.heap.get? b=ae o->h2.get? b=ae o)(new:s1.heap.get? e=aj)(ht:h2.get? e=ae {cls:=.ref C,data:=.fields vs})(hv:vs[1]?=ae .none)(hE:E (.ref C) aj H1) :
  (lE (CX2 P w) P w K mg base N qual scope f cd A outer s H E).xe (.ref e) {s1 with heap:=h2}:=by
 let env:=cS qual scope s.heap.objs.size f cd
 have hfr:L2.frs (env::outer)=s.heap.objs.size::L2.frs outer:=by
  unfold L2.frs;rw[jt];rfl
 have hin:∀v∈(env::outer),∀b,v.frame=ae b->b∈L2.frs (env::outer):=λv hv b hb=>s_.mpr ⟨v,hv,hb⟩
 have stk:s1.heap.FunFrames base (env::outer):=I.stack;have sfree:∀b∈L2.frs (env::outer),H1 b=aj:=I.GP;have u0:Un (L2.frs outer) [] H H1 s.heap s1.heap:=I.base;have hn0:(xL s1.heap (L2.frs (env::outer))).get? e=aj:=by
  cases q:(xL s1.heap (L2.frs (env::outer))).get? e with
  |none=>rfl
  |some o=>
   have e1:=sB _ q;rw[new] at e1;cases e1
 show ϑ (aw P w) (A.deeper env) (leaving env (.ref e)) (λ_ s''=>CX2 P w outer H s E (.ref e) s'') (λe' s''=>CX2 P w outer H s E e' s'') {s1 with heap:=h2};refine W0 I.ok.frames rfl ((DE stk hin).of_keeps λb o k _=>⟨o,keeps b o k,rfl⟩) ht (λb o q=>keeps b o (sB _ q)) hn0 rfl hv (λz=>bf rfl z) λh' x1 x4=>?_
 have hgone:s.heap.get? e=aj:=by
  cases q:s.heap.get? e with
  |none=>rfl
  |some o=>
   obtain⟨o',e1⟩:=u0.there e o q 0x2;rw[new] at e1;cases e1
 have huntr:H1 e=aj:=by
  cases q:H1 e with
  |none=>rfl
  |some u=>
   obtain⟨o,e1⟩:=S6 (I.hok e u q);rw[new] at e1;cases e1
 refine⟨e,C,aj,H1,_,rfl,I.os,I.bare,x1,λh6 st up=>?_,huntr,hgone,hE⟩;have k:∀b o,s1.heap.get? b=ae o->b∉L2.frs (env::outer)->h6.get? b=ae o:=λb o eb hb=>st b o (xS _ eb hb)
 have up6:s1.heap.UpToSlots h6:=((EZ keeps).trans x4).trans up;have nL:∀b o,s.heap.get? b=ae o->b∉L2.frs outer->b∉L2.frs (env::outer):=λb o eb hb z=>by
  rw[hfr] at z;rcases bP.mp z with z|z
  ·exact bf (bn eb) (by rw[z];exact fR _)
  ·exact hb z
 have slot:∀b o,s1.heap.get? b=ae o->b∈L2.frs outer->∃sl,h6.get? b=ae {o with slots:=sl}:=λb o eb hb=>by
  obtain⟨_,o',ho',hd⟩:=stk.mem (show b∈L2.frs (env::outer) by rw[hfr];exact bw _ hb);rw[eb] at ho';cases ho';exact up6 b o eb hd
 refine⟨⟨λb o eb hn hb hx'=>k b o (u0.keep b o eb hn hb hx') (nL b o eb hb),λb o eb hn hb hx'=>?_,λb o eb hn hx'=>u0.free b o eb hn hx',λb o eb hx'=>?_,u0.tups,u0.frzs,u0.tbls⟩,λb u eb=>?_⟩
 ·obtain⟨sl,e1⟩:=u0.slot b o eb hn hb hx';obtain⟨sl',e2⟩:=slot b _ e1 hb;exact⟨sl',e2⟩
 ·obtain⟨o',e1⟩:=u0.there b o eb hx';by_cases hb:b∈L2.frs outer
  ·obtain⟨sl,e2⟩:=slot b o' e1 hb;exact⟨_,e2⟩
  ·exact⟨o',k b o' e1 (nL b o eb hb)⟩
 ·refine(I.hok b u eb).stay (λc v hc q=>k c v q λz=>?_) (λ_ q=>q) λ_ _ q=>q
  have:=sfree c z;rcases hc with hc|hc
  ·rw[hc,eb] at this;cases this
  ·rw[hc] at this;cases this
theorem aCu(I:Inv (lE (CX2 P w) P w K mg base N qual scope f cd A outer s H E) Ψ σ H1 s1)(hx:CY s1.heap h2 e (.ref C) args)(hE:E (.ref C) aj H1) :
  (lE (CX2 P w) P w K mg base N qual scope f cd A outer s H E).xe (.ref e) {s1 with heap:=h2}:=
 let ⟨_,ht,_,_⟩:=hx.there
 PB I hx.keeps hx.new ht rfl hE
end
variable [KFrag]
section
variable {P:bh} {w:bd} {K:bj} {mg:Str->aq ak} {base:ay} {N:aa Str} {qual:Str} {scope:dL} {fad C:am} {cd:ak} {A:bS} {outer:aa cv} {s:ar} {H:Hp} {E:XK} {own:ag->au} {pos:bX}
theorem JR(hK:KFrag.K=K)(hn:nsIn K bi x=ae (ae (.ref C)))(hg:Gl (lE (CX2 P w) P w K mg base N qual scope fad cd A outer s H E) x)(mC:mg x=ae (.ref C))(xC:oI K C aKq "ValueError.__new__"=af)(hd:nDb x:=by decide) :
  PS (lE (CX2 P w) P w K mg base N qual scope fad cd A outer s H E) (.Raise (ae (.Call (.Name x np) [.Constant (.str tx) xk xp] [] cpos)) aj pos) (tZ own E (zG x)):=by
 subst hK;refine PS.imp (aF3 rfl hg mC xC (eQ aA9 j8) rfl hd) λD σ H1 ⟨ρ,e,q⟩=>⟨by show 1<=aT;decide,λΨ s h2 a us I hx=>aCu I hx ?_⟩
 obtain⟨fs,C',e1,e2,e3⟩:=q;rw[hn] at e2;cases e2;cases e1;exact e3 σ H1 aj (.same λ_ _ z=>z) rfl
end
end Mi
namespace Mi
open PySem
section
variable {prog:bh} {w:bd} {A:bS} {E:ak->ar->Prop} {s:ar}
theorem ZW:kn ko "proto.unchain"=ae cz.«proto.unchain»:=entryFor_of_fast 0x8
theorem ZX:se "proto.unchain"=af:=0x6
theorem TV{α:Type}{e a:am}{oa oe:bg}{va ve:aE ak}{Q:α->ar->Prop}(hh:A.handled=ae (.ref a))(ne:a≠e)(ha:s.heap.get? a=ae oa)(da:oa.data=.fields va)(h2:va[2]?=ae .none)(he:s.heap.get? e=ae oe)(de:oe.data=.fields ve)(hz:2<ve.size)
 (h:E (.ref e) {s with heap:=s.heap.update e (gn (·.setIfInBounds 2 (.ref a)))}):ϑ (aw prog w) A (rc (.ref e):Sem α) Q E s:=by
 unfold rc;refine ao (AG ?_);rw[hh];dsimp only;rw[av (by simp[ne])];refine ao (eJ (DO (km ZW ?_)));rw[lm ZX];refine ao (dh ha da h2 ?_);rw[av (show(d5==d5)=af by simp)];refine aI ?_;exact ao (m:=sv (.ref e) 2 (.ref a)) (jq he de hz (AH h))
end
section
variable {prog:bh} {w:bd} {A:bS} {E:ak->ar->Prop} {s:ar} {env:cv}
variable {nm q:Str} {C N:am} {bs bm bmB:aa ak} {hdct:au} {sn:aa Str} {sub:aa ak} {ab:au} {col:aq au} {dd:aq am} {k0 k1 k2 k3 k5:aq ak} {B newId initId:fN}
theorem xP(F:ExcBaseFacts B newId initId bmB){mN:Str->aq ak}{x:Str}{np cpos pos cp:bX}{args:aa Expr}{Q:Flow->ar->Prop}{a:am}
 (hbase:bm.contains (.type "BaseException")=af)(hh:A.handled=ae (.ref a))(hplain:(eW cpos (cf args env)).any (·.1)=ai)(hni:mN "__init__"=aj)
 (h:ϑ (aw prog w) A (eval (.Name x np) env) (λf s₁=>f=.ref C/\ϑ (aw prog w) A (evalArgs (.ref C) af (eW cpos (cf args env)) [])
   (λb s₂=>b.kw=[]/\b.pos.length<=aT/\s₂.heap.get? C=ae (wm nm q C N bs bm hdct sn sub ab col dd k0 k1 k2 k3 k5 newId)/\s₂.heap.Ns N mN/\wn s₂.heap bmB bm/\(∃oa va,s₂.heap.get? a=ae oa/\oa.data=.fields va/\va[2]?=ae .none)/\
    ∀h' e vs,(∀b o,s₂.heap.get? b=ae o->h'.get? b=ae o)->s₂.heap.get? e=aj->h'.get? e=ae {cls:=.ref C,data:=.fields vs}->vs[1]?=ae .none->E (.ref e) {s₂ with heap:=h'}) E s₁) E s) :
  ϑ (aw prog w) A (exec (.Raise (ae (.Call (.Name x np) args [] cpos)) (ae (.Constant .none ck cp)) pos) env) Q E s:=by
 have hcB:(cK C::bm).contains (.type "BaseException")=af:=by rw[AQ,hbase,wj]
 rw[DH];simp only[evalOpt,DI];refine ao (ju ?_);unfold raiseStmt;refine ao (ao (dA (wpAny_Call_ofName (dA h (λf s₁ h₁=>?_) λ_ _ x=>x)) (λv s₃ (h₃:∃(s₂:ar)(h':ay)(e t:am),s₃={s₂ with heap:=h'}/\v=.ref e/\s₂.heap.get? C=ae (wm nm q C N bs bm hdct sn sub ab col dd k0 k1 k2 k3 k5 newId)/\(∀b o,s₂.heap.get? b=ae o->h'.get? b=ae o)/\s₂.heap.get? e=aj/\h'.get? e=ae {cls:=.ref C,data:=.fields #[.ref t,.none,.none,.none,.bool ai,.none]}/\(∃oa va,s₂.heap.get? a=ae oa/\oa.data=.fields va/\va[2]?=ae .none)/\∀(h':ay) e vs,(∀b o,s₂.heap.get? b=ae o->h'.get? b=ae o)->s₂.heap.get? e=aj->h'.get? e=ae {cls:=.ref C,data:=.fields vs}->vs[1]?=ae .none->E (.ref e) {s₂ with heap:=h'})=>ao (ju (aI ?_))) λ_ _ x=>x))
 ·obtain⟨rfl,h₁⟩:=h₁;unfold callWith;refine ao (eJ (dA h₁ (λa s₂ h₂=>ao (ju ?_)) λ_ _ x=>x));obtain⟨apos,akw⟩:=a;obtain⟨hkw,hlen,hC,hn,T,hA,h₂⟩:=h₂;obtain rfl:akw=[]:=hkw;obtain⟨hp,g,d,tk,os⟩:=s₂;simp only[hplain];refine ao (wpAny_keeperOf_exc hC ?_);refine ao (wpAny_call_exc_subT (hrest:=hlen) F T hC hn hni λh' e hm=>ao (eJ (wpAny_point (aI ?_))));obtain⟨t,ht,_,_⟩:=hm.there;exact⟨_,h',e,t,rfl,rfl,hC,hm.keeps,hm.new,ht,hA,h₂⟩
 ·obtain⟨s₂,h',e,t,rfl,rfl,hC0,kp,new,he,⟨oa,va,ea,da,a2⟩,fin⟩:=h₃;have ne:a≠e:=λz=>by rw[z,new] at ea;cases ea
  obtain⟨hp,g,d,tk,os⟩:=s₂;dsimp only at *;have hC:=kp _ _ hC0;have ea':=kp _ _ ea;have nC:C≠e:=λz=>by rw[z,new] at hC0;cases hC0
  refine ao (eJ (ao (gz (a:=d5) rfl (ao (ju (aI (ao (aI ?_))))))))
  repeat (first|with_reducible refine iX he ?_|with_reducible refine iX hC ?_|(with_reducible refine AO hC ?_;rw[hcB])|wp_step)
  have up:∀b,b≠e->((h'.update e (gn λx=>x.setIfInBounds 3 d5)).update e (gn λx=>x.setIfInBounds 4 (lv af))).get? b=h'.get? b:=λb hb=>by rw[jc _ _ (Ne.symm hb),jc _ _ (Ne.symm hb)]
  have he2:((h'.update e (gn λx=>x.setIfInBounds 3 d5)).update e (gn λx=>x.setIfInBounds 4 (lv af))).get? e=ae {cls:=.ref C,data:=.fields #[.ref t,.none,.none,.none,.bool af,.none]}:=gL _ (gL _ he rfl) rfl;generalize (h'.update e (gn λx=>x.setIfInBounds 3 d5)).update e (gn λx=>x.setIfInBounds 4 (lv af))=h2 at *;have hC2:=(up C nC).trans hC
  repeat (first|with_reducible refine iX he2 ?_|with_reducible refine iX hC2 ?_|wp_step)
  refine TV hh ne ((up a ne).trans ea') da a2 he2 rfl (show 2<6 by decide) (fin _ e _ (λb o eb=>?_) new (gL _ he2 rfl) rfl);have hb:b≠e:=λz=>by rw[z,new] at eb;cases eb
  rw[jc _ _ (Ne.symm hb),up b hb];exact kp b o eb
end
open L2 PySem.W PySem.SeqAt PySem.Spec PyProof.Rows
noncomputable def aFn(f:FS)(c x:Str):FS:=λρ=>match f ρ with
 |.ok (.nx ρ')=>.ok (.nx ρ')
 |.err c' [.exc c'' (_::_)]=>if c''==c'&&c'==c then .err x [.exc x []] else .bad
 |_=>.bad
variable [KFrag]
section
variable {P:bh} {w:bd} {K:bj} {mg:Str->aq ak} {base:ay} {N:aa Str} {qual:Str} {scope:dL} {fad:am} {cd:ak} {A:bS} {outer:aa cv} {s:ar} {H:Hp} {E:XK} {own:ag->au} {pos:bX}
theorem aQ5(hc:PT (lE (CX2 P w) P w K mg base N qual scope fad cd A outer s H E) c (gT gc))(hb:PSs (lE (CX2 P w) P w K mg base N qual scope fad cd A outer s H E) body (tZ own E fb)):PS (lE (CX2 P w) P w K mg base N qual scope fad cd A outer s H E) (.While c body [] pos) (tZ own E (aMv (noE gc) fb)):=
 PS.imp (U8 DF hc hb) λD σ H1 ⟨ρ,es,k⟩=>by
 refine⟨λm σ' H'=>∃ρ',ES own H' σ' ρ'/\kZ own E D σ' H' (xY (noE gc) fb m ρ'),⟨1000,ρ,es,k⟩,?_⟩;rintro m σ H ⟨ρ,es,k⟩;cases m with
 |zero=>exact k.elim
 |succ m=>
  rcases vH (f:=gc) with ⟨b,h1,h2⟩|h2
  ·have e:xY (noE gc) fb (m+1) ρ=if b then (fb ρ >>= λr=>match r with|.nx ρ'=>xY (noE gc) fb m ρ'|.ct ρ'=>xY (noE gc) fb m ρ'|.bk ρ'=>.ok (.nx ρ')|.rt d=>.ok (.rt d)) else .ok (.nx ρ):=by rw[xY,h2];rfl
   rw[e] at k;refine⟨ρ,b,es.er,h1,λH1 sm=>?_⟩;have k:=k.step (.same sm);have es:=es.same sm;cases b with
   |true=>
    show(if af=af then _ else _);rw[av rfl];rw[av rfl] at k;refine⟨λσ' H'=>∃ρ',ES own H' σ' ρ'/\kZ own E D σ' H' (xY (noE gc) fb m ρ'),λσ' H' w=>⟨m,oq m,w⟩,ρ,es,?_⟩;cases hb:fb ρ with
    |ok r=>
     rw[hb] at k;cases r with
     |nx ρ'=>exact λσ' H' ku E'=>⟨ρ',E',k.step ku⟩
     |ct ρ'=>exact λσ' H' ku E'=>⟨ρ',E',k.step ku⟩
     |bk ρ'=>exact λσ' H' ku E'=>k σ' H' ku E'
     |rt d=>exact k
    |err c as=>rw[hb] at k;exact k
    |bad=>rw[hb] at k;exact k
   |false=>
    show(if ai=af then _ else _);rw[ax 0x2];rw[ax 0x2] at k;exact k σ H1 (λa o e n=>⟨e,n⟩) es
  ·have e:xY (noE gc) fb (m+1) ρ=.bad:=by rw[xY,h2];rfl
   rw[e] at k;exact k.elim
end
def PBz(X:Cx)(body:aa bq)(t:L2.St->Hp->(L2.St->Hp->Prop)->(L2.St->XK)->Prop):Prop:=
 ∀(Ψ:aa (am×bg))(s:ar)(σ:L2.St)(H:Hp)(Dn:L2.St->Hp->Prop)(De:L2.St->XK),Inv X Ψ σ H s->t σ H Dn De->
  ϑ (aw X.prog X.w) X.A (execs body X.env) (λf s'=>f=.next/\∃σ' H',Inv X Ψ σ' H' s'/\Dn σ' H') (λe s'=>∃σ1 H1 s1,Inv X Ψ σ1 H1 s1/\CX2 X.prog X.w X.stack H1 s1 (De σ1) e s') s
def kBz(own:ag->au)(σ:L2.St)(H:Hp)(Dn:L2.St->Hp->Prop)(De:L2.St->XK):Res Fl->Prop
 |.ok (.nx ρ')=>∀σ' H',KU own σ H σ' H'->ES own H' σ' ρ'->Dn σ' H'
 |.err c as=>∃fs C,as=[.exc c fs]/\nsIn KFrag.K bi c=ae (ae (.ref C))/\∀σ' H' dx,KU own σ H σ' H'->XDs H' fs dx->De σ' (.ref C) dx H'
 |_=>cg
def tBz(own:ag->au)(f:FS):L2.St->Hp->(L2.St->Hp->Prop)->(L2.St->XK)->Prop:=λσ H Dn De=>∃ρ,ES own H σ ρ/\kBz own σ H Dn De (f ρ)
theorem kBz.step(k:KU own σ H σ' H')(h:kBz own σ H Dn De r):kBz own σ' H' Dn De r:=by
 cases r with
 |ok fl=>cases fl<;>first|exact h.elim|exact λs2 h2 k2 e=>h s2 h2 (k.trans k2) e
 |err c as=>obtain⟨fs,C,h1,h2,h3⟩:=h;exact⟨fs,C,h1,h2,λs2 H2 dx k2 x=>h3 s2 H2 dx (k.trans k2) x⟩
 |bad=>exact h
theorem aFo{st:bq}{rest:aa bq}(h1:PS X.nox st (tS own f))(h2:PBz X rest (tBz own g)):PBz X (st::rest) (tBz own (bN (noE f) g)):=by
 intro Ψ s σ H Dn De I ⟨ρ,es,q⟩;rcases vH (f:=f) (ρ:=ρ) with ⟨fl,g1,g2⟩|g2
 ·cases fl with
  |nx ρ'=>
   have e:bN (noE f) g ρ=g ρ':=by unfold bN;rw[g2];rfl
   rw[e] at q;refine lT (dA (h1 Ψ s σ H {nx:=λσ' H'=>tBz own g σ' H' Dn De,rt:=λ_ _=>cg} (I.wish _) ⟨ρ,_,es,g1,λσ' H' ku E'=>⟨ρ',E',q.step ku⟩⟩) (λfl s' q=>?_) λ_ _ z=>dg z);cases fl with
   |next=>
    obtain⟨σ',H',I',z⟩:=q;exact h2 Ψ s' σ' H' Dn De I'.lF z
   |ret u=>obtain⟨_,_,_,_,_,z⟩:=q;exact z.elim
   |brk=>obtain⟨_,_,_,z⟩:=q;exact z.elim
   |cont=>obtain⟨_,_,_,z⟩:=q;exact z.elim
  |_=>
   have e:∃fl,bN (noE f) g ρ=.ok fl/\kBz own σ H Dn De (.ok fl)=cg:=⟨_,by unfold bN;rw[g2];rfl,rfl⟩
   obtain⟨fl,e,z⟩:=e;rw[e,z] at q;exact q.elim
 ·have e:bN (noE f) g ρ=.bad:=by unfold bN;rw[g2];rfl
  rw[e] at q;exact q.elim
section
variable {X:Cx} {e:Expr}
theorem aFp(R:vI X.prog X.w X.K X.mg X.base k f n v)(hr:nH k' X.A)(hkk:k<=k')(hg:Gl X f)(ha:PA X.nox (e::es) (gA fa ra))
 (hdb:(f==("__debug__" : Str))=ai:=by decide)(he:zSE X e es:=by rfl)(hpl:zSP X cpos es:=by rfl)(hs:eB (.Call (.Name f p) (e::es) [] cpos) aj xpos.line X.env=pure ai:=by rfl) :
  PBz X [.Expr (.Call (.Name f p) (e::es) [] cpos) xpos] (tBz own (M8 (aM (bO n v) (noE fa)))):=by
 intro Ψ s σ H Dn De I ⟨ρ,es',q⟩;obtain⟨fm,fd,ps,F,hm,hk,hb⟩:=R;rcases vH (f:=fa) (ρ:=ρ) with ⟨as,h1,h2⟩|h2
 rotate_left
 ·have e1:M8 (aM (bO n v) (noE fa)) ρ=.bad:=by unfold M8 aM;rw[h2];rfl
  rw[e1] at q;exact q.elim
 have e1:M8 (aM (bO n v) (noE fa)) ρ=(bO n v as >>= λ_=>.ok (.nx ρ)):=by unfold M8 aM;rw[h2];rfl
 rw[e1] at q;by_cases hl:as.length=n
 rotate_left
 ·have e2:bO n v as=.bad:=by unfold bO;rw[ax (by simpa using hl)]
  rw[e2] at q;exact q.elim
 have e2:bO n v as=v as:=by unfold bO;rw[av (cb hl)]
 rw[e2] at q;refine lT (yf (ik (lC I hg hm ?_ hdb)) I.quiet hs);refine callWith_K I.ok.mod.kin hk (dA (ha cpos Ψ s σ H (λvs H1=>cZ H H1/\bZ All H1 vs as) (I.wish _) ⟨ρ,as,es'.er,h1,λvs H' sm rs _=>⟨sm,rs⟩⟩) (λus s1 ⟨vs,H1,I1,r,sm,rs⟩=>⟨I1.kIn,?_⟩) λ_ _ z=>dg z) he hpl;have I1:Inv X Ψ σ H1 s1:=I1.lF;have q:=q.step (.same sm);have hsp:spZ v n (vs++[]) H1 (λy H2=>cZ H1 H2/\∃d,v as=.ok d) (De σ):=by
  refine⟨as,hl,by rw[eD];exact rs,?_⟩;cases hv2:v as with
  |ok d=>exact λy H2 s2 r2 n2=>⟨s2,d,rfl⟩
  |err c as'=>
   rw[hv2] at q;obtain⟨fs,C,g1,g2,g3⟩:=q;exact⟨fs,C,g1,g2,λH2 dx s2 xd=>g3 σ H2 dx (.same s2) xd⟩
  |bad=>rw[hv2] at q;exact q.elim
 have r2:Vals (vs++[]) (us++[]):=r.append .nil;have hlen:(us++[]).length=ps.length:=by rw[<-r2.length];exact F.len _ _ _ _ hsp
 refine jx (jy (F.run X.A X.stack s1 H1 ⟨us,[]⟩ (us++[]) (vs++[]) _ (De σ) (hr.mono hkk) I1.env0 (hb s1 us I1.kIn hlen) r2 hsp) λr s' hq=>?_);cases r with
 |error e=>exact⟨σ,H1,s1,I1,hq⟩
 |ok fl=>
  cases fl with
  |ret u=>
   obtain⟨y,H2,I2,ry,sm2,d,hd⟩:=I1.after hq;rw[hd] at q;exact lS ⟨rfl,σ,H2,I2,q σ H2 (.same sm2) ((es'.same sm).same sm2)⟩
  |next=>exact dg hq
  |brk=>exact dg hq
  |cont=>exact dg hq
end
def XN(a:am)(h:ay):Prop:=∃o vs,h.get? a=ae o/\o.data=.fields vs/\vs[2]?=ae .none
theorem aQ6(x:XN a h):gC P w H h a (.ext (XN a)):=⟨x,let ⟨o,_,e,_⟩:=x;⟨o,e⟩,λ_ _ ⟨o,vs,e,r⟩ k=>⟨o,vs,k o e,r⟩⟩
section
variable {P:bh} {w:bd} {K:bj} {mg:Str->aq ak} {base:ay} {N:aa Str} {qual:Str} {scope:dL} {fad C:am} {cd:ak} {A:bS} {outer:aa cv} {s:ar} {H:Hp} {E:XK} {own:ag->au} {pos:bX}
theorem aNn(hK:KFrag.K=K)(hb:PBz (lE (CX2 P w) P w K mg base N qual scope fad cd A outer s H E) body (tBz own f))(hgM:Gl (lE (CX2 P w) P w K mg base N qual scope fad cd A outer s H E) c)(hmM:mg c=ae (.ref cM))(hnM:nsIn K bi c=ae (ae (.ref cM)))(hxM:lq K (.ref cM) (.ref cM)=ae af)
 (hn:nsIn K bi x=ae (ae (.ref C)))(hg:Gl (lE (CX2 P w) P w K mg base N qual scope fad cd A outer s H E) x)(mC:mg x=ae (.ref C))(xC:oI K C aKq "ValueError.__new__"=af)(hdM:(c==("__debug__" : Str))=ai:=by decide)(hd:nDb x:=by decide) :
  PS (lE (CX2 P w) P w K mg base N qual scope fad cd A outer s H E) (.Try body [.ExceptHandler (ae (.Name c mp)) aj [.Raise (ae (.Call (.Name x np) [.Constant (.str tx) xk xp] [] cpos)) (ae (.Constant .none ck cp)) rpos] hpos] [] [] pos) (tZ own E (aFn f c x)):=by
 subst hK;intro Ψ s0 σ H0 D I ⟨ρ,es,k⟩;refine DJ (dA (hb Ψ s0 σ H0 (λσ' H'=>D.nx σ' H') (λσ' Cv dx H'=>Cv=.ref cM/\dx≠aj/\∀H3,cZ H' H3->E (.ref C) aj H3) I ⟨ρ,es,?_⟩) (λf s' ⟨e,σ',H',I',q⟩=>?_) λe s' ⟨σ1,H1,s1,I1,hq⟩=>?_)
 ·unfold aFn at k;cases hf:f ρ with
  |ok fl=>
   rw[hf] at k;cases fl with
   |nx ρ'=>exact k
   |_=>exact k.elim
  |err c' as=>
   rw[hf] at k;split at k
   ·rename_i z;cases z
   ·rename_i c1 c2 f1 fs z;cases z;split at k
    ·rename_i hc;rw[bc] at hc;have q1:=gy.mp hc.1;have q2:=gy.mp hc.2;subst q1 q2;obtain⟨fs',C',g1,g2,g3⟩:=k;rw[hn] at g2;cases g2;cases g1;refine⟨_,cM,rfl,hnM,λσ' H' dx ku xd=>⟨rfl,(λz=>by rw[z] at xd;cases xd),λH3 sm=>g3 σ' H3 aj (ku.trans (.same sm)) rfl⟩⟩
    ·exact k.elim
   ·exact k.elim
  |bad=>rw[hf] at k;exact k.elim
 ·subst e;exact lS ⟨σ',H',I',q⟩
 ·obtain⟨a,C',dd,H2,B,rfl,os',bare',fly,clo,hn2,hgone,eC,hdd,hE⟩:=hq;cases eC;refine TJ (by rw[I.ok.frames];rfl) rfl fly λh4 held4 sm4=>?_
  refine lX held4 λh5 fly5 sm5=>?_
  have up5:s'.heap.UpToSlots h5:=xj sm4 sm5;have I5:Inv (lE (CX2 P w) P w KFrag.K mg base N qual scope fad cd A outer s H E) Ψ σ1 H2 {s' with heap:=h5}:=by
   obtain⟨un,hok⟩:=clo h5 fly5.1 up5;exact I1.call' os' un hok bare' (λb z=>bf z 0x2)
  refine DL (DM ?_) (by intro q;cases q);refine lC (JC I5 _) hgM hmM ?_ hdM;have LT:ix (aw P w) h5 (iF (.ref a)) (.ref cM):=by
   obtain⟨ob,hob,hc,_⟩:=fly5.there;rw[<-hc];exact(oz hob).andThen .now
  refine(exm_one I5.kIn LT hxM).here ?_;refine codeAny_handlers_suite ?_;refine lX fly5 λh6 fly6 sm6=>?_
  obtain⟨un6,hok6⟩:=clo h6 fly6.1 (xj up5 sm6);have xn:XN a h6:=by
   obtain⟨_,_,_,o,vs,T,oT,ts,⟨e1,e2,e3,e4⟩,_,_,_,_,z⟩:=fly6;exact⟨o,vs,e1,e4,z hdd⟩
  have I6:Inv (lE (CX2 P w) P w KFrag.K mg base N qual scope fad cd A outer s H E) Ψ σ1 (upd H2 a (.ext (XN a))) {s' with heap:=h6}:=
   I1.call' os' (aC1 un6 hgone hn2) (S7 hok6 hn2 (aQ6 xn)) bare' (λb z=>bf z 0x2)
  refine wpAny_passesOwnAt E4 ?_;have J:=JC I6 (.ref a);obtain⟨bm,Nn,nm,qn,bs,hdct,sn,sub,ab,col,dd',k0,k1,k2,k3,k5,mN,hC,hN,hni,T⟩:=aBy J.mod.kin xC;refine lT (xP (C:=C) (nm:=nm) (q:=qn) (N:=Nn) (bs:=bs) (bm:=bm) (hdct:=hdct) (sn:=sn) (sub:=sub) (ab:=ab) (col:=col) (dd:=dd') (k0:=k0) (k1:=k1) (k2:=k2) (k3:=k3) (k5:=k5)
   lg (mN:=mN) (T.hasType lg.hasBase) rfl rfl hni (lC J hg mC ⟨rfl,?_⟩ hd))
  have h':=(eQ aA9 j8:PA (mrk (lE (CX2 P w) P w KFrag.K mg base N qual scope fad cd A outer s H E) (.ref a)) [.Constant (.str tx) xk xp] _) cpos Ψ _ σ1 _ (λvs H3=>vs.length<=aT/\H3=upd H2 a (.ext (XN a))) J ?_
  ·refine ze (dA h' (λus s2 ⟨vs,H3,I3,r,hl,e3⟩=>?_) λ_ _ y=>y);subst e3;have I4:=OJ I6.ok I3;obtain⟨xn2,_⟩:=I3.hok a _ aL;obtain⟨oa,va,x1,x2,x3⟩:=xn2;exact⟨rfl,by rw[<-r.length];exact hl,I3.bk _ _ hC,hN.keeps I3.bk,T.keeps I3.bk,⟨oa,va,x1,x2,x3⟩,λh2 e vs kp new ht hv=>PB I4 kp new ht hv (hE _ (JD hn2))⟩
  ·exact⟨by show 1<=aT;decide,rfl⟩
end
end Mi
namespace Wn
open PySem PySem.Spec
theorem aRu(l:am)(items:aE ak)(n:ag)(dd:aq am)(sl:aE (aq ak)) :
  ji (cz.«enumerate.__new__» ⟨[.type "enumerate",.ref l],[]⟩) (λ_ R s=>s.heap.get? l=ae (Wz.tuO items n dd sl)/\
   R (.ok (.ret (.ref (s.heap.push (Wz.itO l 0)).objs.size)))
    {s with heap:=(s.heap.push (Wz.itO l 0)).push {cls:=.type "enumerate",data:=.fields #[.none,.bool ai,.ref s.heap.objs.size,cw 0,.none,.none]}}):=
 .of_wp λprog w A R s h=>by
  obtain⟨hp,g,d,tk,os⟩:=s;obtain⟨hl,h⟩:=h;have hsub:=sub_enumerate;have hT:An (Ao ⟨hp,g,d,tk,os⟩) l items:=⟨_,hl,rfl,n,rfl⟩
  wp_walk using xl hl
  refine wpAny_stack_any λst=>aI ?_
  split
  ·rename_i c _ _ _ _ _;cases (c==gq "enumerate")
   ·wp_walk using xl hl,lb hT
    exact⟨_,rfl,h⟩
   ·wp_walk using xl hl,lb hT
    exact⟨_,rfl,h⟩
  ·wp_walk using xl hl,lb hT
   exact⟨_,rfl,h⟩
section
theorem aQ7(hL:s.heap.get? l=ae (Wz.tuO items n dd sl))
 (h:∀h',IsEnum h' (s.heap.objs.size+1) s.heap.objs.size 0 .none->h'.get? s.heap.objs.size=ae (Wz.itO l 0)->
   (∀b o,s.heap.get? b=ae o->h'.get? b=ae o)->Q (.ref (s.heap.objs.size+1)) {s with heap:=h'}) :
  ϑ (aw prog w) A (call (.type "enumerate") [.ref l]) Q E s:=by
 refine Ap F.called_enumerate 0x4 (F.typeCall_enumerate_1 _) (F.newCall_enumerate_1 _) (λobj=>Dp obj _) F.entry_enumerate_new
  (aRu l items n dd sl) ⟨hL,?_⟩
 have hz:(s.heap.push (Wz.itO l 0)).objs.size=s.heap.objs.size+1:=eS ..;show _/\_;rw[hz];have he:IsEnum ((s.heap.push (Wz.itO l 0)).push {cls:=.type "enumerate",data:=.fields #[.none,.bool ai,.ref s.heap.objs.size,cw 0,.none,.none]}) (s.heap.objs.size+1) s.heap.objs.size 0 .none:=by
  have:=cx (s.heap.push (Wz.itO l 0)) (o:={cls:=.type "enumerate",data:=.fields #[.none,.bool ai,.ref s.heap.objs.size,cw 0,.none,.none]}) rfl;rw[hz] at this;exact this
 exact⟨⟨_,he,rfl⟩,h _ he (br _ (cx _ rfl)) λb o x=>br _ (br _ x)⟩
theorem drT(hh:A.handled=aj)(it t:am)(hne:t≠it)(items:aE ak)(n:ag)(dd:aq am)(sl:aE (aq ak)) :
  Draws prog w A it [it,t] items.size (λi v=>items[i]?=ae v) (λi h=>h.get? it=ae (Wz.itO t i)/\h.get? t=ae (Wz.tuO items n dd sl)) where
 live:=λ_ _ st=>⟨_,st.1⟩
 frame:=λ_ _ _ st hk=>⟨hk it 0x2 _ st.1,hk t 0x2 _ st.2⟩
 item:=λi s Q E hi st hQ=>by
  have hx:items[i]?=ae items[i]:=lf hi;exact Wz.drawn st.1 st.2 hx λh' e k=>hQ _ h' s.toks hx ⟨e,(k.2 t hne).trans st.2⟩ k
 done:=λs Q E st hE=>Wz.over hh st.1 st.2 (ni (ba _)) hE
theorem ovT(hh:A.handled=aj)(it t:am)(items:aE ak)(n:ag)(dd:aq am)(sl:aE (aq ak))(i:ag)(hi:items[i]?=aj):Draws prog w A it [it,t] 0 (λ_ _=>gN) (λ_ h=>h.get? it=ae (Wz.itO t i)/\h.get? t=ae (Wz.tuO items n dd sl)) where
 live:=λ_ _ st=>⟨_,st.1⟩
 frame:=λ_ _ _ st hk=>⟨hk it 0x2 _ st.1,hk t 0x2 _ st.2⟩
 item:=λj s Q E hj=>bf hj (Cg _)
 done:=λs Q E st hE=>Wz.over hh st.1 st.2 hi hE
end
end Wn
namespace Mi
open PySem L2 PySem.SeqAt PySem.Spec PyProof.Rows
def aQr(a:am):It:=
 ⟨λi H=>∃xs x,H a=ae (.tup xs)/\xs[i]?=ae x,λi H v H'=>∃t x,(∀xs,H a=ae (.tup xs)->xs[i]?=ae x)/\v=.ref t/\H t=aj/\H'=upd H t (.tup [.int i,x]),λi H=>∃xs,H a=ae (.tup xs)/\xs.length<=i⟩
def PJ(a:FE):FI:=λρ=>do let x <- a ρ;match x with|.tup xs=>(if ι xs then .ok (BX xs,af) else .bad)|_=>.bad
theorem aCv(p:lw h a its):∃n dd sl,h.get? a=ae (Wz.tuO its n dd sl):=by
 obtain⟨⟨c,dd,d,sl⟩,e,hc,n,hd⟩:=p;simp only at hc hd;subst hc hd;exact⟨n,dd,sl,e⟩
theorem aCw{h:ay}(e:h.get? a=ae o)(hc:o.cls=.type T)(e':h.get? b=ae u)(hc':u.cls=.type U)(ne:(gq T==gq U)=ai):a≠b:=λq=>by
 subst q;rw[e] at e';cases e';rw[hc] at hc';rw[hc'] at ne;simp at ne
section
variable [KFrag]
theorem ItQ.ent{K:bj}(a:am)(ds:aa D)(e:J=aQr a)(r:Rep P H (.ref a) (.tup ds))(h:items=BX ds):ItQ K P J H items:=by
 refine⟨λP H kk mm=>?_⟩;have r:=r.aEo kk mm;subst e h;obtain⟨a',xs,e,hq,rr⟩:=r.fK;cases e;refine⟨λi hi=>⟨xs,hq,by rw[rr.length,<-aBo];exact hi⟩,λi d hi=>?_⟩;rw[aEx] at hi;obtain⟨y,hd,rfl⟩:=mq.mp hi;obtain⟨v,h1,h2⟩:=rr.get hd;refine⟨⟨xs,v,hq,h1⟩,λx H' ⟨t,u,hy,e1,e2,e3⟩=>?_⟩;subst e1 e3;have:=hy xs hq;rw[h1] at this;cases this;have sp:cZ H (upd H t (.tup [.int i,v])):=cZ.upd e2;exact⟨sp,.tup aL (.cons (.int _) (.cons (h2.same sp) .nil))⟩
theorem ZZ{K:bj}{elts:aa Expr}{x1}{tp:bX}(a e it:am)(hne:e≠it):Turn P w K (.Tuple elts x1 tp) (aQr a) [e,it] e (λi h=>(∃old,IsEnum h e it i old)/\h.get? it=ae (Wz.itO a i)) where
 mem:=bo ..
 obj:=λi h z0 b hb=>by
  obtain⟨⟨old,h1⟩,h2⟩:=z0;simp only[bP,nB,or_false] at hb;rcases hb with rfl|rfl
  ·exact⟨_,h1,λv z=>nomatch(show sP _=sQ v from z)⟩
  ·exact⟨_,h2,λv z=>nomatch(show sP _=sQ v from z)⟩
 keep:=λi h h' ⟨⟨old,h1⟩,h2⟩ k=>⟨⟨old,k e (bo ..) _ h1⟩,k it 0x2 _ h2⟩
 item:=by
  rintro Y hP hw hK hc i Ψ s σ H E I hf ⟨⟨old,h1⟩,h2⟩ ⟨xs,x,hq,hx⟩;subst hP hw hK;obtain⟨its,rv,p,hz⟩:=I.tuple (.of hq);obtain⟨n,dd,sl,e3⟩:=aCv p;obtain⟨u,hu,ru⟩:=rv.get hx;have hlt:e<s.heap.objs.size:=bn h1;have nai:a≠it:=aCw e3 rfl h2 rfl 0x4;have nea:e≠a:=aCw h1 rfl e3 rfl 0x4;have hil:i<its.toArray.size:=by
   have:=(du.mp hu).1;simpa using this
  refine wpAny_pyNext_enum_itemD (Wn.drT (show Y.A.in1.handled=aj from I.ok.hd hc) it a nai its.toArray n dd sl) h1 ⟨h2,e3⟩ hil hne (by simp[hne,nea]) λv h' tk o0 o1 o2 o3 o4 o5=>?_
  obtain rfl:u=v:=by
   have:its[i]?=ae v:=by simpa using o0
   rw[hu] at this;exact c9 this
  refine⟨_,rfl,wpAny_letOwnedTupleGo_enum o1 λh'' g1 g2=>?_⟩;have sb:fS e h' h'':=g2;have kk:∀b o,b∉[e,it]->s.heap.get? b=ae o->h''.get? b=ae o:=λb o hb eb=>by
   simp only[bP,nB,or_false,jg] at hb;exact(sb.2 b hb.1).trans (o5 b o hb.1 hb.2 eb)
  have t3:h''.get? s.heap.objs.size=ae {cls:=.type "tuple",data:=.seq #[.int i tk,u]}:=(sb.2 _ (gS hlt)).trans o3;refine⟨.ref s.heap.objs.size,upd H s.heap.objs.size (.tup [.int i,x]),SN (s:=s) I kk (λb hb=>hf b hb) (ba _) ?_,rfl,⟨_,x,λys hy=>by rw[hq] at hy;cases hy;exact hx,rfl,I.hok.fresh (ba _),rfl⟩,⟨⟨u,g1⟩,(sb.2 it (Ne.symm hne)).trans o2.1⟩,λb hb=>?_⟩
  ·exact⟨by show 2<=aT;rw[dk];decide,[.int i tk,u],.cons ⟨_,rfl⟩ (.cons ru .nil),⟨_,t3,rfl,0,rfl⟩⟩
  ·rw[bF]
   ·exact(hf b hb).1
   ·intro z;simp only[bP,nB,or_false] at hb;rcases hb with h|h
    ·rw[<-h,z] at hlt;exact fR _ hlt
    ·have:=bn h2;rw[<-h,z] at this;exact fR _ this
 done:=by
  rintro Y hP hw hK hc i Ψ s σ H E I hf ⟨⟨old,h1⟩,h2⟩ ⟨xs,hq,hx⟩;subst hP hw hK;obtain⟨its,rv,p,hz⟩:=I.tuple (.of hq);obtain⟨n,dd,sl,e3⟩:=aCv p;obtain⟨f0,f1,f2,f3,f4,f5⟩:=hf it 0x2;have hl:=rv.length;exact wpAny_pyNext_enum_endD (Wn.ovT (show Y.A.in1.handled=aj from I.ok.hd hc) it a its.toArray n dd sl i (by simp;lia)) h1 ⟨h2,e3⟩ λh' eb=>⟨rfl,I.turned (λb o hb e=>eb b o hb e) f0 f1 f3 f4 f5⟩
 self:=λ_ _ _ _ _ ⟨⟨old,h1⟩,_⟩ h=>DS h1 h
section
theorem W8{x1}(hg:Gl X "enumerate")(hm:X.mg "enumerate"=aj)(ha:PA X [a] (gA (aC fa aP) ra))(hs:cf [a] X.env=[(ai,eval a X.env)]:=by rfl) :
  PI X (.Tuple elts x1 tp) (.Call (.Name "enumerate" p) [a] [] pos) (gI X.K (PJ fa)):=by
 rintro Ψ s σ H R I ⟨ρ,items,k,E,h,q⟩;obtain⟨d,h1,h⟩:=bL h;cases d<;>try (cases h;done)
 rename_i its;dsimp only at h;split at h
 ·rename_i hp;cases h;have hb:aC fa aP ρ=.ok [ν its]:=by
   unfold aC;rw[h1];rfl
  refine sT (nA I hg hm E5 (iA (thn (ha pos Ψ s σ H (λvs H1=>∃v,vs=[v]/\cZ H H1/\Rep All H1 v (.tup its)) I ⟨ρ,_,E,hb,λvs H1 s1 r1 n1=>?_⟩) λus s1 ⟨vs,H1,I1,r1,q1⟩=>?_) hs rfl))
  ·cases r1 with
   |cons r t=>
    cases t;exact⟨_,rfl,s1,r⟩
  ·obtain⟨v,rfl,s1',r⟩:=q1;cases r1 with
   |cons rv rr=>
    cases rr;obtain⟨l,ys,rfl,hl,rr⟩:=r.fK;cases rv;obtain⟨vs,rvs,pl,hz⟩:=I1.tuple (.of hl);obtain⟨n,dd,sl,e3⟩:=aCv pl;refine Wn.aQ7 e3 λh' e1 e2 e4=>?_
    refine DS e1 ?_;refine⟨s1.heap.objs.size+1,[s1.heap.objs.size+1,s1.heap.objs.size],_,_,H1,rfl,I1.kept λb o e=>e4 b o e,ZZ l (s1.heap.objs.size+1) s1.heap.objs.size (Nat.succ_ne_self _),⟨⟨_,e1⟩,e2⟩,λb hb=>?_,q _ H1 s1' (.ent l its rfl r rfl) λhk=>.ent l its rfl (r.bT hp) rfl⟩;simp only[bP,nB,or_false] at hb;rcases hb with rfl|rfl
    ·exact I1.aGe (iu _) (I1.hok.fresh (iu _))
    ·exact I1.aGe (ba _) (I1.hok.fresh (ba _))
 ·cases h
end
end
open PySem.W
def aA4(h:ay)(d:am)(es:aE jf)(ep:ag):Prop:=∃o,h.get? d=ae o/\o.ExactDict/\o.data=.dict es ep
theorem aA4.ty{s:ar}{d:am}{es:aE jf}{ep:ag}(x:aA4 s.heap d es ep):s.TypeIs (.ref d) "dict":=let ⟨o,e,c,_⟩:=x;⟨o,e,c.1⟩
theorem aA4.at{h h':ay}{d:am}{es:aE jf}{ep:ag}(x:aA4 h d es ep)(k:∀o,h.get? d=ae o->h'.get? d=ae o):aA4 h' d es ep:=let ⟨o,e,r⟩:=x;⟨o,k o e,r⟩
section
variable {prog:bh} {w:bd} {A:bS} {E:ak->ar->Prop} {s:ar} {d it:am} {es:aE jf} {ep i:ag}
theorem aFq{Q:ak->ar->Prop}(hd:(d==fy)=ai)(x:aA4 s.heap d es ep)(q:Q (.ref s.heap.objs.size) {s with heap:=s.heap.push {cls:=.type "dict_keyiterator",data:=.fields #[.ref d,.int 0 0,.int es.size 0,.int ep 0]}}):ϑ (aw prog w) A (i7 (.ref d)) Q E s:=by
 have T:=x.ty;obtain⟨o,e1,e2,e3⟩:=x;refine Dr T DT (ip DT T F.entry_dict_iter (?_:ϑ _ _ (cz.«dict.__iter__» _) _ _ _) (F.args_dict_iter_1 _));unfold cz.«dict.__iter__» E6 E7;refine ao (ao (AC T (?_:ϑ _ _ (pure (cK d)) _ _ s)));refine aI (?_:ϑ _ _ ((if d==fy then _ else _) >>= _) _ _ s);rw[ax (by rw[hd];simp)];refine ao (aI (ao (AR e1 e3 (ao (AS e1 e3 ?_)))));exact ao (gu (aI ⟨_,rfl,"dict_keyiterator",_,⟨_,cx _ rfl,rfl⟩,sx.lookup,q⟩))
theorem aFr{Q:aq ak->ar->Prop}(y:s.heap.IsKeyIter it d i es.size ep)(x:aA4 s.heap d es ep)(hi:i<es.size)(q:∀h',h'.IsKeyIter it d (i+1) es.size ep->fS it s.heap h'->Q (ae es[i].key) {s with heap:=h'}):ϑ (aw prog w) A (fz (.ref it)) Q E s:=by
 have T:=y.typeIs;obtain⟨o,o1,o2,o3⟩:=y;obtain⟨od,e1,e2,e3⟩:=x;have own:DU "dict_keyiterator"=ai:=by decide
 unfold fz;refine ao (iP (i9 (name:=DZ "__next__") T sx (ip sx T D0 ?_ (D1 _))));refine ao (aI (ao (ao ?_)))
 first|refine ao (xm T (aI (ao (xo o1 o3 ?_))))|refine ao (xq T (aI (ao (xo o1 o3 ?_))))
 rw[own];refine(?_:ϑ _ _ (ite ((cK d==d5)=af) _ _) _ _ s);rw[ax 0x7];refine ao (aI (ao (AR e1 e3 ?_)));rw[ax 0x2];refine ao (aI (ao (AS e1 e3 ?_)));rw[ax 0x2];refine aI ?_;simp only[show ¬((i:ah)<0) from by lia,fF,nj,lf hi];refine ao ?_
 first|refine ao (xm T (aI (ao (AT T ?_))))|refine ao (xq T (aI (ao (AT T ?_))))
 refine ao (m:=sv (.ref it) 1 (cw ((i:ah)+1))) (jq o1 o3 0x2 ?_);have z:(s.heap.update it (gn (·.setIfInBounds 1 (cw ((i:ah)+1))))).IsKeyIter it d (i+1) es.size ep:=⟨_,gL _ o1 (xg (kq o3 _)),(AE ..).trans o2,by rw[kq o3];simp[cw]⟩
 refine ao (eJ (ao (AT (s:={s with heap:=s.heap.update it (gn (·.setIfInBounds 1 (cw ((i:ah)+1))))}) z.typeIs (?_:ϑ _ _ (pure es[i].key) _ _ _))));exact aI (aI ⟨_,rfl,aI (q _ z (lj ..))⟩)
theorem aJl{Q:aq ak->ar->Prop}(hh:A.handled=aj)(y:s.heap.IsKeyIter it d i es.size ep)(x:aA4 s.heap d es ep)(hi:es.size<=i)(q:∀h',oS it s.heap h'->Q aj {s with heap:=h'}):ϑ (aw prog w) A (fz (.ref it)) Q E s:=by
 have T:=y.typeIs;obtain⟨o,o1,o2,o3⟩:=y;obtain⟨od,e1,e2,e3⟩:=x;have own:DU "dict_keyiterator"=ai:=by decide
 unfold fz;refine ao (iP (i9 (name:=DZ "__next__") T sx (ip sx T D0 ?_ (D1 _))));refine ao (aI (ao (ao ?_)))
 first|refine ao (xm T (aI (ao (xo o1 o3 ?_))))|refine ao (xq T (aI (ao (xo o1 o3 ?_))))
 rw[own];refine(?_:ϑ _ _ (ite ((cK d==d5)=af) _ _) _ _ s);rw[ax 0x7];refine ao (aI (ao (AR e1 e3 ?_)));rw[ax 0x2];refine ao (aI (ao (AS e1 e3 ?_)));rw[ax 0x2];refine aI ?_;simp only[show ¬((i:ah)<0) from by lia,fF,nj,ni hi];refine ao ?_
 first|refine ao (xm T (aI ?_))|refine ao (xq T (aI ?_))
 refine ao (m:=sv (.ref it) 0 .none) (jq o1 o3 0x2 (ao (m:=newExc (.type "StopIteration") []) ?_));simp only[newExc,newTuple];refine ao (gu (ao (m:=AF _ _) (gz (a:=d5) (by first|rfl|(simp only[AF];rfl)) (gu ?_ (by size_fits)))) (by size_fits));simp only[rc];have hh':A.in1.handled=aj:=hh;refine ao (AG ?hd);rw[hh'];refine ao (aI (AH ?thrown));refine ao (r_ (b:=af) (T:= "StopIteration") ⟨_,cx _ rfl,rfl⟩ Ay ?_);exact aI (q _ (((lj ..).extBut.push _).push _))
theorem aCx(hh:A.handled=aj)(I d:am)(hne:d≠I)(es:aE jf)(ep:ag):Walks prog w A I [I,d] [I] es.size (λi v=>∃h:i<es.size,v=es[i].key) (λi h=>h.IsKeyIter I d i es.size ep/\aA4 h d es ep) where
 sub:=λb hb=>bP.mpr (.inl (d6.mp hb))
 frame:=λ_ _ _ st hk=>⟨Heap.IsKeyIter.at st.1 λo e=>hk I 0x2 o e,st.2.at λo e=>hk d 0x2 o e⟩
 item:=λi s Q E hi st hQ=>aFr st.1 st.2 hi λh' z sb=>hQ _ h' s.toks ⟨hi,rfl⟩ ⟨z,st.2.at λo e=>sb.extBut d o hne e⟩ λb o hb e=>sb.extBut b o (λh=>hb (by simp[h])) e
 done:=λs Q E st hQ=>aJl hh st.1 st.2 (ba _) λh' ex=>hQ h' s.toks λb o hb e=>ex b o (λh=>hb (by simp[h])) e
 self:=λ_ _ _ _ at_ q=>C4 at_.1 q
end
section
variable {prog:bh} {w:bd} {A:bS} {E:ak->ar->Prop} {s:ar} {r:am}
def aQ8(s:ar)(F:aE ak->Prop)(q:Result)(s':ar):Prop:=∃(h':ay)(tk:ag)(acc:aE ak)(c:ag),q=.ok (.ret (.ref s.heap.objs.size))/\s'={s with heap:=h',toks:=tk}/\(∀b o,s.heap.get? b=ae o->h'.get? b=ae o)/\h'.get? s.heap.objs.size=ae {cls:=.type "list",dict:=aj,data:=.seq acc c,slots:=#[]}/\F acc
theorem aCy{Q:aa ak->ar->Prop}{F:aE ak->Prop}
 (key:ϑ (aw prog w) A.in1 (ny (.ref s.heap.objs.size) (.ref r) (.ref s.heap.objs.size)) (λfin s'=>match fin with|.done f=>aQ8 s F (.ok f) s'|.again c'=>c'.quiet=af/\codeAny (aw prog w) A c' (aQ8 s F) s') (λe s'=>aQ8 s F (.error e) s') {s with heap:=s.heap.push {cls:=.type "list",data:=.seq ([]:aa ak).toArray}})
 (q:∀h' tk acc,(∀b o,s.heap.get? b=ae o->h'.get? b=ae o)->s.heap.objs.size<=h'.objs.size->F acc->Q acc.toList {s with heap:=h',toks:=tk}):ϑ (aw prog w) A (mE (.ref r)) Q E s:=by
 have last:∀{h':ay}{tk:ag}{acc:aE ak}{c:ag},(∀b o,s.heap.get? b=ae o->h'.get? b=ae o)->h'.get? s.heap.objs.size=ae {cls:=.type "list",dict:=aj,data:=.seq acc c,slots:=#[]}->F acc->ϑ (aw prog w) A (load s.heap.objs.size >>= λo=>match o.data with|.seq xs _=>pure xs.toList|_=>unsupported "internal:collect") Q E {s with heap:=h',toks:=tk}:=λkp at_ f=>ao (wpAny_load at_ (aI (q _ _ _ kp (ii (bn at_)) f)))
 unfold mE;refine ao (DO (km entry_proto_collect' (?_:ϑ _ _ (zr [] >>= λl=>again (.builtin "list.__iadd__" ⟨[l,.ref r],[]⟩)) _ _ s)));rw[lm PySem.F.plain_proto_collect];refine ao (gu (aI ⟨AI D2 _,km entry_list_iadd' (?_:ϑ _ _ (ny _ _ _) _ _ _)⟩));rw[lm D2];refine dA key (λfin s' x=>?_) λe s' ⟨_,_,_,_,z,_⟩=>nomatch z
 cases fin with
 |done f=>
  obtain⟨h',tk,acc,c,e,rfl,kp,at_,f⟩:=x;cases e;exact last kp at_ f
 |again c1=>
  refine⟨x.1,jy x.2 λp s2 y=>?_⟩;obtain⟨h',tk,acc,c,rfl,rfl,kp,at_,f⟩:=y;exact last kp at_ f
theorem aJm{Q:aa ak->ar->Prop}{o:bg}{its:aE ak}{n:ag}(ho:s.heap.get? r=ae o)(hc:o.cls=.type "tuple")(hd:o.data=.seq its n)(hz:its.size<=aT)
 (q:∀h' tk,(∀b o,s.heap.get? b=ae o->h'.get? b=ae o)->s.heap.objs.size<=h'.objs.size->Q its.toList {s with heap:=h',toks:=tk}):ϑ (aw prog w) A (mE (.ref r)) Q E s:=by
 have hS:=cx (h:=s.heap) (o:={cls:=.type "list",data:=.seq ([]:aa ak).toArray}) rfl;obtain⟨c,hc2⟩:∃c,((s.heap.push {cls:=.type "list",data:=.seq ([]:aa ak).toArray}).update s.heap.objs.size (eL (·++its))).get? s.heap.objs.size=ae {cls:=.type "list",dict:=aj,data:=.seq its c,slots:=#[]}:=by
  rw[gL (eL (·++its)) hS rfl];simp only[eL,Array.empty_append];exact⟨_,rfl⟩
 refine aCy (F:=λacc=>acc=its) (wpAny_extend_seq (hsz:=hz) (s:={s with heap:=s.heap.push {cls:=.type "list",data:=.seq ([]:aa ak).toArray}}) _ r _ 0 (.inr rfl) hS (br _ ho) hc hd ⟨_,s.toks,its,c,rfl,rfl,λb o' hb=>?_,hc2,rfl⟩) λh' tk acc kp sz e=>by rw[e];exact q h' tk kp sz
 exact(jc _ _ (gS (bn hb))).trans ((br _ hb))
theorem aJn{d:am}{es:aE jf}{ep:ag}(lo:(d==fy)=ai):KdlSrc prog w "dict" d d es.size (λi v=>∃h:i<es.size,v=es[i].key) (λh=>aA4 h d es ep) where
 type:=λ_ x=>x.ty
 there:=λh x=>by obtain⟨o,e,_⟩:=x;exact⟨bn e,bn e⟩
 keep:=λ_ _ x k=>x.at λo e=>k d (.inl rfl) o e
 notList:=rfl
 notTuple:=rfl
 hint:=λ_ _ _ _ x q=>kdl_hint_dict x.ty q
 iter:=λ_ s hh x=>⟨_,_,λ_ _ q=>aFq lo x q,aCx hh _ d (by obtain⟨o,e,_⟩:=x;exact cu (bn e)) es ep,⟨_,cx _ rfl,rfl,rfl⟩,x.at λo e=>br _ e⟩
theorem aCz{Q:aa ak->ar->Prop}{d:am}{es:aE jf}{ep:ag}(hh:A.handled=aj)(lo:(d==fy)=ai)(x:aA4 s.heap d es ep)(hz:es.size<=aT)
 (q:∀h' tk,(∀b o,s.heap.get? b=ae o->h'.get? b=ae o)->s.heap.objs.size<=h'.objs.size->Q (es.toList.map (·.key)) {s with heap:=h',toks:=tk}):ϑ (aw prog w) A (mE (.ref d)) Q E s:=by
 have lt:d<s.heap.objs.size:=by obtain⟨o,e,_⟩:=x;exact bn e
 refine aCy (F:=λacc=>acc.toList=es.toList.map (·.key)) (kdl_extend (aJn (prog:=prog) (w:=w) (es:=es) (ep:=ep) lo) hh (x.at λo e=>br _ e) s.heap.objs.size (gS lt) (gS lt) _ 0 (cx _ rfl) (λh' tk acc c kp at_ it=>⟨h',tk,acc,c,rfl,rfl,λb o e=>kp b o (cu (bn e)) (br _ e),at_,?_⟩) hz) λh' tk acc kp sz e=>by rw[e];exact q h' tk kp sz
 refine Dy λi=>?_
 by_cases hi:i<es.size
 ·obtain⟨v,hv⟩:∃v,acc[i]?=ae v:=⟨acc[i]'(by rw[it.1];exact hi),by simp[it.1,hi]⟩
  obtain⟨_,e⟩:=it.2 i v hv;rw[kP,hv,e,io,kP,lf hi];rfl
 ·rw[kP,ni (by rw[it.1];lia),AK (by simpa using hi)]
end
def v7:aa D->Res D
 |[.dct kvs]=>if kvs.all (λp=>isTup p.1)&&cN (mJ kvs) then .ok (.lst (uX (mJ kvs))) else .bad
 |[.tup xs]=>if cN xs then .ok (.lst (uX xs)) else .bad
 |ds=>gY ds
variable [KFrag]
section
variable {X:Cx}
theorem aNo{H:Hp}{s:ar}{Ψ:aa (am×bg)}{σ:L2.St}{a:am}{kvs:aa (aa Key×V)}(I:Inv X Ψ σ H s)(e:H a=ae (.dT kvs)):∃(es:aE jf)(ep:ag)(xs:aa (aa Key×am×ak)),aA4 s.heap a es ep/\(a==fy)=ai/\kvs.length<=aT/\KT H kvs xs/\es.toList=xs.map (entryOfKey (js (cC X.prog X.w))):=by
 obtain⟨z,hd,xs,rel,o,es,ep,h1,h2,h3,h4,_⟩:=aHv I.hok e;exact⟨es,ep,xs,⟨o,h1,h2,h3⟩,hd,z,rel,h4⟩
theorem zH{H:Hp}:∀k:aa Key,bZ All H (k.map kV) (k.map kD)
 |[]=>.nil
 |.inl i::r=>.cons (.int i) (zH r)
 |.inr x::r=>.cons (.str x) (zH r)
theorem aJo{H:Hp}{P:am->Prop}{kvs:aa (aa Key×V)}{xs:aa (aa Key×am×ak)}(rel:KT H kvs xs):∀{ds:aa (D×D)},sZ P H kvs ds->Vals (xs.map λx=>V.ref x.2.1) (xs.map λx=>cK x.2.1)/\bZ All H (xs.map λx=>V.ref x.2.1) (mJ ds):=by
 induction rel with
 |nil=>
  intro ds r;cases r;exact⟨.nil,.nil⟩
 |@cons p q ps qs h t ih=>
  intro ds r;cases r with
  |cons r u=>
   obtain⟨h1,h2⟩:=ih u;exact⟨.cons rfl h1,.cons (.tup h.2.1 (zH _)) h2⟩
theorem oV(hc:X.calm=af)(hu:X.A.units+20<cr):l_ X (.builtin "sorted") (rs v7 af):=by
 rintro Ψ s σ H xs us Q I vr ⟨ds,d,r,e,k⟩;have fin:∀{ys:aa D},cN ys=af->d=.lst (uX ys)->∀p xs',H p=aj->bZ All H xs' (uX ys)->Q (.ref p) (upd H p (.lst xs')):=λ{ys} hl e p xs' hp r'=>by
  subst e;have sp:cZ H (upd H p (.lst xs')):=cZ.upd hp;exact k _ _ sp (.lst aL trivial (r'.same sp)) λ_=>.lst aL hp ((r'.bT (yW hl)).same sp)
 unfold v7 at e;split at e
 ·rename_i kvs;split at e
  ·rename_i hl;rw[bc] at hl;cases e;obtain⟨vv,uu,rfl,rfl,r,v⟩:=iK r vr;have key:∀{H':Hp}{a:am}{kk:aa (aa Key×V)},Inv X Ψ σ H' s->H' a=ae (.dT kk)->sZ All H' kk kvs->H'=H->vv=.ref a->ϑ (aw X.prog X.w) X.A (call (.builtin "sorted") [.ref a]) (EP X Ψ σ Q) X.xe s:=λ{H' a kk} I' e rt eH _=>by
    subst eH;obtain⟨es,ep,zs,raw,lo,hz,rel,he⟩:=aNo I' e;obtain⟨r1,r2⟩:=aJo rel rt;have hl2:es.size=zs.length:=by rw[<-kz,he,az]
    have hl3:kk.length=zs.length:=jr rel;have keys:es.toList.map (·.key)=zs.map λx=>cK x.2.1:=by rw[he,c5];rfl
    exact mL I' hu r1 (by rw[az,<-hl3];exact hz) r2 hl.2 (λQ' E' h=>aCz (I'.ok.hd hc) lo raw (by rw[hl2,<-hl3];exact hz) λh1 tk kp sz=>by rw[keys];exact h h1 tk kp sz) (fin hl.2 rfl)
   cases r with
   |dK e _ rk _=>
    cases rk with
    |cons r t=>
     have:=hl.1;rw[ki,mO] at this;cases this
    |nil=>
     cases v;obtain⟨_,lo,vs,rel,o,es,ep,e1,e2,e3,_,hp,_⟩:=RN I.hok e;have h0:vs.length=0:=by rw[<-rel.length];rfl
     have h1:es.toList=[]:=zS (by rw[hp.length];exact h0);exact mL I hu .nil (cq _) .nil hl.2 (λQ' E' h=>aCz (I.ok.hd hc) lo ⟨o,e1,e2,e3⟩ (by rw[<-kz,h1];exact cq _) λh' tk kp sz=>by rw[h1];exact h h' tk kp sz) (fin hl.2 rfl)
   |dT e _ rt _=>
    cases v;exact key I e rt rfl rfl
  ·cases e
 ·rename_i ys;split at e
  ·rename_i hl;cases e;obtain⟨vv,uu,rfl,rfl,r,v⟩:=iK r vr;cases r with
   |tup e rr=>
    cases v;obtain⟨its,vr,o,ho,hc',n,hd⟩:=iI I e;have hz:=I.hok _ _ e;exact mL I hu vr (by rw[<-vr.length];exact hz.1) rr hl (λQ' E' h=>aJm ho hc' hd (by rw[cm,<-vr.length];exact hz.1) λh1 tk kp sz=>by simpa using h h1 tk kp sz) (fin hl rfl)
  ·cases e
 ·exact NT hu Ψ s σ H xs us Q I vr ⟨_,d,r,e,k⟩
end
end Mi
section
local macro_rules | `(tactic| trivial) => `(tactic| first | exact Or.inl rfl | exact Or.inr rfl | exact Or.inr (Or.inl rfl) | exact Or.inr (Or.inr rfl))
namespace Lk66
open PySem L2 Mi PySem.W
noncomputable def top(i:ag):bq:=PySem.Challenge.pw_hookmill_k66_no_value.main.body.getD i (.Pass ⟨0,0,0,0⟩)
abbrev sS:bq:=top 23
noncomputable def TX:ag->au:=λi=>ai
def zJ:FS:=bN (bW ai 2 bR af) (bN (sIf (bTB (b2 (cV (.ord .gt)) (aM fJ (aC cO aP)) bR)) (bW ai 2 (b2 (bG .mod) (b2 getD cO (b2 (bG .mod) cW (aM fJ (aC cO aP)))) iV) af) vV) (bN (bW ai 3 (b2 (bG .mod) (b2 o6 (b2 (bG .add) (b2 (bG .add) d8 cR) (b2 o6 yP (b2 (bG .fdiv) cW (aM max2 (aC cR (aC (aM fJ (aC cO aP)) aP)))))) G3) iV) af) (oM (b2 (bG .mod) (b2 o6 dG dG) mH) af)))
def aK:aa D->Res D:=fnS 2 4 zJ
abbrev sV:bq:=top 24
noncomputable def TY:ag->au:=λi=>ai
def T3:FS:=bN (bW ai 2 (bC (.str "abcdefghijklmnopqrstuvwxyz")) af) (bN (sIf (Y6 (bTB (b2 inX cW (cT (aC G4 (aC M6 aP))))) (bTB (b2 (cV .eq) (b2 (bG .mod) (aM (bO 2 aK) (aC cO (aC (bC (.int 36)) aP))) aEj) cR))) (oM (b2 (bG .add) (b2 getD (DY (aC (bC (.str "drop")) (aC (bC (.str "copy")) aP))) (b2 (bG .fdiv) cW M6)) (b2 getD d8 (b2 (bG .mod) (aM (bO 2 aK) (aC cO (aC aI2 aP))) M7))) af) vV) (bN (bW ai 3 (aM (bO 2 aK) (aC cO (aC bR aP))) af) (bN (bW ai 4 (b2 getD (DY (aC (b2 getD d8 (b2 (bG .mod) dG M7)) (aC (b2 getD (bC (.str "abdz")) (b2 (bG .mod) (b2 (bG .fdiv) dG M7) G4)) aP))) (b2 (bG .mod) (b2 (bG .fdiv) dG (bC (.int 104))) iT)) ai) (bN (bW ai 5 (b2 (bG .mod) (aM (bO 2 aK) (aC cO (aC cR aP))) aE2) af) (bN (bW ai 6 (b2 (bG .mod) (aM (bO 2 aK) (aC cO (aC iT aP))) (b2 (bG .sub) aE2 lJ)) af) (bN (sIf (bTB (b2 (cV .eq) (b2 (bG .mod) (b2 (bG .fdiv) (aM (bO 2 aK) (aC cO (aC cR aP))) aE2) iT) cR)) (bW ai 6 (b2 (bG .mod) (aM (bO 2 aK) (aC cO (aC (b2 (bG .add) G4 cW) aP))) (b2 (bG .sub) aE2 lJ)) af) vV) (oM (b2 (bG .add) (b2 (bG .add) (b2 o6 iR lJ) (b2 getD d8 (b2 (bG .mod) (b2 (bG .add) cW (aM (bO 2 aK) (aC cO (aC uY aP)))) M7))) (b2 o6 iR nO)) af)))))))
def aX:aa D->Res D:=fnS 2 7 T3
abbrev iZ:bq:=top 25
noncomputable def JS:ag->au:=λi=>i==2
def imk:FS:=bN (bW ai 6 (aM (bO 2 aK) (aC cO (aC (b2 (bG .add) (b2 (bG .add) (bC (.int 40)) (b2 o6 uY dG)) lJ) aP))) af) (bN (bW ai 7 (b2 getD (DY (aC cR (aC (b2 (bG .mod) nO G4) aP))) (b2 (bG .sub) lJ cR)) ai) (bN (bW ai 8 (aM fO (aC (fG 9 (lL (aC vP aP) vU) lM g8 (aM (bO 2 aX) (aC cO (aC (b2 (bG .mod) (b2 (bG .fdiv) nO (b2 (bG .add) aPg (b2 o6 aM5 xK))) cW) aP))) af) aP)) ai) (BV 2 (cT (aC (aM (bO 2 aX) (aC cO (aC (b2 (bG .add) (b2 (bG .add) uY (b2 o6 uY dG)) lJ) aP))) (aC (aM (bO 2 aX) (aC cO (aC dG aP))) (aC yN aP)))))))
def omk:FS:=bN (bW ai 4 (cT aP) af) (bN (sIf (Y6 (bTB (b2 (cV (.ord .gt)) dG bR)) (bTB (b2 (cV (.ord .gt)) (b2 (bG .mod) (b2 (bG .fdiv) (aM (bO 2 aK) (aC cO (aC aI3 aP))) dG) uY) bR))) (bW ai 4 (cT (aC (aM (bO 2 aX) (aC cO (aC bR aP))) aP)) af) vV) (bN (BV 2 (cT (aC (aM (bO 2 aX) (aC cO (aC (b2 (bG .add) uY (b2 o6 uY dG)) aP))) (aC (aM (bO 2 aX) (aC cO (aC dG aP))) (aC iR aP))))) (G7 (lL (aC cR (aC (b2 (bG .add) iT (b2 (bG .mod) (aM (bO 2 aK) (aC cO (aC (b2 (bG .add) (bC (.int 40)) (b2 o6 uY dG)) aP))) iT)) aP)) aAy) (tg1 5) imk)))
def JT:FS:=bN (bW af 2 (DY aP) af) (bN (G7 (lL (aC cW aP) vU) (tg1 3) omk) (oM (aM fO (aC d8 aP)) ai))
def i_:aa D->Res D:=fnS 2 9 JT
abbrev jA:bq:=top 26
noncomputable def JV:ag->au:=λi=>i==2
def otk:FS:=bN (bW ai 4 (aM (bO 2 aK) (aC cO (aC (b2 (bG .add) (bC (.int 51)) dG) aP))) af) (bN (bW ai 5 (aM fO (aC (fG 7 (lL (aC (b2 (bG .mod) (b2 (bG .fdiv) iR G4) uY) aP) vU) lM g8 (aM (bO 2 aX) (aC cO (aC (b2 (bG .mod) (b2 (bG .fdiv) iR (b2 (bG .add) aEk (b2 o6 aM5 vP))) cW) aP))) af) aP)) ai) (bN (bW ai 6 (cT (aC (aM (bO 2 aX) (aC cO (aC (b2 (bG .mod) iR cW) aP))) (aC (aM (bO 2 aX) (aC cO (aC (b2 (bG .mod) (b2 (bG .fdiv) iR iT) cW) aP))) aP))) af) (BV 2 (b2 vQ (b2 vQ (cT (aC (aM (bO 2 aX) (aC cO (aC (b2 (bG .add) M6 dG) aP))) aP)) nO) (cT (aC lJ aP))))))
def JW:FS:=bN (bW af 2 (DY aP) af) (bN (G7 (lL (aC (b2 (bG .mod) (aM (bO 2 aK) (aC cO (aC (bC (.int 50)) aP))) G4) aP) vU) (tg1 3) otk) (oM (aM fO (aC d8 aP)) ai))
def jB:aa D->Res D:=fnS 2 7 JW
abbrev cQ:bq:=top 27
noncomputable def PK:ag->au:=λi=>i==7||i==8
def b4s:FS:=bN (bW ai 15 (b2 getD yO (b2 (bG .mod) (b2 (bG .fdiv) mG G4) (aM fJ (aC yO aP)))) ai) (bN (BV 7 (b2 getD Y4 bR)) (bN (bW ai 16 (aAx (b2 (cV (.ord .gt)) (aM aMw (aC dG aP)) bR) (b2 (cV (.ord .gt)) (b2 (bG .mod) (b2 (bG .fdiv) mG aI4) G4) bR)) af) (bW af 8 (b2 (bG .add) (b2 (bG .add) (zA (aC (cT (aC (b2 getD Y4 iT) (aC (fM 16) aP))) aP)) (fG 17 (cU (b2 getD Y4 uY) ai) lM g8 (cT (aC j4 (aC (bC (.bl ai)) aP))) ai)) yN) af)))
def b2s:FS:=bN (BV 7 (b2 getD (b2 (bG .add) iG (zA (aC (b2 getD (b2 getD lK bR) bR) aP))) (b2 (bG .mod) (b2 (bG .fdiv) mG G4) (aM max2 (aC cR (aC (aM fJ (aC iG aP)) aP)))))) (sIf (bTB (b2 (cV .eq) (aM fJ (aC iG aP)) bR)) (bW af 8 (b2 (bG .add) (fG 17 (cU (b2 getD (b2 getD lK bR) iT) ai) lM g8 (cT (aC j4 (aC (bC (.bl af)) aP))) ai) yN) af) vV)
def b3s:FS:=bN (bW ai 14 (b2 getD lK (b2 (bG .mod) (b2 (bG .fdiv) mG G4) (aM fJ (aC lK aP)))) ai) (bN (BV 7 (b2 getD (fM 14) bR)) (bW af 8 (b2 (bG .add) (fG 17 (cU (b2 getD (fM 14) iT) ai) lM g8 (cT (aC j4 (aC (bC (.bl ai)) aP))) ai) yN) af))
def c2s:FT:=bOr (bTr (b2 getD xK cR)) (bOr (bTB (b2 (cV (.ord .ge)) (b2 (bG .add) (aM fJ (aC vP aP)) (aM fJ (aC yN aP))) lJ)) (bTB (b2 (cV .eq) (b2 (bG .mod) mG G4) bR)))
def b1s:FS:=bN (BV 7 (b2 getD (b2 getD lK cR) bR)) (bW af 8 (zA (aC (cT (aC (b2 getD (b2 getD (b2 getD lK cR) iT) bR) (aC (bC (.bl ai)) aP))) aP)) af)
def c3s:FT:=bOr (bTB (b2 (cV (.ord .lt)) (b2 (bG .mod) mG G4) uY)) (bTB (b2 (cV .eq) (aM fJ (aC yO aP)) bR))
def c1s:FT:=Y6 (bTB (b2 (cV (.ord .lt)) (aM fJ (aC vP aP)) nO)) (bTB (b2 (cV .eq) (aM fJ (aC yN aP)) bR))
def wfit:FE:=aC3 17 3 lM (bTB (b2 (cV .eq) (b2 getD dG j4) (b2 getD xK bR))) j4
def wN:FS:=bN (bW af 7 (DY aP) af) (bN (bW af 8 (zA (aC (cT (aC iR (aC (bC (.bl ai)) aP))) aP)) af) (bN (aMv (bTB (b2 (cV (.ord .gt)) (aM fJ (aC yN aP)) bR)) (bN (aF7 8 9 bR) (bN (bW ai 10 (aM (bO 2 aK) (aC cO (aC (b2 (bG .add) cW (aM fJ (aC vP aP))) aP))) af) (bN (bW ai 11 wfit af) (bN (bW ai 12 (fG 17 (cU (b2 getD d8 bR) ai) lM (bTB (b2 (cV .eq) (b2 getD j4 cR) (b2 getD xK bR))) j4 ai) af) (bN (bW ai 13 (fG 17 (cU (b2 getD d8 cR) ai) lM (bTB (b2 (cV .eq) (b2 getD j4 cR) (b2 getD xK bR))) j4 ai) af) (sIf c1s b1s (sIf c2s b2s (sIf c3s b3s b4s))))))))) (oM (aM fO (aC vP aP)) ai)))
def dI:aa D->Res D:=fnS 7 17 wN
abbrev kI:bq:=top 28
noncomputable def PL:ag->au:=λi=>i==2
def inr:FS:=bN (bW ai 5 (b2 vQ (b2 getD iR iT) (b2 getD dG uY)) ai) (bN (bW ai 6 (aM (bO 2 aK) (aC cO (aC (b2 (bG .add) M7 (aM fJ (aC d8 aP))) aP))) af) (bN (bW ai 7 (fG 11 (lL (aC (aM fJ (aC lJ aP)) aP) vU) lM g8 (aM (bO 2 aX) (aC cO (aC (b2 (bG .add) aEk (b2 (bG .mod) (b2 (bG .add) nO iG) aEj)) aP))) af) af) (bN (bW ai 7 (aM fO (aC (b2 getD (DY (aC vP (aC (b1 aIs vP) aP))) (b2 (bG .mod) (b2 (bG .fdiv) nO aEj) iT)) aP)) ai) (bN (bW ai 8 (aM FP (aC vP (aC lJ aP))) af) (bN (bW ai 9 (aM (λds=>bO 7 dI (ds++[.int 0])) (aC cO (aC (b2 (bG .add) (bC (.int 100)) (b2 o6 aI5 (aM fJ (aC d8 aP)))) (aC cW (aC yN (aC (b2 getD dG cR) (aC aEj aP))))))) af) (BV 2 (cT (aC (b2 getD dG bR) (aC (b2 getD iR bR) (aC vP (aC xK aP)))))))))))
def irs:FS:=sIf (bTB (b2 (cV .eq) (b2 getD iR cR) (b2 getD dG iT))) inr vV
def wO:FS:=bN (bW af 2 (DY aP) af) (bN (G7 (cU (b2 getD cW cR) ai) (tg1 3) (G7 (cU (b2 getD cW bR) ai) (tg1 4) irs)) (bN (bW ai 10 (b2 (bG .mod) (aM (bO 2 aK) (aC cO (aC (bC (.int 35)) aP))) (aM max2 (aC cR (aC (aM fJ (aC d8 aP)) aP)))) af) (oM (aM fO (aC (b2 (bG .add) (aBv d8 (G5 mG) G6) (aBv d8 G6 (G5 mG))) aP)) ai)))
def kJ:aa D->Res D:=fnS 2 11 wO
abbrev iB:bq:=top 29
noncomputable def BZ:ag->au:=λi=>ai
def B_:FS:=bN (bW ai 1 (b2 (bG .add) cR (b2 (bG .mod) (aM (bO 2 aK) (aC cO (aC (bC (.int 39)) aP))) uY)) af) (bN (bW ai 2 (cT (aC (aM (bO 2 i_) (aC cO (aC cW aP))) (aC (aM (bO 2 jB) (aC cO (aC cW aP))) aP))) af) (bN (bW ai 3 (aM fO (aC (fG 4 (lL (aC cW aP) vU) lM g8 (aM (bO 2 aX) (aC cO (aC iR aP))) af) aP)) ai) (oM (cT (aC dG (aC (b2 getD d8 bR) (aC (b2 getD d8 cR) (aC (aM (bO 2 kJ) (aC cO (aC d8 aP))) aP))))) ai)))
def iC:aa D->Res D:=fnS 1 4 B_
abbrev nZ:bq:=top 30
noncomputable def PN:ag->au:=λi=>i==1
def PP:FS:=bN (bW af 1 (aJ3 (bC (.str "copy")) iT (bC (.str "drop")) bR) af) (bN (G7 (cU (b2 getD cO cR) ai) (tg1 2) (RX 1 (b2 getD d8 bR) (aM fJ (aC (b2 getD d8 iT) aP)))) (bN (G7 (cU (b2 getD cO iT) ai) (tg1 3) (RX 1 (b2 getD dG bR) (b2 (bG .add) (aM fJ (aC (b2 getD dG uY) aP)) cR))) (aAz 1)))
def kO:aa D->Res D:=fnS 1 4 PP
abbrev jY:bq:=top 31
noncomputable def T5:ag->au:=λi=>i==6||i==7||i==8
def aJp:FS:=bN (bW ai 11 (b2 (bG .add) (b2 o6 (b2 (bG .add) cR (b2 (bG .mod) (aM (bO 2 aK) (aC cO (aC (b2 (bG .add) cW xK) aP))) (b2 (bG .pow) Y5 (bC (.int 9))))) VJ) xK) af) (bN (bW ai 12 (aM aOx (aC (b2 inX mG lJ) aP)) af) (bN (aJ9 7 (xB1 fO ai (xB1 gY af (aJ0 (wK (cT (aC iG (aC lK aP))) (O7 (JN 8) (aGy))))))) (bN (BV 6 (cT (aC iG (aC mG aP)))) (bW af 8 (b2 (bG .add) (fG 13 (lL (aC (b2 (bG .add) (b2 getD iR mG) cR) aP) vU) lM (bTB (b2 (cV .ne) yO lK)) (cT (aC iG (aC yO aP))) ai) yN) af))))
def zK:FS:=bN (bW ai 4 (aM (bO 1 kO) (aC dG aP)) af) (bN (bW ai 5 (fG 13 (cU (b2 getD dG iT) ai) lM g8 (b2 getD yO bR) ai) af) (bN (bW af 6 (DY aP) af) (bN (bW af 7 (DY aP) af) (bN (bW af 8 (DY (aC (cT (aC bR (aC bR aP))) aP)) af) (bN (G7 (PJ d8) (tgN [9,10]) aJp) (oM (cT (aC (aM fO (aC (aM v7 (aC nO aP)) aP)) (aC (aM fO (aC (aM v7 (aC vP aP)) aP)) (aC bR aP)))) ai))))))
def d7:aa D->Res D:=fnS 4 13 zK
abbrev n6:bq:=top 32
noncomputable def PQ:ag->au:=λi=>ai
def PX:FS:=oM (aM (λds=>bO 7 dI (ds++[.int 0])) (aC cO (aC cW (aC (cT (aC (b2 getD d8 cR) (aC (cT aP) aP))) (aC (bC (.dct [])) (aC dG (aC (b2 (bG .add) cR (b2 (bG .mod) (aM (bO 2 aK) (aC cO (aC (bC (.int 63)) aP))) aE2)) aP))))))) af
def dJ:aa D->Res D:=fnS 4 4 PX
abbrev n8:bq:=top 33
noncomputable def P0:ag->au:=λi=>ai
def aJq:FS:=bW ai 3 (b2 vQ dG (aM (bO 4 dJ) (aC cO (aC (b2 (bG .add) (bC (.int 420)) (b2 o6 aI5 iR)) (aC cW (aC lJ aP)))))) ai
def P_:FS:=bN (bW ai 2 (b2 getD (b2 getD cW iT) (b2 (bG .mod) (aM (bO 2 aK) (aC cO (aC aI4 aP))) (aM fJ (aC (b2 getD cW iT) aP)))) ai) (bN (bW ai 3 (b2 vQ (cT (aC (b2 getD d8 bR) aP)) (aM (bO 4 dJ) (aC cO (aC aAv (aC cW (aC (b2 getD d8 iT) aP)))))) ai) (bN (G7 (PJ (b2 getD d8 uY)) (tgN [4,5]) aJq) (bN (sIf (bTB (b2 (cV .eq) (b2 (bG .mod) (aM (bO 2 aK) (aC cO (aC aAw aP))) iT) cR)) (bW ai 3 (b2 vQ (cT (aC (b2 getD (b2 getD (b2 getD cW cR) cR) bR) aP)) dG) ai) vV) (oM (aM (bO 4 d7) (aC cO (aC VJ (aC dG (aC cW aP))))) af))))
def kW:aa D->Res D:=fnS 2 6 P_
abbrev v8:bq:=top 16
noncomputable def Z0:ag->au:=λi=>i==1
def Z1:FS:=bN (bW af 1 (bC (.dct [])) af) (bN (G7 (cU (b2 getD cO cR) ai) (tgN [2,3]) (bN (RX 1 d8 dG) (RX 1 dG d8))) (aAz 1))
def oX:aa D->Res D:=fnS 1 4 Z1
abbrev gM:bq:=top 21
noncomputable def JX:ag->au:=λi=>i==5||i==6
def QB:FS:=bN (noE (aC8 ai 7 (x2R getD iR (vG 6)))) (bN (noE (bW ai 8 (bM aI6 dG (aC (b2 getD vP bR) aP)) ai)) (bN (sIf (noE (bOr (bTB (b2 (cV .notin) yN d8)) (bTB (b2 (cV .ne) (b2 getD vP cR) bR)))) (zG "NoValue") vV) (bN (noE (BV 5 yN)) (noE (aN4 6 (fG 9 (lL (aC (b2 getD d8 yN) (aC bR (aC (b1 aOw cR) aP))) aKs) lM g8 (cT (aC (b2 getD vP bR) (aC xK aP))) ai))))))
def mR:FS:=bN (noE (bW ai 2 (b1 WT (fG 9 (cU (b2 getD cO cR) ai) (aKn 3) g8 (cT (aC xK (aC (aM fJ (aC iG aP)) aP))) ai)) af)) (bN (noE (bW ai 3 (b1 JP (b2 getD cW bR)) af)) (bN (noE (bW ai 4 (aM (bO 1 oX) (aC cW aP)) af)) (bN (noE (bW af 5 (DY aP) af)) (bN (noE (bW af 6 (DY (aC (cT (aC bR (aC bR aP))) aP)) af)) (bN (aMv (noE (bTr nO)) QB) (noE (oM (aM fO (aC lJ aP)) ai)))))))
def cX:aa D->Res D:=fnS 2 9 mR
abbrev v_:bq:=top 11
noncomputable def Z2:ag->au:=λi=>i==1
def Z3:FS:=bN (bW af 1 (bC (.dct [])) af) (bN (G7 (cU (b2 getD cO cR) ai) (tgN [2,3,4]) (RX 1 d8 (cT (aC dG (aC iR aP))))) (bN (G7 (cU (b2 getD cO iT) ai) (tgN [2,3,5,6]) (RX 1 d8 (cT (aC dG (aC (b2 vQ (cT (aC lJ aP)) nO) aP))))) (aAz 1)))
def lY:aa D->Res D:=fnS 1 7 Z3
abbrev zL:bq:=top 13
noncomputable def aD0:ag->au:=λi=>ai
def aD1:FS:=bN (noE (sIf (bTB (b2 inX cW cO)) (oM (b2 getD cO cW) ai) vV)) (bN (noE (sIf (bTB (b2 inX cW d8)) (oM (cT (aC (b2 getD d8 cW) (aC (cT aP) aP))) ai) vV)) (nG "NoName" ["word"] (noE (aC cW aP))))
def vJ:aa D->Res D:=fnS 3 3 aD1
abbrev n_:bq:=top 12
noncomputable def QC:ag->au:=λi=>i==4
def aD2:FS:=bN (sIf (noE (aKl (bTr iR))) (nG "BadKind" ["word"] (noE (aC lJ aP))) vV) (bN (bW ai 6 (aM (bO 3 vJ) (noE (aC cO (aC lJ (aC dG aP))))) af) (bN (aGz (noE (xTB (x2R (cV .ne) (bPu (b2 getD nO bR)) (vG 4)))) (nG "BadKind" ["word"] (noE (aC lJ aP))) vV) (noE (aN4 4 (b1 aKr (b2 getD nO cR))))))
def wQ:FS:=bN (noE (bW af 4 (zA (aC d8 aP)) af)) (bN (xM 1 (noT (tg1 5)) aD2) (sIf (noE (bTr iR)) (nG "BadKind" ["word"] (noE (aC (bC (.str "")) aP))) vV))
def iM:aa D->Res D:=fnS 4 7 wQ
abbrev mU:bq:=top 18
noncomputable def T6:ag->au:=λi=>ai
def T7:FS:=oM (aM fJ (aC (fG 1 (cU cO ai) lM (bTB (b2 (cV .eq) (b2 getD cW bR) bR)) cW ai) aP)) af
def mV:aa D->Res D:=fnS 1 1 T7
abbrev zM:bq:=top 17
noncomputable def aD3:ag->au:=λi=>i==1
def aD4:FS:=bN (bW af 1 (DY aP) af) (bN (xM 0 (tgN [2,3]) (bN (BV 1 d8) (BV 1 dG))) (aAz 1))
def vK:aa D->Res D:=fnS 1 4 aD4
abbrev aJr:bq:=top 15
noncomputable def aQ9:ag->au:=λi=>ai
def aQa:FS:=oM (aM (bO 1 mV) (aC (aM (bO 1 vK) (aC (b2 getD cO cR) aP)) aP)) af
def Z4:aa D->Res D:=fnS 1 1 aQa
abbrev zN:bq:=top 20
noncomputable def aD5:ag->au:=λi=>ai
def aD6:FS:=bN (sIf (noE (bOr (bTB (b2 (cV .ne) (aM (bO 1 Z4) (aC cW aP)) cR)) (bTB (b2 (cV .ne) (b2 getD cW iT) bR)))) (zG "NoValue") vV) (bN (bW ai 2 (aM (bO 2 cX) (noE (aC cO (aC cW aP)))) af) (bN (sIf (noE (bTB (b2 (cV .ne) (aM fJ (aC d8 aP)) (aM fJ (aC (b2 getD cW bR) aP))))) (zG "NoValue") vV) (bN (aFn (bN (noE (bW ai 3 (aM (bO 1 lY) (aC cO aP)) af)) (M8 (aM (bO 4 iM) (noE (aC dG (aC d8 (aC (b2 getD (b2 getD dG (b2 getD d8 bR)) bR) (aC (bC (.dct [])) aP)))))))) "BadKind" "NoValue") (noE (oM d8 ai)))))
def dF:aa D->Res D:=fnS 2 4 aD6
abbrev jC:bq:=top 34
noncomputable def JZ:ag->au:=λi=>i==7
def aJs:FS:=sIf (bTB (b2 (cV .eq) yN (cT (aC bR (aC bR aP))))) (BV 7 (cT (aC (cT (aC bR (aC cR aP))) (aC (cT (aC (b2 (bG .add) (b2 getD xK bR) lJ) (aC (b2 getD xK cR) aP))) aP)))) (BV 7 (cT (aC (cT (aC (b2 (bG .add) (b2 getD yN bR) lJ) (aC (b2 getD yN cR) aP))) (aC (cT (aC (b2 (bG .add) (b2 getD xK bR) lJ) (aC (b2 getD xK cR) aP))) aP))))
def J0:FS:=bN (bW ai 3 (aM (bO 4 dJ) (aC cO (aC (bC (.int 440)) (aC d8 (aC (b2 getD (b2 getD d8 bR) bR) aP))))) af) (bN (bW ai 4 (aM (bO 4 d7) (aC cO (aC (bC (.int 600)) (aC dG (aC d8 aP))))) af) (bN (bW ai 5 (b2 (bG .pow) Y5 aEm) af) (bN (bW ai 6 (b2 vQ (b2 getD cW bR) (aM fO (aC (fG 10 (cU (b2 getD iR bR) ai) (aKn 2) g8 (cT (aC (b2 (bG .add) mG lJ) (aC iG aP))) ai) aP))) ai) (bN (bW af 7 (aM Y7 (aC (b2 getD cW cR) aP)) af) (bN (G7 (cU (b2 getD iR cR) ai) (tgN [8,9]) aJs) (oM (cT (aC nO (aC (aM fO (aC (aM v7 (aC vP aP)) aP)) (aC bR aP)))) ai))))))
def jD:aa D->Res D:=fnS 3 10 J0
abbrev jE:bq:=top 35
noncomputable def J1:ag->au:=λi=>ai
def J2:FS:=bN (bW ai 3 (b2 (bG .pow) Y5 aEm) af) (bN (sIf (bTB (b2 (cV .eq) (b2 (bG .mod) (aM (bO 2 aK) (aC cO (aC aAw aP))) iT) cR)) (bN (bW ai 4 (b2 getD (fG 5 (cU (b2 getD d8 cR) ai) lM (bTB (b2 (cV .eq) (b2 getD lJ iT) (cT aP))) (b2 getD lJ bR) ai) bR) ai) (oM (cT (aC (b2 vQ (b2 getD cW bR) (cT (aC (cT (aC dG (aC iR aP))) (aC (cT (aC (b2 (bG .add) dG cR) (aC (bC (.str "drop")) aP))) aP)))) (aC (b2 vQ (b2 getD cW cR) (cT (aC (cT (aC (cT (aC dG (aC bR aP))) (aC (cT (aC (b2 (bG .add) dG cR) (aC bR aP))) aP))) aP))) (aC bR aP)))) ai)) vV) (oM (cT (aC (b2 vQ (b2 getD cW bR) (cT (aC (cT (aC dG (aC (b2 getD (b2 getD (b2 getD d8 cR) cR) bR) aP))) aP))) (aC (b2 vQ (b2 getD cW cR) (cT (aC (cT (aC (cT (aC dG (aC bR aP))) (aC (cT (aC dG (aC cR aP))) aP))) aP))) (aC bR aP)))) ai))
def jF:aa D->Res D:=fnS 3 5 J2
abbrev mW:bq:=top 36
noncomputable def J3:ag->au:=λi=>ai
def J4:FS:=bN (bW ai 2 (b2 (bG .pow) Y5 aEm) af) (bN (bW ai 3 (b2 (bG .mod) (aM (bO 2 aK) (aC cO (aC aAw aP))) (aM fJ (aC (b2 getD cW cR) aP))) af) (bN (aPr (b2 getD (b2 getD cW cR) dG) (tgN [4,5])) (bN (sIf (bOr (bTB (b2 (cV .eq) (b2 getD iR bR) bR)) (bTB (b2 (cV (.ord .gt)) (b2 getD iR cR) bR))) (aQp 4 5 (aC lJ (aC iR aP))) vV) (bN (bW ai 6 (aM Y7 (aC (b2 vQ (aBv (b2 getD cW cR) G6 (G5 dG)) (aBv (b2 getD cW cR) (G5 (b2 (bG .add) dG cR)) G6)) aP)) af) (bN (bW ai 6 (b2 (bG .add) nO (zA (aC (cT (aC iR (aC (cT (aC d8 (aC bR aP))) aP))) (aC (cT (aC lJ (aC (cT (aC d8 (aC cR aP))) aP))) (aC (cT (aC (cT (aC d8 (aC iT aP))) (aC (cT (aC (b2 (bG .add) d8 cR) (aC bR aP))) aP))) aP))))) af) (oM (cT (aC (b2 vQ (b2 getD cW bR) (cT (aC (cT (aC d8 (aC (bC (.str "copy")) aP))) (aC (cT (aC (b2 (bG .add) d8 cR) (aC (bC (.str "drop")) aP))) aP)))) (aC (aM fO (aC (aM v7 (aC nO aP)) aP)) (aC bR aP)))) ai))))))
def jG:aa D->Res D:=fnS 2 7 J4
abbrev oA:bq:=top 37
noncomputable def QD:ag->au:=λi=>ai
def QF:FS:=bN (bW ai 2 (b2 getD (b2 getD cW bR) bR) ai) (bN (sIf (bTB (b2 (cV .eq) (b2 getD (b2 getD (b2 getD (b2 getD cW cR) cR) iT) bR) d8)) (bW ai 2 (b2 getD (b2 getD cW bR) cR) ai) vV) (bN (bW ai 3 (b2 vQ (cT (aC (b2 getD (b2 getD (b2 getD cW cR) cR) bR) aP)) (aM (λds=>bO 7 dI (ds++[.int 0])) (aC cO (aC (bC (.int 460)) (aC (cT (aC (b2 getD cW cR) (aC (cT aP) aP))) (aC (bC (.dct [])) (aC d8 (aC bR aP)))))))) ai) (oM (aM (bO 4 d7) (aC cO (aC VJ (aC dG (aC cW aP))))) af)))
def kY:aa D->Res D:=fnS 2 4 QF
abbrev J5:bq:=top 38
noncomputable def o_law:ag->au:=λi=>ai
def aQs:FS:=sIf (Y6 (bTB (b2 (cV .eq) iR cR)) (bTB (b2 (cV (.ord .gt)) (aM fJ (aC (b2 getD cW iT) aP)) bR))) (bW ai 3 (aM (bO 2 kW) (aC cO (aC cW aP))) af) (sIf (bTB (b2 (cV .eq) iR iT)) (bW ai 3 (aM (bO 3 jD) (aC cO (aC dG (aC cW aP)))) af) (sIf (bTB (b2 (cV .eq) iR uY)) (bW ai 3 (aM (bO 3 jF) (aC cO (aC dG (aC cW aP)))) af) (sIf (bTB (b2 (cV .eq) iR G4)) (bW ai 3 (aM (bO 2 jG) (aC cO (aC dG aP))) af) (sIf (bTB (b2 (cV .eq) iR aPg)) (bW ai 3 (cT (aC (cT aP) (aC (cT aP) (aC bR aP)))) af) (sIf (Y6 (bTB (b2 (cV .eq) iR aEj)) (bTB (b2 (cV (.ord .gt)) (aM fJ (aC (b2 getD cW bR) aP)) cR))) (bW ai 3 (aM (bO 2 kY) (aC cO (aC cW aP))) af) (bW ai 3 (cT (aC (b2 getD dG bR) (aC (b2 getD dG cR) (aC (b2 (bG .add) cR (b2 (bG .mod) (aM (bO 2 aK) (aC cO (aC (bC (.int 65)) aP))) (b2 (bG .pow) Y5 (bC (.int 9))))) aP)))) ai))))))
def lend:FS:=bN (bW ai 5 (bC .non) af) (bN (aQ2 dF 2 (aC cW (aC dG aP)) ["NoValue"] 5 6) (bN (sIf (bOr (bTr (aE5 [("NoValue",ai)] 5)) (bOr (bTr (aE5 [("NoValue",ai)] 5)) (bTr (aE5 [("NoValue",ai)] 5)))) (oM (bC (.bl ai)) af) vV) (bN (sIf (bOr (bTr (aE5 [("NoValue",ai)] 5)) (bOr (bTr (aE5 [("NoValue",ai)] 5)) (bTr (aE5 [("NoValue",ai)] 5)))) (oM (bC (.bl ai)) af) vV) (oM (aAx (aE5 [("NoValue",af)] 5) (aE5 [("NoValue",af)] 5)) af))))
def aNp:FS:=bN (bW ai 1 (aM (bO 1 iC) (aC cO aP)) af) (bN (bW ai 2 (b2 getD (b2 getD cW bR) (b2 (bG .mod) (aM (bO 2 aK) (aC cO (aC (bC (.int 60)) aP))) (aM fJ (aC (b2 getD cW bR) aP)))) ai) (bN (bW ai 3 (aM (bO 4 d7) (aC cO (aC VJ (aC (aM (bO 4 dJ) (aC cO (aC aAv (aC cW (aC d8 aP))))) (aC cW aP))))) af) (bN (bW ai 4 (b2 (bG .mod) (aM (bO 2 aK) (aC cO (aC (bC (.int 62)) aP))) aM5) af) (bN aQs lend))))
def Z5:aa D->Res D:=fnS 1 7 aNp
abbrev mX:bq:=aNl (top 8) 0
abbrev jZ:bq:=aNl (top 9) 0
noncomputable abbrev zO:aa Str:=["script","k","cell","mixed"]
noncomputable abbrev zP:aa Str:=["script","i","letters","draw","pad","place","tail"]
noncomputable abbrev jH:aa Str:=["script","many","makers","j","first","i","draw","size","things"]
noncomputable abbrev jJ:aa Str:=["script","many","takers","i","draw","more","kinds"]
noncomputable abbrev b8:aa Str:=["script","at","book","known","kind","most","least","words","wanted","here","draw","fit","own","able","maker","taker","leaf"]
noncomputable abbrev k_:aa Str:=["script","book","rules","taker","maker","kinds","draw","names","known","words","at"]
noncomputable abbrev iD:aa Str:=["script","many","book","kinds"]
noncomputable abbrev wR:aa Str:=["program","stock","maker","taker"]
noncomputable abbrev g_:aa Str:=["script","at","words","program","stock","takers","pieces","ties","waiting","k","word","number","giver"]
noncomputable abbrev wU:aa Str:=["script","at","program","kind"]
noncomputable abbrev wV:aa Str:=["script","program","taker","words","k","kind"]
noncomputable abbrev FW:aa Str:=["net","mates","one","other"]
noncomputable abbrev dX:aa Str:=["program","net","sides","names","mates","found","waiting","end","name"]
noncomputable abbrev FZ:aa Str:=["program","heads","name","kind","parts","taken","more"]
noncomputable abbrev QG:aa Str:=["heads","word","known"]
noncomputable abbrev wW:aa Str:=["heads","words","wanted","known","waiting","word","head"]
noncomputable abbrev mY:aa Str:=["ends"]
noncomputable abbrev QH:aa Str:=["ties","ends","one","other"]
noncomputable abbrev aNq:aa Str:=["net"]
noncomputable abbrev QJ:aa Str:=["program","net","words","heads"]
noncomputable abbrev gP:aa Str:=["script","net","program","words","other","far","pieces","ties","one","two"]
noncomputable abbrev jK:aa Str:=["script","net","program","far","leaf"]
noncomputable abbrev vL:aa Str:=["script","net","far","at","giver","place","ties"]
noncomputable abbrev wX:aa Str:=["script","program","part","words"]
noncomputable abbrev aNr:aa Str:=["script","program","kind","net","case","caught","e"]
theorem QK:bY zO ["script","k"] (aO sS):=0xa
theorem J6[KFrag]{P:bh}{w:bd}{K:Frag}{mg:Str->aq ak}{base:ay}{fad:am}{fd:cj}(hK:KFrag.K=K)(B:Bt mg)(F:Fun K "_law_draw" "_law_draw" sS fad fd)(hm:mg "_law_draw"=ae (.ref fad)):cL P w K mg base 1 "_law_draw" 2 aK:=by
 have sc:=QK;have nd:=sc.nd;refine gG (ps:=["script","k"]) (N:=zO) (k:=0) F hm (F.binds λ_ _ _ _ _ _ us hl=>by obtain⟨_,_,rfl⟩:=l2 hl;rfl) sc TX 0x4 0x4 λcdv A outer s H E hr=>?_
 have hu:=xN hr;exact aJ (aY (i:=2) (o:=ai) rfl sc.nd rfl 0x0 aF) (aJ (iW (b_ (HR hu) (bK (dO hK) 0x3 B.len dR (aA (aD (i:=0)) aG)) aF (cF _)) (aV (aY (i:=2) (o:=ai) rfl sc.nd rfl 0x0 (aU cA (aW (aD (i:=0)) (aU cA (aD (i:=1)) (bK (dO hK) 0x3 B.len dR (aA (aD (i:=0)) aG)))) aF))) fX) (aJ (aY (i:=3) (o:=ai) rfl sc.nd rfl 0x0 (aU cA (aU gH (aU bU (aU bU (aD (i:=2)) aF) (aU gH aF (aU fV (aD (i:=1)) (bK (TF 0x3) 0x3 B.max aBt (aA aF (aA (bK (dO hK) 0x3 B.len dR (aA (aD (i:=0)) aG)) aG)))))) aF) aF)) (aV (eN (aU cA (aU gH (aD (i:=3)) (aD (i:=3))) aF)))))
theorem QL:bY zP ["script","i"] (aO sV):=0xa
theorem J7[KFrag]{P:bh}{w:bd}{K:Frag}{mg:Str->aq ak}{base:ay}{fad:am}{fd:cj}(hK:KFrag.K=K)(B:Bt mg)(p5:cL P w K mg base 1 "_law_draw" 2 aK)(F:Fun K "_law_word" "_law_word" sV fad fd)(hm:mg "_law_word"=ae (.ref fad)):cL P w K mg base 2 "_law_word" 2 aX:=by
 have sc:=QL;have nd:=sc.nd;refine gG (ps:=["script","i"]) (N:=zP) (k:=1) F hm (F.binds λ_ _ _ _ _ _ us hl=>by obtain⟨_,_,rfl⟩:=l2 hl;rfl) sc TY 0x4 0x4 λcdv A outer s H E hr=>?_
 have hu:=xN hr;exact aJ (aY (i:=2) (o:=ai) rfl sc.nd rfl 0x0 o_) (aJ (iW (PW.pt (NB (b_ (WL hu) (aD (i:=1)) (bB (aA aF (aA aF aG))) 0x5) (yS (b_ (jQ hu) (aU cA (aR p5 hr 0x4 0x3 (aA (aD (i:=0)) (aA aF aG))) aF) aF (cF _))))) (aV (eN (aU bU (aW (j_ (aA o_ (aA o_ aG))) (aU fV (aD (i:=1)) aF)) (aW (aD (i:=2)) (aU cA (aR p5 hr 0x4 0x3 (aA (aD (i:=0)) (aA aF aG))) aF))))) fX) (aJ (aY (i:=3) (o:=ai) rfl sc.nd rfl 0x0 (aR p5 hr 0x4 0x3 (aA (aD (i:=0)) (aA aF aG)))) (aJ (aY (i:=4) (o:=ai) rfl sc.nd rfl 0x0 (aW (j_ (aA (aW (aD (i:=2)) (aU cA (aD (i:=3)) aF)) (aA (aW o_ (aU cA (aU fV (aD (i:=3)) aF) aF)) aG))) (aU cA (aU fV (aD (i:=3)) aF) aF))) (aJ (aY (i:=5) (o:=ai) rfl sc.nd rfl 0x0 (aU cA (aR p5 hr 0x4 0x3 (aA (aD (i:=0)) (aA aF aG))) aF)) (aJ (aY (i:=6) (o:=ai) rfl sc.nd rfl 0x0 (aU cA (aR p5 hr 0x4 0x3 (aA (aD (i:=0)) (aA aF aG))) (aU aBh aF (aD (i:=5))))) (aJ (iW (b_ (jQ hu) (aU cA (aU fV (aR p5 hr 0x4 0x3 (aA (aD (i:=0)) (aA aF aG))) aF) aF) aF (cF _)) (aV (aY (i:=6) (o:=ai) rfl sc.nd rfl 0x0 (aU cA (aR p5 hr 0x4 0x3 (aA (aD (i:=0)) (aA (aU bU aF (aD (i:=1))) aG))) (aU aBh aF (aD (i:=5)))))) fX) (aV (eN (aU bU (aU bU (aU gH (aD (i:=4)) (aD (i:=5))) (aW (aD (i:=2)) (aU cA (aU bU (aD (i:=1)) (aR p5 hr 0x4 0x3 (aA (aD (i:=0)) (aA aF aG)))) aF))) (aU gH (aD (i:=4)) (aD (i:=6))))))))))))
theorem CG:bY jH ["script","many"] (aO iZ):=0xa
theorem zQ[KFrag]{P:bh}{w:bd}{K:Frag}{mg:Str->aq ak}{base:ay}{fad:am}{fd:cj}(hK:KFrag.K=K)(B:Bt mg)(p5:cL P w K mg base 1 "_law_draw" 2 aK)(p9:cL P w K mg base 2 "_law_word" 2 aX)(F:Fun K "_law_makers" "_law_makers" iZ fad fd)(hm:mg "_law_makers"=ae (.ref fad)):cL P w K mg base 3 "_law_makers" 2 i_:=by
 have sc:=CG;have nd:=sc.nd;refine gG (ps:=["script","many"]) (N:=jH) (k:=2) F hm (F.binds λ_ _ _ _ _ _ us hl=>by obtain⟨_,_,rfl⟩:=l2 hl;rfl) sc JS 0x4 0x4 λcdv A outer s H E hr=>?_
 have hu:=xN hr;exact aJ (aY (i:=2) (o:=af) rfl sc.nd rfl 0x0 (j_ aG)) (aJ (lR gp rfl (sJ 0x3 B.range (aA (aD (i:=1)) aG)) (nR (i:=3) rfl) (bJ (i:=3) sc.nd rfl 0x0) (aJ (aY (i:=4) (o:=ai) rfl sc.nd rfl 0x0 (bB aG)) (aJ (iW (PW.pt (NB (b_ (HR hu) (aD (i:=3)) aF (cF _)) (yS (b_ (HR hu) (aU cA (aU fV (aR p5 hr 0x4 0x3 (aA (aD (i:=0)) (aA aF aG))) (aD (i:=3))) aF) aF (cF _))))) (aV (aY (i:=4) (o:=ai) rfl sc.nd rfl 0x0 (bB (aA (aR p9 hr 0x4 0x3 (aA (aD (i:=0)) (aA aF aG))) aG)))) fX) (aJ (kE (i:=2) rfl rfl 0x0 (bB (aA (aR p9 hr 0x4 0x3 (aA (aD (i:=0)) (aA (aU bU aF (aU gH aF (aD (i:=3)))) aG))) (aA (aR p9 hr 0x4 0x3 (aA (aD (i:=0)) (aA (aD (i:=3)) aG))) (aA (aD (i:=4)) aG))))) (aV (lR gp rfl (aIk 0x3 B.range (aA aF (aA (aU bU aF (aU cA (aR p5 hr 0x4 0x3 (aA (aD (i:=0)) (aA (aU bU aF (aU gH aF (aD (i:=3)))) aG))) aF)) aG))) (nR (i:=5) rfl) (bJ (i:=5) sc.nd rfl 0x0) (aJ (aY (i:=6) (o:=ai) rfl sc.nd rfl 0x0 (aR p5 hr 0x4 0x3 (aA (aD (i:=0)) (aA (aU bU (aU bU aF (aU gH aF (aD (i:=3)))) (aD (i:=5))) aG)))) (aJ (aY (i:=7) (o:=ai) rfl sc.nd rfl 0x0 (aW (j_ (aA aF (aA (aU cA (aD (i:=6)) aF) aG))) (aU aBh (aD (i:=5)) aF))) (aJ (aY (i:=8) (o:=ai) rfl sc.nd rfl 0x0 (cY d_ 0x3 B.tuple eG (aA (iY (ownN:=(["p"]:aa Str)) (show c7 jH (aO iZ) _ (["p"]:aa Str) from 0x9) (n:=9) (m:=1) rfl rfl rfl (sJ 0x3 B.range (aA (aD (i:=7)) aG)) (fW 9) (λ_=>bJ (i:=9) (show((eg (gU (["p"]:aa Str)) jH++(["p"]:aa Str)):aa Str).Nodup from 0x6) rfl 0x0) (λ_=>aR p9 hr 0x4 0x3 (aA (aD (i:=0)) (aA (aU cA (aU fV (aD (i:=6)) (aU bU aF (aU gH aF (aD (i:=9))))) (aD (i:=1))) aG))) (λ_=>rfl)) aG))) (aV (kE (i:=2) rfl rfl 0x0 (bB (aA (aR p9 hr 0x4 0x3 (aA (aD (i:=0)) (aA (aU bU (aU bU aF (aU gH aF (aD (i:=3)))) (aD (i:=5))) aG))) (aA (aR p9 hr 0x4 0x3 (aA (aD (i:=0)) (aA (aD (i:=3)) aG))) (aA (aD (i:=8)) aG))))))))))))))) (aV (eN (cY d_ 0x3 B.tuple eG (aA (aD (i:=2)) aG)))))
theorem CJ:bY jJ ["script","many"] (aO jA):=0xa
theorem zR[KFrag]{P:bh}{w:bd}{K:Frag}{mg:Str->aq ak}{base:ay}{fad:am}{fd:cj}(hK:KFrag.K=K)(B:Bt mg)(p5:cL P w K mg base 1 "_law_draw" 2 aK)(p9:cL P w K mg base 2 "_law_word" 2 aX)(F:Fun K "_law_takers" "_law_takers" jA fad fd)(hm:mg "_law_takers"=ae (.ref fad)):cL P w K mg base 3 "_law_takers" 2 jB:=by
 have sc:=CJ;have nd:=sc.nd;refine gG (ps:=["script","many"]) (N:=jJ) (k:=2) F hm (F.binds λ_ _ _ _ _ _ us hl=>by obtain⟨_,_,rfl⟩:=l2 hl;rfl) sc JV 0x4 0x4 λcdv A outer s H E hr=>?_
 have hu:=xN hr;exact aJ (aY (i:=2) (o:=af) rfl sc.nd rfl 0x0 (j_ aG)) (aJ (lR gp rfl (sJ 0x3 B.range (aA (aU cA (aR p5 hr 0x4 0x3 (aA (aD (i:=0)) (aA aF aG))) aF) aG)) (nR (i:=3) rfl) (bJ (i:=3) sc.nd rfl 0x0) (aJ (aY (i:=4) (o:=ai) rfl sc.nd rfl 0x0 (aR p5 hr 0x4 0x3 (aA (aD (i:=0)) (aA (aU bU aF (aD (i:=3))) aG)))) (aJ (aY (i:=5) (o:=ai) rfl sc.nd rfl 0x0 (cY d_ 0x3 B.tuple eG (aA (iY (ownN:=(["p"]:aa Str)) (show c7 jJ (aO jA) _ (["p"]:aa Str) from 0x9) (n:=7) (m:=1) rfl rfl rfl (sJ 0x3 B.range (aA (aU cA (aU fV (aD (i:=4)) aF) aF) aG)) (fW 7) (λ_=>bJ (i:=7) (show((eg (gU (["p"]:aa Str)) jJ++(["p"]:aa Str)):aa Str).Nodup from 0x6) rfl 0x0) (λ_=>aR p9 hr 0x4 0x3 (aA (aD (i:=0)) (aA (aU cA (aU fV (aD (i:=4)) (aU bU aF (aU gH aF (aD (i:=7))))) (aD (i:=1))) aG))) (λ_=>rfl)) aG))) (aJ (aY (i:=6) (o:=ai) rfl sc.nd rfl 0x0 (bB (aA (aR p9 hr 0x4 0x3 (aA (aD (i:=0)) (aA (aU cA (aD (i:=4)) (aD (i:=1))) aG))) (aA (aR p9 hr 0x4 0x3 (aA (aD (i:=0)) (aA (aU cA (aU fV (aD (i:=4)) aF) (aD (i:=1))) aG))) aG)))) (aV (kE (i:=2) rfl rfl 0x0 (aU fZ (aU fZ (bB (aA (aR p9 hr 0x4 0x3 (aA (aD (i:=0)) (aA (aU bU aF (aD (i:=3))) aG))) aG)) (aD (i:=6))) (bB (aA (aD (i:=5)) aG))))))))) (aV (eN (cY d_ 0x3 B.tuple eG (aA (aD (i:=2)) aG)))))
theorem J8:bY b8 ["script","at","book","known","kind","most","least"] (aO cQ):=0xa
theorem CK[KFrag]{P:bh}{w:bd}{K:Frag}{mg:Str->aq ak}{base:ay}{fad:am}{fd:cj}(hK:KFrag.K=K)(B:Bt mg)(p5:cL P w K mg base 1 "_law_draw" 2 aK){T:am}{its:aE ak}(F:aPs K "_law_words" "_law_words" cQ fad fd T its):xU P w K mg base CX0 2 fad fd ["script","at","book","known","kind","most","least"] (spD dI 7):=by
 have sc:=J8;have nd:=sc.nd;refine aMt (ps:=["script","at","book","known","kind","most","least"]) (N:=b8) (k:=1) F sc PK 0x4 λcdv A outer s H E hr=>?_
 have hu:=xN hr
 exact aJ (aY (i:=7) (o:=af) rfl sc.nd rfl 0x0 (j_ aG)) (aJ (aY (i:=8) (o:=af) rfl sc.nd rfl 0x0 (v5 (aA (bB (aA (aD (i:=4)) (aA R9 aG))) aG))) (aJ (aMx gp (b_ (HR hu) (bK (dO hK) 0x3 B.len dR (aA (aD (i:=8)) aG)) aF (cF _)) (aJ (aIu (i:=8) (j:=9) rfl rfl 0x0 sc.nd rfl 0x0 rfl aF) (aJ (aY (i:=10) (o:=ai) rfl sc.nd rfl 0x0 (aR p5 hr 0x4 0x3 (aA (aD (i:=0)) (aA (aU bU (aD (i:=1)) (bK (dO hK) 0x3 B.len dR (aA (aD (i:=7)) aG))) aG)))) (aJ (aFb (show c7 b8 (aO cQ) _ (["x"]:aa Str) from 0x9) (n:=17) (i:=3) rfl rfl rfl 0x0 (λ_=>bJ (i:=17) (show((eg (gU (["x"]:aa Str)) b8++(["x"]:aa Str)):aa Str).Nodup from 0x6) rfl 0x0) (λ_=>b_ (jQ hu) (aW (aD (i:=3)) (aD (i:=17))) (aW (aD (i:=9)) aF) (cF _)) (λ_=>aD (i:=17)) (λ_=>rfl) (iy:=11) (o:=ai) rfl sc.nd rfl 0x0 (ms rfl) 0x5) (aJ (E_ (ownN:=(["x"]:aa Str)) (show c7 b8 (aO cQ) _ (["x"]:aa Str) from 0x9) (n:=17) (m:=1) rfl rfl rfl (eU (aW (aD (i:=2)) aF)) (fW 17) (λ_=>bJ (i:=17) (show((eg (gU (["x"]:aa Str)) b8++(["x"]:aa Str)):aa Str).Nodup from 0x6) rfl 0x0) (λ_=>b_ (jQ hu) (aW (aD (i:=17)) aF) (aW (aD (i:=9)) aF) (cF _)) (λ_=>aD (i:=17)) (λ_=>rfl) (iy:=12) (o:=ai) rfl sc.nd rfl 0x0 (ms rfl) 0x5) (aJ (E_ (ownN:=(["x"]:aa Str)) (show c7 b8 (aO cQ) _ (["x"]:aa Str) from 0x9) (n:=17) (m:=1) rfl rfl rfl (eU (aW (aD (i:=2)) aF)) (fW 17) (λ_=>bJ (i:=17) (show((eg (gU (["x"]:aa Str)) b8++(["x"]:aa Str)):aa Str).Nodup from 0x6) rfl 0x0) (λ_=>b_ (jQ hu) (aW (aD (i:=17)) aF) (aW (aD (i:=9)) aF) (cF _)) (λ_=>aD (i:=17)) (λ_=>rfl) (iy:=13) (o:=ai) rfl sc.nd rfl 0x0 (ms rfl) 0x5) (aV (iW (PW.pt (NB (b_ (aMf hu) (bK (dO hK) 0x3 B.len dR (aA (aD (i:=7)) aG)) (aD (i:=6)) (cF _)) (yS (b_ (jQ hu) (bK (dO hK) 0x3 B.len dR (aA (aD (i:=8)) aG)) aF (cF _))))) (aJ (kE (i:=7) rfl rfl 0x0 (aW (aW (aD (i:=12)) aF) aF)) (aV (aY (i:=8) (o:=af) rfl sc.nd rfl 0x0 (v5 (aA (bB (aA (aW (aW (aW (aD (i:=12)) aF) aF) aF) (aA R9 aG))) aG))))) (aV (iW (PW.pt (BW (p_ (aW (aD (i:=9)) aF)) (BW (b_ (aPj hu) (aU bU (bK (dO hK) 0x3 B.len dR (aA (aD (i:=7)) aG)) (bK (dO hK) 0x3 B.len dR (aA (aD (i:=8)) aG))) (aD (i:=5)) (cF _)) (yU (b_ (jQ hu) (aU cA (aD (i:=10)) aF) aF (cF _)))))) (aJ (kE (i:=7) rfl rfl 0x0 (aW (aU bU (aD (i:=11)) (v5 (aA (aW (aW (aD (i:=12)) aF) aF) aG))) (aU cA (aU fV (aD (i:=10)) aF) (bK (TF 0x3) 0x3 B.max aBt (aA aF (aA (bK (dO hK) 0x3 B.len dR (aA (aD (i:=11)) aG)) aG)))))) (aV (iW (b_ (jQ hu) (bK (dO hK) 0x3 B.len dR (aA (aD (i:=11)) aG)) aF (cF _)) (aV (aY (i:=8) (o:=af) rfl sc.nd rfl 0x0 (aU bU (iY (ownN:=(["x"]:aa Str)) (show c7 b8 (aO cQ) _ (["x"]:aa Str) from 0x9) (n:=17) (m:=1) rfl rfl rfl (eU (aW (aW (aD (i:=12)) aF) aF)) (fW 17) (λ_=>bJ (i:=17) (show((eg (gU (["x"]:aa Str)) b8++(["x"]:aa Str)):aa Str).Nodup from 0x6) rfl 0x0) (λ_=>bB (aA (aD (i:=17)) (aA R9 aG))) (λ_=>rfl)) (aD (i:=8))))) fX))) (aV (iW (PW.pt (BW (b_ (aMf hu) (aU cA (aD (i:=10)) aF) aF (cF _)) (yU (b_ (jQ hu) (bK (dO hK) 0x3 B.len dR (aA (aD (i:=13)) aG)) aF (cF _))))) (aJ (aY (i:=14) (o:=ai) rfl sc.nd rfl 0x0 (aW (aD (i:=12)) (aU cA (aU fV (aD (i:=10)) aF) (bK (dO hK) 0x3 B.len dR (aA (aD (i:=12)) aG))))) (aJ (kE (i:=7) rfl rfl 0x0 (aW (aD (i:=14)) aF)) (aV (aY (i:=8) (o:=af) rfl sc.nd rfl 0x0 (aU bU (iY (ownN:=(["x"]:aa Str)) (show c7 b8 (aO cQ) _ (["x"]:aa Str) from 0x9) (n:=17) (m:=1) rfl rfl rfl (eU (aW (aD (i:=14)) aF)) (fW 17) (λ_=>bJ (i:=17) (show((eg (gU (["x"]:aa Str)) b8++(["x"]:aa Str)):aa Str).Nodup from 0x6) rfl 0x0) (λ_=>bB (aA (aD (i:=17)) (aA R9 aG))) (λ_=>rfl)) (aD (i:=8))))))) (aJ (aY (i:=15) (o:=ai) rfl sc.nd rfl 0x0 (aW (aD (i:=13)) (aU cA (aU fV (aD (i:=10)) aF) (bK (dO hK) 0x3 B.len dR (aA (aD (i:=13)) aG))))) (aJ (kE (i:=7) rfl rfl 0x0 (aW (aD (i:=15)) aF)) (aJ (aY (i:=16) (o:=ai) rfl sc.nd rfl 0x0 (aGo (aBf (HR hu) (bK (aIt hK) 0x3 B.len dR (aA (aD (i:=3)) aG)) aF (cF _)) (aGm (aBf (HR hu) (aU cA (aU fV (aD (i:=10)) aF) aF) aF (cF _))))) (aV (aY (i:=8) (o:=af) rfl sc.nd rfl 0x0 (aU bU (aU bU (v5 (aA (bB (aA (aW (aD (i:=15)) aF) (aA (aD (i:=16)) aG))) aG)) (iY (ownN:=(["x"]:aa Str)) (show c7 b8 (aO cQ) _ (["x"]:aa Str) from 0x9) (n:=17) (m:=1) rfl rfl rfl (eU (aW (aD (i:=15)) aF)) (fW 17) (λ_=>bJ (i:=17) (show((eg (gU (["x"]:aa Str)) b8++(["x"]:aa Str)):aa Str).Nodup from 0x6) rfl 0x0) (λ_=>bB (aA (aD (i:=17)) (aA R9 aG))) (λ_=>rfl))) (aD (i:=8)))))))))))))))))))) (aV (eN (cY d_ 0x3 B.tuple eG (aA (aD (i:=7)) aG))))))
theorem J9:bY k_ ["script","book"] (aO kI):=0xa
theorem CN[KFrag]{P:bh}{w:bd}{K:Frag}{mg:Str->aq ak}{base:ay}{fad:am}{fd:cj}(hK:KFrag.K=K)(B:Bt mg)(p5:cL P w K mg base 1 "_law_draw" 2 aK)(p9:cL P w K mg base 2 "_law_word" 2 aX)(pz:aMu P w K mg base 2 "_law_words" "least" 6 (.int 0) dI)(F:Fun K "_law_rules" "_law_rules" kI fad fd)(hm:mg "_law_rules"=ae (.ref fad)):cL P w K mg base 3 "_law_rules" 2 kJ:=by
 have sc:=J9;have nd:=sc.nd;refine gG (ps:=["script","book"]) (N:=k_) (k:=2) F hm (F.binds λ_ _ _ _ _ _ us hl=>by obtain⟨_,_,rfl⟩:=l2 hl;rfl) sc PL 0x4 0x4 λcdv A outer s H E hr=>?_
 have hu:=xN hr;exact aJ (aY (i:=2) (o:=af) rfl sc.nd rfl 0x0 (j_ aG)) (aJ (lR gp rfl (eU (aW (aD (i:=1)) aF)) (nR (i:=3) rfl) (bJ (i:=3) sc.nd rfl 0x0) (aV (lR gp rfl (eU (aW (aD (i:=1)) aF)) (nR (i:=4) rfl) (bJ (i:=4) sc.nd rfl 0x0) (aV (iW (b_ (jQ hu) (aW (aD (i:=4)) aF) (aW (aD (i:=3)) aF) (cF _)) (aJ (aY (i:=5) (o:=ai) rfl sc.nd rfl 0x0 (aU fZ (aW (aD (i:=4)) aF) (aW (aD (i:=3)) aF))) (aJ (aY (i:=6) (o:=ai) rfl sc.nd rfl 0x0 (aR p5 hr 0x4 0x3 (aA (aD (i:=0)) (aA (aU bU aF (bK (dO hK) 0x3 B.len dR (aA (aD (i:=2)) aG))) aG)))) (aJ (WK (ownN:=(["i"]:aa Str)) (show c7 k_ (aO kI) _ (["i"]:aa Str) from 0x9) (n:=11) (m:=1) rfl rfl rfl (sJ 0x3 B.range (aA (bK (dO hK) 0x3 B.len dR (aA (aD (i:=5)) aG)) aG)) (fW 11) (λ_=>bJ (i:=11) (show((eg (gU (["i"]:aa Str)) k_++(["i"]:aa Str)):aa Str).Nodup from 0x6) rfl 0x0) (λ_=>aR p9 hr 0x4 0x3 (aA (aD (i:=0)) (aA (aU bU aF (aU cA (aU bU (aD (i:=6)) (aD (i:=11))) aF)) aG))) (λ_=>rfl) (iy:=7) (o:=ai) rfl sc.nd rfl 0x0 (ms rfl) 0x5) (aJ (aY (i:=7) (o:=ai) rfl sc.nd rfl 0x0 (cY d_ 0x3 B.tuple eG (aA (aW (j_ (aA (aD (i:=7)) (aA (aMy (aD (i:=7))) aG))) (aU cA (aU fV (aD (i:=6)) aF) aF)) aG))) (aJ (aY (i:=8) (o:=ai) rfl sc.nd rfl 0x0 (aIy 0x3 B.dict 0x3 B.zip (aA (aD (i:=7)) (aA (aD (i:=5)) aG)))) (aJ (aY (i:=9) (o:=ai) rfl sc.nd rfl 0x0 (zB pz hr 0x4 0x3 (aA (aD (i:=0)) (aA (aU bU aF (aU gH aF (bK (dO hK) 0x3 B.len dR (aA (aD (i:=2)) aG)))) (aA (aD (i:=1)) (aA (aD (i:=8)) (aA (aW (aD (i:=3)) aF) (aA aF aG)))))))) (aV (kE (i:=2) rfl rfl 0x0 (bB (aA (aW (aD (i:=3)) aF) (aA (aW (aD (i:=4)) aF) (aA (aD (i:=7)) (aA (aD (i:=9)) aG))))))))))))) fX))))) (aJ (aY (i:=10) (o:=ai) rfl sc.nd rfl 0x0 (aU cA (aR p5 hr 0x4 0x3 (aA (aD (i:=0)) (aA aF aG))) (bK (TF 0x3) 0x3 B.max aBt (aA aF (aA (bK (dO hK) 0x3 B.len dR (aA (aD (i:=2)) aG)) aG))))) (aV (eN (cY d_ 0x3 B.tuple eG (aA (aU bU (WM hK (aD (i:=2)) (H_ (aD (i:=10))) (HY)) (WM hK (aD (i:=2)) (HY) (H_ (aD (i:=10))))) aG))))))
theorem zT:bY iD ["script"] (aO iB):=0xa
theorem xQ[KFrag]{P:bh}{w:bd}{K:Frag}{mg:Str->aq ak}{base:ay}{fad:am}{fd:cj}(hK:KFrag.K=K)(B:Bt mg)(p5:cL P w K mg base 1 "_law_draw" 2 aK)(tF:cL P w K mg base 3 "_law_takers" 2 jB)(tG:cL P w K mg base 3 "_law_makers" 2 i_)(p9:cL P w K mg base 2 "_law_word" 2 aX)(tH:cL P w K mg base 3 "_law_rules" 2 kJ)(F:Fun K "_law_program" "_law_program" iB fad fd)(hm:mg "_law_program"=ae (.ref fad)):cL P w K mg base 4 "_law_program" 1 iC:=by
 have sc:=zT;have nd:=sc.nd;refine gG (ps:=["script"]) (N:=iD) (k:=3) F hm (F.binds λ_ _ _ _ _ _ us hl=>by obtain⟨_,rfl⟩:=l1 hl;rfl) sc BZ 0x4 0x4 λcdv A outer s H E hr=>?_
 have hu:=xN hr;exact aJ (aY (i:=1) (o:=ai) rfl sc.nd rfl 0x0 (aU bU aF (aU cA (aR p5 hr 0x4 0x3 (aA (aD (i:=0)) (aA aF aG))) aF))) (aJ (aY (i:=2) (o:=ai) rfl sc.nd rfl 0x0 (bB (aA (aR tG hr 0x4 0x3 (aA (aD (i:=0)) (aA (aD (i:=1)) aG))) (aA (aR tF hr 0x4 0x3 (aA (aD (i:=0)) (aA (aD (i:=1)) aG))) aG)))) (aJ (aY (i:=3) (o:=ai) rfl sc.nd rfl 0x0 (cY d_ 0x3 B.tuple eG (aA (iY (ownN:=(["j"]:aa Str)) (show c7 iD (aO iB) _ (["j"]:aa Str) from 0x9) (n:=4) (m:=1) rfl rfl rfl (sJ 0x3 B.range (aA (aD (i:=1)) aG)) (fW 4) (λ_=>bJ (i:=4) (show((eg (gU (["j"]:aa Str)) iD++(["j"]:aa Str)):aa Str).Nodup from 0x6) rfl 0x0) (λ_=>aR p9 hr 0x4 0x3 (aA (aD (i:=0)) (aA (aD (i:=4)) aG))) (λ_=>rfl)) aG))) (aV (eN (bB (aA (aD (i:=3)) (aA (aW (aD (i:=2)) aF) (aA (aW (aD (i:=2)) aF) (aA (aR tH hr 0x4 0x3 (aA (aD (i:=0)) (aA (aD (i:=2)) aG))) aG)))))))))
theorem J_:bY wR ["program"] (aO nZ):=0xa
theorem CP[KFrag]{P:bh}{w:bd}{K:Frag}{mg:Str->aq ak}{base:ay}{fad:am}{fd:cj}(hK:KFrag.K=K)(B:Bt mg)(F:Fun K "_law_stock" "_law_stock" nZ fad fd)(hm:mg "_law_stock"=ae (.ref fad)):cL P w K mg base 1 "_law_stock" 1 kO:=by
 have sc:=J_;have nd:=sc.nd;refine gG (ps:=["program"]) (N:=wR) (k:=0) F hm (F.binds λ_ _ _ _ _ _ us hl=>by obtain⟨_,rfl⟩:=l1 hl;rfl) sc PN 0x4 0x4 λcdv A outer s H E hr=>?_
 have hu:=xN hr;exact aJ (aY (i:=1) (o:=af) rfl sc.nd rfl 0x0 (aJ4 o_ aF o_ aF)) (aJ (lR gp rfl (eU (aW (aD (i:=0)) aF)) (nR (i:=2) rfl) (bJ (i:=2) sc.nd rfl 0x0) (aV (EY (i:=1) hu rfl rfl 0x0 (aW (aD (i:=2)) aF) (bK (dO hK) 0x3 B.len dR (aA (aW (aD (i:=2)) aF) aG))))) (aJ (lR gp rfl (eU (aW (aD (i:=0)) aF)) (nR (i:=3) rfl) (bJ (i:=3) sc.nd rfl 0x0) (aV (EY (i:=1) hu rfl rfl 0x0 (aW (aD (i:=3)) aF) (aU bU (bK (dO hK) 0x3 B.len dR (aA (aW (aD (i:=3)) aF) aG)) aF)))) (aV (IK (i:=1) rfl rfl 0x0))))
theorem QM:bY g_ ["script","at","words","program"] (aO jY):=0xa
theorem KC[KFrag]{P:bh}{w:bd}{K:Frag}{mg:Str->aq ak}{base:ay}{fad:am}{fd:cj}(hK:KFrag.K=K)(B:Bt mg)(tI:cL P w K mg base 1 "_law_stock" 1 kO)(p5:cL P w K mg base 1 "_law_draw" 2 aK)(F:Fun K "_law_laid" "_law_laid" jY fad fd)(hm:mg "_law_laid"=ae (.ref fad)):cL P w K mg base 2 "_law_laid" 4 d7:=by
 have sc:=QM;have nd:=sc.nd;refine gG (ps:=["script","at","words","program"]) (N:=g_) (k:=1) F hm (F.binds λ_ _ _ _ _ _ us hl=>by obtain⟨_,_,_,_,rfl⟩:=l4 hl;rfl) sc T5 0x4 0x4 λcdv A outer s H E hr=>?_
 have hu:=xN hr;exact aJ (aY (i:=4) (o:=ai) rfl sc.nd rfl 0x0 (aR tI hr 0x4 0x3 (aA (aD (i:=3)) aG))) (aJ (WK (ownN:=(["taker"]:aa Str)) (show c7 g_ (aO jY) _ (["taker"]:aa Str) from 0x9) (n:=13) (m:=1) rfl rfl rfl (eU (aW (aD (i:=3)) aF)) (fW 13) (λ_=>bJ (i:=13) (show((eg (gU (["taker"]:aa Str)) g_++(["taker"]:aa Str)):aa Str).Nodup from 0x6) rfl 0x0) (λ_=>aW (aD (i:=13)) aF) (λ_=>rfl) (iy:=5) (o:=ai) rfl sc.nd rfl 0x0 (ms rfl) 0x5) (aJ (aY (i:=6) (o:=af) rfl sc.nd rfl 0x0 (j_ aG)) (aJ (aY (i:=7) (o:=af) rfl sc.nd rfl 0x0 (j_ aG)) (aJ (aY (i:=8) (o:=af) rfl sc.nd rfl 0x0 (j_ (aA (bB (aA aF (aA aF aG))) aG))) (aJ (lR gp rfl (W8 0x3 B.enum (aA (aD (i:=2)) aG)) (nT _ (is:=[9,10]) 0x4) (o7 rfl (cH (bJ (i:=9) sc.nd rfl 0x0) (cH (bJ (i:=10) sc.nd rfl 0x0) (lD)))) (aJ (aY (i:=11) (o:=ai) rfl sc.nd rfl 0x0 (aU bU (aU gH (aU bU aF (aU cA (aR p5 hr 0x4 0x3 (aA (aD (i:=0)) (aA (aU bU (aD (i:=1)) (aD (i:=9))) aG))) (aU NK aF aF))) aF) (aD (i:=9)))) (aJ (aY (i:=12) (o:=ai) rfl sc.nd rfl 0x0 (cY aIz 0x3 B.int aMl (aA (aBf (WL hu) (aD (i:=10)) (aD (i:=5)) 0x5) aG))) (aJ (aJb (i:=7) rfl rfl 0x0 (aCj d_ 0x3 B.tuple eG (aFk (NT hu) 0x3 B.sorted nU (aN7 (aFf (bB (aA (aD (i:=11)) (aA (aD (i:=12)) aG))) (aJ2 (aJa (i:=8) rfl rfl 0x0) (aN6))))))) (aJ (kE (i:=6) rfl rfl 0x0 (bB (aA (aD (i:=11)) (aA (aD (i:=10)) aG)))) (aV (aY (i:=8) (o:=af) rfl sc.nd rfl 0x0 (aU bU (vZ (ownN:=(["hook"]:aa Str)) (show c7 g_ (aO jY) _ (["hook"]:aa Str) from 0x9) (n:=13) (m:=1) rfl rfl rfl (sJ 0x3 B.range (aA (aU bU (aW (aD (i:=4)) (aD (i:=10))) aF) aG)) (fW 13) (λ_=>bJ (i:=13) (show((eg (gU (["hook"]:aa Str)) g_++(["hook"]:aa Str)):aa Str).Nodup from 0x6) rfl 0x0) (λ_=>b_ (ZD hu) (aD (i:=13)) (aD (i:=12)) (cF _)) (λ_=>bB (aA (aD (i:=11)) (aA (aD (i:=13)) aG))) (λ_=>rfl)) (aD (i:=8)))))))))) (aV (eN (bB (aA (cY d_ 0x3 B.tuple eG (aA (bK (oV 0x3 hu) 0x3 B.sorted nU (aA (aD (i:=6)) aG)) aG)) (aA (cY d_ 0x3 B.tuple eG (aA (bK (oV 0x3 hu) 0x3 B.sorted nU (aA (aD (i:=7)) aG)) aG)) (aA aF aG)))))))))))
theorem KD:bY wU ["script","at","program","kind"] (aO n6):=0xa
theorem CQ[KFrag]{P:bh}{w:bd}{K:Frag}{mg:Str->aq ak}{base:ay}{fad:am}{fd:cj}(hK:KFrag.K=K)(B:Bt mg)(p5:cL P w K mg base 1 "_law_draw" 2 aK)(pz:aMu P w K mg base 2 "_law_words" "least" 6 (.int 0) dI)(F:Fun K "_law_value" "_law_value" n6 fad fd)(hm:mg "_law_value"=ae (.ref fad)):cL P w K mg base 3 "_law_value" 4 dJ:=by
 have sc:=KD;have nd:=sc.nd;refine gG (ps:=["script","at","program","kind"]) (N:=wU) (k:=2) F hm (F.binds λ_ _ _ _ _ _ us hl=>by obtain⟨_,_,_,_,rfl⟩:=l4 hl;rfl) sc PQ 0x4 0x4 λcdv A outer s H E hr=>?_
 have hu:=xN hr;exact aV (eN (zB pz hr 0x4 0x3 (aA (aD (i:=0)) (aA (aD (i:=1)) (aA (bB (aA (aW (aD (i:=2)) aF) (aA (bB aG) aG))) (aA (u_) (aA (aD (i:=3)) (aA (aU bU aF (aU cA (aR p5 hr 0x4 0x3 (aA (aD (i:=0)) (aA aF aG))) aF)) aG))))))))
theorem KH:bY wV ["script","program"] (aO n8):=0xa
theorem CT[KFrag]{P:bh}{w:bd}{K:Frag}{mg:Str->aq ak}{base:ay}{fad:am}{fd:cj}(hK:KFrag.K=K)(B:Bt mg)(p5:cL P w K mg base 1 "_law_draw" 2 aK)(pq:cL P w K mg base 3 "_law_value" 4 dJ)(pj:cL P w K mg base 2 "_law_laid" 4 d7)(F:Fun K "_law_taken" "_law_taken" n8 fad fd)(hm:mg "_law_taken"=ae (.ref fad)):cL P w K mg base 4 "_law_taken" 2 kW:=by
 have sc:=KH;have nd:=sc.nd;refine gG (ps:=["script","program"]) (N:=wV) (k:=3) F hm (F.binds λ_ _ _ _ _ _ us hl=>by obtain⟨_,_,rfl⟩:=l2 hl;rfl) sc P0 0x4 0x4 λcdv A outer s H E hr=>?_
 have hu:=xN hr;exact aJ (aY (i:=2) (o:=ai) rfl sc.nd rfl 0x0 (aW (aW (aD (i:=1)) aF) (aU cA (aR p5 hr 0x4 0x3 (aA (aD (i:=0)) (aA aF aG))) (bK (dO hK) 0x3 B.len dR (aA (aW (aD (i:=1)) aF) aG))))) (aJ (aY (i:=3) (o:=ai) rfl sc.nd rfl 0x0 (aU fZ (bB (aA (aW (aD (i:=2)) aF) aG)) (aR pq hr 0x4 0x3 (aA (aD (i:=0)) (aA aF (aA (aD (i:=1)) (aA (aW (aD (i:=2)) aF) aG))))))) (aJ (lR gp rfl (W8 0x3 B.enum (aA (aW (aD (i:=2)) aF) aG)) (nT _ (is:=[4,5]) 0x4) (o7 rfl (cH (bJ (i:=4) sc.nd rfl 0x0) (cH (bJ (i:=5) sc.nd rfl 0x0) (lD)))) (aV (aY (i:=3) (o:=ai) rfl sc.nd rfl 0x0 (aU fZ (aD (i:=3)) (aR pq hr 0x4 0x3 (aA (aD (i:=0)) (aA (aU bU aF (aU gH aF (aD (i:=4)))) (aA (aD (i:=1)) (aA (aD (i:=5)) aG))))))))) (aJ (iW (b_ (jQ hu) (aU cA (aR p5 hr 0x4 0x3 (aA (aD (i:=0)) (aA aF aG))) aF) aF (cF _)) (aV (aY (i:=3) (o:=ai) rfl sc.nd rfl 0x0 (aU fZ (bB (aA (aW (aW (aW (aD (i:=1)) aF) aF) aF) aG)) (aD (i:=3))))) fX) (aV (eN (aR pj hr 0x4 0x3 (aA (aD (i:=0)) (aA aF (aA (aD (i:=3)) (aA (aD (i:=1)) aG))))))))))
theorem T8:bY FW ["net"] (aO v8):=0xa
theorem QR[KFrag]{P:bh}{w:bd}{K:Frag}{mg:Str->aq ak}{base:ay}{fad:am}{fd:cj}(hK:KFrag.K=K)(B:Bt mg)(F:Fun K "mates_of" "mates_of" v8 fad fd)(hm:mg "mates_of"=ae (.ref fad)):cL P w K mg base 1 "mates_of" 1 oX:=by
 have sc:=T8;have nd:=sc.nd;refine gG (ps:=["net"]) (N:=FW) (k:=0) F hm (F.binds λ_ _ _ _ _ _ us hl=>by obtain⟨_,rfl⟩:=l1 hl;rfl) sc Z0 0x4 0x4 λcdv A outer s H E hr=>?_
 have hu:=xN hr;exact aJ (aY (i:=1) (o:=af) rfl sc.nd rfl 0x0 (u_)) (aJ (lR gp rfl (eU (aW (aD (i:=0)) aF)) (nT _ (is:=[2,3]) 0x4) (o7 rfl (cH (bJ (i:=2) sc.nd rfl 0x0) (cH (bJ (i:=3) sc.nd rfl 0x0) (lD)))) (aJ (EY (i:=1) hu rfl rfl 0x0 (aD (i:=2)) (aD (i:=3))) (aV (EY (i:=1) hu rfl rfl 0x0 (aD (i:=3)) (aD (i:=2)))))) (aV (IK (i:=1) rfl rfl 0x0)))
theorem CV:bY dX ["program","net"] (aO gM):=0xa
theorem zU[KFrag]{P:bh}{w:bd}{K:Frag}{mg:Str->aq ak}{base:ay}{fad:am}{fd:cj}(hK:KFrag.K=K)(B:Bt mg)(tJ:cL P w K mg base 1 "mates_of" 1 oX){pk:am}(pA:nsIn K bi "NoValue"=ae (ae (.ref pk)))(pB:mg "NoValue"=ae (.ref pk))(pC:excIn K pk aKq "ValueError.__new__"=af)(F:Fun K "words_along" "words_along" gM fad fd)(hm:mg "words_along"=ae (.ref fad)):vI P w K mg base 2 "words_along" 2 cX:=by
 have sc:=CV;have nd:=sc.nd;refine W5 (ps:=["program","net"]) (N:=dX) (k:=1) F hm (F.binds λ_ _ _ _ _ _ us hl=>by obtain⟨_,_,rfl⟩:=l2 hl;rfl) sc JX 0x4 0x4 λcdv A outer s H E hr=>?_
 have hu:=xN hr
 exact fU (jX (aY (i:=2) (o:=ai) rfl sc.nd rfl 0x0 (aCh 0x3 0x3 B.dict (iY (ownN:=(["name","kind","parts"]:aa Str)) (show c7 dX (aO gM) _ (["name","kind","parts"]:aa Str) from 0x9) (n:=9) (m:=3) rfl rfl rfl (eU (aW (aD (i:=0)) aF)) (aBp _ 9 3) (λ_=>o7 rfl (cH (bJ (i:=9) (show((eg (gU (["name","kind","parts"]:aa Str)) dX++(["name","kind","parts"]:aa Str)):aa Str).Nodup from 0x6) rfl 0x0) (cH (bJ (i:=10) (show((eg (gU (["name","kind","parts"]:aa Str)) dX++(["name","kind","parts"]:aa Str)):aa Str).Nodup from 0x6) rfl 0x0) (cH (bJ (i:=11) (show((eg (gU (["name","kind","parts"]:aa Str)) dX++(["name","kind","parts"]:aa Str)):aa Str).Nodup from 0x6) rfl 0x0) (lD))))) (λ_=>bB (aA (aD (i:=9)) (aA (bK (dO hK) 0x3 B.len dR (aA (aD (i:=11)) aG)) aG))) (λ_=>rfl))))) (fU (jX (aY (i:=3) (o:=ai) rfl sc.nd rfl 0x0 (ZQ 0x3 0x3 B.dict (aW (aD (i:=1)) aF)))) (fU (jX (aY (i:=4) (o:=ai) rfl sc.nd rfl 0x0 (aR tJ hr 0x4 0x3 (aA (aD (i:=1)) aG)))) (fU (jX (aY (i:=5) (o:=af) rfl sc.nd rfl 0x0 (j_ aG))) (fU (jX (aY (i:=6) (o:=af) rfl sc.nd rfl 0x0 (j_ (aA (bB (aA aF (aA aF aG))) aG)))) (fU (aQ5 (p_ (aD (i:=6))) (fU (jX (aN8 (i:=7) (o:=ai) rfl sc.nd rfl 0x0 (aN5 (i:=4) (aMh hK hu) rfl rfl 0x0 (aCa (i:=6) rfl rfl 0x0) (λ_ _=>rfl)))) (fU (jX (aY (i:=8) (o:=ai) rfl sc.nd rfl 0x0 (aPn PySem.F.plainAttrs_dict oj PySem.F.type_dict_get (aMi hu) (aD (i:=3)) (aA (aW (aD (i:=7)) aF) aG) (λ_ _ _ _ _ h r=>aIi h r)))) (fU (aNg (PW.pt (BW (b_ (aEw hu) (aD (i:=8)) (aD (i:=2)) 0x5) (yU (b_ (ZD hu) (aW (aD (i:=7)) aF) aF (cF _))))) (xO (JR hK pA 0x3 pB pC)) ZV) (fU (jX (kE (i:=5) rfl rfl 0x0 (aD (i:=8)))) (xO (jX (aGx (i:=6) rfl rfl 0x0 (iY (ownN:=(["hook"]:aa Str)) (show c7 dX (aO gM) _ (["hook"]:aa Str) from 0x9) (n:=9) (m:=1) rfl rfl rfl (aJe 0x3 B.range (aA (aW (aD (i:=2)) (aD (i:=8))) (aA aF (aA (aMa aGp aF) aG)))) (fW 9) (λ_=>bJ (i:=9) (show((eg (gU (["hook"]:aa Str)) dX++(["hook"]:aa Str)):aa Str).Nodup from 0x6) rfl 0x0) (λ_=>bB (aA (aW (aD (i:=7)) aF) (aA (aD (i:=9)) aG))) (λ_=>rfl)))))))))) (xO (jX (eN (cY d_ 0x3 B.tuple eG (aA (aD (i:=5)) aG))))))))))
theorem T9:bY FZ ["program"] (aO v_):=0xa
theorem QS[KFrag]{P:bh}{w:bd}{K:Frag}{mg:Str->aq ak}{base:ay}{fad:am}{fd:cj}(hK:KFrag.K=K)(B:Bt mg)(F:Fun K "heads_of" "heads_of" v_ fad fd)(hm:mg "heads_of"=ae (.ref fad)):cL P w K mg base 1 "heads_of" 1 lY:=by
 have sc:=T9;have nd:=sc.nd;refine gG (ps:=["program"]) (N:=FZ) (k:=0) F hm (F.binds λ_ _ _ _ _ _ us hl=>by obtain⟨_,rfl⟩:=l1 hl;rfl) sc Z2 0x4 0x4 λcdv A outer s H E hr=>?_
 have hu:=xN hr;exact aJ (aY (i:=1) (o:=af) rfl sc.nd rfl 0x0 (u_)) (aJ (lR gp rfl (eU (aW (aD (i:=0)) aF)) (nT _ (is:=[2,3,4]) 0x4) (o7 rfl (cH (bJ (i:=2) sc.nd rfl 0x0) (cH (bJ (i:=3) sc.nd rfl 0x0) (cH (bJ (i:=4) sc.nd rfl 0x0) (lD))))) (aV (EY (i:=1) hu rfl rfl 0x0 (aD (i:=2)) (bB (aA (aD (i:=3)) (aA (aD (i:=4)) aG)))))) (aJ (lR gp rfl (eU (aW (aD (i:=0)) aF)) (nT _ (is:=[2,3,5,6]) 0x4) (o7 rfl (cH (bJ (i:=2) sc.nd rfl 0x0) (cH (bJ (i:=3) sc.nd rfl 0x0) (cH (bJ (i:=5) sc.nd rfl 0x0) (cH (bJ (i:=6) sc.nd rfl 0x0) (lD)))))) (aV (EY (i:=1) hu rfl rfl 0x0 (aD (i:=2)) (bB (aA (aD (i:=3)) (aA (aU fZ (bB (aA (aD (i:=5)) aG)) (aD (i:=6))) aG)))))) (aV (IK (i:=1) rfl rfl 0x0))))
theorem Z6:bY QG ["heads","word","known"] (aO zL):=0xa
theorem T_[KFrag]{P:bh}{w:bd}{K:Frag}{mg:Str->aq ak}{base:ay}{fad:am}{fd:cj}(hK:KFrag.K=K)(B:Bt mg)(qt:aNm P w K mg base 1 "NoName" ["word"])(F:Fun K "head_of" "head_of" zL fad fd)(hm:mg "head_of"=ae (.ref fad)):vI P w K mg base 3 "head_of" 3 vJ:=by
 have sc:=Z6;have nd:=sc.nd;refine W5 (ps:=["heads","word","known"]) (N:=QG) (k:=2) F hm (F.binds λ_ _ _ _ _ _ us hl=>by obtain⟨_,_,_,rfl⟩:=l3 hl;rfl) sc aD0 0x4 0x4 λcdv A outer s H E hr=>?_
 have hu:=xN hr;exact fU (jX (iW (b_ (WL hu) (aD (i:=1)) (aD (i:=0)) 0x5) (aV (eN (aW (aD (i:=0)) (aD (i:=1))))) fX)) (fU (jX (iW (b_ (WL hu) (aD (i:=1)) (aD (i:=2)) 0x5) (aV (eN (bB (aA (aW (aD (i:=2)) (aD (i:=1))) (aA (bB aG) aG))))) fX)) (xO (xZ qt hK hr 0x4 0x3 (aA (aD (i:=1)) aG))))
theorem KJ:bY wW ["heads","words","wanted","known"] (aO n_):=0xa
theorem CW[KFrag]{P:bh}{w:bd}{K:Frag}{mg:Str->aq ak}{base:ay}{fad:am}{fd:cj}(hK:KFrag.K=K)(B:Bt mg)(pI:vI P w K mg base 3 "head_of" 3 vJ)(pD:aNm P w K mg base 1 "BadKind" ["word"])(F:Fun K "walk_words" "walk_words" n_ fad fd)(hm:mg "walk_words"=ae (.ref fad)):vI P w K mg base 4 "walk_words" 4 iM:=by
 have sc:=KJ;have nd:=sc.nd;refine W5 (ps:=["heads","words","wanted","known"]) (N:=wW) (k:=3) F hm (F.binds λ_ _ _ _ _ _ us hl=>by obtain⟨_,_,_,_,rfl⟩:=l4 hl;rfl) sc QC 0x4 0x4 λcdv A outer s H E hr=>?_
 have hu:=xN hr;exact fU (jX (aY (i:=4) (o:=af) rfl sc.nd rfl 0x0 (v5 (aA (aD (i:=2)) aG)))) (fU (aNi (i:=1) rfl rfl 0x0 (nR (i:=5) rfl) (bJ (i:=5) sc.nd rfl 0x0) (fU (aNg (aMb (p_ (aD (i:=4)))) (xO (xZ pD hK hr 0x4 0x3 (aA (aD (i:=5)) aG))) ZV) (fU (aNh (i:=6) (o:=ai) rfl sc.nd rfl 0x0 (aCr pI hr 0x4 0x3 (aA (aD (i:=0)) (aA (aD (i:=5)) (aA (aD (i:=3)) aG))))) (fU (aQ1 (aJ8 (ZD hu) (aPw (aW (aD (i:=6)) aF)) (aCa (i:=4) rfl rfl 0x0) (cF _)) (xO (xZ pD hK hr 0x4 0x3 (aA (aD (i:=5)) aG))) ZV) (xO (jX (aGx (i:=4) rfl rfl 0x0 (aJ5 0x3 0x3 B.list 0x3 B.reversed (aW (aD (i:=6)) aF))))))))) (xO (aNg (p_ (aD (i:=4))) (xO (xZ pD hK hr 0x4 0x3 (aA o_ aG))) ZV)))
theorem QT:bY mY ["ends"] (aO mU):=0xa
theorem KN[KFrag]{P:bh}{w:bd}{K:Frag}{mg:Str->aq ak}{base:ay}{fad:am}{fd:cj}(hK:KFrag.K=K)(B:Bt mg)(F:Fun K "rim_among" "rim_among" mU fad fd)(hm:mg "rim_among"=ae (.ref fad)):cL P w K mg base 1 "rim_among" 1 mV:=by
 have sc:=QT;have nd:=sc.nd;refine gG (ps:=["ends"]) (N:=mY) (k:=0) F hm (F.binds λ_ _ _ _ _ _ us hl=>by obtain⟨_,rfl⟩:=l1 hl;rfl) sc T6 0x4 0x4 λcdv A outer s H E hr=>?_
 have hu:=xN hr;exact aV (eN (bK (dO hK) 0x3 B.len dR (aA (vZ (ownN:=(["end"]:aa Str)) (show c7 mY (aO mU) _ (["end"]:aa Str) from 0x9) (n:=1) (m:=1) rfl rfl rfl (eU (aD (i:=0))) (fW 1) (λ_=>bJ (i:=1) (show((eg (gU (["end"]:aa Str)) mY++(["end"]:aa Str)):aa Str).Nodup from 0x6) rfl 0x0) (λ_=>b_ (jQ hu) (aW (aD (i:=1)) aF) aF (cF _)) (λ_=>aD (i:=1)) (λ_=>rfl)) aG)))
theorem Z7:bY QH ["ties"] (aO zM):=0xa
theorem UG[KFrag]{P:bh}{w:bd}{K:Frag}{mg:Str->aq ak}{base:ay}{fad:am}{fd:cj}(hK:KFrag.K=K)(B:Bt mg)(F:Fun K "ends_of" "ends_of" zM fad fd)(hm:mg "ends_of"=ae (.ref fad)):cL P w K mg base 1 "ends_of" 1 vK:=by
 have sc:=Z7;have nd:=sc.nd;refine gG (ps:=["ties"]) (N:=QH) (k:=0) F hm (F.binds λ_ _ _ _ _ _ us hl=>by obtain⟨_,rfl⟩:=l1 hl;rfl) sc aD3 0x4 0x4 λcdv A outer s H E hr=>?_
 have hu:=xN hr;exact aJ (aY (i:=1) (o:=af) rfl sc.nd rfl 0x0 (j_ aG)) (aJ (aIo (i:=0) rfl gp rfl rfl 0x0 (nT _ (is:=[2,3]) 0x4) (o7 rfl (cH (bJ (i:=2) sc.nd rfl 0x0) (cH (bJ (i:=3) sc.nd rfl 0x0) (lD)))) (aJ (kE (i:=1) rfl rfl 0x0 (aD (i:=2))) (aV (kE (i:=1) rfl rfl 0x0 (aD (i:=3)))))) (aV (IK (i:=1) rfl rfl 0x0)))
theorem aNs:bY aNq ["net"] (aO aJr):=0xa
theorem aJt[KFrag]{P:bh}{w:bd}{K:Frag}{mg:Str->aq ak}{base:ay}{fad:am}{fd:cj}(hK:KFrag.K=K)(B:Bt mg)(tK:cL P w K mg base 1 "ends_of" 1 vK)(tL:cL P w K mg base 1 "rim_among" 1 mV)(F:Fun K "rim" "rim" aJr fad fd)(hm:mg "rim"=ae (.ref fad)):cL P w K mg base 2 "rim" 1 Z4:=by
 have sc:=aNs;have nd:=sc.nd;refine gG (ps:=["net"]) (N:=aNq) (k:=1) F hm (F.binds λ_ _ _ _ _ _ us hl=>by obtain⟨_,rfl⟩:=l1 hl;rfl) sc aQ9 0x4 0x4 λcdv A outer s H E hr=>?_
 have hu:=xN hr;exact aV (eN (aR tL hr 0x4 0x3 (aA (aR tK hr 0x4 0x3 (aA (aW (aD (i:=0)) aF) aG)) aG)))
theorem Z8:bY QJ ["program","net"] (aO zN):=0xa
theorem UJ[KFrag]{P:bh}{w:bd}{K:Frag}{mg:Str->aq ak}{base:ay}{fad:am}{fd:cj}(hK:KFrag.K=K)(B:Bt mg)(tM:cL P w K mg base 2 "rim" 1 Z4)(tN:cL P w K mg base 1 "heads_of" 1 lY)(pJ:vI P w K mg base 2 "words_along" 2 cX)(pK:vI P w K mg base 4 "walk_words" 4 iM){pk:am}(pA:nsIn K bi "NoValue"=ae (ae (.ref pk)))(pB:mg "NoValue"=ae (.ref pk))(pC:excIn K pk aKq "ValueError.__new__"=af){c1_BadKind:am}(n1_BadKind:nsIn K bi "BadKind"=ae (ae (.ref c1_BadKind)))(m1_BadKind:mg "BadKind"=ae (.ref c1_BadKind))(x1_BadKind:lq K (.ref c1_BadKind) (.ref c1_BadKind)=ae af)(F:Fun K "unwoven" "unwoven" zN fad fd)(hm:mg "unwoven"=ae (.ref fad)):vI P w K mg base 5 "unwoven" 2 dF:=by
 have sc:=Z8;have nd:=sc.nd;refine W5 (ps:=["program","net"]) (N:=QJ) (k:=4) F hm (F.binds λ_ _ _ _ _ _ us hl=>by obtain⟨_,_,rfl⟩:=l2 hl;rfl) sc aD5 0x4 0x4 λcdv A outer s H E hr=>?_
 have hu:=xN hr;exact fU (aNg (PW.pt (BW (b_ (ZD hu) (aR tM hr 0x4 0x3 (aA (aD (i:=1)) aG)) aF (cF _)) (yU (b_ (ZD hu) (aW (aD (i:=1)) aF) aF (cF _))))) (xO (JR hK pA 0x3 pB pC)) ZV) (fU (aNh (i:=2) (o:=ai) rfl sc.nd rfl 0x0 (aCr pJ hr 0x4 0x3 (aA (aD (i:=0)) (aA (aD (i:=1)) aG)))) (fU (aNg (b_ (ZD hu) (bK (dO hK) 0x3 B.len dR (aA (aD (i:=2)) aG)) (bK (dO hK) 0x3 B.len dR (aA (aW (aD (i:=1)) aF) aG)) (cF _)) (xO (JR hK pA 0x3 pB pC)) ZV) (fU (aNn hK (aFo (aY (i:=3) (o:=ai) rfl sc.nd rfl 0x0 (aR tN hr 0x4 0x3 (aA (aD (i:=0)) aG))) (aFp pK hr 0x4 0x3 (aA (aD (i:=3)) (aA (aD (i:=2)) (aA (aW (aW (aD (i:=3)) (aW (aD (i:=2)) aF)) aF) (aA (u_) aG)))))) 0x3 m1_BadKind n1_BadKind x1_BadKind pA 0x3 pB pC) (xO (jX (eN (aD (i:=2))))))))
theorem CZ:bY gP ["script","net","program"] (aO jC):=0xa
theorem zV[KFrag]{P:bh}{w:bd}{K:Frag}{mg:Str->aq ak}{base:ay}{fad:am}{fd:cj}(hK:KFrag.K=K)(B:Bt mg)(pq:cL P w K mg base 3 "_law_value" 4 dJ)(pj:cL P w K mg base 2 "_law_laid" 4 d7)(F:Fun K "_law_second" "_law_second" jC fad fd)(hm:mg "_law_second"=ae (.ref fad)):cL P w K mg base 4 "_law_second" 3 jD:=by
 have sc:=CZ;have nd:=sc.nd;refine gG (ps:=["script","net","program"]) (N:=gP) (k:=3) F hm (F.binds λ_ _ _ _ _ _ us hl=>by obtain⟨_,_,_,rfl⟩:=l3 hl;rfl) sc JZ 0x4 0x4 λcdv A outer s H E hr=>?_
 have hu:=xN hr;exact aJ (aY (i:=3) (o:=ai) rfl sc.nd rfl 0x0 (aR pq hr 0x4 0x3 (aA (aD (i:=0)) (aA aF (aA (aD (i:=2)) (aA (aW (aW (aD (i:=2)) aF) aF) aG)))))) (aJ (aY (i:=4) (o:=ai) rfl sc.nd rfl 0x0 (aR pj hr 0x4 0x3 (aA (aD (i:=0)) (aA aF (aA (aD (i:=3)) (aA (aD (i:=2)) aG)))))) (aJ (aY (i:=5) (o:=ai) rfl sc.nd rfl 0x0 (aU NK aF aF)) (aJ (aY (i:=6) (o:=ai) rfl sc.nd rfl 0x0 (aU fZ (aW (aD (i:=1)) aF) (cY d_ 0x3 B.tuple eG (aA (iY (ownN:=(["number","name"]:aa Str)) (show c7 gP (aO jC) _ (["number","name"]:aa Str) from 0x9) (n:=10) (m:=2) rfl rfl rfl (eU (aW (aD (i:=4)) aF)) (aBp _ 10 2) (λ_=>o7 rfl (cH (bJ (i:=10) (show((eg (gU (["number","name"]:aa Str)) gP++(["number","name"]:aa Str)):aa Str).Nodup from 0x6) rfl 0x0) (cH (bJ (i:=11) (show((eg (gU (["number","name"]:aa Str)) gP++(["number","name"]:aa Str)):aa Str).Nodup from 0x6) rfl 0x0) (lD)))) (λ_=>bB (aA (aU bU (aD (i:=10)) (aD (i:=5))) (aA (aD (i:=11)) aG))) (λ_=>rfl)) aG)))) (aJ (aY (i:=7) (o:=af) rfl sc.nd rfl 0x0 (cY (aBm 0x3) 0x3 B.list SM (aA (aW (aD (i:=1)) aF) aG))) (aJ (lR gp rfl (eU (aW (aD (i:=4)) aF)) (nT _ (is:=[8,9]) 0x4) (o7 rfl (cH (bJ (i:=8) sc.nd rfl 0x0) (cH (bJ (i:=9) sc.nd rfl 0x0) (lD)))) (aV (iW (b_ (jQ hu) (aD (i:=8)) (bB (aA aF (aA aF aG))) (cF _)) (aV (kE (i:=7) rfl rfl 0x0 (bB (aA (bB (aA aF (aA aF aG))) (aA (bB (aA (aU bU (aW (aD (i:=9)) aF) (aD (i:=5))) (aA (aW (aD (i:=9)) aF) aG))) aG))))) (aV (kE (i:=7) rfl rfl 0x0 (bB (aA (bB (aA (aU bU (aW (aD (i:=8)) aF) (aD (i:=5))) (aA (aW (aD (i:=8)) aF) aG))) (aA (bB (aA (aU bU (aW (aD (i:=9)) aF) (aD (i:=5))) (aA (aW (aD (i:=9)) aF) aG))) aG)))))))) (aV (eN (bB (aA (aD (i:=6)) (aA (cY d_ 0x3 B.tuple eG (aA (bK (oV 0x3 hu) 0x3 B.sorted nU (aA (aD (i:=7)) aG)) aG)) (aA aF aG)))))))))))
theorem C_:bY jK ["script","net","program"] (aO jE):=0xa
theorem zW[KFrag]{P:bh}{w:bd}{K:Frag}{mg:Str->aq ak}{base:ay}{fad:am}{fd:cj}(hK:KFrag.K=K)(B:Bt mg)(p5:cL P w K mg base 1 "_law_draw" 2 aK)(F:Fun K "_law_beside" "_law_beside" jE fad fd)(hm:mg "_law_beside"=ae (.ref fad)):cL P w K mg base 2 "_law_beside" 3 jF:=by
 have sc:=C_;have nd:=sc.nd;refine gG (ps:=["script","net","program"]) (N:=jK) (k:=1) F hm (F.binds λ_ _ _ _ _ _ us hl=>by obtain⟨_,_,_,rfl⟩:=l3 hl;rfl) sc J1 0x4 0x4 λcdv A outer s H E hr=>?_
 have hu:=xN hr;exact aJ (aY (i:=3) (o:=ai) rfl sc.nd rfl 0x0 (aU NK aF aF)) (aJ (iW (b_ (jQ hu) (aU cA (aR p5 hr 0x4 0x3 (aA (aD (i:=0)) (aA aF aG))) aF) aF (cF _)) (aJ (aY (i:=4) (o:=ai) rfl sc.nd rfl 0x0 (aW (vZ (ownN:=(["maker"]:aa Str)) (show c7 jK (aO jE) _ (["maker"]:aa Str) from 0x9) (n:=5) (m:=1) rfl rfl rfl (eU (aW (aD (i:=2)) aF)) (fW 5) (λ_=>bJ (i:=5) (show((eg (gU (["maker"]:aa Str)) jK++(["maker"]:aa Str)):aa Str).Nodup from 0x6) rfl 0x0) (λ_=>b_ (jQ hu) (aW (aD (i:=5)) aF) (bB aG) (cF _)) (λ_=>aW (aD (i:=5)) aF) (λ_=>rfl)) aF)) (aV (eN (bB (aA (aU fZ (aW (aD (i:=1)) aF) (bB (aA (bB (aA (aD (i:=3)) (aA (aD (i:=4)) aG))) (aA (bB (aA (aU bU (aD (i:=3)) aF) (aA o_ aG))) aG)))) (aA (aU fZ (aW (aD (i:=1)) aF) (bB (aA (bB (aA (bB (aA (aD (i:=3)) (aA aF aG))) (aA (bB (aA (aU bU (aD (i:=3)) aF) (aA aF aG))) aG))) aG))) (aA aF aG))))))) fX) (aV (eN (bB (aA (aU fZ (aW (aD (i:=1)) aF) (bB (aA (bB (aA (aD (i:=3)) (aA (aW (aW (aW (aD (i:=2)) aF) aF) aF) aG))) aG))) (aA (aU fZ (aW (aD (i:=1)) aF) (bB (aA (bB (aA (bB (aA (aD (i:=3)) (aA aF aG))) (aA (bB (aA (aD (i:=3)) (aA aF aG))) aG))) aG))) (aA aF aG)))))))
theorem DG:bY vL ["script","net"] (aO mW):=0xa
theorem zX[KFrag]{P:bh}{w:bd}{K:Frag}{mg:Str->aq ak}{base:ay}{fad:am}{fd:cj}(hK:KFrag.K=K)(B:Bt mg)(p5:cL P w K mg base 1 "_law_draw" 2 aK)(F:Fun K "_law_copied" "_law_copied" mW fad fd)(hm:mg "_law_copied"=ae (.ref fad)):cL P w K mg base 2 "_law_copied" 2 jG:=by
 have sc:=DG;have nd:=sc.nd;refine gG (ps:=["script","net"]) (N:=vL) (k:=1) F hm (F.binds λ_ _ _ _ _ _ us hl=>by obtain⟨_,_,rfl⟩:=l2 hl;rfl) sc J3 0x4 0x4 λcdv A outer s H E hr=>?_
 have hu:=xN hr;exact aJ (aY (i:=2) (o:=ai) rfl sc.nd rfl 0x0 (aU NK aF aF)) (aJ (aY (i:=3) (o:=ai) rfl sc.nd rfl 0x0 (aU cA (aR p5 hr 0x4 0x3 (aA (aD (i:=0)) (aA aF aG))) (bK (dO hK) 0x3 B.len dR (aA (aW (aD (i:=1)) aF) aG)))) (aJ (aMp (aW (aW (aD (i:=1)) aF) (aD (i:=3))) (nT _ (is:=[4,5]) 0x4) (o7 rfl (cH (bJ (i:=4) sc.nd rfl 0x0) (cH (bJ (i:=5) sc.nd rfl 0x0) (lD))))) (aJ (iW (PW.pt (BW (b_ (jQ hu) (aW (aD (i:=4)) aF) aF (cF _)) (yU (b_ (HR hu) (aW (aD (i:=4)) aF) aF (cF _))))) (aV (aMq (i:=4) (j:=5) rfl rfl rfl sc.nd rfl rfl 0x4 rfl rfl (aA (aD (i:=5)) (aA (aD (i:=4)) aG)) 0x3)) fX) (aJ (aY (i:=6) (o:=ai) rfl sc.nd rfl 0x0 (cY (aBm 0x3) 0x3 B.list SM (aA (aU fZ (WM hK (aW (aD (i:=1)) aF) (HY) (H_ (aD (i:=3)))) (WM hK (aW (aD (i:=1)) aF) (H_ (aU bU (aD (i:=3)) aF)) (HY))) aG))) (aJ (aY (i:=6) (o:=ai) rfl sc.nd rfl 0x0 (aU bU (aD (i:=6)) (v5 (aA (bB (aA (aD (i:=4)) (aA (bB (aA (aD (i:=2)) (aA aF aG))) aG))) (aA (bB (aA (aD (i:=5)) (aA (bB (aA (aD (i:=2)) (aA aF aG))) aG))) (aA (bB (aA (bB (aA (aD (i:=2)) (aA aF aG))) (aA (bB (aA (aU bU (aD (i:=2)) aF) (aA aF aG))) aG))) aG)))))) (aV (eN (bB (aA (aU fZ (aW (aD (i:=1)) aF) (bB (aA (bB (aA (aD (i:=2)) (aA o_ aG))) (aA (bB (aA (aU bU (aD (i:=2)) aF) (aA o_ aG))) aG)))) (aA (cY d_ 0x3 B.tuple eG (aA (bK (oV 0x3 hu) 0x3 B.sorted nU (aA (aD (i:=6)) aG)) aG)) (aA aF aG)))))))))))
theorem KQ:bY wX ["script","program"] (aO oA):=0xa
theorem DK[KFrag]{P:bh}{w:bd}{K:Frag}{mg:Str->aq ak}{base:ay}{fad:am}{fd:cj}(hK:KFrag.K=K)(B:Bt mg)(pz:aMu P w K mg base 2 "_law_words" "least" 6 (.int 0) dI)(pj:cL P w K mg base 2 "_law_laid" 4 d7)(F:Fun K "_law_wrong" "_law_wrong" oA fad fd)(hm:mg "_law_wrong"=ae (.ref fad)):cL P w K mg base 3 "_law_wrong" 2 kY:=by
 have sc:=KQ;have nd:=sc.nd;refine gG (ps:=["script","program"]) (N:=wX) (k:=2) F hm (F.binds λ_ _ _ _ _ _ us hl=>by obtain⟨_,_,rfl⟩:=l2 hl;rfl) sc QD 0x4 0x4 λcdv A outer s H E hr=>?_
 have hu:=xN hr;exact aJ (aY (i:=2) (o:=ai) rfl sc.nd rfl 0x0 (aW (aW (aD (i:=1)) aF) aF)) (aJ (iW (b_ (jQ hu) (aW (aW (aW (aW (aD (i:=1)) aF) aF) aF) aF) (aD (i:=2)) (cF _)) (aV (aY (i:=2) (o:=ai) rfl sc.nd rfl 0x0 (aW (aW (aD (i:=1)) aF) aF))) fX) (aJ (aY (i:=3) (o:=ai) rfl sc.nd rfl 0x0 (aU fZ (bB (aA (aW (aW (aW (aD (i:=1)) aF) aF) aF) aG)) (zB pz hr 0x4 0x3 (aA (aD (i:=0)) (aA aF (aA (bB (aA (aW (aD (i:=1)) aF) (aA (bB aG) aG))) (aA (u_) (aA (aD (i:=2)) (aA aF aG))))))))) (aV (eN (aR pj hr 0x4 0x3 (aA (aD (i:=0)) (aA aF (aA (aD (i:=3)) (aA (aD (i:=1)) aG)))))))))
theorem aNt:bY aNr ["script"] (aO J5):=0xa
theorem aNu[KFrag]{P:bh}{w:bd}{K:Frag}{mg:Str->aq ak}{base:ay}{fad:am}{fd:cj}(hK:KFrag.K=K)(B:Bt mg)(tO:cL P w K mg base 4 "_law_program" 1 iC)(p5:cL P w K mg base 1 "_law_draw" 2 aK)(pq:cL P w K mg base 3 "_law_value" 4 dJ)(pj:cL P w K mg base 2 "_law_laid" 4 d7)(tP:cL P w K mg base 4 "_law_taken" 2 kW)(tQ:cL P w K mg base 4 "_law_second" 3 jD)(tR:cL P w K mg base 2 "_law_beside" 3 jF)(tU:cL P w K mg base 2 "_law_copied" 2 jG)(tW:cL P w K mg base 3 "_law_wrong" 2 kY)(pL:vI P w K mg base 5 "unwoven" 2 dF){rP:am}(tX:mg "MillError"=ae (.ref rP)){qu:am}(tY:mg "NoNet"=ae (.ref qu)){qv:am}(u5:mg "Stuck"=ae (.ref qv)){qw:am}(u7:mg "Unfit"=ae (.ref qw)){qx:am}(u8:mg "BadKind"=ae (.ref qx)){qy:am}(u9:mg "Spent"=ae (.ref qy)){qz:am}(ua:mg "NoTerm"=ae (.ref qz)){qA:am}(ub:mg "NoValue"=ae (.ref qA))(uc:mg "ValueError"=aj)(y1:aQ4 (λc=>∃C,nsIn K bi c=ae (ae (.ref C))/\lq K (.ref C) (.ref rP)=ae af) ["NoValue"])(y2:aE6 (λc b=>∃C,nsIn K bi c=ae (ae (.ref C))/\XC K C/\ft K (.ref C) (.ref qu)=ae b) [("NoValue",ai)])(y3:aE6 (λc b=>∃C,nsIn K bi c=ae (ae (.ref C))/\XC K C/\ft K (.ref C) (.ref qv)=ae b) [("NoValue",ai)])(y4:aE6 (λc b=>∃C,nsIn K bi c=ae (ae (.ref C))/\XC K C/\ft K (.ref C) (.ref qw)=ae b) [("NoValue",ai)])(y5:aE6 (λc b=>∃C,nsIn K bi c=ae (ae (.ref C))/\XC K C/\ft K (.ref C) (.ref qx)=ae b) [("NoValue",ai)])(y6:aE6 (λc b=>∃C,nsIn K bi c=ae (ae (.ref C))/\XC K C/\ft K (.ref C) (.ref qy)=ae b) [("NoValue",ai)])(y7:aE6 (λc b=>∃C,nsIn K bi c=ae (ae (.ref C))/\XC K C/\ft K (.ref C) (.ref qz)=ae b) [("NoValue",ai)])(y8:aE6 (λc b=>∃C,nsIn K bi c=ae (ae (.ref C))/\XC K C/\ft K (.ref C) (.ref qA)=ae b) [("NoValue",af)])(y9:aE6 (λc b=>∃C,nsIn K bi c=ae (ae (.ref C))/\XC K C/\ft K (.ref C) (.type "ValueError")=ae b) [("NoValue",af)])(F:Fun K "law" "law" J5 fad fd):xU P w K mg base CX0 6 fad fd ["script"] (spD Z5 1):=by
 have sc:=aNt;have nd:=sc.nd;refine aMk (ps:=["script"]) (N:=aNr) (k:=5) F sc o_law 0x4 0x4 λcdv A outer s H E hr=>?_
 have hu:=xN hr
 exact aJ (aY (i:=1) (o:=ai) rfl sc.nd rfl 0x0 (aR tO hr 0x4 0x3 (aA (aD (i:=0)) aG))) (aJ (aY (i:=2) (o:=ai) rfl sc.nd rfl 0x0 (aW (aW (aD (i:=1)) aF) (aU cA (aR p5 hr 0x4 0x3 (aA (aD (i:=0)) (aA aF aG))) (bK (dO hK) 0x3 B.len dR (aA (aW (aD (i:=1)) aF) aG))))) (aJ (aY (i:=3) (o:=ai) rfl sc.nd rfl 0x0 (aR pj hr 0x4 0x3 (aA (aD (i:=0)) (aA aF (aA (aR pq hr 0x4 0x3 (aA (aD (i:=0)) (aA aF (aA (aD (i:=1)) (aA (aD (i:=2)) aG))))) (aA (aD (i:=1)) aG)))))) (aJ (aY (i:=4) (o:=ai) rfl sc.nd rfl 0x0 (aU cA (aR p5 hr 0x4 0x3 (aA (aD (i:=0)) (aA aF aG))) aF)) (aJ (iW (PW.pt (NB (b_ (jQ hu) (aD (i:=4)) aF (cF _)) (yS (b_ (HR hu) (bK (dO hK) 0x3 B.len dR (aA (aW (aD (i:=1)) aF) aG)) aF (cF _))))) (aV (aY (i:=3) (o:=ai) rfl sc.nd rfl 0x0 (aR tP hr 0x4 0x3 (aA (aD (i:=0)) (aA (aD (i:=1)) aG))))) (aV (iW (b_ (jQ hu) (aD (i:=4)) aF (cF _)) (aV (aY (i:=3) (o:=ai) rfl sc.nd rfl 0x0 (aR tQ hr 0x4 0x3 (aA (aD (i:=0)) (aA (aD (i:=3)) (aA (aD (i:=1)) aG)))))) (aV (iW (b_ (jQ hu) (aD (i:=4)) aF (cF _)) (aV (aY (i:=3) (o:=ai) rfl sc.nd rfl 0x0 (aR tR hr 0x4 0x3 (aA (aD (i:=0)) (aA (aD (i:=3)) (aA (aD (i:=1)) aG)))))) (aV (iW (b_ (jQ hu) (aD (i:=4)) aF (cF _)) (aV (aY (i:=3) (o:=ai) rfl sc.nd rfl 0x0 (aR tU hr 0x4 0x3 (aA (aD (i:=0)) (aA (aD (i:=3)) aG))))) (aV (iW (b_ (jQ hu) (aD (i:=4)) aF (cF _)) (aV (aY (i:=3) (o:=ai) rfl sc.nd rfl 0x0 (bB (aA (bB aG) (aA (bB aG) (aA aF aG)))))) (aV (iW (PW.pt (NB (b_ (jQ hu) (aD (i:=4)) aF (cF _)) (yS (b_ (HR hu) (bK (dO hK) 0x3 B.len dR (aA (aW (aD (i:=1)) aF) aG)) aF (cF _))))) (aV (aY (i:=3) (o:=ai) rfl sc.nd rfl 0x0 (aR tW hr 0x4 0x3 (aA (aD (i:=0)) (aA (aD (i:=1)) aG))))) (aV (aY (i:=3) (o:=ai) rfl sc.nd rfl 0x0 (bB (aA (aW (aD (i:=3)) aF) (aA (aW (aD (i:=3)) aF) (aA (aU bU aF (aU cA (aR p5 hr 0x4 0x3 (aA (aD (i:=0)) (aA aF aG))) (aU NK aF aF))) aG))))))))))))))))) (aJ (aY (i:=5) (o:=ai) rfl sc.nd rfl 0x0 aM9) (aJ (aNk (ic:=5) (ie:=6) hK rfl rfl pL hr 0x4 0x3 (aA (aD (i:=1)) (aA (aD (i:=3)) aG)) 0x3 tX (aCt y1) sc.nd rfl rfl rfl 0x0 (.inl rfl) rfl rfl 0x4) (aJ (iW (PW.pt (BW (p_ (nY (i:=5) (v:=.ref qu) hK (mQ y2) (λu r=>r) 0x3 B.isi rfl 0x0 (sG 0x3 tY rfl) rfl rfl)) (BW (p_ (nY (i:=5) (v:=.ref qv) hK (mQ y3) (λu r=>r) 0x3 B.isi rfl 0x0 (sG 0x3 u5 rfl) rfl rfl)) (yU (p_ (nY (i:=5) (v:=.ref qw) hK (mQ y4) (λu r=>r) 0x3 B.isi rfl 0x0 (sG 0x3 u7 rfl) rfl rfl)))))) (aV (eN R9)) fX) (aJ (iW (PW.pt (BW (p_ (nY (i:=5) (v:=.ref qx) hK (mQ y5) (λu r=>r) 0x3 B.isi rfl 0x0 (sG 0x3 u8 rfl) rfl rfl)) (BW (p_ (nY (i:=5) (v:=.ref qy) hK (mQ y6) (λu r=>r) 0x3 B.isi rfl 0x0 (sG 0x3 u9 rfl) rfl rfl)) (yU (p_ (nY (i:=5) (v:=.ref qz) hK (mQ y7) (λu r=>r) 0x3 B.isi rfl 0x0 (sG 0x3 ua rfl) rfl rfl)))))) (aV (eN R9)) fX) (aV (eN (aGo (nY (i:=5) (v:=.ref qA) hK (mQ y8) (λu r=>r) 0x3 B.isi rfl 0x0 (sG 0x3 ub rfl) rfl rfl) (aGm (nY (i:=5) (v:=.ty "ValueError") hK (mQ y9) (λu r=>r) 0x3 B.isi rfl 0x0 (aHe 0x3 uc JF rfl) rfl rfl)))))))))))))
theorem aD7:bY (["self","word"]:aa Str) ["self","word"] (aO mX):=0xa
theorem Z9[KFrag]{P:bh}{w:bd}{K:Frag}{mg:Str->aq ak}{base:ay}{fad C M:am}{fd:cj}(F:Fun K "__init__" "NoName.__init__" mX fad fd)(x:XI K C fad)(m:mg "MillError"=ae (.ref M))(b1:kj K (.ref M) "__getattribute__"=ae (ae (.builtin "type.__getattribute__")))(b2:xh K M (.type "type")=af)(b3:xi K (.ref M) (.type "type") "__init__"=ae (.val (.builtin "ValueError.__init__")))(no:dm K (.ref C) "word"=ae aj):xU P w K mg base CX0 1 fad fd ["self","word"] (wM C ["word"]):=
 have sc:=aD7
 W7 (M:=M) F sc rfl rfl λcdv A outer s H E hr=>xT (yF (aCn x.cl 0x3 m b1 b2 b3 (eQ (fH (i:=0) rfl 0x0) (eQ (fH (i:=1) rfl 0x0) j8)))) (yE (aCo x no (fH (i:=0) rfl 0x0) (fH (i:=1) rfl 0x0)))
theorem Z_:bY (["self","word"]:aa Str) ["self","word"] (aO jZ):=0xa
theorem UL[KFrag]{P:bh}{w:bd}{K:Frag}{mg:Str->aq ak}{base:ay}{fad C M:am}{fd:cj}(F:Fun K "__init__" "BadKind.__init__" jZ fad fd)(x:XI K C fad)(m:mg "MillError"=ae (.ref M))(b1:kj K (.ref M) "__getattribute__"=ae (ae (.builtin "type.__getattribute__")))(b2:xh K M (.type "type")=af)(b3:xi K (.ref M) (.type "type") "__init__"=ae (.val (.builtin "ValueError.__init__")))(no:dm K (.ref C) "word"=ae aj):xU P w K mg base CX0 1 fad fd ["self","word"] (wM C ["word"]):=
 have sc:=Z_
 W7 (M:=M) F sc rfl rfl λcdv A outer s H E hr=>xT (yF (aCn x.cl 0x3 m b1 b2 b3 (eQ (fH (i:=0) rfl 0x0) (eQ (fH (i:=1) rfl 0x0) j8)))) (yE (aCo x no (fH (i:=0) rfl 0x0) (fH (i:=1) rfl 0x0)))
def AtN(K:Frag)(n:Str)(st:bq):Prop:=∃(f:am)(fd:cj),nsIn K bi n=ae (ae (.ref f))/\Fun K n n st f fd
theorem aQb{K:Frag}{n:Str}{st:bq}{f:am}{oc kV dc pm cd ct:ak}{od an:aq am}{sl:aE (aq ak)}(a:nsIn K bi n=ae (ae (.ref f)))(l:K.lookup f=ae ⟨oc,od,.func (fnOf n n (jN st) (fB st) (aO st) .none kV dc pm an cd ct),sl⟩)(c:codeIn K cd n=af)(k:keepIn K (.ref f)=af):AtN K n st:=⟨f,_,a,DX (st:=st) l c k⟩
theorem aNv{l:OpenLaw}{w:bd}{K:Frag}{h:ay}{mg:Str->aq ak}{fa:am}(X:K.In h)(G:h.Ns bi mg)(hfa:mg "law"=ae (.ref fa))(a0:AtN K "_law_draw" sS)(a1:AtN K "_law_word" sV)(a2:AtN K "_law_makers" iZ)(a3:AtN K "_law_takers" jA)
 {f4 T4:am}{oc4 kV4 dc4 pm4 cd4 ct4 tc4:ak}{od4 an4 td4:aq am}{sl4 tl4:aE (aq ak)}{tk4:fw}{tn4:ag}(a4:nsIn K bi "_law_words"=ae (ae (.ref f4)))(l4:K.lookup f4=ae ⟨oc4,od4,.func (fnOf "_law_words" "_law_words" (jN cQ) (fB cQ) (aO cQ) (.ref T4) kV4 dc4 pm4 an4 cd4 ct4),sl4⟩)(c4:codeIn K cd4 "_law_words"=af)(k4:keepIn K (.ref f4)=af)(t4:K.lookup T4=ae ⟨tc4,td4,.seq #[.int 0 tk4] tn4,tl4⟩)(a5:AtN K "_law_rules" kI)(a6:AtN K "_law_program" iB)(a7:AtN K "_law_stock" nZ)(a8:AtN K "_law_laid" jY)(a9:AtN K "_law_value" n6)(a10:AtN K "_law_taken" n8)(a11:AtN K "mates_of" v8)(a12:AtN K "words_along" gM)(a13:AtN K "heads_of" v_)(a14:AtN K "head_of" zL)(a15:AtN K "walk_words" n_)(a16:AtN K "rim_among" mU)(a17:AtN K "ends_of" zM)(a18:AtN K "rim" aJr)(a19:AtN K "unwoven" zN)(a20:AtN K "_law_second" jC)(a21:AtN K "_law_beside" jE)(a22:AtN K "_law_copied" mW)(a23:AtN K "_law_wrong" oA)
 {f24:am}{oc24 kV24 dc24 pm24 cd24 ct24:ak}{od24 an24:aq am}{sl24:aE (aq ak)}(a24:nsIn K bi "law"=ae (ae (.ref f24)))(l24:K.lookup f24=ae ⟨oc24,od24,.func (fnOf "law" "law" (jN J5) (fB J5) (aO J5) .none kV24 dc24 pm24 an24 cd24 ct24),sl24⟩)(c24:codeIn K cd24 "law"=af)(k24:keepIn K (.ref f24)=af)(qB:nsIn K bi "len"=ae aj)(qD:nsIn K bi "min"=ae aj)(qE:nsIn K bi "max"=ae aj)(qF:nsIn K bi "list"=ae aj)(qG:nsIn K bi "tuple"=ae aj)(qH:nsIn K bi "sorted"=ae aj)(qI:nsIn K bi "range"=ae aj)(qJ:nsIn K bi "isinstance"=ae aj)(qK:nsIn K bi "int"=ae aj)(qL:nsIn K bi "bool"=ae aj)(qM:nsIn K bi "str"=ae aj)(qN:nsIn K bi "dict"=ae aj)(qO:nsIn K bi "all"=ae aj)(qP:nsIn K bi "enumerate"=ae aj)(qQ:nsIn K bi "sum"=ae aj)(qR:nsIn K bi "zip"=ae aj)(qS:nsIn K bi "abs"=ae aj)(qT:nsIn K bi "reversed"=ae aj){p6:am}(p7:nsIn K bi "NoValue"=ae (ae (.ref p6))){p8:am}(po:nsIn K bi "BadKind"=ae (ae (.ref p8))){pE:am}(pF:nsIn K bi "MillError"=ae (ae (.ref pE))){rQ:am}(qU:nsIn K bi "NoNet"=ae (ae (.ref rQ))){rR:am}(qV:nsIn K bi "Stuck"=ae (ae (.ref rR))){rS:am}(qW:nsIn K bi "Unfit"=ae (ae (.ref rS))){rT:am}(qX:nsIn K bi "Spent"=ae (ae (.ref rT))){rV:am}(qY:nsIn K bi "NoTerm"=ae (ae (.ref rV))){pb:am}(pM:nsIn K bi "NoName"=ae (ae (.ref pb))){pG:am}{ud ue uf ug rW uh:ak}{ui uj:aq am}{ul:aE (aq ak)}{pH:am}{um uo uq ur rX ut:ak}{uv ux:aq am}{uy:aE (aq ak)}(pN:excIn K p6 aKq "ValueError.__new__"=af)(xm1_BadKind:lq K (.ref p8) (.ref p8)=ae af)(qZ:nsIn K bi "ValueError"=ae aj)(r6:lq K (.ref p6) (.ref pE)=ae af)(r8:AU K p6=af)(r9:dm K (.ref p6) "__getattribute__"=ae (ae (.builtin "BaseException.__getattribute__")))(rf:dm K (.ref p6) "__getattr__"=ae aj)(rh:dm K (.ref p6) "__class__"=ae (ae (.builtin "object.__class__")))(ri:kj K (.builtin "object.__class__") "__get__"=ae (ae (.builtin "getset_descriptor.__get__")))(rj:wo K (.builtin "object.__class__")=ae af)(rq:iO K p6 (.type "object")=ae af)(rA:iO K p6 (.type "BaseException")=ae af)(rB:ft K (.ref p6) (.ref rQ)=ae ai)(rC:ft K (.ref p6) (.ref rR)=ae ai)(rD:ft K (.ref p6) (.ref rS)=ae ai)(rE:ft K (.ref p6) (.ref p8)=ae ai)(rG:ft K (.ref p6) (.ref rT)=ae ai)(rH:ft K (.ref p6) (.ref rV)=ae ai)(rJ:ft K (.ref p6) (.ref p6)=ae af)(rK:ft K (.ref p6) (.type "ValueError")=ae af)(pO:exC K pb=af)(pQ:dm K (.ref pb) "__init__"=ae (ae (.ref pG)))(pR:isFn K (.ref pG)=af)(pS:keepIn K (.ref pb)=af)(pT:dm K (.ref pb) "__setattr__"=ae (ae (.builtin "object.__setattr__")))(rY:AU K pb=af)(rZ:dm K (.ref pb) "__getattribute__"=ae (ae (.builtin "BaseException.__getattribute__")))(t5:dm K (.ref pb) "__getattr__"=ae aj)(t6:dm K (.ref pb) "__class__"=ae (ae (.builtin "object.__class__")))(t7:kj K (.builtin "object.__class__") "__get__"=ae (ae (.builtin "getset_descriptor.__get__")))(t8:wo K (.builtin "object.__class__")=ae af)(pU:iO K pb (.type "object")=ae af)(t9:iO K pb (.type "BaseException")=ae af)(rL:dm K (.ref pb) "word"=ae aj)(pX:K.lookup pG=ae ⟨ud,ui,.func (fnOf "__init__" "NoName.__init__" (jN mX) (fB mX) (aO mX) .none ue uf ug uj rW uh),ul⟩)(pY:codeIn K rW "NoName.__init__"=af)(pZ:keepIn K (.ref pG)=af)(qb:kj K (.ref pE) "__getattribute__"=ae (ae (.builtin "type.__getattribute__")))(qc:xh K pE (.type "type")=af)(qd:xi K (.ref pE) (.type "type") "__init__"=ae (.val (.builtin "ValueError.__init__")))(qe:exC K p8=af)(qf:dm K (.ref p8) "__init__"=ae (ae (.ref pH)))(qg:isFn K (.ref pH)=af)(qh:keepIn K (.ref p8)=af)(qi:dm K (.ref p8) "__setattr__"=ae (ae (.builtin "object.__setattr__")))(tf:AU K p8=af)(tj:dm K (.ref p8) "__getattribute__"=ae (ae (.builtin "BaseException.__getattribute__")))(tm:dm K (.ref p8) "__getattr__"=ae aj)(tq:dm K (.ref p8) "__class__"=ae (ae (.builtin "object.__class__")))(tB:kj K (.builtin "object.__class__") "__get__"=ae (ae (.builtin "getset_descriptor.__get__")))(tD:wo K (.builtin "object.__class__")=ae af)(qj:iO K p8 (.type "object")=ae af)(tE:iO K p8 (.type "BaseException")=ae af)(rM:dm K (.ref p8) "word"=ae aj)(qk:K.lookup pH=ae ⟨um,uv,.func (fnOf "__init__" "BadKind.__init__" (jN jZ) (fB jZ) (aO jZ) .none uo uq ur ux rX ut),uy⟩)(ql:codeIn K rX "BadKind.__init__"=af)(qo:keepIn K (.ref pH)=af) :
  ∃fd:cj,(∀(s:ar)(v:ak),kG s fd ⟨[v],[]⟩ [("script",v)])/\∀base:ay,K.In base->base.Ns bi mg->xU l.prog w K mg base CX0 6 fa fd ["script"] (@spD ⟨K⟩ Z5 1):=by
 have e:=hfa.symm.trans (mg_of X G a24);cases e
 letI:KFrag:=⟨K⟩
 have pi:XC K p6:=⟨r8,r9,rf,rh,ri,rj,rq,rA⟩
 have Y:=λ{n:Str}{v:ak}=>mg_of (n:=n) (v:=v) X G
 have Z:=λ{n:Str}=>mg_none_of (n:=n) X G
 obtain⟨f0,_,a0,F0⟩:=a0;obtain⟨f1,_,a1,F1⟩:=a1;obtain⟨f2,_,a2,F2⟩:=a2;obtain⟨f3,_,a3,F3⟩:=a3;obtain⟨f5,_,a5,F5⟩:=a5;obtain⟨f6,_,a6,F6⟩:=a6;obtain⟨f7,_,a7,F7⟩:=a7;obtain⟨f8,_,a8,F8⟩:=a8;obtain⟨f9,_,a9,F9⟩:=a9;obtain⟨f10,_,a10,F10⟩:=a10;obtain⟨f11,_,a11,F11⟩:=a11;obtain⟨f12,_,a12,F12⟩:=a12;obtain⟨f13,_,a13,F13⟩:=a13;obtain⟨f14,_,a14,F14⟩:=a14;obtain⟨f15,_,a15,F15⟩:=a15;obtain⟨f16,_,a16,F16⟩:=a16;obtain⟨f17,_,a17,F17⟩:=a17;obtain⟨f18,_,a18,F18⟩:=a18;obtain⟨f19,_,a19,F19⟩:=a19;obtain⟨f20,_,a20,F20⟩:=a20;obtain⟨f21,_,a21,F21⟩:=a21;obtain⟨f22,_,a22,F22⟩:=a22;obtain⟨f23,_,a23,F23⟩:=a23;have B:Bt mg:=⟨Z qB,Z qD,Z qE,Z qF,Z qG,Z qH,Z qI,Z qJ,Z qK,Z qL,Z qM,Z qN,Z qO,Z qP,Z qQ,Z qR,Z qS,Z qT⟩
 refine⟨fnOf "law" "law" (jN J5) (fB J5) (aO J5) .none kV24 dc24 pm24 an24 cd24 ct24,λs v=>.of_eq rfl,λbase _ _=>?_⟩;have ph:=J6 (P:=l.prog) (w:=w) (base:=base) rfl B  F0 (Y a0);have qp:=J7 (P:=l.prog) (w:=w) (base:=base) rfl B ph F1 (Y a1);have uz:=zQ (P:=l.prog) (w:=w) (base:=base) rfl B ph qp F2 (Y a2);have uA:=zR (P:=l.prog) (w:=w) (base:=base) rfl B ph qp F3 (Y a3);have F4:aPs K "_law_words" "_law_words" cQ f4 _ T4 #[.int 0 tk4]:=⟨⟨_,_,_,_,_,_,_,_,_,rfl,l4,c4⟩,k4,⟨_,_,_,_,t4⟩⟩
 have rN:aMu l.prog w K mg base 2 "_law_words" "least" 6 (.int 0) dI:=⟨⟨f4,_,["script","at","book","known","kind","most","least"],.int 0 tk4,.int 0,CK rfl B ph F4,Y a4,k4,(λs us X' hl=>by obtain⟨_,_,_,_,_,_,_,rfl⟩:=l7 (by simpa using hl);exact xr rfl (X' _ _ t4) rfl rfl rfl),(λs us X' hl=>by obtain⟨_,_,_,_,_,_,rfl⟩:=l6 (by simpa using hl);exact xr rfl (X' _ _ t4) rfl rfl rfl),⟨_,rfl⟩,λ_=>.int 0,λs us y X' hl=>by obtain⟨_,_,_,_,_,_,rfl⟩:=l6 hl;first|exact .of_eq rfl|exact .of_eq 0x5|exact xr rfl (X' _ _ t4) rfl rfl rfl|exact xr rfl (X' _ _ t4) rfl 0x5 0x5⟩⟩
 have uB:=CN (P:=l.prog) (w:=w) (base:=base) rfl B ph qp rN F5 (Y a5);have uC:=xQ (P:=l.prog) (w:=w) (base:=base) rfl B ph uA uz qp uB F6 (Y a6);have uD:=CP (P:=l.prog) (w:=w) (base:=base) rfl B  F7 (Y a7);have qr:=KC (P:=l.prog) (w:=w) (base:=base) rfl B uD ph F8 (Y a8);have rO:=CQ (P:=l.prog) (w:=w) (base:=base) rfl B ph rN F9 (Y a9);have uE:=CT (P:=l.prog) (w:=w) (base:=base) rfl B ph rO qr F10 (Y a10);have uF:=QR (P:=l.prog) (w:=w) (base:=base) rfl B  F11 (Y a11);have pJ:=zU (P:=l.prog) (w:=w) (base:=base) rfl B uF p7 (Y p7) pN F12 (Y a12);have uO:=pJ.cal;have uG:=QS (P:=l.prog) (w:=w) (base:=base) rfl B  F13 (Y a13);have qt:aNm l.prog w K mg base 1 "NoName" ["word"]:=⟨pb,pG,_,_,pM,Y pM,⟨pO,pQ,pR,pS,pT,pU⟩,Z9 (DX (st:=mX) pX pY pZ) ⟨pO,pQ,pR,pS,pT,pU⟩ (Y pF) qb qc qd rL,(DX (st:=mX) pX pY pZ).binds λ_ _ _ _ _ _ us hl=>by obtain⟨_,_,rfl⟩:=l2 hl;rfl,by decide⟩
 have pI:=T_ (P:=l.prog) (w:=w) (base:=base) rfl B  qt F14 (Y a14);have uP:=pI.cal;have pD:aNm l.prog w K mg base 1 "BadKind" ["word"]:=⟨p8,pH,_,_,po,Y po,⟨qe,qf,qg,qh,qi,qj⟩,UL (DX (st:=jZ) qk ql qo) ⟨qe,qf,qg,qh,qi,qj⟩ (Y pF) qb qc qd rM,(DX (st:=jZ) qk ql qo).binds λ_ _ _ _ _ _ us hl=>by obtain⟨_,_,rfl⟩:=l2 hl;rfl,by decide⟩
 have pK:=CW (P:=l.prog) (w:=w) (base:=base) rfl B  pI pD F15 (Y a15);have uQ:=pK.cal;have uH:=KN (P:=l.prog) (w:=w) (base:=base) rfl B  F16 (Y a16);have uI:=UG (P:=l.prog) (w:=w) (base:=base) rfl B  F17 (Y a17);have uJ:=aJt (P:=l.prog) (w:=w) (base:=base) rfl B uI uH F18 (Y a18);have pL:=UJ (P:=l.prog) (w:=w) (base:=base) rfl B uJ uG pJ pK p7 (Y p7) pN po (Y po) xm1_BadKind F19 (Y a19);have uR:=pL.cal;have uK:=zV (P:=l.prog) (w:=w) (base:=base) rfl B rO qr F20 (Y a20);have uL:=zW (P:=l.prog) (w:=w) (base:=base) rfl B ph F21 (Y a21);have uM:=zX (P:=l.prog) (w:=w) (base:=base) rfl B ph F22 (Y a22);have uN:=DK (P:=l.prog) (w:=w) (base:=base) rfl B rN qr F23 (Y a23);exact aNu rfl B uC ph rO qr uE uK uL uM uN pL (Y pF) (Y qU) (Y qV) (Y qW) (Y po) (Y qX) (Y qY) (Y p7) (mg_none_of X G qZ) ⟨⟨_,p7,r6⟩,trivial⟩ ⟨⟨_,p7,pi,rB⟩,trivial⟩ ⟨⟨_,p7,pi,rC⟩,trivial⟩ ⟨⟨_,p7,pi,rD⟩,trivial⟩ ⟨⟨_,p7,pi,rE⟩,trivial⟩ ⟨⟨_,p7,pi,rG⟩,trivial⟩ ⟨⟨_,p7,pi,rH⟩,trivial⟩ ⟨⟨_,p7,pi,rJ⟩,trivial⟩ ⟨⟨_,p7,pi,rK⟩,trivial⟩ (DX (st:=J5) l24 c24 k24)
theorem walk{l:OpenLaw}{q:bh}{loose:aa Str}{XP:(Str->aq ak)->ay->Prop}{YP:bd->ay->Prop}{d:DefRec}{K:Params->Frag}(main:∀ns:aa ah,ns.length<=63->Z5 [.scr (ns.map ε)]=.ok (.bl af))(hn:l.most=ae 63)(hdf:d.params.defaults=[])
 (hY:∀(w:bd) (h:ay),YP w h->(K w.params).In h)
 (F:∀(w:bd) (mg:Str->aq ak) (fa:am) (h:ay),(K w.params).In h->h.Ns bi mg->mg d.name=ae (.ref fa)->
   ∃fd:cj,(∀(s:ar) (u:ak),kG s fd ⟨[u],[]⟩ [("script",u)])/\∀base:ay,(K w.params).In base->base.Ns bi mg->xU l.prog w (K w.params) mg base CX0 6 fa fd ["script"] (@spD ⟨K w.params⟩ Z5 1)) :
  WalkO q loose XP YP l.row.toRowW d [] (λf vs=>zn f vs):=
 L2.aHz (n:=63) (k:=6) (x:= "script") (CX:=λ_=>CX0) (sp:=λw=>@spD ⟨K w.params⟩ Z5 1) hn 0x4 hdf ⟨rfl,by decide,by decide⟩ hY F (λw H a ns hl hO hS=>aBu main hl hO hS) λ_ _ _ _ _ z=>z
end Lk66
end
namespace Lk66
open PySem L2 Mi
theorem call_v(h:f (ds++b9 (m-n) D.uD)=.ok (.rt d)):fnS n m f ds=.ok d:=by
 unfold fnS;rw[h];rfl
theorem aD8(h:f ρ=.ok (.rt d)):bN f g ρ=.ok (.rt d):=by
 unfold bN;rw[h];rfl
theorem aNw(a b:ah):o6 (.int a) (.int b)=bG .mul (.int a) (.int b):=rfl
theorem aD9(a:ah)(h1:0<=a)(h2:a<4294967296):lH a=af:=by
 simp only[lH,bc,dE];lia
theorem aQc(n:ag):max2 [.int 1,.int n]=.ok (.int (if (1:ah)<n then n else 1)):=by
 rfl
def drw(ns:aa ah)(k:ah):ah:=match aK [.scr (ns.map ε),.int k] with
 |.ok (.int r)=>r
 |_=>0
theorem aJu(ns:aa ah)(hn:ns.length<=63)(k:ah):∃r:ah,aK [.scr (ns.map ε),.int k]=.ok (.int r)/\0<=r/\r<2147483629:=by
 have hl:fJ [.scr (ns.map ε)]=.ok (.int ns.length):=by
  show τ (ε ((ns.map ε).length:ah))=_;rw[az]
 have rest:∀cell:ah,∃r:ah,(bN (bW ai 3 (b2 (bG .mod) (b2 o6 (b2 (bG .add) (b2 (bG .add) d8 cR) (b2 o6 yP (b2 (bG .fdiv) cW (aM max2 (aC cR (aC (aM fJ (aC cO aP)) aP)))))) G3) iV) af) (oM (b2 (bG .mod) (b2 o6 dG dG) mH) af)) [.scr (ns.map ε),.int k,.int cell,.uD]=.ok (.rt (.int r))/\0<=r/\r<2147483629:=by
  intro cell;have hmx:=aQc ns.length;have hm:(0:ah)<(if (1:ah)<ns.length then (ns.length:ah) else 1)/\(if (1:ah)<ns.length then (ns.length:ah) else 1)<1073741824:=by split<;>lia
  generalize (if (1:ah)<ns.length then (ns.length:ah) else 1)=m at hmx hm;have f1:=fY k m hm.1 hm.2;have f2:=sO 104729 (k / m) 0x4;have f3:=dH cell 1;have f4:=dH (cell+1) (104729*(k / m));have f5:=aBx (cell+1+104729*(k / m)) 48271 0x4;have f6:=cG ((cell+1+104729*(k / m))*48271) 2147483647 0x4;have x0:0<=(cell+1+104729*(k / m))*48271 % 2147483647:=dq _ 0x4;have x1:(cell+1+104729*(k / m))*48271 % 2147483647<2147483647:=dP _ 0x4;generalize (cell+1+104729*(k / m))*48271 % 2147483647=x at f6 x0 x1;have f7:=aBx x x (aD9 x x0 0x1);have f8:=cG (x*x) 2147483629 0x4;refine⟨x*x % 2147483629,?_,dq _ 0x4,dP _ 0x4⟩;refine aN (bQ (aH (aH (aH (aH rfl rfl f3) (aH rfl (aH rfl (aQ (aB rfl (aB (aQ (aB rfl rfl) hl) rfl)) hmx) f1) f2) f4) rfl f5) rfl f6)) ?_;exact gV (aH (aH rfl rfl f7) rfl f8) rfl
 have fin:∀cell:ah,zJ [.scr (ns.map ε),.int k,.uD,.uD]=(bN (bW ai 3 (b2 (bG .mod) (b2 o6 (b2 (bG .add) (b2 (bG .add) d8 cR) (b2 o6 yP (b2 (bG .fdiv) cW (aM max2 (aC cR (aC (aM fJ (aC cO aP)) aP)))))) G3) iV) af) (oM (b2 (bG .mod) (b2 o6 dG dG) mH) af)) [.scr (ns.map ε),.int k,.int cell,.uD]->∃r:ah,aK [.scr (ns.map ε),.int k]=.ok (.int r)/\0<=r/\r<2147483629:=λcell e=>by
  obtain⟨r,h1,h2⟩:=rest cell;exact⟨r,call_v (e.trans h1),h2⟩
 by_cases h0:(ns.length:ah) > 0
 ·have hc:cV (.ord .gt) (.int ns.length) (.int 0)=.ok (.bl af):=by
   show τ (υ (ϒ (0<(ns.length:ah))))=_;rw[cb h0]
  have m1:=cG k ns.length h0;have i0:0<=k % (ns.length:ah):=dq _ 0x1;have i1:k % (ns.length:ah)<ns.length:=dP _ h0;generalize k % (ns.length:ah)=i at m1 i0 i1;have hlt:i.toNat<(ns.map ε).length:=by rw[az];lia
  have hg:getD (.scr (ns.map ε)) (.int i)=.ok (.int (ns[i.toNat]' 0x1)):=by
   show ξ ((ixD (ns.map ε).length i).bind λj=>(ns.map ε)[j]?)=_;unfold ixD;rw[av i0,av (by rw[az];exact i1)];simp only[Ag];rw[ff hlt,AV];rfl
  have m2:=cG (ns[i.toNat]' 0x1) 2147483647 0x4;refine fin _ (aN (bQ rfl) (aN (xX (dZ (aH (aQ (aB rfl rfl) hl) rfl hc)) (bQ (aH (aH rfl (aH rfl (aQ (aB rfl rfl) hl) m1) hg) rfl m2))) rfl))
 ·have hc:cV (.ord .gt) (.int ns.length) (.int 0)=.ok (.bl ai):=by
   show τ (υ (ϒ (0<(ns.length:ah))))=_;rw[c8 h0]
  exact fin 0 (aN (bQ rfl) (aN (j6 (dZ (aH (aQ (aB rfl rfl) hl) rfl hc)) rfl) rfl))
theorem oE(hn:ns.length<=63)(k:ah):bO 2 aK [.scr (ns.map ε),.int k]=.ok (.int (drw ns k))/\0<=drw ns k/\drw ns k<2147483629:=by
 obtain⟨r,h1,h2⟩:=aJu ns hn k;have e:drw ns k=r:=by
  unfold drw;rw[h1]
 rw[e];exact⟨(cJ rfl).trans h1,h2⟩
noncomputable def abc:Str:= "abcdefghijklmnopqrstuvwxyz"
theorem aDa(x:Str)(n:ag)(hx:x.cps.toList.length=n)(hl:x.length<=lim)(i:ah)(h0:0<=i)(h1:i<n):getD (.str x) (.int i)=.ok (.str ⟨#[x.cps.toList.getD i.toNat 0]⟩):=by
 have hix:ixD x.cps.toList.length i=ae i.toNat:=by
  unfold ixD;rw[av h0,hx,av 0x1]
 have hlt:i.toNat<x.cps.toList.length:=by rw[hx];lia
 show(if ϒ (x.length<=lim) then ξ (((ixD x.cps.toList.length i).bind λj=>x.cps.toList[j]?).map λc=>δ ⟨#[c]⟩) else .bad)=_;rw[cb hl,av rfl,hix];simp only[Ag];rw[ef,ff hlt];rfl
theorem aDb(i:ah)(h0:0<=i)(h1:i<26):getD (.str abc) (.int i)=.ok (.str ⟨#[abc.cps.toList.getD i.toNat 0]⟩):=aDa abc 26 0x6 0x6 i h0 h1
theorem aJv(i:ah)(h0:0<=i)(h1:i<4):getD (.str "abdz") (.int i)=.ok (.str ⟨#[("abdz" : Str).cps.toList.getD i.toNat 0]⟩):=aDa "abdz" 4 0x6 0x6 i h0 h1
noncomputable def one(c:ag):Str:=⟨#[c]⟩
theorem QV(c:ag)(n:ag):(lc (one c) (n:ah)).cps.toList=b9 n c:=by
 unfold lc;by_cases h:(n:ah)<1
 ·have:n=0:=by lia
  subst this;rw[av h];rfl
 ·rw[ax h];by_cases h1:n=1
  ·subst h1;rfl
  ·rw[ax]
   ·have:∀(m:ag)(acc:aE ag),((b9 m (one c).cps).foldl (·++·) acc).toList=acc.toList++b9 m c:=by
     intro m;induction m with
     |zero=>intro acc;simp
     |succ m ih=>
      intro acc;rw[D3,List.foldl_cons,ih,D3];simp[one]
    have:=this n #[];simpa using this
   ·have:(one c).length=1:=rfl;rw[this];simp;lia
theorem W9{p q r t:ag}(h1:p≠q)(h2:p≠r)(h3:p≠t)(h4:q≠r)(h5:q≠t)(h6:r≠t):b9 a c++d::b9 b c≠[p,q,r,t]:=by
 intro h;have hl:=di n9 h;simp at hl;have:(a=0/\b=3)\/(a=1/\b=2)\/(a=2/\b=1)\/(a=3/\b=0):=by lia
 rcases this with ⟨rfl,rfl⟩|⟨rfl,rfl⟩|⟨rfl,rfl⟩|⟨rfl,rfl⟩<;>(simp[b9] at h;lia)
theorem W_{p q r t u:ag}(h1:p≠q)(h2:p≠r)(h4:q≠r):b9 a c++d::b9 b c≠[p,q,r,t,u]\/(p=t\/q=t\/r=t):=by
 by_cases z:p=t\/q=t\/r=t
 ·exact .inr z
 refine .inl λh=>?_
 have hl:=di n9 h;simp at hl;have:(a=0/\b=4)\/(a=1/\b=3)\/(a=2/\b=2)\/(a=3/\b=1)\/(a=4/\b=0):=by lia
 rcases this with ⟨rfl,rfl⟩|⟨rfl,rfl⟩|⟨rfl,rfl⟩|⟨rfl,rfl⟩|⟨rfl,rfl⟩<;>(simp[b9] at h;lia)
theorem aFs:∀k,k<26->abc.cps.toList.getD k 0=97+k:=0x6
theorem jL:(2:ag)<=lim:=by rw[fQ];lia
theorem aKt:(3:ag)<=lim:=by rw[fQ];lia
theorem lA(h:a ρ=.ok xs)(hl:xs.length<=lim):DY a ρ=.ok (.lst xs):=by
 unfold DY;rw[h,θ,av (cb hl)];rfl
theorem wA(h:a ρ=.ok xs)(hl:xs.length<=lim)(hp:ι xs=af):zA a ρ=.ok (.lst xs):=by
 unfold zA;rw[h,θ,av (by rw[cb hl,hp];rfl)];rfl
theorem KR(a b:D)(i:ah)(h0:0<=i)(h1:i<2):getD (.lst [a,b]) (.int i)=.ok (if i=0 then a else b):=by
 have:i=0\/i=1:=by lia
 rcases this with rfl|rfl
 ·rfl
 ·rfl
theorem aQt(c:ag)(n:ah)(h0:0<=n)(h1:n<=100):o6 (.str (one c)) (.int n)=.ok (.str (lc (one c) n)):=by
 show(if ϒ (0<=n)&&ϒ (n<=100000)&&ϒ ((one c).length*n.toNat<=lim) then τ (δ (lc (one c) n)) else .bad)=_;rw[av];have:(one c).length=1:=rfl;rw[this,cb h0,cb 0x1,cb (by rw[fQ];lia)];rfl
theorem zY(a b:Str):(a++b).cps.toList=a.cps.toList++b.cps.toList:=by
 show(a.cps++b.cps).toList=_;exact Array.toList_append
theorem KY(a:Str):a.length=a.cps.toList.length:=by
 show a.cps.size=_;rw[kz]
def wrd(ns:aa ah)(i:ah):Str:=match aX [.scr (ns.map ε),.int i] with
 |.ok (.str x)=>x
 |_=>""
def Good(x:Str):Prop:=x ≠ "copy"/\x ≠ "drop"/\x.length<=100
theorem oY:("copy" : Str).cps.toList=[99,111,112,121]:=0x6
theorem oZ:("drop" : Str).cps.toList=[100,114,111,112]:=0x6
theorem five(x:Str)(h:x.cps.toList.length=5):Good x:=by
 refine⟨λz=>?_,λz=>?_,by rw[KY,h];lia⟩
 ·rw[z,oY] at h;cases h
 ·rw[z,oZ] at h;cases h
def aA5(ns:aa ah):ag:=if drw ns 0 / 104 % 2=0 then abc.cps.toList.getD (drw ns 0 % 26).toNat 0 else ("abdz" : Str).cps.toList.getD (drw ns 0 / 26 % 4).toNat 0
def Sh(ns:aa ah)(i:ah)(x:Str):Prop:=(i=4/\∃c,x.cps.toList=[100,114,111,112,c])\/(i=17/\∃c,x.cps.toList=[99,111,112,121,c])\/∃t,x.cps.toList=b9 (drw ns 1 % 8).toNat (aA5 ns)++(97+((i+drw ns 3) % 26).toNat)::b9 t (aA5 ns)
theorem aJw(hn:ns.length<=63)(i:ah)(hi0:0<=i)(hi1:i<=33):∃x:Str,aX [.scr (ns.map ε),.int i]=.ok (.str x)/\Good x/\Sh ns i x:=by
 -- a draw,put down as an argument
 have dr:∀{ρ:aa D}{f:FE}{k:ah},fM 0 ρ=.ok (.scr (ns.map ε))->f ρ=.ok (.int k)->aM (bO 2 aK) (aC cO (aC f aP)) ρ=.ok (.int (drw ns k)):=λh1 h2=>aQ (aB h1 (aB h2 rfl)) (oE hn _).1
 have d0:=λk=>(oE hn k).2.1
 have d1:=λk=>(oE hn k).2.2
 have hin:inX (.int i) (.tup [.int 4,.int 17])=.ok (.bl ((4==i)||((17==i)||false))):=rfl;have ht:cT (aC G4 (aC M6 aP)) [.scr (ns.map ε),.int i,.str abc,.uD,.uD,.uD,.uD]=.ok (.tup [.int 4,.int 17]):=bI (aB rfl (aB rfl rfl)) jL;have m5:=cG (drw ns 36) 5 0x4;have ce:cV .eq (.int (drw ns 36 % 5)) (.int 1)=.ok (.bl (drw ns 36 % 5==1)):=rfl;by_cases hs:(i=4\/i=17)/\drw ns 36 % 5=1
 ·-- drop or copy and a letter
  have b1:((4==i)||((17==i)||false))=af:=by
   rcases hs.1 with h|h<;>simp[h]
  rw[b1] at hin;rw[show(drw ns 36 % 5==1)=af by simpa using hs.2] at ce;have f17:=fY i 17 0x4 0x4;have q0:0<=i / 17/\i / 17<2:=by rcases hs.1 with h|h<;>(rw[h];decide)
  have g1:=KR (.str "drop") (.str "copy") (i / 17) q0.1 q0.2;have m26:=cG (drw ns 37) 26 0x4;have g2:=aDb (drw ns 37 % 26) (dq _ 0x4) (dP _ 0x4);generalize abc.cps.toList.getD (drw ns 37 % 26).toNat 0=c at g2;obtain⟨w,hw,sw,g1'⟩:∃w:Str,w.cps.toList.length=4/\((i=4/\w.cps.toList=[100,114,111,112])\/(i=17/\w.cps.toList=[99,111,112,121]))/\getD (.lst [.str "drop",.str "copy"]) (.int (i / 17))=.ok (.str w):=by
   rcases hs.1 with z|z
   ·rw[av (by rw[z];rfl)] at g1;exact⟨"drop",by rw[oZ];rfl,.inl ⟨z,oZ⟩,g1⟩
   ·rw[ax (by rw[z];decide)] at g1;exact⟨"copy",by rw[oY];rfl,.inr ⟨z,oY⟩,g1⟩
  have g2:getD (.str abc) (.int (drw ns 37 % 26))=.ok (.str (one c)):=g2;have g3:=SX w (one c) (by rw[KY,hw,fQ];show 4+1<=1000000;lia);refine⟨w++(one c),call_v ?_,five _ (by rw[zY,bp,hw];rfl),?_⟩
  rotate_left
  ·rcases sw with ⟨z,e⟩|⟨z,e⟩
   ·exact .inl ⟨z,c,by rw[zY,e];rfl⟩
   ·exact .inr (.inl ⟨z,c,by rw[zY,e];rfl⟩)
  refine aN (bQ rfl) ?_;refine aD8 (xX (ZF (dZ (aH rfl ht hin)) (dZ (aH (aH (dr rfl rfl) rfl m5) rfl ce))) ?_);show oM (b2 (bG .add) (b2 getD (DY (aC (bC (.str "drop")) (aC (bC (.str "copy")) aP))) (b2 (bG .fdiv) cW M6)) (b2 getD d8 (b2 (bG .mod) (aM (bO 2 aK) (aC cO (aC aI2 aP))) M7))) af [.scr (ns.map ε),.int i,.str abc,.uD,.uD,.uD,.uD]=.ok (.rt (.str (w++(one c))));exact gV (aH (aH (lA (aB rfl (aB rfl rfl)) jL) (aH rfl rfl f17) g1') (aH rfl (aH (dr rfl rfl) rfl m26) g2) g3) rfl
 ·-- a word of one sign but one
  have hif:(sIf (Y6 (bTB (b2 inX cW (cT (aC G4 (aC M6 aP))))) (bTB (b2 (cV .eq) (b2 (bG .mod) (aM (bO 2 aK) (aC cO (aC (bC (.int 36)) aP))) aEj) cR))) (oM (b2 (bG .add) (b2 getD (DY (aC (bC (.str "drop")) (aC (bC (.str "copy")) aP))) (b2 (bG .fdiv) cW M6)) (b2 getD d8 (b2 (bG .mod) (aM (bO 2 aK) (aC cO (aC aI2 aP))) M7))) af) vV) [.scr (ns.map ε),.int i,.str abc,.uD,.uD,.uD,.uD]=.ok (.nx [.scr (ns.map ε),.int i,.str abc,.uD,.uD,.uD,.uD]):=by
   by_cases h1:i=4\/i=17
   ·have b1:((4==i)||((17==i)||false))=af:=by rcases h1 with h|h<;>simp[h]
    have h2:¬drw ns 36 % 5=1:=λz=>hs ⟨h1,z⟩
    rw[b1] at hin;rw[show(drw ns 36 % 5==1)=ai by simpa using h2] at ce;exact j6 (ZF (dZ (aH rfl ht hin)) (dZ (aH (aH (dr rfl rfl) rfl m5) rfl ce))) rfl
   ·have b1:((4==i)||((17==i)||false))=ai:=by
     rw[jg] at h1;simp only[zc,AW,dS,ne_eq];lia
    rw[b1] at hin;exact j6 (aF2 (dZ (aH rfl ht hin))) rfl
  have a26:=cG (drw ns 0) 26 0x4;have b26:=fY (drw ns 0) 26 0x4 0x4;have b4:=cG (drw ns 0 / 26) 4 0x4;have c104:=fY (drw ns 0) 104 0x4 0x4;have c2:=cG (drw ns 0 / 104) 2 0x4;have g1:=aDb (drw ns 0 % 26) (dq _ 0x4) (dP _ 0x4);have g2:=aJv (drw ns 0 / 26 % 4) (dq _ 0x4) (dP _ 0x4);have hpd:aA5 ns=if drw ns 0 / 104 % 2=0 then abc.cps.toList.getD (drw ns 0 % 26).toNat 0 else ("abdz" : Str).cps.toList.getD (drw ns 0 / 26 % 4).toNat 0:=rfl
  generalize abc.cps.toList.getD (drw ns 0 % 26).toNat 0=p1 at g1 hpd;generalize ("abdz" : Str).cps.toList.getD (drw ns 0 / 26 % 4).toNat 0=p2 at g2 hpd;have g3:getD (.lst [.str ⟨#[p1]⟩,.str ⟨#[p2]⟩]) (.int (drw ns 0 / 104 % 2))=.ok (.str (one (aA5 ns))):=by
   have:=KR (.str ⟨#[p1]⟩) (.str ⟨#[p2]⟩) (drw ns 0 / 104 % 2) (dq _ 0x4) (dP _ 0x4);rw[this,hpd];by_cases z:drw ns 0 / 104 % 2=0
   ·rw[av z,av z];rfl
   ·rw[ax z,ax z];rfl
  have hsh:∀(x:Str)(t:ag),x.cps.toList=b9 (drw ns 1 % 8).toNat (aA5 ns)++(97+((i+drw ns 3) % 26).toNat)::b9 t (aA5 ns)->Sh ns i x:=λx t e=>.inr (.inr ⟨t,e⟩)
  generalize aA5 ns=pd at g3 hsh;have e8:=cG (drw ns 1) 8 0x4;have pl0:0<=drw ns 1 % 8:=dq _ 0x4;have pl1:drw ns 1 % 8<8:=dP _ 0x4;generalize hpl:drw ns 1 % 8=pl at e8 pl0 pl1 hsh;have s8:=aGv 8 pl;have t1:=cG (drw ns 2) (8-pl) 0x1;have t2:=cG (drw ns (4+i)) (8-pl) 0x1;have f8:=fY (drw ns 1) 8 0x4 0x4;have f2:=cG (drw ns 1 / 8) 2 0x4;have ce2:cV .eq (.int (drw ns 1 / 8 % 2)) (.int 1)=.ok (.bl (drw ns 1 / 8 % 2==1)):=rfl;have l1:=dH i (drw ns 3);have l2:=cG (i+drw ns 3) 26 0x4;have k0:0<=(i+drw ns 3) % 26:=dq _ 0x4;have k1:(i+drw ns 3) % 26<26:=dP _ 0x4;have g4:=aDb ((i+drw ns 3) % 26) k0 k1;rw[aFs _ 0x1] at g4;generalize 97+((i+drw ns 3) % 26).toNat=c at g4 hsh
  -- the tail
  obtain⟨tl,tl0,tl1,htl⟩:∃tl:ah,0<=tl/\tl<8/\(bN (bW ai 6 (b2 (bG .mod) (aM (bO 2 aK) (aC cO (aC iT aP))) (b2 (bG .sub) aE2 lJ)) af) (sIf (bTB (b2 (cV .eq) (b2 (bG .mod) (b2 (bG .fdiv) (aM (bO 2 aK) (aC cO (aC cR aP))) aE2) iT) cR)) (bW ai 6 (b2 (bG .mod) (aM (bO 2 aK) (aC cO (aC (b2 (bG .add) G4 cW) aP))) (b2 (bG .sub) aE2 lJ)) af) vV)) [.scr (ns.map ε),.int i,.str abc,.int (drw ns 0),.str (one pd),.int pl,.uD]=.ok (.nx [.scr (ns.map ε),.int i,.str abc,.int (drw ns 0),.str (one pd),.int pl,.int tl]):=by
   have first:(bW ai 6 (b2 (bG .mod) (aM (bO 2 aK) (aC cO (aC iT aP))) (b2 (bG .sub) aE2 lJ)) af) [.scr (ns.map ε),.int i,.str abc,.int (drw ns 0),.str (one pd),.int pl,.uD]=.ok (.nx [.scr (ns.map ε),.int i,.str abc,.int (drw ns 0),.str (one pd),.int pl,.int (drw ns 2 % (8-pl))]):=bQ (aH (dr rfl rfl) (aH rfl rfl s8) t1)
   have tst:bTB (b2 (cV .eq) (b2 (bG .mod) (b2 (bG .fdiv) (aM (bO 2 aK) (aC cO (aC cR aP))) aE2) iT) cR) [.scr (ns.map ε),.int i,.str abc,.int (drw ns 0),.str (one pd),.int pl,.int (drw ns 2 % (8-pl))]=.ok (drw ns 1 / 8 % 2==1):=dZ (aH (aH (aH (dr rfl rfl) rfl f8) rfl f2) rfl ce2);have u0:0<=drw ns 2 % (8-pl):=dq _ 0x1;have u1:drw ns 2 % (8-pl)<8-pl:=dP _ 0x1;have v0:0<=drw ns (4+i) % (8-pl):=dq _ 0x1;have v1:drw ns (4+i) % (8-pl)<8-pl:=dP _ 0x1;cases hb:(drw ns 1 / 8 % 2==1) with
   |true=>
    rw[hb] at tst;exact⟨_,v0,by lia,aN first (xX tst (bQ (aH (dr rfl (aH rfl rfl (dH 4 i))) (aH rfl rfl s8) t2)))⟩
   |false=>
    rw[hb] at tst;exact⟨_,u0,by lia,aN first (j6 tst rfl)⟩
  have mp:=aQt pd pl pl0 0x1;have mt:=aQt pd tl tl0 0x1;have cp:=QV pd pl.toNat;have ct:=QV pd tl.toNat;rw[show((pl.toNat:ag):ah)=pl by lia] at cp;rw[show((tl.toNat:ag):ah)=tl by lia] at ct;generalize lc (one pd) pl=xp at mp cp;generalize lc (one pd) tl=xt at mt ct;have lp:xp.length<=8:=by rw[KY,cp,vf];lia
  have lt:xt.length<=8:=by rw[KY,ct,vf];lia
  have a1:=SX xp ⟨#[c]⟩ (by rw[fQ];show xp.length+1<=1000000;lia);have l9:(xp++⟨#[c]⟩:Str).length=xp.length+1:=str_len xp ⟨#[c]⟩;have a2:=SX (xp++⟨#[c]⟩) xt (by rw[l9,fQ];lia);have codes:(xp++⟨#[c]⟩++xt:Str).cps.toList=b9 pl.toNat pd++c::b9 tl.toNat pd:=by
   rw[zY,zY,cp,ct,ke];rfl
  refine⟨xp++⟨#[c]⟩++xt,call_v ?_,⟨λz=>?_,λz=>?_,by rw[str_len,l9];lia⟩,hsh _ _ codes⟩
  ·refine aN (bQ rfl) ?_;refine aN hif ?_;refine aN (bQ (dr rfl rfl)) ?_;refine aN (dU (aH (lA (aB (aH rfl (aH rfl rfl a26) g1) (aB (aH rfl (aH (aH rfl rfl b26) rfl b4) g2) rfl)) jL) (aH (aH rfl rfl c104) rfl c2) g3) rfl) ?_;refine aN (bQ (aH (dr rfl rfl) rfl e8)) ?_;have split:∀{f g h:FS}{ρ ρ':aa D}{r:Res Fl},bN f g ρ=.ok (.nx ρ')->h ρ'=r->bN f (bN g h) ρ=r:=by
    intro f g h ρ ρ' r e1 e2;unfold bN at e1 ⊢;cases hf:f ρ with
    |bad=>rw[hf] at e1;cases e1
    |err c as=>rw[hf] at e1;cases e1
    |ok fl=>
     rw[hf] at e1;cases fl with
     |nx ρ1=>
      simp only[θ] at e1 ⊢;rw[e1];exact e2
     |rt d=>cases e1
     |bk d=>cases e1
     |ct d=>cases e1
   refine split htl ?_;exact gV (aH (aH (aH rfl rfl mp) (aH rfl (aH (aH rfl (dr rfl rfl) l1) rfl l2) g4) a1) (aH rfl rfl mt) a2) rfl
  ·have:(xp++⟨#[c]⟩++xt:Str).cps.toList=_:=di (λx:Str=>x.cps.toList) z;rw[codes,oY] at this;exact W9 0x4 0x4 0x4 0x4 0x4 0x4 this
  ·have:(xp++⟨#[c]⟩++xt:Str).cps.toList=_:=di (λx:Str=>x.cps.toList) z;rw[codes,oZ] at this;exact W9 0x4 0x4 0x4 0x4 0x4 0x4 this
theorem x_(hn:ns.length<=63)(hi0:0<=i)(hi1:i<=33):bO 2 aX [.scr (ns.map ε),.int i]=.ok (.str (wrd ns i))/\Good (wrd ns i)/\Sh ns i (wrd ns i):=by
 obtain⟨x,h1,h2⟩:=aJw hn i hi0 hi1;have e:wrd ns i=x:=by
  unfold wrd;rw[h1]
 rw[e];exact⟨(cJ rfl).trans h1,h2⟩
theorem sW(hn:ns.length<=63)(hi0:0<=i)(hi1:i<=33):bO 2 aX [.scr (ns.map ε),.int i]=.ok (.str (wrd ns i))/\Good (wrd ns i):=⟨(x_ hn hi0 hi1).1,(x_ hn hi0 hi1).2.1⟩
theorem KZ(hn:ns.length<=63)(hi0:0<=i)(hi1:i<=25)(hj0:0<=j)(hj1:j<=25)(h:wrd ns i=wrd ns j):i=j:=by
 have si:=(x_ hn hi0 0x1).2.2;have sj:=(x_ hn hj0 0x1).2.2;rw[h] at si;have bad:∀{a b:ag}{e u:ag},(b9 a (aA5 ns)++e::b9 b (aA5 ns)=[100,114,111,112,u]->cg)/\(b9 a (aA5 ns)++e::b9 b (aA5 ns)=[99,111,112,121,u]->cg):=by
  intro a b e u;refine⟨λz=>?_,λz=>?_⟩
  ·rcases W_ (p:=100) (q:=114) (r:=111) (t:=112) (u:=u) 0x4 0x4 0x4 with q|q
   ·exact q z
   ·lia
  ·rcases W_ (c:=aA5 ns) (d:=e) (a:=a) (b:=b) (p:=99) (q:=111) (r:=112) (t:=121) (u:=u) 0x4 0x4 0x4 with q|q
   ·exact q z
   ·lia
 rcases si with ⟨a1,c1,e1⟩|⟨a1,c1,e1⟩|⟨t1,e1⟩<;>rcases sj with ⟨a2,c2,e2⟩|⟨a2,c2,e2⟩|⟨t2,e2⟩<;>rw[e1] at e2
 ·lia
 ·cases e2
 ·exact(bad.1 e2.symm).elim
 ·cases e2
 ·lia
 ·exact(bad.2 e2.symm).elim
 ·exact(bad.1 e2).elim
 ·exact(bad.2 e2).elim
 ·have:=List.append_cancel_left e2;injection this with q _
  have m1:=dq (i+drw ns 3) (show(26:ah)≠0 by decide);have m2:=dq (j+drw ns 3) (show(26:ah)≠0 by decide);lia
noncomputable abbrev Mk:=Str×Str×aa Str
noncomputable def mkD(m:Mk):D:=.tup [.str m.1,.str m.2.1,.tup (m.2.2.map δ)]
noncomputable abbrev Tk:=Str×Str×Str×aa Str
noncomputable def tkD(t:Tk):D:=.tup [.str t.1,.str t.2.1,.str t.2.2.1,.tup (t.2.2.2.map δ)]
theorem bH:∀L:aa Str,ι (L.map δ)=af
 |[]=>rfl
 |x::L=>by
  show((δ x).pure&&ι (L.map δ))=af;rw[bH L];rfl
theorem mZ(m:Mk):(mkD m).pure=af:=by
 show(af&&(af&&((ν (m.2.2.map δ)).pure&&af)))=af;rw[μ,bH];rfl
theorem m7(m:Tk):(tkD m).pure=af:=by
 show(af&&(af&&(af&&((ν (m.2.2.2.map δ)).pure&&af))))=af;rw[μ,bH];rfl
theorem a_{f:α->D}(h:∀a,(f a).pure=af):∀L:aa α,ι (L.map f)=af
 |[]=>rfl
 |x::L=>by
  show((f x).pure&&ι (L.map f))=af;rw[h,a_ h L];rfl
def IsK(ns:aa ah)(Ω:ah)(x:Str):Prop:=∃j:ah,0<=j/\j<Ω/\x=wrd ns j
theorem QW(g:aa D->D->Res (aa D))(d:α->D)(P:α->Prop):∀(xs acc:aa D),(∀x∈xs,∀acc,∃ys:aa α,(∀y∈ys,P y)/\ys.length<=1/\g acc x=.ok (acc++ys.map d))->∃zs:aa α,(∀z∈zs,P z)/\zs.length<=xs.length/\gD g acc xs=.ok (acc++zs.map d)
 |[],acc,_=>⟨[],λ_ h=>(by cases h),ba _,(by simp[gD])⟩
 |x::xs,acc,h=>by
  obtain⟨ys,h1,h2,h3⟩:=h x (bo ..) acc;obtain⟨zs,i1,i2,i3⟩:=QW g d P xs (acc++ys.map d) λy hy=>h y (bw _ hy)
  refine⟨ys++zs,λz hz=>?_,by rw[bp,aS];lia,?_⟩
  ·rcases e5.mp hz with hz|hz
   ·exact h1 z hz
   ·exact i1 z hz
  ·rw[gD,h3];show gD g _ _=_;rw[i3,bE,ke]
theorem F_(g:aa D->D->Res (aa D))(d:α->D)(P:α->Prop):∀(xs acc:aa D),(∀x∈xs,∀acc,∃y:α,P y/\g acc x=.ok (acc++[d y]))->∃zs:aa α,(∀z∈zs,P z)/\zs.length=xs.length/\gD g acc xs=.ok (acc++zs.map d)
 |[],acc,_=>⟨[],λ_ h=>(by cases h),rfl,(by simp[gD])⟩
 |x::xs,acc,h=>by
  obtain⟨y,h1,h3⟩:=h x (bo ..) acc;obtain⟨zs,i1,i2,i3⟩:=F_ g d P xs (acc++[d y]) λy hy=>h y (bw _ hy)
  refine⟨y::zs,λz hz=>?_,by rw[aS,aS,i2],?_⟩
  ·rcases bP.mp hz with rfl|hz
   ·exact h1
   ·exact i1 z hz
  ·rw[gD,h3];show gD g _ _=_;rw[i3,ke];rfl
theorem oF(hρ:ρ.length=n)(ht:t x=.ok bs)(h1:c (ρ++bs)=.ok b)(h2:b=af->f (ρ++bs)=.ok y/\(k||y.pure)=af):iH n t c f k ρ acc x=.ok (if b then acc++[y] else acc):=by
 unfold iH;rw[ht,θ,N8 hρ,h1,θ];cases b with
 |false=>rfl
 |true=>
  obtain⟨h3,h4⟩:=h2 rfl;simp only[eI,h3,θ,h4];rfl
theorem GC(hn:ns.length<=63)(hm:0<Ω)(hm3:Ω<=3)(hρ:ρ.length=n)(h0:∀x:D,fM 0 (ρ++[x])=.ok (.scr (ns.map ε)))(hg:g ρ=.ok [.int sz])(hs0:0<=sz)(hs1:sz<=3)
 (hf:∀p:ah,0<=p->p<=3->∃j:ah,0<=j/\j<Ω/\f (ρ++[.int p])=.ok (.int j)) :
  ∃xs:aa Str,(∀x∈xs,IsK ns Ω x)/\(xs.length<=3/\xs.length=sz.toNat)/\aM fO (aC (fG n (lL g vU) lM g8 (aM (bO 2 aX) (aC cO (aC f aP))) af) aP) ρ=.ok (.tup (xs.map δ)):=by
 obtain⟨xs,h1,h2,h3⟩:=F_ (iH n lM g8 (aM (bO 2 aX) (aC cO (aC f aP))) af ρ) δ (IsK ns Ω) ((bz sz.toNat).map λ(k:ag)=>ε (0+(k:ah))) [] (λx hx acc=>by
  obtain⟨k,hk,rfl⟩:=c6.mp hx;have hk:=hG.mp hk;obtain⟨j,j0,j1,e⟩:=hf (0+(k:ah)) 0x1 0x1;have w:=(sW hn j0 (show j<=33 by lia)).1;refine⟨wrd ns j,⟨j,j0,j1,rfl⟩,?_⟩
  ·exact oF (b:=af) hρ rfl rfl λ_=>⟨aQ (aB (h0 _) (aB e rfl)) w,rfl⟩)
 rw[dy] at h3;rw[az,f_] at h2;exact⟨xs,h1,⟨by lia,h2⟩,aQ (aB (gJ (FJ hg hs0 0x1) (by rw[az,f_,fQ];lia) h3) rfl) rfl⟩
def QX(ns:aa ah)(Ω:ah)(m:Mk):Prop:=Good m.1/\m.2.2.length<=3/\∀p∈m.2.2,IsK ns Ω p
theorem gW(hn:ns.length<=63)(h1:fM 0 ρ=.ok (.scr (ns.map ε)))(h2:f ρ=.ok (.int k)):aM (bO 2 aK) (aC cO (aC f aP)) ρ=.ok (.int (drw ns k)):=aQ (aB h1 (aB h2 rfl)) (oE hn _).1
theorem wY(hn:ns.length<=63)(h1:fM 0 ρ=.ok (.scr (ns.map ε)))(h2:f ρ=.ok (.int k))(h3:0<=k)(h4:k<=33):aM (bO 2 aX) (aC cO (aC f aP)) ρ=.ok (.str (wrd ns k)):=aQ (aB h1 (aB h2 rfl)) (sW hn h3 h4).1
theorem aNx(hn:ns.length<=63)(hm:0<Ω)(hm3:Ω<=3)(hj0:0<=j)(hj:j<Ω)(hM:M.length<=100)(hi0:1<=i)(hi1:i<=2) :
  ∃(m:Mk)(y6 y7 y8:D),QX ns Ω m/\m.2.1=wrd ns j/\(m.1=wrd ns (3+3*j+i)/\(i=1->m.2.2.length=1))/\imk [.scr (ns.map ε),.int Ω,.lst (M.map mkD),.int j,x4,.int i,x6,x7,x8]=.ok (.nx [.scr (ns.map ε),.int Ω,.lst ((M++[m]).map mkD),.int j,x4,.int i,y6,y7,y8]):=by
 have a3:=sO 3 j 0x4;have a40:=dH 40 (3*j);have a41:=dH (40+3*j) i;have d0:=(oE hn (40+3*j+i)).2.1;generalize hdr:drw ns (40+3*j+i)=dr at d0;have m4:=cG dr 4 0x4;have s1:=aGv i 1;have g1:=KR (.int 1) (.int (dr % 4)) (i-1) 0x1 0x1;obtain⟨sz,sz0,sz3,sz1,g1'⟩:∃sz:ah,0<=sz/\sz<=3/\(i=1->sz=1)/\getD (.lst [.int 1,.int (dr % 4)]) (.int (i-1))=.ok (.int sz):=by
  by_cases z:i-1=0
  ·rw[av z] at g1;exact⟨1,by decide,by decide,λ_=>rfl,g1⟩
  ·rw[ax z] at g1;exact⟨dr % 4,by lia,by lia,λq=>bf 0x1 z,g1⟩
 obtain⟨xs,k1,k2,k3⟩:=GC (n:=9) (ρ:=[.scr (ns.map ε),.int Ω,.lst (M.map mkD),.int j,x4,.int i,.int dr,.int sz,x8]) (f:=b2 (bG .mod) (b2 (bG .fdiv) nO (b2 (bG .add) aPg (b2 o6 aM5 xK))) cW) (sz:=sz) (g:=aC vP aP) hn hm hm3 rfl (λ_=>rfl) (aB rfl rfl) sz0 sz3 (λp p0 p3=>by
  have e1:=sO 7 p 0x4;have e2:=dH 6 (7*p);have e3:=fY dr (6+7*p) 0x1 0x1;have e4:=cG (dr / (6+7*p)) Ω hm;exact⟨_,dq _ 0x1,dP _ hm,aH (x:=.int (dr / (6+7*p))) (y:=.int Ω) (aH (x:=.int dr) (y:=.int (6+7*p)) rfl (aH (x:=.int 6) (y:=.int (7*p)) rfl (aH (x:=.int 7) (y:=.int p) rfl rfl e1) e2) e3) rfl e4⟩)
 have w1:=sW hn (i:=3+3*j+i) 0x1 0x1;refine⟨(wrd ns (3+3*j+i),wrd ns j,xs),.int dr,.int sz,.tup (xs.map δ),⟨w1.2,k2.1,k1⟩,rfl,⟨rfl,λq=>by have:=sz1 q;have:=k2.2;show xs.length=1;lia⟩,?_⟩;refine aN (ρ':=[.scr (ns.map ε),.int Ω,.lst (M.map mkD),.int j,x4,.int i,.int dr,x7,x8]) (bQ (i:=6) (by rw[<-hdr];exact gW hn rfl (aH (x:=.int (40+3*j)) (y:=.int i) (aH (x:=.int 40) (y:=.int (3*j)) rfl (aH (x:=.int 3) (y:=.int j) rfl rfl a3) a40) rfl a41))) ?_;refine aN (ρ':=[.scr (ns.map ε),.int Ω,.lst (M.map mkD),.int j,x4,.int i,.int dr,.int sz,x8]) (dU (i:=7) (aH (x:=.lst [.int 1,.int (dr % 4)]) (y:=.int (i-1)) (lA (xs:=[.int 1,.int (dr % 4)]) (aB rfl (aB (aH (x:=.int dr) rfl rfl m4) rfl)) jL) (aH (x:=.int i) rfl rfl s1) g1') rfl) ?_;refine aN (ρ':=[.scr (ns.map ε),.int Ω,.lst (M.map mkD),.int j,x4,.int i,.int dr,.int sz,.tup (xs.map δ)]) (dU (i:=8) k3 (by rw[μ,bH])) ?_;have ap:=lW (i:=2) (ρ:=[.scr (ns.map ε),.int Ω,.lst (M.map mkD),.int j,x4,.int i,.int dr,.int sz,.tup (xs.map δ)]) (f:=cT (aC (aM (bO 2 aX) (aC cO (aC (b2 (bG .add) (b2 (bG .add) uY (b2 o6 uY dG)) lJ) aP))) (aC (aM (bO 2 aX) (aC cO (aC dG aP))) (aC yN aP)))) (xs:=M.map mkD) (d:=mkD (wrd ns (3+3*j+i),wrd ns j,xs)) (bI (xs:=[.str (wrd ns (3+3*j+i)),.str (wrd ns j),.tup (xs.map δ)]) (aB (wY hn rfl (aH (x:=.int (3+3*j)) (y:=.int i) (aH (x:=.int 3) (y:=.int (3*j)) rfl (aH (x:=.int 3) (y:=.int j) rfl rfl a3) (dH _ _)) rfl (dH _ _)) 0x1 0x1) (aB (wY hn rfl rfl hj0 0x1) (aB rfl rfl))) aKt) rfl (by rw[az,fQ];lia) (mZ _);rw[bE];exact ap
theorem XF(hn:ns.length<=63)(hm:0<Ω)(hm3:Ω<=3)(hj0:0<=j)(hj:j<Ω):∀(ks:aa ag)(M:aa Mk)(x5 x6 x7 x8:D),(∀k∈ks,k<=1)->M.length+ks.length<=100->
  ∃(N:aa Mk)(y5 y6 y7 y8:D),(∀m∈N,QX ns Ω m/\m.2.1=wrd ns j)/\(N.map (·.1)=ks.map (λ(k:ag)=>wrd ns (3+3*j+(1+(k:ah))))/\∀q,ks=0::q->∃m N',N=m::N'/\m.2.2.length=1)/\o9 (tg1 5) imk (ks.map λ(k:ag)=>ε (1+(k:ah))) [.scr (ns.map ε),.int Ω,.lst (M.map mkD),.int j,x4,x5,x6,x7,x8]=.ok (.nx [.scr (ns.map ε),.int Ω,.lst ((M++N).map mkD),.int j,x4,y5,y6,y7,y8])
 |[],M,x5,x6,x7,x8,_,_=>⟨[],x5,x6,x7,x8,λ_ h=>(by cases h),⟨rfl,λ_ h=>(by cases h)⟩,by rw[eD];rfl⟩
 |k::ks,M,x5,x6,x7,x8,h,hl=>by
  rw[aS] at hl;have hk:=h k (bo ..);obtain⟨m,y6,y7,y8,h1,h2,h3,e⟩:=aNx hn hm hm3 hj0 hj (M:=M) 0x1 (i:=1+(k:ah)) 0x1 0x1 (x6:=x6) (x7:=x7) (x8:=x8);obtain⟨N,z5,z6,z7,z8,i1,i2,i3⟩:=XF (x4:=x4) hn hm hm3 hj0 hj ks (M++[m]) (.int (1+(k:ah))) y6 y7 y8 (λq hq=>h q (bw _ hq)) (by rw[bp];show M.length+1+ks.length<=100;lia);refine⟨m::N,z5,z6,z7,z8,λq hq=>?_,⟨by rw[bu,bu,i2.1,h3.1],λq hq=>⟨m,N,rfl,h3.2 (by injection hq with hq _;lia)⟩⟩,?_⟩
  ·rcases bP.mp hq with rfl|hq
   ·exact⟨h1,h2⟩
   ·exact i1 q hq
  ·rw[bu,show M++m::N=(M++[m])++N by simp];exact eO (ρ1:=[.scr (ns.map ε),.int Ω,.lst (M.map mkD),.int j,x4,.int (1+(k:ah)),x6,x7,x8]) rfl e i3
theorem aJx(h:f ρ=.ok [.int a,.int b])(h1:-1000000<=a)(h2:a<=1000000)(h3:-1000000<=b)(h4:b<=1000000):lL f aAy ρ=.ok ((bz (b-a).toNat).map λ(k:ag)=>ε (a+(k:ah)),af):=by
 unfold lL;rw[h,θ];have e1:jP a=af:=by simp only[jP,dE,bc];lia
 have e2:jP b=af:=by simp only[jP,dE,bc];lia
 rw[aAy,e1,e2];rfl
theorem aFt(a b:ah):cV (.ord .gt) (.int a) (.int b)=.ok (.bl (ϒ (b<a))):=S5 rfl rfl rfl
theorem aNy(hn:ns.length<=63)(hm:0<Ω)(hm3:Ω<=3)(hj0:0<=j)(hj:j<Ω)(hM:M.length<=50) :
  ∃(fs:aa Str)(N:aa Mk)(y4 y5 y6 y7 y8:D),(fs=[]\/(fs=[wrd ns 0]/\0<j))/\Good (wrd ns (3+3*j))/\(∀m∈N,QX ns Ω m/\m.2.1=wrd ns j)/\(∃c:ag,(c=1\/c=2)/\N.map (·.1)=(bz c).map (λ(k:ag)=>wrd ns (3+3*j+(1+(k:ah))))/\∃m N',N=m::N'/\m.2.2.length=1)/\omk [.scr (ns.map ε),.int Ω,.lst (M.map mkD),.int j,x4,x5,x6,x7,x8]=.ok (.nx [.scr (ns.map ε),.int Ω,.lst ((M++(wrd ns (3+3*j),wrd ns j,fs)::N).map mkD),.int j,y4,y5,y6,y7,y8]):=by
 have a3:=sO 3 j 0x4;have a40:=dH 40 (3*j);have b3:=dH 3 (3*j);obtain⟨fs,hfs,hif⟩:∃fs:aa Str,(fs=[]\/(fs=[wrd ns 0]/\0<j))/\sIf (Y6 (bTB (b2 (cV (.ord .gt)) dG bR)) (bTB (b2 (cV (.ord .gt)) (b2 (bG .mod) (b2 (bG .fdiv) (aM (bO 2 aK) (aC cO (aC aI3 aP))) dG) uY) bR))) (bW ai 4 (cT (aC (aM (bO 2 aX) (aC cO (aC bR aP))) aP)) af) vV [.scr (ns.map ε),.int Ω,.lst (M.map mkD),.int j,.tup [],x5,x6,x7,x8]=.ok (.nx [.scr (ns.map ε),.int Ω,.lst (M.map mkD),.int j,.tup (fs.map δ),x5,x6,x7,x8]):=by
  by_cases z:0<j
  ·have c0:bTB (b2 (cV (.ord .gt)) dG bR) [.scr (ns.map ε),.int Ω,.lst (M.map mkD),.int j,.tup [],x5,x6,x7,x8]=.ok af:=dZ (aH rfl rfl ((aFt _ _).trans (by rw[cb z])));have d3:=fY (drw ns 38) j z 0x1;have m3:=cG (drw ns 38 / j) 3 0x4;have c1:∀k,ϒ (0<drw ns 38 / j % 3)=k->bTB (b2 (cV (.ord .gt)) (b2 (bG .mod) (b2 (bG .fdiv) (aM (bO 2 aK) (aC cO (aC aI3 aP))) dG) uY) bR) [.scr (ns.map ε),.int Ω,.lst (M.map mkD),.int j,.tup [],x5,x6,x7,x8]=.ok k:=λk hk=>dZ (aH (aH (aH (gW hn rfl rfl) rfl d3) rfl m3) rfl ((aFt _ _).trans (by rw[hk])))
   by_cases q:0<drw ns 38 / j % 3
   ·exact⟨[wrd ns 0],.inr ⟨rfl,z⟩,xX (ZF c0 (c1 _ (cb q))) (bQ (bI (aB (wY hn rfl rfl (lr 0) 0x4) rfl) (by rw[fQ];exact cy rfl)))⟩
   ·exact⟨[],.inl rfl,j6 (ZF c0 (c1 _ (c8 q))) rfl⟩
  ·exact⟨[],.inl rfl,j6 (aF2 (dZ (aH rfl rfl ((aFt _ _).trans (by rw[c8 z]))))) rfl⟩
 have w1:=sW hn (i:=3+3*j) 0x1 0x1;have d0:=(oE hn (40+3*j)).2.1;have m2:=cG (drw ns (40+3*j)) 2 0x4;have c2:=dH 2 (drw ns (40+3*j) % 2);obtain⟨N,y5,y6,y7,y8,h1,h2,h3⟩:=XF (x4:=.tup (fs.map δ)) hn hm hm3 hj0 hj (bz (2+drw ns (40+3*j) % 2-1).toNat) (M++[(wrd ns (3+3*j),wrd ns j,fs)]) x5 x6 x7 x8 (λk hk=>by have:=hG.mp hk;lia) (by rw[bp,f_];show M.length+1+_<=100;lia);have hc:(2+drw ns (40+3*j) % 2-1).toNat=1\/(2+drw ns (40+3*j) % 2-1).toNat=2:=by lia
 refine⟨fs,N,.tup (fs.map δ),y5,y6,y7,y8,hfs,w1.2,h1,⟨_,hc,h2.1,?_⟩,?_⟩
 ·rcases hc with q|q<;>rw[q] at h2
  ·exact h2.2 [] rfl
  ·exact h2.2 [1] rfl
 refine aN (ρ':=[.scr (ns.map ε),.int Ω,.lst (M.map mkD),.int j,.tup [],x5,x6,x7,x8]) (bQ (i:=4) (bI (xs:=[]) rfl (cq _))) ?_;refine aN hif ?_;refine aN (ρ':=[.scr (ns.map ε),.int Ω,.lst ((M++[(wrd ns (3+3*j),wrd ns j,fs)]).map mkD),.int j,.tup (fs.map δ),x5,x6,x7,x8]) ?_ ?_
 ·have ap:=lW (i:=2) (ρ:=[.scr (ns.map ε),.int Ω,.lst (M.map mkD),.int j,.tup (fs.map δ),x5,x6,x7,x8]) (f:=cT (aC (aM (bO 2 aX) (aC cO (aC (b2 (bG .add) uY (b2 o6 uY dG)) aP))) (aC (aM (bO 2 aX) (aC cO (aC dG aP))) (aC iR aP)))) (xs:=M.map mkD) (d:=mkD (wrd ns (3+3*j),wrd ns j,fs)) (bI (xs:=[.str (wrd ns (3+3*j)),.str (wrd ns j),.tup (fs.map δ)]) (aB (wY hn rfl (aH (x:=.int 3) (y:=.int (3*j)) rfl (aH (x:=.int 3) (y:=.int j) rfl rfl a3) b3) 0x1 0x1) (aB (wY hn rfl rfl hj0 0x1) (aB rfl rfl))) aKt) rfl (by rw[az,fQ];lia) (mZ _);rw[bE];exact ap
 ·refine wI (aJx (a:=1) (b:=2+drw ns (40+3*j) % 2) (aB rfl (aB (aH (x:=.int 2) (y:=.int (drw ns (40+3*j) % 2)) rfl (aH (x:=.int (drw ns (40+3*j))) (gW hn rfl (aH (x:=.int 40) (y:=.int (3*j)) rfl (aH (x:=.int 3) (y:=.int j) rfl rfl a3) a40)) rfl m2) c2) rfl)) 0x4 0x4 0x1 0x1) ?_;rw[h3];simp
structure MOk(ns:aa ah)(Ω:ah)(n:ag)(M:aa Mk):Prop where
 part:∀m∈M,QX ns Ω m
 kind:∀m∈M,IsK ns n m.2.1
 len:M.length<=3*n
 find:∀K,IsK ns n K->∃m m2 R,M.filter (λm=>m.2.1==K)=m::m2::R/\(m.2.2=[]\/(m.2.2=[wrd ns 0]/\K≠wrd ns 0))/\m2.2.2.length=1
 names:∃ks:aa ah,M.map (·.1)=ks.map (wrd ns)/\ks.Pairwise (·<·)/\∀k∈ks,3<=k/\k<3+3*(n:ah)
 two:0<n->∃m m2 R,M=m::m2::R/\m.2.2=[]/\m2.2.2.length=1
theorem aFu(h:MOk ns Ω n M)(hm:(n:ah)<Ω)(hw:Good (wrd ns (3+3*(n:ah))))(hfs:fs=[]\/(fs=[wrd ns 0]/\0<(n:ah)))(hN:∀m∈N,QX ns Ω m/\m.2.1=wrd ns n)(hl:∃c:ag,(c=1\/c=2)/\N.map (·.1)=(bz c).map (λ(k:ag)=>wrd ns (3+3*(n:ah)+(1+(k:ah))))/\∃m N',N=m::N'/\m.2.2.length=1):MOk ns Ω (n+1) (M++(wrd ns (3+3*(n:ah)),wrd ns n,fs)::N):=by
 obtain⟨c,hc,hnm,m2,N',hN2,hm2⟩:=hl;refine⟨λm hq=>?_,λm hq=>?_,?_,λK hK=>?_,?_,λ_=>?_⟩
 rotate_right
 ·by_cases hn0:0<n
  ·obtain⟨a,a2,R,rfl,q1,q2⟩:=h.two hn0;exact⟨a,a2,_,rfl,q1,q2⟩
  ·have hz:n=0:=by lia
   subst hz;have hl:=h.len;obtain rfl:M=[]:=xu.mp 0x1;rcases hfs with hfs|⟨_,hfs⟩
   ·exact⟨_,m2,N',by rw[hN2];rfl,hfs,hm2⟩
   ·exact bf hfs 0x4
 ·rcases e5.mp hq with hq|hq
  ·exact h.part m hq
  ·rcases bP.mp hq with rfl|hq
   ·refine⟨hw,?_,λp hp=>?_⟩
    ·rcases hfs with rfl|⟨rfl,_⟩<;>exact cy rfl
    ·rcases hfs with rfl|⟨rfl,_⟩
     ·cases hp
     ·exact⟨0,by decide,by lia,d6.mp hp⟩
   ·exact(hN m hq).1
 ·rcases e5.mp hq with hq|hq
  ·obtain⟨j,j0,j1,e⟩:=h.kind m hq;exact⟨j,j0,by lia,e⟩
  ·rcases bP.mp hq with rfl|hq
   ·exact⟨n,by lia,by lia,rfl⟩
   ·exact⟨n,by lia,by lia,(hN m hq).2⟩
 ·have:=h.len;have e:=di n9 hnm;rw[az,az,f_] at e;rw[bp,aS];lia
 ·rw[D4];by_cases z:IsK ns n K
  ·obtain⟨m,m',R,e,q⟩:=h.find K z;rw[e];exact⟨m,m',_,rfl,q⟩
  ·have e:K=wrd ns n:=by
    obtain⟨j,j0,j1,e⟩:=hK;by_cases y:j<n
    ·exact bf ⟨j,j0,y,e⟩ z
    ·have:j=n:=by lia
     rw[e,this]
   have e2:M.filter (λm=>m.2.1==K)=[]:=by
    rw[D5];intro m hq y;have:=h.kind m hq;rw[eq_of_beq y] at this;exact z this
   subst hN2;rw[e2,dy,nE,av (by rw[e];exact fI _),nE,av (by rw[e,(hN m2 (bo ..)).2];exact fI _)];refine⟨_,_,_,rfl,?_,hm2⟩;rcases hfs with rfl|⟨rfl,y⟩
   ·exact .inl rfl
   ·exact .inr ⟨rfl,λq=>z ⟨0,by decide,y,q⟩⟩
 ·obtain⟨ks,k1,k2,k3⟩:=h.names;refine⟨ks++(3+3*(n:ah))::(bz c).map (λ(k:ag)=>3+3*(n:ah)+(1+(k:ah))),?_,?_,?_⟩
  ·rw[bE,bE,bu,bu,k1,hnm,c5];rfl
  ·have cs:((3+3*(n:ah))::(bz c).map (λ(k:ag)=>3+3*(n:ah)+(1+(k:ah)))).Pairwise (·<·):=by
    rcases hc with rfl|rfl
    ·simp[bz,D6];lia
    ·simp[bz,D6];lia
   rw[List.pairwise_append];refine⟨k2,cs,λa ha b hb=>?_⟩;have:=(k3 a ha).2;rcases bP.mp hb with rfl|hb
   ·lia
   ·obtain⟨q,hq,rfl⟩:=c6.mp hb;lia
  ·intro k hk;rcases e5.mp hk with hk|hk
   ·have:=k3 k hk;lia
   ·rcases bP.mp hk with rfl|hk
    ·lia
    ·obtain⟨q,hq,rfl⟩:=c6.mp hk;have:=hG.mp hq;lia
theorem XH(hn:ns.length<=63)(hm:0<Ω)(hm3:Ω<=3):∀(c n:ag)(M:aa Mk)(x3 x4 x5 x6 x7 x8:D),(n:ah)+c=Ω->MOk ns Ω n M->
  ∃(N:aa Mk)(y3 y4 y5 y6 y7 y8:D),MOk ns Ω (n+c) N/\o9 (tg1 3) omk ((CI n c).map λ(k:ag)=>ε (0+(k:ah))) [.scr (ns.map ε),.int Ω,.lst (M.map mkD),x3,x4,x5,x6,x7,x8]=.ok (.nx [.scr (ns.map ε),.int Ω,.lst (N.map mkD),y3,y4,y5,y6,y7,y8])
 |0,n,M,x3,x4,x5,x6,x7,x8,_,h=>⟨M,x3,x4,x5,x6,x7,x8,h,rfl⟩
 |c+1,n,M,x3,x4,x5,x6,x7,x8,he,h=>by
  obtain⟨fs,N,y4,y5,y6,y7,y8,h1,h2,h3,h4,h5⟩:=aNy (j:=(n:ah)) hn hm hm3 0x1 0x1 (M:=M) (by have:=h.len;lia) (x4:=x4) (x5:=x5) (x6:=x6) (x7:=x7) (x8:=x8);obtain⟨N',z3,z4,z5,z6,z7,z8,i1,i2⟩:=XH hn hm hm3 c (n+1) _ (.int n) y4 y5 y6 y7 y8 0x1 (aFu h 0x1 h2 h1 h3 h4);refine⟨N',z3,z4,z5,z6,z7,z8,by rw[show n+(c+1)=n+1+c by lia];exact i1,?_⟩;rw[List.range'_succ,bu];exact eO (ρ1:=[.scr (ns.map ε),.int Ω,.lst (M.map mkD),.int n,x4,x5,x6,x7,x8]) (by rw[D7];rfl) h5 i2
theorem aDc(hn:ns.length<=63)(hm:0<Ω)(hm3:Ω<=3):∃M:aa Mk,MOk ns Ω Ω.toNat M/\bO 2 i_ [.scr (ns.map ε),.int Ω]=.ok (.tup (M.map mkD)):=by
 obtain⟨N,y3,y4,y5,y6,y7,y8,h1,h2⟩:=XH hn hm hm3 Ω.toNat 0 [] .uD .uD .uD .uD .uD .uD 0x1 ⟨λ_ h=>(by cases h),λ_ h=>(by cases h),cq _,λK ⟨j,j0,j1,_⟩=>(by exfalso;lia),⟨[],rfl,.nil,λ_ h=>(by cases h)⟩,λz=>bf z (fR 0)⟩;rw[mM] at h1;refine⟨N,h1,(cJ rfl).trans (call_v ?_)⟩;refine aN (dY (lA rfl (cq _)) rfl) ?_;refine aN (wI (FJ (aB rfl rfl) 0x1 0x1) (by rw[List.range_eq_range'];exact h2)) ?_;exact gV (aQ (aB rfl rfl) rfl) (by rw[μ,a_ mZ];rfl)
theorem h_(a b:aa D)(h:a.length+b.length<=1000):vQ (.tup a) (.tup b)=.ok (.tup (a++b)):=by
 rw[vQ,av (cb (by rw[fQ];lia))]
def lB(ns:aa ah)(Ω:ah)(t:Tk):Prop:=(∃k:ah,17<=k/\k<=20/\t.1=wrd ns k)/\IsK ns Ω t.2.1/\IsK ns Ω t.2.2.1/\t.2.2.2.length<=2/\∀p∈t.2.2.2,IsK ns Ω p
theorem aNz(hn:ns.length<=63)(hm:0<Ω)(hm3:Ω<=3)(hi0:0<=i)(hi:i<=3)(hM:M.length<=50) :
  ∃(t:Tk)(y4 y5 y6:D),(lB ns Ω t/\t.1=wrd ns (17+i))/\otk [.scr (ns.map ε),.int Ω,.lst (M.map tkD),.int i,x4,x5,x6]=.ok (.nx [.scr (ns.map ε),.int Ω,.lst ((M++[t]).map tkD),.int i,y4,y5,y6]):=by
 have a51:=dH 51 i;have a17:=dH 17 i;have d0:=(oE hn (51+i)).2.1;generalize hdr:drw ns (51+i)=dr at d0;have f4:=fY dr 4 0x4 0x4;have m3:=cG (dr / 4) 3 0x4;have f2:=fY dr 2 0x4 0x4;have k1:=cG dr Ω hm;have k2:=cG (dr / 2) Ω hm;have p1:=dq dr (show Ω≠0 by lia);have p2:=dP dr hm;have q1:=dq (dr / 2) (show Ω≠0 by lia);have q2:=dP (dr / 2) hm;obtain⟨xs,c1,c2,c3⟩:=GC (ρ:=[.scr (ns.map ε),.int Ω,.lst (M.map tkD),.int i,.int dr,x5,x6]) (f:=b2 (bG .mod) (b2 (bG .fdiv) iR (b2 (bG .add) aEk (b2 o6 aM5 vP))) cW) (sz:=dr / 4 % 3) (g:=aC (b2 (bG .mod) (b2 (bG .fdiv) iR G4) uY) aP) hn hm hm3 rfl (λ_=>rfl) (aB (aH (x:=.int (dr / 4)) (aH (x:=.int dr) rfl rfl f4) rfl m3) rfl) 0x1 0x1 (λp p0 p3=>by
  have e1:=sO 7 p 0x4;have e2:=dH 12 (7*p);have e3:=fY dr (12+7*p) 0x1 0x1;have e4:=cG (dr / (12+7*p)) Ω hm;exact⟨_,dq _ 0x1,dP _ hm,aH (x:=.int (dr / (12+7*p))) (y:=.int Ω) (aH (x:=.int dr) (y:=.int (12+7*p)) rfl (aH (x:=.int 12) (y:=.int (7*p)) rfl (aH (x:=.int 7) (y:=.int p) rfl rfl e1) e2) e3) rfl e4⟩)
 have w1:=sW hn (i:=17+i) 0x1 0x1;have t1:=h_ [.str (wrd ns (17+i))] [.str (wrd ns (dr % Ω)),.str (wrd ns (dr / 2 % Ω))] (cy rfl);have t2:=h_ [.str (wrd ns (17+i)),.str (wrd ns (dr % Ω)),.str (wrd ns (dr / 2 % Ω))] [.tup (xs.map δ)] (cy rfl);refine⟨(wrd ns (17+i),wrd ns (dr % Ω),wrd ns (dr / 2 % Ω),xs),.int dr,.tup (xs.map δ),.tup [.str (wrd ns (dr % Ω)),.str (wrd ns (dr / 2 % Ω))],⟨⟨⟨17+i,by lia,by lia,rfl⟩,⟨_,p1,p2,rfl⟩,⟨_,q1,q2,rfl⟩,(by have:=c2.2;show xs.length<=2;lia),c1⟩,rfl⟩,?_⟩;refine aN (ρ':=[.scr (ns.map ε),.int Ω,.lst (M.map tkD),.int i,.int dr,x5,x6]) (bQ (i:=4) (by rw[<-hdr];exact gW hn rfl (aH (x:=.int 51) (y:=.int i) rfl rfl a51))) ?_;refine aN (ρ':=[.scr (ns.map ε),.int Ω,.lst (M.map tkD),.int i,.int dr,.tup (xs.map δ),x6]) (dU (i:=5) c3 (by rw[μ,bH])) ?_;refine aN (ρ':=[.scr (ns.map ε),.int Ω,.lst (M.map tkD),.int i,.int dr,.tup (xs.map δ),.tup [.str (wrd ns (dr % Ω)),.str (wrd ns (dr / 2 % Ω))]]) (bQ (i:=6) (bI (xs:=[.str (wrd ns (dr % Ω)),.str (wrd ns (dr / 2 % Ω))]) (aB (wY hn rfl (aH (x:=.int dr) (y:=.int Ω) rfl rfl k1) p1 0x1) (aB (wY hn rfl (aH (x:=.int (dr / 2)) (y:=.int Ω) (aH (x:=.int dr) rfl rfl f2) rfl k2) q1 0x1) rfl)) jL)) ?_;have ap:=lW (i:=2) (ρ:=[.scr (ns.map ε),.int Ω,.lst (M.map tkD),.int i,.int dr,.tup (xs.map δ),.tup [.str (wrd ns (dr % Ω)),.str (wrd ns (dr / 2 % Ω))]]) (f:=b2 vQ (b2 vQ (cT (aC (aM (bO 2 aX) (aC cO (aC (b2 (bG .add) M6 dG) aP))) aP)) nO) (cT (aC lJ aP))) (xs:=M.map tkD) (d:=tkD (wrd ns (17+i),wrd ns (dr % Ω),wrd ns (dr / 2 % Ω),xs)) (aH (aH (bI (xs:=[.str (wrd ns (17+i))]) (aB (wY hn rfl (aH (x:=.int 17) (y:=.int i) rfl rfl a17) 0x1 0x1) rfl) (by rw[fQ];exact cy rfl)) rfl t1) (bI (xs:=[.tup (xs.map δ)]) (aB rfl rfl) (by rw[fQ];exact cy rfl)) t2) rfl (by rw[az,fQ];lia) (m7 _);rw[bE];exact ap
theorem XJ(hn:ns.length<=63)(hm:0<Ω)(hm3:Ω<=3):∀(ks:aa ag)(M:aa Tk)(x3 x4 x5 x6:D),(∀k∈ks,k<=3)->M.length+ks.length<=50->(∀t∈M,lB ns Ω t)->
  ∃(N:aa Tk)(y3 y4 y5 y6:D),(∀t∈N,lB ns Ω t)/\N.map (·.1)=M.map (·.1)++ks.map (λ(k:ag)=>wrd ns (17+(k:ah)))/\o9 (tg1 3) otk (ks.map λ(k:ag)=>ε (0+(k:ah))) [.scr (ns.map ε),.int Ω,.lst (M.map tkD),x3,x4,x5,x6]=.ok (.nx [.scr (ns.map ε),.int Ω,.lst (N.map tkD),y3,y4,y5,y6])
 |[],M,x3,x4,x5,x6,_,_,h=>⟨M,x3,x4,x5,x6,h,(eD _).symm,rfl⟩
 |k::ks,M,x3,x4,x5,x6,h,hl,hM=>by
  rw[aS] at hl;have hk:=h k (bo ..);obtain⟨t,y4,y5,y6,h1,h2⟩:=aNz hn hm hm3 (i:=(k:ah)) 0x1 0x1 (M:=M) 0x1 (x4:=x4) (x5:=x5) (x6:=x6);obtain⟨N,z3,z4,z5,z6,i1,i2,i3⟩:=XJ hn hm hm3 ks (M++[t]) (.int k) y4 y5 y6 (λq hq=>h q (bw _ hq)) (by rw[bp];show M.length+1+_<=50;lia) (λq hq=>by
   rcases e5.mp hq with hq|hq
   ·exact hM q hq
   ·rw[d6.mp hq];exact h1.1)
  refine⟨N,z3,z4,z5,z6,i1,?_,?_⟩
  ·rw[i2,bE,bu,bu,gx,h1.2,ke];rfl
  ·rw[bu];exact eO (ρ1:=[.scr (ns.map ε),.int Ω,.lst (M.map tkD),.int k,x4,x5,x6]) (by rw[D7];rfl) h2 i3
theorem aDd(hn:ns.length<=63)(hm:0<Ω)(hm3:Ω<=3):∃T:aa Tk,(∀t∈T,lB ns Ω t)/\(T.length<=3/\T.map (·.1)=(bz T.length).map (λ(k:ag)=>wrd ns (17+(k:ah))))/\bO 2 jB [.scr (ns.map ε),.int Ω]=.ok (.tup (T.map tkD)):=by
 have m4:=cG (drw ns 50) 4 0x4;obtain⟨N,y3,y4,y5,y6,h1,h2,h3⟩:=XJ hn hm hm3 (bz (drw ns 50 % 4).toNat) [] .uD .uD .uD .uD (λk hk=>by have:=hG.mp hk;lia) (by rw[f_];show 0+_<=50;lia) (λ_ h=>by cases h);have hNl:N.length=(drw ns 50 % 4).toNat:=by
  have:=di n9 h2;simpa using this
 refine⟨N,h1,⟨by lia,by rw[h2,hNl];rfl⟩,(cJ rfl).trans (call_v ?_)⟩;refine aN (dY (lA rfl (cq _)) rfl) ?_;refine aN (wI (FJ (aB (aH (gW hn rfl rfl) rfl m4) rfl) 0x1 0x1) h3) ?_;exact gV (aQ (aB rfl rfl) rfl) (by rw[μ,a_ m7];rfl)
theorem bV(h:n<=1000):n<=lim:=by rw[fQ];lia
theorem fD(h1:a ρ=.ok (.tup xs)):cU a ai ρ=.ok (xs,ai||(ν xs).pure):=by
 unfold cU;rw[h1,θ];rfl
theorem eq_str(a b:Str):cV .eq (.str a) (.str b)=.ok (.bl (a==b)):=rfl
theorem eq_int(a b:ah):cV .eq (.int a) (.int b)=.ok (.bl (a==b)):=rfl
theorem aRv(a b:ah):cV (.ord .ge) (.int a) (.int b)=.ok (.bl (ϒ (b<=a))):=S5 rfl rfl rfl
theorem aQu(a b:ah):cV (.ord .lt) (.int a) (.int b)=.ok (.bl (ϒ (a<b))):=S5 rfl rfl rfl
theorem aRw(h1:a ρ=.ok af):bOr a b ρ=.ok af:=by
 unfold bOr;rw[h1];rfl
theorem aQv(h1:a ρ=.ok ai)(h2:b ρ=r):bOr a b ρ=r:=by
 unfold bOr;rw[h1];exact h2
theorem aA0(h1:a ρ=.ok x)(h2:b ρ=.ok y):bOr a b ρ=.ok (x||y):=by
 cases x with
 |true=>exact aRw h1
 |false=>exact aQv h1 h2
theorem aJy(h1:a ρ=.ok (.bl x))(h2:b ρ=.ok (.bl y)):aAx a b ρ=.ok (.bl (x&&y)):=by
 unfold aAx;rw[h1,θ,aMn,θ];cases x with
 |true=>rw[av rfl,h2];rfl
 |false=>rfl
theorem aQd(h1:a ρ=.ok (.bl x)):bTr a ρ=.ok x:=by
 unfold bTr;rw[h1];rfl
noncomputable abbrev Wt:=Str×au
noncomputable def wD(w:Wt):D:=.tup [.str w.1,.bl w.2]
theorem q_(w:Wt):(wD w).pure=af:=rfl
noncomputable def knD(K:aa (Str×Str)):aa (D×D):=K.map λp=>(.str p.1,.str p.2)
def bkD(M:aa Mk)(T:aa Tk):D:=.tup [.tup (M.map mkD),.tup (T.map tkD)]
theorem aDe:∀(K:aa (Str×Str))(x:Str),x∈K.map (·.1)->∃y:Str,d9 (knD K) (.str x)=ae (.str y)
 |[],x,h=>by cases h
 |p::K,x,h=>by
  show ∃y:Str,(if (p.1==x) then ae (δ p.2) else d9 (knD K) (.str x))=ae (.str y);by_cases z:(p.1==x)=af
  ·rw[av z];exact⟨_,rfl⟩
  ·rw[ax z];refine aDe K x ?_;rcases bP.mp h with rfl|h
   ·exact bf (fI _) z
   ·exact h
theorem aDf(K:aa (Str×Str)):(knD K).all (λp=>!isTup p.1)=af:=by
 rw[jk];intro p hp;obtain⟨q,_,rfl⟩:=c6.mp hp;rfl
theorem aJz(K:aa (Str×Str)):ι ((knD K).map (·.2))=af:=by
 unfold knD;rw[c5];exact a_ (λ_=>rfl) K
theorem aDg(K:aa (Str×Str)):mJ (knD K)=(K.map (·.1)).map δ:=by
 unfold mJ knD;rw[c5,c5];rfl
theorem aO0(hK:K.length<=1000) :
  ∃F:aa Str,F.length<=K.length/\wfit [x0,x1,x2,.dct (knD K),x4,x5,x6,x7,x8,wD h,x10,x11,x12,x13,x14,x15,x16]=.ok (.lst (F.map δ)):=by
 generalize hρ:fzD 3 (knD K) [x0,x1,x2,.dct (knD K),x4,x5,x6,x7,x8,wD h,x10,x11,x12,x13,x14,x15,x16]=ρ;have l:ρ.length=17:=by rw[<-hρ];unfold fzD;rw[CF,az];rfl
 have v3:∀x,fM 3 (ρ++[x])=.ok (.fdc (knD K)):=λx=>by rw[<-hρ];rfl
 have v9:∀x,fM 9 (ρ++[x])=.ok (wD h):=λx=>by rw[<-hρ];rfl
 have v17:∀x,x≠.uD->fM 17 (ρ++[x])=.ok x:=λx hx=>by
  have:(ρ++[x]).getD 17 .uD=x:=by rw[ef,hI 0x1,l];rfl
  unfold fM;rw[this];cases x<;>first|rfl|exact bf rfl hx
 obtain⟨F,_,h2,h3⟩:=QW (iH 17 lM (bTB (b2 (cV .eq) (b2 getD dG j4) (b2 getD xK bR))) j4 ai ρ) δ (λ_=>gN) (mJ (knD K)) [] (λd hd acc=>by
  rw[aDg] at hd;obtain⟨x,hx,rfl⟩:=c6.mp hd;obtain⟨y,hy⟩:=aDe K x hx;have g1:getD (.fdc (knD K)) (.str x)=.ok (.str y):=by
   show(if keyOk (.str x) then ξ (d9 (knD K) (.str x)) else .bad)=_;rw[av (show keyOk (.str x)=af from rfl),hy];rfl
  have c:=gK (k:=ai) (acc:=acc) (c:=bTB (b2 (cV .eq) (b2 getD dG j4) (b2 getD xK bR))) (f:=fM 17) (x:=.str x) (y:=.str x) (b:=(y==h.1)) l (dZ (aH (x:=.str y) (y:=.str h.1) (aH (v3 _) (v17 _ (by intro q;cases q)) g1) (aH (x:=wD h) (y:=.int 0) (v9 _) rfl rfl) (eq_str _ _))) (λ_=>⟨v17 _ (by intro q;cases q),rfl⟩);rw[c];by_cases z:(y==h.1)=af
  ·exact⟨[x],λ_ _=>trivial,ba _,by rw[av z];rfl⟩
  ·exact⟨[],λ_ _=>trivial,cq _,by rw[ax z];simp⟩)
 rw[dy] at h3;have hl:(mJ (knD K)).length=K.length:=by rw[aDg,az,az]
 refine⟨F,by lia,?_⟩;have kl:(knD K).length<=lim:=by unfold knD;rw[az];exact bV hK
 unfold wfit aC3;show(if ϒ ((knD K).length<=lim)&&((knD K).all (λp=>!isTup p.1)&&ι ((knD K).map (·.2))) then (do
   let ys <- gD (iH 17 lM (bTB (b2 (cV .eq) (b2 getD dG j4) (b2 getD xK bR))) j4 ai (fzD 3 (knD K) [x0,x1,x2,.dct (knD K),x4,x5,x6,x7,x8,wD h,x10,x11,x12,x13,x14,x15,x16])) [] (mJ (knD K))
   pure (D.lst ys)) else .bad)=_
 rw[av (by rw[aDf,aJz,cb kl];rfl),hρ,h3];rfl
def aKu(k:ah):FE:=(fG 17 (cU (b2 getD d8 (bC (.int k))) ai) lM (bTB (b2 (cV .eq) (b2 getD j4 cR) (b2 getD xK bR))) j4 ai)
theorem aO1(hM:M.length<=1000) :
  aKu 0 [x0,x1,bkD M T,x3,x4,x5,x6,x7,x8,wD h,x10,x11,x12,x13,x14,x15,x16]=.ok (.lst ((M.filter λm=>m.2.1==h.1).map mkD)):=by
 refine gJ (fD (aH rfl rfl rfl)) (by rw[az];exact bV hM) ?_;have c:=fC (iH 17 lM (bTB (b2 (cV .eq) (b2 getD j4 cR) (b2 getD xK bR))) j4 ai [x0,x1,bkD M T,x3,x4,x5,x6,x7,x8,wD h,x10,x11,x12,x13,x14,x15,x16]) mkD (λm=>m.2.1==h.1) mkD (λacc m=>gK rfl (dZ (aH (aH rfl rfl rfl) (aH rfl rfl rfl) (eq_str _ _))) (λ_=>⟨rfl,mZ m⟩)) M [];rw[dy] at c;exact c
theorem aK0(hT:T.length<=1000) :
  aKu 1 [x0,x1,bkD M T,x3,x4,x5,x6,x7,x8,wD h,x10,x11,x12,x13,x14,x15,x16]=.ok (.lst ((T.filter λm=>m.2.1==h.1).map tkD)):=by
 refine gJ (fD (aH rfl rfl rfl)) (by rw[az];exact bV hT) ?_;have c:=fC (iH 17 lM (bTB (b2 (cV .eq) (b2 getD j4 cR) (b2 getD xK bR))) j4 ai [x0,x1,bkD M T,x3,x4,x5,x6,x7,x8,wD h,x10,x11,x12,x13,x14,x15,x16]) tkD (λm=>m.2.1==h.1) tkD (λacc m=>gK rfl (dZ (aH (aH rfl rfl rfl) (aH rfl rfl rfl) (eq_str _ _))) (λ_=>⟨rfl,m7 m⟩)) T [];rw[dy] at c;exact c
theorem K3{n:ag}{xs:aa Str}(hρ:ρ.length=17)(ha:a ρ=.ok (.tup (xs.map δ)))(hl:xs.length<=1000):fG 17 (cU a ai) lM g8 (cT (aC j4 (aC (bC (.bl b)) aP))) ai ρ=.ok (.lst ((xs.map λx=>(x,b)).map wD)):=by
 refine gJ (fD ha) (by rw[az];exact bV hl) ?_;have v17:∀x:Str,fM 17 (ρ++[.str x])=.ok (.str x):=λx=>by
  have:(ρ++[δ x]).getD 17 .uD=.str x:=by rw[ef,hI 0x1,hρ];rfl
  unfold fM;rw[this]
 have c:=fC (iH 17 lM g8 (cT (aC j4 (aC (bC (.bl b)) aP))) ai ρ) δ (λ_=>af) (λx=>wD (x,b)) (λacc x=>gK hρ rfl (λ_=>⟨bI (aB (v17 x) (aB rfl rfl)) jL,rfl⟩)) xs [];rw[dy,nI.mpr (λ_ _=>rfl)] at c;rw[c,c5];rfl
def wt(ns:aa ah)(w:Wt):ag:=if w.1=wrd ns 0 then 1 else 2
def sm(ns:aa ah):aa Wt->ag
 |[]=>0
 |w::L=>wt ns w+sm ns L
theorem aFv(ns:aa ah)(w:Wt):1<=wt ns w/\wt ns w<=2:=by unfold wt;split<;>lia
theorem zZ(ns:aa ah):∀L:aa Wt,L.length<=sm ns L/\sm ns L<=2*L.length
 |[]=>⟨ba _,ba _⟩
 |w::L=>by
  have:=aFv ns w;have:=zZ ns L;rw[aS,sm];lia
theorem XM(ns:aa ah):∀A B:aa Wt,sm ns (A++B)=sm ns A+sm ns B
 |[],B=>by rw[dy,sm,mM]
 |w::A,B=>by rw[fj,sm,XM ns A B,sm];lia
def mu(mo:ag)(ns:aa ah)(n:ag)(L:aa Wt):ag:=(mo-n)*6+sm ns L
def ww(ns:aa ah)(at_:ah)(M:aa Mk)(T:aa Tk)(K:aa (Str×Str))(kind:Str)(mo le:ag)(ws:aa Str)(L:aa Wt)(x9 x10 x11 x12 x13 x14 x15 x16:D):aa D:=[.scr (ns.map ε),.int at_,bkD M T,.dct (knD K),.str kind,.int (mo:ag),.int (le:ag),.lst (ws.map δ),.lst (L.map wD),x9,x10,x11,x12,x13,x14,x15,x16]
def aK1:FS:=(bN (aF7 8 9 bR) (bN (bW ai 10 (aM (bO 2 aK) (aC cO (aC (b2 (bG .add) cW (aM fJ (aC vP aP))) aP))) af) (bN (bW ai 11 wfit af) (bN (bW ai 12 (aKu 0) af) (bN (bW ai 13 (aKu 1) af) (sIf c1s b1s (sIf c2s b2s (sIf c3s b3s b4s))))))))
theorem UT(f:α->D)(L:aa α)(i:ah)(h0:0<=i)(h1:i<L.length):∃a∈L,getD (.lst (L.map f)) (.int i)=.ok (f a):=by
 obtain⟨hl,e⟩:=SQ (L.map f) i h0 (by rw[az];exact h1);rw[e,AV];exact⟨_,oy ..,rfl⟩
section
variable {ns:aa ah} {at_:ah} {M:aa Mk} {T:aa Tk} {K:aa (Str×Str)} {kind:Str} {mo le:ag} {ws:aa Str} {r:aa Wt} {h:Wt} {dr:ah} {F:aa Str} {m0:Mk} {R:aa Mk} {A:aa Tk} {x14 x15 x16:D}
theorem aK2(hw:ws.length<=600)(hr:r.length<=600)(hd:0<=dr)(hF:F.length<=100)(hm:m0.2.2.length<=3) :
  ∃(w:Str)(L:aa Wt),(L=r\/L=(m0.2.2.map λx=>(x,af))++r)/\(F=[]->w=m0.1/\L=(m0.2.2.map λx=>(x,af))++r)/\b2s (ww ns at_ M T K kind mo le ws r (wD h) (.int dr) (.lst (F.map δ)) (.lst ((m0::R).map mkD)) (.lst (A.map tkD)) x14 x15 x16)=.ok (.nx (ww ns at_ M T K kind mo le (ws++[w]) L (wD h) (.int dr) (.lst (F.map δ)) (.lst ((m0::R).map mkD)) (.lst (A.map tkD)) x14 x15 x16)):=by
 have f4:=fY dr 4 0x4 0x4;obtain⟨n,n1,n2,hn⟩:∃n:ah,0<n/\n<(F++[m0.1]).length+1/\max2 [.int 1,.int (F.length:ag)]=.ok (.int n)/\(n<=1\/n<=F.length):=by
  refine⟨_,?_,?_,aQc F.length,?_⟩
  ·split<;>lia
  ·rw[bp,aS];split<;>lia
  ·split<;>lia
 have m4:=cG (dr / 4) n n1;have p1:=dq (dr / 4) (show n≠0 by lia);have p2:=dP (dr / 4) n1;obtain⟨w,hwm,hg⟩:=UT δ (F++[m0.1]) (dr / 4 % n) p1 0x1;rw[bE,show eg δ [m0.1]=[δ m0.1] from rfl] at hg;have g0:getD (.lst ((m0::R).map mkD)) (.int 0)=.ok (mkD m0):=(SQ ((m0::R).map mkD) 0 (lr 0) (by rw[az,aS];lia)).2;have hap:BV 7 (b2 getD (b2 (bG .add) iG (zA (aC (b2 getD (b2 getD lK bR) bR) aP))) (b2 (bG .mod) (b2 (bG .fdiv) mG G4) (aM max2 (aC cR (aC (aM fJ (aC iG aP)) aP))))) (ww ns at_ M T K kind mo le ws r (wD h) (.int dr) (.lst (F.map δ)) (.lst ((m0::R).map mkD)) (.lst (A.map tkD)) x14 x15 x16)=.ok (.nx (ww ns at_ M T K kind mo le (ws++[w]) r (wD h) (.int dr) (.lst (F.map δ)) (.lst ((m0::R).map mkD)) (.lst (A.map tkD)) x14 x15 x16)):=by
  have e1:b2 (bG .add) iG (zA (aC (b2 getD (b2 getD lK bR) bR) aP)) (ww ns at_ M T K kind mo le ws r (wD h) (.int dr) (.lst (F.map δ)) (.lst ((m0::R).map mkD)) (.lst (A.map tkD)) x14 x15 x16)=.ok (.lst (F.map δ++[.str m0.1])):=aH rfl (wA (aB (aH (aH rfl rfl g0) rfl rfl) rfl) (bV (cy rfl)) rfl) (nW _ _ (by rw[az];exact bV (by show F.length+1<=1000;lia)) (bH F) rfl);have e2:b2 (bG .mod) (b2 (bG .fdiv) mG G4) (aM max2 (aC cR (aC (aM fJ (aC iG aP)) aP))) (ww ns at_ M T K kind mo le ws r (wD h) (.int dr) (.lst (F.map δ)) (.lst ((m0::R).map mkD)) (.lst (A.map tkD)) x14 x15 x16)=.ok (.int (dr / 4 % n)):=aH (aH rfl rfl f4) (aQ (aB rfl (aB (aQ (xs:=[.lst (F.map δ)]) (aB rfl rfl) (by rw[jV,az])) rfl)) hn.1) m4;have e3:=aH e1 e2 hg;have ap:=lW (i:=7) (xs:=ws.map δ) (d:=.str w) e3 rfl (by rw[az];exact c_ (show ws.length<1000 by lia) (bV (ba _))) rfl;unfold ww;rw[bE];exact ap
 have hc:bTB (b2 (cV .eq) (aM fJ (aC iG aP)) bR) (ww ns at_ M T K kind mo le (ws++[w]) r (wD h) (.int dr) (.lst (F.map δ)) (.lst ((m0::R).map mkD)) (.lst (A.map tkD)) x14 x15 x16)=.ok (((F.length:ag):ah)==0):=dZ (aH (x:=.int (F.length:ag)) (y:=.int 0) (aQ (xs:=[.lst (F.map δ)]) (aB rfl rfl) (by rw[jV,az])) rfl (eq_int _ _));by_cases z:(((F.length:ag):ah)==0)=af
 ·rw[z] at hc;refine⟨w,_,.inr rfl,λq=>⟨by rw[q] at hwm;exact d6.mp hwm,rfl⟩,aN hap (xX hc ?_)⟩;have e:=dY (i:=8) (d:=.lst ((m0.2.2.map λx=>(x,af)).map wD++r.map wD)) (aH (f:=bG .add) (x:=.lst ((m0.2.2.map λx=>(x,af)).map wD)) (y:=.lst (r.map wD)) (K3 (n:=0) (ρ:=ww ns at_ M T K kind mo le (ws++[w]) r (wD h) (.int dr) (.lst (F.map δ)) (.lst ((m0::R).map mkD)) (.lst (A.map tkD)) x14 x15 x16) (a:=b2 getD (b2 getD lK bR) iT) (b:=af) rfl (aH (x:=mkD m0) (y:=.int 2) (aH (x:=.lst ((m0::R).map mkD)) (y:=.int 0) rfl rfl g0) rfl rfl) 0x1) (b:=fM 8) rfl (nW _ _ (by simp only[az];exact bV 0x1) (a_ q_ _) (a_ q_ _))) (by rw[<-bE];exact a_ q_ _);rw[e,<-bE];rfl
 ·rw[lu] at z;rw[z] at hc;exact⟨w,r,.inl rfl,λq=>(by rw[q] at z;cases z),aN hap (j6 hc rfl)⟩
theorem aK3(hw:ws.length<=600)(hm:m2.2.2=[p]) :
  b1s (ww ns at_ M T K kind mo le ws [] (wD h) (.int dr) (.lst (F.map δ)) (.lst ((m0::m2::R).map mkD)) (.lst (A.map tkD)) x14 x15 x16)=.ok (.nx (ww ns at_ M T K kind mo le (ws++[m2.1]) [(p,ai)] (wD h) (.int dr) (.lst (F.map δ)) (.lst ((m0::m2::R).map mkD)) (.lst (A.map tkD)) x14 x15 x16)):=by
 have g0:getD (.lst ((m0::m2::R).map mkD)) (.int 1)=.ok (mkD m2):=(SQ ((m0::m2::R).map mkD) 1 0x4 (by rw[az,aS,aS];lia)).2;refine aN (ρ':=ww ns at_ M T K kind mo le (ws++[m2.1]) [] (wD h) (.int dr) (.lst (F.map δ)) (.lst ((m0::m2::R).map mkD)) (.lst (A.map tkD)) x14 x15 x16) ?_ ?_
 ·have ap:=lW (i:=7) (ρ:=ww ns at_ M T K kind mo le ws [] (wD h) (.int dr) (.lst (F.map δ)) (.lst ((m0::m2::R).map mkD)) (.lst (A.map tkD)) x14 x15 x16) (f:=b2 getD (b2 getD lK cR) bR) (xs:=ws.map δ) (d:=.str m2.1) (aH (x:=mkD m2) (y:=.int 0) (aH (x:=.lst ((m0::m2::R).map mkD)) (y:=.int 1) rfl rfl g0) rfl rfl) rfl (by rw[az];exact c_ (show ws.length<1000 by lia) (bV (ba _))) rfl;unfold ww;rw[bE];exact ap
 ·have g2:getD (mkD m2) (.int 2)=.ok (.tup [.str p]):=by
   show τ (ν (m2.2.2.map δ))=_;rw[hm];rfl
  exact dY (i:=8) (d:=.lst [wD (p,ai)]) (wA (xs:=[wD (p,ai)]) (aB (bI (xs:=[.str p,.bl ai]) (aB (aH (x:=.tup [.str p]) (y:=.int 0) (aH (x:=mkD m2) (y:=.int 2) (aH (x:=.lst ((m0::m2::R).map mkD)) (y:=.int 1) rfl rfl g0) rfl g2) rfl rfl) (aB rfl rfl)) jL) rfl) (bV (cy rfl)) rfl) rfl
theorem aK4(hw:ws.length<=600)(hr:r.length<=600)(hd:0<=dr)(hR:(m0::R).length<=100)(hm:∀m∈m0::R,m.2.2.length<=3) :
  ∃(m:Mk)(y14:D),m∈m0::R/\b3s (ww ns at_ M T K kind mo le ws r (wD h) (.int dr) (.lst (F.map δ)) (.lst ((m0::R).map mkD)) (.lst (A.map tkD)) x14 x15 x16)=.ok (.nx (ww ns at_ M T K kind mo le (ws++[m.1]) ((m.2.2.map λx=>(x,ai))++r) (wD h) (.int dr) (.lst (F.map δ)) (.lst ((m0::R).map mkD)) (.lst (A.map tkD)) y14 x15 x16)):=by
 have f4:=fY dr 4 0x4 0x4;have n1:(0:ah)<((m0::R).length:ag):=by rw[aS];lia
 have m4:=cG (dr / 4) ((m0::R).length:ag) n1;have p1:=dq (dr / 4) (show(((m0::R).length:ag):ah)≠0 by lia);have p2:=dP (dr / 4) n1;obtain⟨m,hmm,hg⟩:=UT mkD (m0::R) (dr / 4 % ((m0::R).length:ag)) p1 p2;have h3:=hm m hmm;refine⟨m,mkD m,hmm,?_⟩;refine aN (dU (aH rfl (aH (aH rfl rfl f4) (aQ (xs:=[.lst ((m0::R).map mkD)]) (aB rfl rfl) (by rw[jV,az])) m4) hg) (mZ m)) ?_;refine aN (ρ':=ww ns at_ M T K kind mo le (ws++[m.1]) r (wD h) (.int dr) (.lst (F.map δ)) (.lst ((m0::R).map mkD)) (.lst (A.map tkD)) (mkD m) x15 x16) ?_ ?_
 ·have ap:=lW (i:=7) (ρ:=ww ns at_ M T K kind mo le ws r (wD h) (.int dr) (.lst (F.map δ)) (.lst ((m0::R).map mkD)) (.lst (A.map tkD)) (mkD m) x15 x16) (f:=b2 getD (fM 14) bR) (xs:=ws.map δ) (d:=.str m.1) (aH (x:=mkD m) (y:=.int 0) rfl rfl rfl) rfl (by rw[az];exact c_ (show ws.length<1000 by lia) (bV (ba _))) rfl;unfold ww;rw[bE];exact ap
 ·have e:=dY (i:=8) (d:=.lst ((m.2.2.map λx=>(x,ai)).map wD++r.map wD)) (aH (f:=bG .add) (x:=.lst ((m.2.2.map λx=>(x,ai)).map wD)) (y:=.lst (r.map wD)) (K3 (n:=0) (ρ:=ww ns at_ M T K kind mo le (ws++[m.1]) r (wD h) (.int dr) (.lst (F.map δ)) (.lst ((m0::R).map mkD)) (.lst (A.map tkD)) (mkD m) x15 x16) (a:=b2 getD (fM 14) iT) (b:=ai) rfl (aH (x:=mkD m) (y:=.int 2) rfl rfl rfl) 0x1) (b:=fM 8) rfl (nW _ _ (by simp only[az];exact bV 0x1) (a_ q_ _) (a_ q_ _))) (by rw[<-bE];exact a_ q_ _);rw[e,<-bE];rfl
theorem aK5(hw:ws.length<=600)(hr:r.length<=600)(hd:0<=dr)(hA0:0<A.length)(hm:∀m∈A,m.2.2.2.length<=3) :
  ∃(m:Tk)(b:au)(y15 y16:D),m∈A/\b4s (ww ns at_ M T K kind mo le ws r (wD h) (.int dr) (.lst (F.map δ)) (.lst ((m0::R).map mkD)) (.lst (A.map tkD)) x14 x15 x16)=.ok (.nx (ww ns at_ M T K kind mo le (ws++[m.1]) (((m.2.2.1,b)::(m.2.2.2.map λx=>(x,ai)))++r) (wD h) (.int dr) (.lst (F.map δ)) (.lst ((m0::R).map mkD)) (.lst (A.map tkD)) x14 y15 y16)):=by
 have f4:=fY dr 4 0x4 0x4;have f64:=fY dr 64 0x4 0x4;have m64:=cG (dr / 64) 4 0x4;have n1:(0:ah)<(A.length:ag):=by lia
 have m4:=cG (dr / 4) (A.length:ag) n1;have p1:=dq (dr / 4) (show((A.length:ag):ah)≠0 by lia);have p2:=dP (dr / 4) n1;obtain⟨m,hmm,hg⟩:=UT tkD A (dr / 4 % (A.length:ag)) p1 p2;have h3:=hm m hmm;refine⟨m,(ϒ ((0:ah)<((knD K).length:ag))&&ϒ ((0:ah)<dr / 64 % 4)),tkD m,.bl (ϒ ((0:ah)<((knD K).length:ag))&&ϒ ((0:ah)<dr / 64 % 4)),hmm,?_⟩;refine aN (dU (aH rfl (aH (aH rfl rfl f4) (aQ (xs:=[.lst (A.map tkD)]) (aB rfl rfl) (by rw[jV,az])) m4) hg) (m7 m)) ?_;refine aN (ρ':=ww ns at_ M T K kind mo le (ws++[m.1]) r (wD h) (.int dr) (.lst (F.map δ)) (.lst ((m0::R).map mkD)) (.lst (A.map tkD)) x14 (tkD m) x16) ?_ ?_
 ·have ap:=lW (i:=7) (ρ:=ww ns at_ M T K kind mo le ws r (wD h) (.int dr) (.lst (F.map δ)) (.lst ((m0::R).map mkD)) (.lst (A.map tkD)) x14 (tkD m) x16) (f:=b2 getD Y4 bR) (xs:=ws.map δ) (d:=.str m.1) (aH (x:=tkD m) (y:=.int 0) rfl rfl rfl) rfl (by rw[az];exact c_ (show ws.length<1000 by lia) (bV (ba _))) rfl;unfold ww;rw[bE];exact ap
 have lx:aMw [.dct (knD K)]=.ok (.int ((knD K).length:ag)):=by
  rw[aMw,av (aDf K)]
 generalize hb:(ϒ ((0:ah)<((knD K).length:ag))&&ϒ ((0:ah)<dr / 64 % 4))=b;refine aN (ρ':=ww ns at_ M T K kind mo le (ws++[m.1]) r (wD h) (.int dr) (.lst (F.map δ)) (.lst ((m0::R).map mkD)) (.lst (A.map tkD)) x14 (tkD m) (.bl b)) (bQ (i:=16) (by
  rw[<-hb];exact aJy (aH (x:=.int ((knD K).length:ag)) (y:=.int 0) (aQ (xs:=[.dct (knD K)]) (aB rfl rfl) lx) rfl (aFt _ _)) (aH (x:=.int (dr / 64 % 4)) (y:=.int 0) (aH (x:=.int (dr / 64)) (aH (x:=.int dr) rfl rfl f64) rfl m64) rfl (aFt _ _)))) ?_
 have e:=dY (i:=8) (d:=.lst (([wD (m.2.2.1,b)]++(m.2.2.2.map λx=>(x,ai)).map wD)++r.map wD)) (aH (f:=bG .add) (x:=.lst ([wD (m.2.2.1,b)]++(m.2.2.2.map λx=>(x,ai)).map wD)) (y:=.lst (r.map wD)) (aH (f:=bG .add) (x:=.lst [wD (m.2.2.1,b)]) (y:=.lst ((m.2.2.2.map λx=>(x,ai)).map wD)) (wA (a:=aC (cT (aC (b2 getD Y4 iT) (aC (fM 16) aP))) aP) (xs:=[wD (m.2.2.1,b)]) (aB (bI (xs:=[.str m.2.2.1,.bl b]) (aB (aH (x:=tkD m) (y:=.int 2) rfl rfl rfl) (aB rfl rfl)) jL) rfl) (bV (cy rfl)) rfl) (K3 (n:=0) (ρ:=ww ns at_ M T K kind mo le (ws++[m.1]) r (wD h) (.int dr) (.lst (F.map δ)) (.lst ((m0::R).map mkD)) (.lst (A.map tkD)) x14 (tkD m) (.bl b)) (a:=b2 getD Y4 uY) (b:=ai) rfl (aH (x:=tkD m) (y:=.int 3) rfl rfl rfl) 0x1) (nW _ _ (by simp only[az];exact bV (by show 1+_<=1000;lia)) rfl (a_ q_ _))) (b:=fM 8) rfl (nW _ _ (by simp only[az,bp];exact bV (by show 1+_+_<=1000;lia)) (a_ q_ ((m.2.2.1,b)::(m.2.2.2.map λx=>(x,ai)))) (a_ q_ _))) (by
  have:=a_ q_ (((m.2.2.1,b)::(m.2.2.2.map λx=>(x,ai)))++r);rw[bE] at this;exact this)
 have z:([wD (m.2.2.1,b)]++(m.2.2.2.map λx=>(x,ai)).map wD)++r.map wD=((((m.2.2.1,b)::(m.2.2.2.map λx=>(x,ai)))++r)).map wD:=by
  rw[bE];rfl
 rw[e,z];rfl
end
inductive Dv(M:aa Mk):aa Str->aa Str->Prop
 |nil:Dv M [] []
 |cons {m:Mk} {st ws:aa Str}:m∈M->Dv M (m.2.2++st) ws->Dv M (m.2.1::st) (m.1::ws)
theorem aFw{ns:aa ah}(xs:aa Str)(b:au)(h:xs.length<=3):sm ns (xs.map λx=>(x,b))<=6:=by
 have:=(zZ ns (xs.map λx=>(x,b))).2;rw[az] at this;lia
theorem aK6{ns:aa ah}{Ω:ah}{at_:ah}{M:aa Mk}{T:aa Tk}{K:aa (Str×Str)}{kind:Str}{mo le:ag}{ws:aa Str}{r:aa Wt}{h:Wt}{x9 x10 x11 x12 x13 x14 x15 x16:D}(hn:ns.length<=63)(hm:0<Ω)(hm3:Ω<=3)(hM:MOk ns Ω Ω.toNat M)(hT:∀t∈T,lB ns Ω t)(hTl:T.length<=3)(hK:K.length<=100)(hw:ws.length<=600)(hr:r.length<=600)(hlm:le<=mo)(hk:∀q∈h::r,IsK ns Ω q.1) :
  ∃(w:Str)(L:aa Wt)(y9 y10 y11 y12 y13 y14 y15 y16:D),(∀q∈L,IsK ns Ω q.1)/\(mu mo ns (ws.length+1) L+1<=mu mo ns ws.length (h::r)/\(le=0->T=[]->(sm ns L+1<=sm ns (h::r)\/ws.length+r.length<mo)/\L.length<=r.length+3))/\(T=[]->K=[]->∃m∈M,m.2.1=h.1/\w=m.1/\L.map (·.1)=m.2.2++r.map (·.1))/\aK1 (ww ns at_ M T K kind mo le ws (h::r) x9 x10 x11 x12 x13 x14 x15 x16)=.ok (.nx (ww ns at_ M T K kind mo le (ws++[w]) L y9 y10 y11 y12 y13 y14 y15 y16)):=by
 have mm:((Ω.toNat:ag):ah)=Ω:=by lia
 have hk0:=hk h (bo ..);have hkr:∀q∈r,IsK ns Ω q.1:=λq hq=>hk q (bw _ hq)
 have h1:aF7 8 9 bR (ww ns at_ M T K kind mo le ws (h::r) x9 x10 x11 x12 x13 x14 x15 x16)=.ok (.nx (ww ns at_ M T K kind mo le ws r (wD h) x10 x11 x12 x13 x14 x15 x16)):=rfl;have a1:=dH at_ (ws.length:ag);generalize hdr:drw ns (at_+(ws.length:ag))=dr;have hd:0<=dr:=by rw[<-hdr];exact(oE hn _).2.1
 have h2:bW ai 10 (aM (bO 2 aK) (aC cO (aC (b2 (bG .add) cW (aM fJ (aC vP aP))) aP))) af (ww ns at_ M T K kind mo le ws r (wD h) x10 x11 x12 x13 x14 x15 x16)=.ok (.nx (ww ns at_ M T K kind mo le ws r (wD h) (.int dr) x11 x12 x13 x14 x15 x16)):=by
  refine bQ (i:=10) ?_;rw[<-hdr];exact gW hn rfl (aH (x:=.int at_) (y:=.int (ws.length:ag)) rfl (aQ (xs:=[.lst (ws.map δ)]) (aB rfl rfl) (by rw[jV,az])) a1)
 obtain⟨F,hF,eF⟩:=aO0 (K:=K) (h:=h) 0x1 (x0:=.scr (ns.map ε)) (x1:=.int at_) (x2:=bkD M T) (x4:=.str kind) (x5:=.int (mo:ag)) (x6:=.int (le:ag)) (x7:=.lst (ws.map δ)) (x8:=.lst (r.map wD)) (x10:=.int dr) (x11:=x11) (x12:=x12) (x13:=x13) (x14:=x14) (x15:=x15) (x16:=x16);have h3:bW ai 11 wfit af (ww ns at_ M T K kind mo le ws r (wD h) (.int dr) x11 x12 x13 x14 x15 x16)=.ok (.nx (ww ns at_ M T K kind mo le ws r (wD h) (.int dr) (.lst (F.map δ)) x12 x13 x14 x15 x16)):=bQ (i:=11) eF;obtain⟨m0,m2,R,hf,hq,hm2⟩:=hM.find h.1 (by rw[mm];exact hk0);have ml:=hM.len;have h4:bW ai 12 (aKu 0) af (ww ns at_ M T K kind mo le ws r (wD h) (.int dr) (.lst (F.map δ)) x12 x13 x14 x15 x16)=.ok (.nx (ww ns at_ M T K kind mo le ws r (wD h) (.int dr) (.lst (F.map δ)) (.lst ((m0::m2::R).map mkD)) x13 x14 x15 x16)):=by
  rw[<-hf];exact bQ (i:=12) (aO1 0x1)
 generalize hA:(T.filter λm=>m.2.1==h.1)=A;have h5:bW ai 13 (aKu 1) af (ww ns at_ M T K kind mo le ws r (wD h) (.int dr) (.lst (F.map δ)) (.lst ((m0::m2::R).map mkD)) x13 x14 x15 x16)=.ok (.nx (ww ns at_ M T K kind mo le ws r (wD h) (.int dr) (.lst (F.map δ)) (.lst ((m0::m2::R).map mkD)) (.lst (A.map tkD)) x14 x15 x16)):=by
  rw[<-hA];exact bQ (i:=13) (aK0 0x1)
 have inM:∀m∈m0::m2::R,m∈M:=λm hq=>by
  rw[<-hf] at hq;exact(lz.mp hq).1
 have inT:∀m∈A,m∈T:=λm hq=>by
  rw[<-hA] at hq;exact(lz.mp hq).1
 have hlen:(m0::m2::R).length<=100:=by
  have:=List.length_filter_le (λm:Mk=>m.2.1==h.1) M;rw[hf] at this;lia
 have kd:∀m∈m0::m2::R,m.2.1=h.1:=λm hq=>by
  rw[<-hf] at hq;exact eq_of_beq (lz.mp hq).2
 have c1:c1s (ww ns at_ M T K kind mo le ws r (wD h) (.int dr) (.lst (F.map δ)) (.lst ((m0::m2::R).map mkD)) (.lst (A.map tkD)) x14 x15 x16)=.ok (ϒ (((ws.length:ag):ah)<(le:ag))&&(((r.length:ag):ah)==0)):=by
  have q1:bTB (b2 (cV (.ord .lt)) (aM fJ (aC vP aP)) nO) (ww ns at_ M T K kind mo le ws r (wD h) (.int dr) (.lst (F.map δ)) (.lst ((m0::m2::R).map mkD)) (.lst (A.map tkD)) x14 x15 x16)=.ok (ϒ (((ws.length:ag):ah)<(le:ag))):=dZ (aH (x:=.int (ws.length:ag)) (y:=.int (le:ag)) (aQ (xs:=[.lst (ws.map δ)]) (aB rfl rfl) (by rw[jV,az])) rfl (aQu _ _));have q2:bTB (b2 (cV .eq) (aM fJ (aC yN aP)) bR) (ww ns at_ M T K kind mo le ws r (wD h) (.int dr) (.lst (F.map δ)) (.lst ((m0::m2::R).map mkD)) (.lst (A.map tkD)) x14 x15 x16)=.ok (((r.length:ag):ah)==0):=dZ (aH (x:=.int (r.length:ag)) (y:=.int 0) (aQ (xs:=[.lst (r.map wD)]) (aB rfl rfl) (by rw[jV,az])) rfl (eq_int _ _));cases hb:ϒ (((ws.length:ag):ah)<(le:ag)) with
  |true=>rw[hb] at q1;exact ZF q1 q2
  |false=>rw[hb] at q1;exact aF2 q1
 have m4:=cG dr 4 0x4;have a2:=dH (ws.length:ag) (r.length:ag);have c2:c2s (ww ns at_ M T K kind mo le ws r (wD h) (.int dr) (.lst (F.map δ)) (.lst ((m0::m2::R).map mkD)) (.lst (A.map tkD)) x14 x15 x16)=.ok (h.2||(ϒ (((mo:ag):ah)<=(ws.length:ag)+(r.length:ag))||(dr % 4==0))):=aA0 (aQd (aH (x:=wD h) (y:=.int 1) rfl rfl rfl)) (aA0 (dZ (aH (x:=.int ((ws.length:ag)+(r.length:ag))) (y:=.int (mo:ag)) (aH (x:=.int (ws.length:ag)) (y:=.int (r.length:ag)) (aQ (xs:=[.lst (ws.map δ)]) (aB rfl rfl) (by rw[jV,az])) (aQ (xs:=[.lst (r.map wD)]) (aB rfl rfl) (by rw[jV,az])) a2) rfl (aRv _ _))) (dZ (aH (x:=.int (dr % 4)) (y:=.int 0) (aH (x:=.int dr) rfl rfl m4) rfl (eq_int _ _))));have c3:c3s (ww ns at_ M T K kind mo le ws r (wD h) (.int dr) (.lst (F.map δ)) (.lst ((m0::m2::R).map mkD)) (.lst (A.map tkD)) x14 x15 x16)=.ok (ϒ (dr % 4<3)||(((A.length:ag):ah)==0)):=aA0 (dZ (aH (x:=.int (dr % 4)) (y:=.int 3) (aH (x:=.int dr) rfl rfl m4) rfl (aQu _ _))) (dZ (aH (x:=.int (A.length:ag)) (y:=.int 0) (aQ (xs:=[.lst (A.map tkD)]) (aB rfl rfl) (by rw[jV,az])) rfl (eq_int _ _)));have fin:∀{res},sIf c1s b1s (sIf c2s b2s (sIf c3s b3s b4s)) (ww ns at_ M T K kind mo le ws r (wD h) (.int dr) (.lst (F.map δ)) (.lst ((m0::m2::R).map mkD)) (.lst (A.map tkD)) x14 x15 x16)=res->aK1 (ww ns at_ M T K kind mo le ws (h::r) x9 x10 x11 x12 x13 x14 x15 x16)=res:=λe=>aN h1 (aN h2 (aN h3 (aN h4 (aN h5 e))))
 have wh:=aFv ns h;by_cases z1:(ϒ (((ws.length:ag):ah)<(le:ag))&&(((r.length:ag):ah)==0))=af
 ·rw[z1] at c1;rw[bc,dE] at z1;have hr0:r=[]:=xu.mp (by have:=eq_of_beq z1.2;lia);subst hr0;obtain⟨p,hp⟩:=Af.mp hm2;have mp:=hM.part m2 (inM m2 (bw _ (bo ..)));refine⟨m2.1,[(p,ai)],_,_,_,_,_,_,_,_,λq hql=>?_,?_,λ_ _=>⟨m2,inM m2 (bw _ (bo ..)),kd m2 (bw _ (bo ..)),rfl,by rw[hp];rfl⟩,fin (xX c1 (aK3 (ns:=ns) (at_:=at_) (M:=M) (T:=T) (K:=K) (kind:=kind) (mo:=mo) (le:=le) (h:=h) (R:=R) (A:=A) (x14:=x14) (x15:=x15) (x16:=x16) (F:=F) (m0:=m0) (p:=p) hw hp))⟩
  ·rw[d6.mp hql];exact mp.2.2 p (by rw[hp];exact bo ..)
  ·refine⟨?_,λz _=>by lia⟩;unfold mu;rw[sm,sm,sm,sm];have:=aFv ns (p,ai);lia
 rw[lu] at z1;rw[z1] at c1;by_cases z:(h.2||(ϒ (((mo:ag):ah)<=(ws.length:ag)+(r.length:ag))||(dr % 4==0)))=af
 ·rw[z] at c2;obtain⟨w,L,hL,hL2,e⟩:=aK2 (ns:=ns) (at_:=at_) (M:=M) (T:=T) (K:=K) (kind:=kind) (mo:=mo) (le:=le) (h:=h) (R:=m2::R) (A:=A) (x14:=x14) (x15:=x15) (x16:=x16) hw hr hd (F:=F) 0x1 (m0:=m0) (by rcases hq with q|⟨q,_⟩<;>rw[q]<;>exact cy rfl);refine⟨w,L,_,_,_,_,_,_,_,_,λq hql=>?_,?_,λhT0 hK0=>?_,fin (j6 c1 (xX c2 e))⟩
  rotate_right
  ·have hF0:F=[]:=xu.mp (by rw[hK0] at hF;simpa using hF);obtain⟨e1,e2⟩:=hL2 hF0;refine⟨m0,inM m0 (bo ..),kd m0 (bo ..),e1,?_⟩;rw[e2,bE,c5]
   congr 1
   exact D8 _
  ·rcases hL with rfl|rfl
   ·exact hkr q hql
   ·rcases e5.mp hql with hql|hql
    ·obtain⟨x,hx,rfl⟩:=c6.mp hql;exact(hM.part m0 (inM m0 (bo ..))).2.2 x hx
    ·exact hkr q hql
  ·have hs:sm ns L+1<=sm ns (h::r):=?_
   ·refine⟨by unfold mu;lia,λ_ _=>⟨.inl hs,?_⟩⟩;rcases hL with rfl|rfl
    ·lia
    ·rw[bp,az];have:=(hM.part m0 (inM m0 (bo ..))).2.1;lia
   rw[sm];rcases hL with rfl|rfl
   ·lia
   ·rw[XM];rcases hq with q|⟨q,q2⟩
    ·rw[q];show(0+_)+1<=_;lia
    ·rw[q];have e1:sm ns ([wrd ns 0].map λx=>(x,af))=1:=by
      show(if wrd ns 0=wrd ns 0 then 1 else 2)+0=1;rw[av rfl]
     have e2:wt ns h=2:=by
      unfold wt;rw[ax q2]
     rw[e1,e2];lia
 ·rw[lu] at z;rw[z] at c2;have lt:ws.length+r.length<mo:=by
   simp only[AW,vp] at z;lia
  by_cases y:(ϒ (dr % 4<3)||(((A.length:ag):ah)==0))=af
  ·rw[y] at c3;obtain⟨m,y14,hmm,e⟩:=aK4 (ns:=ns) (at_:=at_) (M:=M) (T:=T) (K:=K) (kind:=kind) (mo:=mo) (le:=le) (h:=h) (F:=F) (A:=A) (x14:=x14) (x15:=x15) (x16:=x16) hw hr hd (m0:=m0) (R:=m2::R) hlen (λm hq=>(hM.part m (inM m hq)).2.1);have mp:=hM.part m (inM m hmm);refine⟨m.1,_,_,_,_,_,_,_,_,_,λq hql=>?_,?_,λ_ _=>⟨m,inM m hmm,kd m hmm,rfl,by rw[bE,c5];congr 1;exact D8 _⟩,fin (j6 c1 (j6 c2 (xX c3 e)))⟩
   ·rcases e5.mp hql with hql|hql
    ·obtain⟨x,hx,rfl⟩:=c6.mp hql;exact mp.2.2 x hx
    ·exact hkr q hql
   ·refine⟨?_,λ_ _=>⟨.inr lt,by rw[bp,az];have:=mp.2.1;lia⟩⟩;unfold mu;have:=aFw (ns:=ns) m.2.2 ai mp.2.1;rw[sm,XM];lia
  ·rw[lu] at y;rw[y] at c3;have hA0:0<A.length:=by
    simp only[AW,dS] at y;lia
   obtain⟨m,b,y15,y16,hmm,e⟩:=aK5 (ns:=ns) (at_:=at_) (M:=M) (T:=T) (K:=K) (kind:=kind) (mo:=mo) (le:=le) (h:=h) (F:=F) (m0:=m0) (R:=m2::R) (x14:=x14) (x15:=x15) (x16:=x16) hw hr hd (A:=A) hA0 (λm hq=>zI (hT m (inT m hq)).2.2.2.1);have mp:=hT m (inT m hmm);refine⟨m.1,_,_,_,_,_,_,_,_,_,λq hql=>?_,?_,λhT0 _=>(by have:=inT m hmm;rw[hT0] at this;cases this),fin (j6 c1 (j6 c2 (j6 c3 e)))⟩
   ·rcases e5.mp hql with hql|hql
    ·rcases bP.mp hql with rfl|hql
     ·exact mp.2.2.1
     ·obtain⟨x,hx,rfl⟩:=c6.mp hql;exact mp.2.2.2.2 x hx
    ·exact hkr q hql
   ·refine⟨?_,λ_ hT0=>(by have:=inT m hmm;rw[hT0] at this;cases this)⟩;unfold mu;have:=(zZ ns (m.2.2.2.map λx=>(x,ai))).2;rw[az] at this;have:=mp.2.2.2.1;have:=aFv ns (m.2.2.1,b);rw[sm,XM,sm];lia
theorem aK7{ns:aa ah}{Ω:ah}{at_:ah}{M:aa Mk}{T:aa Tk}{K:aa (Str×Str)}{kind:Str}{mo le:ag}(hn:ns.length<=63)(hm:0<Ω)(hm3:Ω<=3)(hM:MOk ns Ω Ω.toNat M)(hT:∀t∈T,lB ns Ω t)(hTl:T.length<=3)(hK:K.length<=100)(hlm:le<=mo) :
  ∀(n:ag)(ws:aa Str)(L:aa Wt)(x9 x10 x11 x12 x13 x14 x15 x16:D),(∀q∈L,IsK ns Ω q.1)->mu mo ns ws.length L<n->ws.length+mu mo ns ws.length L<=600->
  ∃(vs:aa Str)(y9 y10 y11 y12 y13 y14 y15 y16:D),(vs.length<=mu mo ns ws.length L/\(T=[]->K=[]->Dv M (L.map (·.1)) vs)/\(le=0->T=[]->mo<=8->ws.length+sm ns L<=18->L.length<=2*ws.length+1->ws.length+vs.length<=18))/\xY (bTB (b2 (cV (.ord .gt)) (aM fJ (aC yN aP)) bR)) aK1 n (ww ns at_ M T K kind mo le ws L x9 x10 x11 x12 x13 x14 x15 x16)=.ok (.nx (ww ns at_ M T K kind mo le (ws++vs) [] y9 y10 y11 y12 y13 y14 y15 y16)):=by
 intro n;induction n with
 |zero=>intro ws L x9 x10 x11 x12 x13 x14 x15 x16 _ h;lia
 |succ n ih=>
  intro ws L x9 x10 x11 x12 x13 x14 x15 x16 hL h1 h2;have c:bTB (b2 (cV (.ord .gt)) (aM fJ (aC yN aP)) bR) (ww ns at_ M T K kind mo le ws L x9 x10 x11 x12 x13 x14 x15 x16)=.ok (ϒ ((0:ah)<(L.length:ag))):=dZ (aH (x:=.int (L.length:ag)) (y:=.int 0) (aQ (xs:=[.lst (L.map wD)]) (aB rfl rfl) (by rw[jV,az])) rfl (aFt _ _));cases L with
  |nil=>
   refine⟨[],x9,x10,x11,x12,x13,x14,x15,x16,⟨cq _,λ_ _=>.nil,λ_ _ _ z _=>by rw[dQ];lia⟩,?_⟩;rw[xY,c,eD];rfl
  |cons h r=>
   have hl:=(zZ ns (h::r)).1;rw[aS] at hl;have hmu:sm ns (h::r)<=mu mo ns ws.length (h::r):=by unfold mu;lia
   obtain⟨w,L,y9,y10,y11,y12,y13,y14,y15,y16,i1,⟨i2,i5⟩,i4,i3⟩:=aK6 (at_:=at_) (kind:=kind) (mo:=mo) (le:=le) (x9:=x9) (x10:=x10) (x11:=x11) (x12:=x12) (x13:=x13) (x14:=x14) (x15:=x15) (x16:=x16) hn hm hm3 hM hT hTl hK (ws:=ws) (r:=r) (h:=h) 0x1 0x1 hlm hL;have wl:(ws++[w]).length=ws.length+1:=by rw[bp];rfl
   obtain⟨vs,z9,z10,z11,z12,z13,z14,z15,z16,j0,j⟩:=ih (ws++[w]) L y9 y10 y11 y12 y13 y14 y15 y16 i1 (by rw[wl];lia) (by rw[wl];lia);refine⟨w::vs,z9,z10,z11,z12,z13,z14,z15,z16,⟨by have:=j0.1;rw[wl] at this;rw[aS];lia,λhT0 hK0=>?_,λhl0 hT0 hmo8 g1 g2=>?_⟩,?_⟩
   ·obtain⟨m,k1,k2,k3,k4⟩:=i4 hT0 hK0;have d:=j0.2.1 hT0 hK0;rw[k4] at d;rw[k3,bu,<-k2];exact .cons k1 d
   ·obtain⟨b1,b2⟩:=i5 hl0 hT0;have b3:=(zZ ns L).2;rw[aS] at g2;have:=j0.2.2 hl0 hT0 hmo8 (by rw[wl];lia) (by rw[wl];lia);rw[wl] at this;rw[aS];lia
   rw[show ws++w::vs=ws++[w]++vs by simp];have:ϒ ((0:ah)<((h::r).length:ag))=af:=cb (by rw[aS];lia);rw[xY,c,this,θ,av rfl,i3];exact j
theorem K4{ns:aa ah}{Ω:ah}{at_:ah}{M:aa Mk}{T:aa Tk}{K:aa (Str×Str)}{kind:Str}{mo le:ag}(hn:ns.length<=63)(hm:0<Ω)(hm3:Ω<=3)(hM:MOk ns Ω Ω.toNat M)(hT:∀t∈T,lB ns Ω t)(hTl:T.length<=3)(hK:K.length<=100)(hlm:le<=mo)(hmo:mo<=70)(hk:IsK ns Ω kind) :
  ∃vs:aa Str,(vs.length<=450/\(T=[]->K=[]->Dv M [kind] vs)/\(le=0->T=[]->mo<=8->vs.length<=18))/\bO 7 dI [.scr (ns.map ε),.int at_,bkD M T,.dct (knD K),.str kind,.int (mo:ag),.int (le:ag)]=.ok (.tup (vs.map δ)):=by
 have m1:mu mo ns ([]:aa Str).length [(kind,ai)]<=450:=by
  have:=(zZ ns [(kind,ai)]).2;unfold mu;have e:[(kind,ai)].length=1:=rfl;have e2:([]:aa Str).length=0:=rfl;lia
 obtain⟨vs,z9,z10,z11,z12,z13,z14,z15,z16,j0,j⟩:=aK7 (at_:=at_) (kind:=kind) (mo:=mo) (le:=le) hn hm hm3 hM hT hTl hK hlm 1000 [] [(kind,ai)] .uD .uD .uD .uD .uD .uD .uD .uD (λq hq=>by rw[d6.mp hq];exact hk) 0x1 (by show 0+_<=600;lia);refine⟨vs,⟨dj j0.1 m1,j0.2.1,λa b c=>by
  have q:=(zZ ns [(kind,ai)]).2;have q2:=j0.2.2 a b c (by show 0+_<=18;have e:[(kind,ai)].length=1:=rfl;lia) (ba 1);rw[dQ] at q2;lia⟩,(cJ rfl).trans (call_v ?_)⟩
 unfold wN;refine aN (ρ':=[.scr (ns.map ε),.int at_,bkD M T,.dct (knD K),.str kind,.int (mo:ag),.int (le:ag),.lst [],.uD,.uD,.uD,.uD,.uD,.uD,.uD,.uD,.uD]) (dY (i:=7) (lA (xs:=[]) rfl (cq _)) rfl) ?_;refine aN (ρ':=ww ns at_ M T K kind mo le [] [(kind,ai)] .uD .uD .uD .uD .uD .uD .uD .uD) (dY (i:=8) (wA (xs:=[wD (kind,ai)]) (aB (bI (xs:=[.str kind,.bl ai]) (aB rfl (aB rfl rfl)) jL) rfl) (bV (cy rfl)) rfl) rfl) ?_;refine aN j ?_;exact gV (d:=.tup (vs.map δ)) (aQ (xs:=[.lst (vs.map δ)]) (aB rfl rfl) rfl) (by rw[μ,bH];rfl)
noncomputable abbrev Rl:=Str×Str×aa Str×aa Str
noncomputable def rlD(r:Rl):D:=.tup [.str r.1,.str r.2.1,.tup (r.2.2.1.map δ),.tup (r.2.2.2.map δ)]
theorem wB(r:Rl):(rlD r).pure=af:=by
 show(af&&(af&&((ν (r.2.2.1.map δ)).pure&&((ν (r.2.2.2.map δ)).pure&&af))))=af;rw[μ,μ,bH,bH];rfl
theorem aH5:∀(K:aa (Str×Str))(x y:Str),∃K':aa (Str×Str),K'.length<=K.length+1/\putD (knD K) (.str x) (.str y)=knD K'
 |[],x,y=>⟨[(x,y)],ba _,rfl⟩
 |p::K,x,y=>by
  show ∃K':aa (Str×Str),K'.length<=(p::K).length+1/\(if (p.1==x) then (δ p.1,δ y)::knD K else (δ p.1,δ p.2)::putD (knD K) (.str x) (.str y))=knD K';by_cases z:(p.1==x)=af
  ·rw[av z];exact⟨(p.1,y)::K,by simp,rfl⟩
  ·rw[ax z];obtain⟨K',h1,h2⟩:=aH5 K x y;rw[h2];refine⟨p::K',?_,rfl⟩;rw[aS,aS];lia
theorem aH6:∀(a b:aa Str)(K:aa (Str×Str)),∃K':aa (Str×Str),K'.length<=K.length+a.length/\wJ (a.map δ) (b.map δ) (knD K)=knD K'
 |[],b,K=>⟨K,ba _,by cases b<;>rfl⟩
 |x::a,[],K=>⟨K,sg ..,rfl⟩
 |x::a,y::b,K=>by
  obtain⟨K1,h1,h2⟩:=aH5 K x y;obtain⟨K2,i1,i2⟩:=aH6 a b K1;refine⟨K2,by rw[aS];lia,?_⟩;show wJ (a.map δ) (b.map δ) (putD (knD K) (.str x) (.str y))=_;rw[h2,i2]
theorem aDh(a:aa Str):(a.map δ).all mF=af:=by
 rw[jk];intro d hd;obtain⟨x,_,rfl⟩:=c6.mp hd;rfl
def rr(ns:aa ah)(M:aa Mk)(T:aa Tk)(R:aa Rl)(x3 x4 x5 x6 x7 x8 x9 x10:D):aa D:=[.scr (ns.map ε),bkD M T,.lst (R.map rlD),x3,x4,x5,x6,x7,x8,x9,x10]
theorem QZ(g:aa D->D->Res (aa D))(d:α->D):∀(xs acc:aa D),(∀x∈xs,∀acc,∃y:α,g acc x=.ok (acc++[d y]))->∃zs:aa α,zs.length=xs.length/\gD g acc xs=.ok (acc++zs.map d)
 |[],acc,_=>⟨[],rfl,(by simp[gD])⟩
 |x::xs,acc,h=>by
  obtain⟨y,h3⟩:=h x (bo ..) acc;obtain⟨zs,i2,i3⟩:=QZ g d xs (acc++[d y]) λy hy=>h y (bw _ hy)
  refine⟨y::zs,by rw[aS,aS,i2],?_⟩;rw[gD,h3];show gD g _ _=_;rw[i3,bu,ke];rfl
theorem aFx{ns:aa ah}(hn:ns.length<=63)(hρ:ρ.length=n)(h0:∀x:D,fM 0 (ρ++[x])=.ok (.scr (ns.map ε)))(hg:g ρ=.ok [.int sz])(hs1:sz<=100)
 (hf:∀p:ah,∃j:ah,0<=j/\j<=33/\f (ρ++[.int p])=.ok (.int j)) :
  ∃xs:aa Str,xs.length=sz/\fG n (lL g vU) lM g8 (aM (bO 2 aX) (aC cO (aC f aP))) af ρ=.ok (.lst (xs.map δ)):=by
 obtain⟨xs,h2,h3⟩:=QZ (iH n lM g8 (aM (bO 2 aX) (aC cO (aC f aP))) af ρ) δ ((bz sz).map λ(k:ag)=>ε (0+(k:ah))) [] (λx hx acc=>by
  obtain⟨k,hk,rfl⟩:=c6.mp hx;obtain⟨j,j0,j1,e⟩:=hf (0+(k:ah));have w:=(sW hn j0 j1).1;refine⟨wrd ns j,?_⟩;exact oF (b:=af) hρ rfl rfl λ_=>⟨aQ (aB (h0 _) (aB e rfl)) w,rfl⟩)
 rw[dy] at h3;rw[az,f_] at h2;have rg:=FJ hg 0x1 0x1;rw[nj] at rg;exact⟨xs,h2,gJ rg (by rw[az,f_,fQ];lia) h3⟩
theorem aO2(a:aa Str):aIs (.lst (a.map δ))=.ok (.lst (a.reverse.map δ)):=by
 rw[aIs,av (bH a),xw]
theorem aO3(hn:ns.length<=63)(hm:0<Ω)(hm3:Ω<=3)(hM:MOk ns Ω Ω.toNat M)(hT:∀t∈T,lB ns Ω t)(hTl:T.length<=3)(ht:t∈T)(hmm:m∈M)(hR:R.length<=200) :
  ∃(R':aa Rl)(y5 y6 y7 y8 y9:D),R'.length<=R.length+1/\irs (rr ns M T R (tkD t) (mkD m) x5 x6 x7 x8 x9 x10)=.ok (.nx (rr ns M T R' (tkD t) (mkD m) y5 y6 y7 y8 y9 x10)):=by
 have tp:=hT t ht;have mp:=hM.part m hmm;have c:bTB (b2 (cV .eq) (b2 getD iR cR) (b2 getD dG iT)) (rr ns M T R (tkD t) (mkD m) x5 x6 x7 x8 x9 x10)=.ok (m.2.1==t.2.2.1):=dZ (aH (aH rfl rfl rfl) (aH rfl rfl rfl) (eq_str _ _));by_cases z:(m.2.1==t.2.2.1)=af
 ·rw[z] at c;have at1:=h_ (m.2.2.map δ) (t.2.2.2.map δ) (by rw[az,az];have:=mp.2.1;have:=tp.2.2.2.1;lia);rw[<-bE] at at1;generalize hks:m.2.2++t.2.2.2=ks at at1;have kl:ks.length<=6:=by rw[<-hks,bp];have:=mp.2.1;have:=tp.2.2.2.1;lia
  have a26:=dH 26 (R.length:ag);generalize hdr:drw ns (26+(R.length:ag))=dr;have s1:bW ai 5 (b2 vQ (b2 getD iR iT) (b2 getD dG uY)) ai (rr ns M T R (tkD t) (mkD m) x5 x6 x7 x8 x9 x10)=.ok (.nx (rr ns M T R (tkD t) (mkD m) (.tup (ks.map δ)) x6 x7 x8 x9 x10)):=dU (aH (aH rfl rfl rfl) (aH rfl rfl rfl) at1) (by rw[μ,bH]);have s2:bW ai 6 (aM (bO 2 aK) (aC cO (aC (b2 (bG .add) M7 (aM fJ (aC d8 aP))) aP))) af (rr ns M T R (tkD t) (mkD m) (.tup (ks.map δ)) x6 x7 x8 x9 x10)=.ok (.nx (rr ns M T R (tkD t) (mkD m) (.tup (ks.map δ)) (.int dr) x7 x8 x9 x10)):=by
   refine bQ ?_;rw[<-hdr];exact gW hn rfl (aH (y:=.int (R.length:ag)) rfl (aQ (xs:=[.lst (R.map rlD)]) (aB rfl rfl) (by rw[jV,az])) a26)
  obtain⟨nm,nl,en⟩:=aFx (n:=11) (ρ:=rr ns M T R (tkD t) (mkD m) (.tup (ks.map δ)) (.int dr) x7 x8 x9 x10) (f:=b2 (bG .add) aEk (b2 (bG .mod) (b2 (bG .add) nO iG) aEj)) (sz:=ks.length) (g:=aC (aM fJ (aC lJ aP)) aP) hn rfl (λ_=>rfl) (aB (aQ (xs:=[.tup (ks.map δ)]) (aB rfl rfl) (show fJ [.tup (ks.map δ)]=.ok (.int (ks.length:ag)) by rw[show fJ [.tup (ks.map δ)]=.ok (.int ((ks.map δ).length:ag)) from rfl,az])) rfl) 0x1 (λp=>by
   have e1:=dH dr p;have e2:=cG (dr+p) 5 0x4;have e3:=dH 12 ((dr+p) % 5);exact⟨12+(dr+p) % 5,by lia,by lia,aH (x:=.int 12) (y:=.int ((dr+p) % 5)) rfl (aH (x:=.int (dr+p)) (y:=.int 5) (aH (x:=.int dr) (y:=.int p) rfl rfl e1) rfl e2) e3⟩)
  have s3:=bQ (i:=7) en;have f5:=fY dr 5 0x4 0x4;have m2:=cG (dr / 5) 2 0x4;have gt:=KR (.lst (nm.map δ)) (.lst (nm.reverse.map δ)) (dr / 5 % 2) 0x1 0x1;obtain⟨nn,nnl,gt'⟩:∃nn:aa Str,nn.length=nm.length/\getD (.lst [.lst (nm.map δ),.lst (nm.reverse.map δ)]) (.int (dr / 5 % 2))=.ok (.lst (nn.map δ)):=by
   by_cases y:dr / 5 % 2=0
   ·rw[av y] at gt;exact⟨nm,rfl,gt⟩
   ·rw[ax y] at gt;exact⟨nm.reverse,li,gt⟩
  have s4:bW ai 7 (aM fO (aC (b2 getD (DY (aC vP (aC (b1 aIs vP) aP))) (b2 (bG .mod) (b2 (bG .fdiv) nO aEj) iT)) aP)) ai (rr ns M T R (tkD t) (mkD m) (.tup (ks.map δ)) (.int dr) (.lst (nm.map δ)) x8 x9 x10)=.ok (.nx (rr ns M T R (tkD t) (mkD m) (.tup (ks.map δ)) (.int dr) (.tup (nn.map δ)) x8 x9 x10)):=by
   have rv:b1 aIs vP (rr ns M T R (tkD t) (mkD m) (.tup (ks.map δ)) (.int dr) (.lst (nm.map δ)) x8 x9 x10)=.ok (.lst (nm.reverse.map δ)):=aO2 nm;exact dU (i:=7) (d:=.tup (nn.map δ)) (aQ (xs:=[.lst (nn.map δ)]) (aB (aH (lA (xs:=[.lst (nm.map δ),.lst (nm.reverse.map δ)]) (aB rfl (aB rv rfl)) jL) (aH (x:=.int (dr / 5)) (aH (x:=.int dr) rfl rfl f5) rfl m2) gt') rfl) rfl) (by rw[μ,bH])
  obtain⟨K,kk,ek⟩:=aH6 nn ks [];rw[dQ] at kk;have zp:FP [.tup (nn.map δ),.tup (ks.map δ)]=.ok (.dct (knD K)):=by
   rw[FP,av (by rw[aDh,bH,az,az,cb (show nn.length<=1000 by lia),cb (show ks.length=nn.length by lia)];rfl)];exact di (λx=>τ (D.dct x)) ek
  have s5:bW ai 8 (aM FP (aC vP (aC lJ aP))) af (rr ns M T R (tkD t) (mkD m) (.tup (ks.map δ)) (.int dr) (.tup (nn.map δ)) x8 x9 x10)=.ok (.nx (rr ns M T R (tkD t) (mkD m) (.tup (ks.map δ)) (.int dr) (.tup (nn.map δ)) (.dct (knD K)) x9 x10)):=bQ (i:=8) (aQ (xs:=[.tup (nn.map δ),.tup (ks.map δ)]) (aB rfl (aB rfl rfl)) zp);have m20:=sO 20 (R.length:ag) 0x4;have a100:=dH 100 (20*(R.length:ag));obtain⟨vs,_,ew⟩:=K4 (at_:=100+20*(R.length:ag)) (K:=K) (kind:=t.2.1) (mo:=5) (le:=0) hn hm hm3 hM hT hTl 0x1 0x4 0x4 tp.2.1;have s6:bW ai 9 (aM (λds=>bO 7 dI (ds++[.int 0])) (aC cO (aC (b2 (bG .add) (bC (.int 100)) (b2 o6 aI5 (aM fJ (aC d8 aP)))) (aC cW (aC yN (aC (b2 getD dG cR) (aC aEj aP))))))) af (rr ns M T R (tkD t) (mkD m) (.tup (ks.map δ)) (.int dr) (.tup (nn.map δ)) (.dct (knD K)) x9 x10)=.ok (.nx (rr ns M T R (tkD t) (mkD m) (.tup (ks.map δ)) (.int dr) (.tup (nn.map δ)) (.dct (knD K)) (.tup (vs.map δ)) x10)):=bQ (i:=9) (aQ (xs:=[.scr (ns.map ε),.int (100+20*(R.length:ag)),bkD M T,.dct (knD K),.str t.2.1,.int 5]) (aB rfl (aB (aH (x:=.int 100) (y:=.int (20*(R.length:ag))) rfl (aH (x:=.int 20) (y:=.int (R.length:ag)) rfl (aQ (xs:=[.lst (R.map rlD)]) (aB rfl rfl) (by rw[jV,az])) m20) a100) (aB rfl (aB rfl (aB (aH (x:=tkD t) (y:=.int 1) rfl rfl rfl) (aB rfl rfl)))))) ew);have ap:=lW (i:=2) (ρ:=rr ns M T R (tkD t) (mkD m) (.tup (ks.map δ)) (.int dr) (.tup (nn.map δ)) (.dct (knD K)) (.tup (vs.map δ)) x10) (f:=cT (aC (b2 getD dG bR) (aC (b2 getD iR bR) (aC vP (aC xK aP))))) (xs:=R.map rlD) (d:=rlD (t.1,m.1,nn,vs)) (bI (xs:=[.str t.1,.str m.1,.tup (nn.map δ),.tup (vs.map δ)]) (aB (aH (x:=tkD t) (y:=.int 0) rfl rfl rfl) (aB (aH (x:=mkD m) (y:=.int 0) rfl rfl rfl) (aB rfl (aB rfl rfl)))) (bV (cy rfl))) rfl (by rw[az,fQ];lia) (wB _);refine⟨R++[(t.1,m.1,nn,vs)],.tup (ks.map δ),.int dr,.tup (nn.map δ),.dct (knD K),.tup (vs.map δ),by rw[bp];exact ba _,xX c (aN s1 (aN s2 (aN s3 (aN s4 (aN s5 (aN s6 ?_))))))⟩;unfold rr;rw[bE];exact ap
 ·rw[lu] at z;rw[z] at c;exact⟨R,x5,x6,x7,x8,x9,iu _,j6 c rfl⟩
theorem XQ(hn:ns.length<=63)(hm:0<Ω)(hm3:Ω<=3)(hM:MOk ns Ω Ω.toNat M)(hT:∀t∈T,lB ns Ω t)(hTl:T.length<=3)(ht:t∈T) :
  ∀(N:aa Mk)(R:aa Rl)(x4 x5 x6 x7 x8 x9 x10:D),(∀m∈N,m∈M)->R.length+N.length<=200->∃(R':aa Rl)(y4 y5 y6 y7 y8 y9:D),R'.length<=R.length+N.length/\o9 (tg1 4) irs (N.map mkD) (rr ns M T R (tkD t) x4 x5 x6 x7 x8 x9 x10)=.ok (.nx (rr ns M T R' (tkD t) y4 y5 y6 y7 y8 y9 x10))
 |[],R,x4,x5,x6,x7,x8,x9,x10,_,_=>⟨R,x4,x5,x6,x7,x8,x9,ba _,rfl⟩
 |m::N,R,x4,x5,x6,x7,x8,x9,x10,hN,hl=>by
  rw[aS] at hl;obtain⟨R1,y5,y6,y7,y8,y9,h1,h2⟩:=aO3 hn hm hm3 hM hT hTl ht (hN m (bo ..)) (R:=R) 0x1;obtain⟨R2,z4,z5,z6,z7,z8,z9,i1,i2⟩:=XQ hn hm hm3 hM hT hTl ht N R1 (mkD m) y5 y6 y7 y8 y9 x10 (λq hq=>hN q (bw _ hq)) 0x1;refine⟨R2,z4,z5,z6,z7,z8,z9,by rw[aS];lia,?_⟩;exact eO (ρ1:=rr ns M T R (tkD t) (mkD m) x5 x6 x7 x8 x9 x10) rfl h2 i2
theorem XR(hn:ns.length<=63)(hm:0<Ω)(hm3:Ω<=3)(hM:MOk ns Ω Ω.toNat M)(hT:∀t∈T,lB ns Ω t)(hTl:T.length<=3) :
  ∀(N:aa Tk)(R:aa Rl)(x3 x4 x5 x6 x7 x8 x9 x10:D),(∀m∈N,m∈T)->R.length+9*N.length<=200->∃(R':aa Rl)(y3 y4 y5 y6 y7 y8 y9:D),R'.length<=R.length+9*N.length/\o9 (tg1 3) (G7 (cU (b2 getD cW bR) ai) (tg1 4) irs) (N.map tkD) (rr ns M T R x3 x4 x5 x6 x7 x8 x9 x10)=.ok (.nx (rr ns M T R' y3 y4 y5 y6 y7 y8 y9 x10))
 |[],R,x3,x4,x5,x6,x7,x8,x9,x10,_,_=>⟨R,x3,x4,x5,x6,x7,x8,x9,ba _,rfl⟩
 |t::N,R,x3,x4,x5,x6,x7,x8,x9,x10,hN,hl=>by
  rw[aS] at hl;have ml:=hM.len;obtain⟨R1,y4,y5,y6,y7,y8,y9,h1,h2⟩:=XQ hn hm hm3 hM hT hTl (hN t (bo ..)) M R x4 x5 x6 x7 x8 x9 x10 (λ_ h=>h) 0x1;obtain⟨R2,z3,z4,z5,z6,z7,z8,z9,i1,i2⟩:=XR hn hm hm3 hM hT hTl N R1 (tkD t) y4 y5 y6 y7 y8 y9 x10 (λq hq=>hN q (bw _ hq)) 0x1;refine⟨R2,z3,z4,z5,z6,z7,z8,z9,by rw[aS];lia,?_⟩;have pm:(ai||(ν (M.map mkD)).pure)=af:=by rw[μ,a_ mZ];rfl
  have it:=fD (a:=b2 getD cW bR) (ρ:=rr ns M T R (tkD t) x4 x5 x6 x7 x8 x9 x10) (xs:=M.map mkD) (aH (x:=bkD M T) (y:=.int 0) rfl rfl rfl);rw[pm] at it;exact eO (ρ1:=rr ns M T R (tkD t) x4 x5 x6 x7 x8 x9 x10) rfl (wI it h2) i2
theorem aFy(f:α->D)(L:aa α)(lo hi:aq ah):cutD (L.map f) lo hi=(cutD L lo hi).map f:=by
 unfold cutD;rw[az,List.map_take,List.map_drop]
theorem XS(L:aa α)(lo hi:aq ah):(cutD L lo hi).length<=L.length:=by
 unfold cutD;exact dj (List.length_take_le' ..) (by rw[yz];lia)
theorem aFz(hn:ns.length<=63)(hm:0<Ω)(hm3:Ω<=3)(hM:MOk ns Ω Ω.toNat M)(hT:∀t∈T,lB ns Ω t)(hTl:T.length<=3):∃R:aa Rl,bO 2 kJ [.scr (ns.map ε),bkD M T]=.ok (.tup (R.map rlD)):=by
 obtain⟨R,y3,y4,y5,y6,y7,y8,y9,h1,h2⟩:=XR hn hm hm3 hM hT hTl T [] .uD .uD .uD .uD .uD .uD .uD .uD (λ_ h=>h) (by show 0+_<=200;lia);rw[dQ] at h1;obtain⟨n,n1,hx⟩:∃n:ah,0<n/\max2 [.int 1,.int (R.length:ag)]=.ok (.int n):=by
  refine⟨_,?_,aQc R.length⟩;split<;>lia
 have mn:=cG (drw ns 35) n n1;generalize hat:drw ns 35 % n=at_ at mn;have pt:(ai||(ν (T.map tkD)).pure)=af:=by rw[μ,a_ m7];rfl
 have it:=fD (a:=b2 getD cW cR) (ρ:=rr ns M T [] .uD .uD .uD .uD .uD .uD .uD .uD) (xs:=T.map tkD) (aH (x:=bkD M T) (y:=.int 1) rfl rfl rfl);rw[pt] at it;refine⟨cutD R (ae at_) aj++cutD R aj (ae at_),(cJ rfl).trans (call_v ?_)⟩;unfold wO;refine aN (ρ':=rr ns M T [] .uD .uD .uD .uD .uD .uD .uD .uD) (dY (i:=2) (lA (xs:=[]) rfl (cq _)) rfl) ?_;refine aN (wI it h2) ?_;refine aN (ρ':=rr ns M T R y3 y4 y5 y6 y7 y8 y9 (.int at_)) (bQ (i:=10) (aH (x:=.int (drw ns 35)) (y:=.int n) (gW hn rfl rfl) (aQ (xs:=[.int 1,.int (R.length:ag)]) (aB rfl (aB (aQ (xs:=[.lst (R.map rlD)]) (aB rfl rfl) (by rw[jV,az])) rfl)) hx) mn)) ?_;have sl:∀lo hi,aGu (.lst (R.map rlD)) lo hi=.ok (.lst ((cutD R lo hi).map rlD)):=λlo hi=>by
  show aKm (.lst (R.map rlD)) lo hi=_;rw[aKm,av (a_ wB R),aFy]
 have e1:aBv d8 (G5 mG) G6 (rr ns M T R y3 y4 y5 y6 y7 y8 y9 (.int at_))=.ok (.lst ((cutD R (ae at_) aj).map rlD)):=sl (ae at_) aj;have e2:aBv d8 G6 (G5 mG) (rr ns M T R y3 y4 y5 y6 y7 y8 y9 (.int at_))=.ok (.lst ((cutD R aj (ae at_)).map rlD)):=sl aj (ae at_);have l1:=XS R (ae at_) aj;have l2:=XS R aj (ae at_);have e3:=nW ((cutD R (ae at_) aj).map rlD) ((cutD R aj (ae at_)).map rlD) (by rw[az,az];exact bV 0x1) (a_ wB _) (a_ wB _);rw[<-bE] at e3;exact gV (d:=.tup ((cutD R (ae at_) aj++cutD R aj (ae at_)).map rlD)) (aQ (xs:=[.lst ((cutD R (ae at_) aj++cutD R aj (ae at_)).map rlD)]) (aB (aH e1 e2 e3) rfl) rfl) (by rw[μ,a_ wB];rfl)
def pgD(ks:aa Str)(M:aa Mk)(T:aa Tk)(R:aa Rl):D:=.tup [.tup (ks.map δ),.tup (M.map mkD),.tup (T.map tkD),.tup (R.map rlD)]
theorem aK8(ks:aa Str)(M:aa Mk)(T:aa Tk)(R:aa Rl):(pgD ks M T R).pure=af:=by
 show((ν (ks.map δ)).pure&&((ν (M.map mkD)).pure&&((ν (T.map tkD)).pure&&((ν (R.map rlD)).pure&&af))))=af;rw[μ,μ,μ,μ,bH,a_ mZ,a_ m7,a_ wB];rfl
theorem XX(g:aa D->D->Res (aa D))(en out:ag->D):∀(L:aa ag)(acc:aa D),(∀q∈L,∀acc,g acc (en q)=.ok (acc++[out q]))->gD g acc (L.map en)=.ok (acc++L.map out)
 |[],acc,_=>(by simp[gD])
 |q::L,acc,h=>by
  rw[bu,gD,h q (bo ..)];show gD g _ _=_;rw[XX g en out L (acc++[out q]) λy hy=>h y (bw _ hy)];simp
theorem aA1(hn:ns.length<=63):∃(Ω:ah)(ks:aa Str)(M:aa Mk)(T:aa Tk)(R:aa Rl),(0<Ω/\Ω<=3)/\MOk ns Ω Ω.toNat M/\(∀t∈T,lB ns Ω t)/\(T.length<=3/\T.map (·.1)=(bz T.length).map (λ(k:ag)=>wrd ns (17+(k:ah))))/\((∀k∈ks,IsK ns Ω k)/\ks.length=Ω.toNat/\ks=(bz Ω.toNat).map λ(k:ag)=>wrd ns (k:ah))/\bO 1 iC [.scr (ns.map ε)]=.ok (pgD ks M T R):=by
 have m3:=cG (drw ns 39) 3 0x4;have a1:=dH 1 (drw ns 39 % 3);generalize hmany:1+drw ns 39 % 3=Ω at a1;have hm:0<Ω:=by lia
 have hm3:Ω<=3:=by lia
 obtain⟨M,hM,eM⟩:=aDc hn hm hm3;obtain⟨T,hT,hTl,eT⟩:=aDd hn hm hm3;obtain⟨R,eR⟩:=aFz hn hm hm3 hM hT hTl.1;have ml:=hM.len;have h3:gD (iH 4 lM g8 (aM (bO 2 aX) (aC cO (aC iR aP))) af [.scr (ns.map ε),.int Ω,bkD M T,.uD]) [] ((bz Ω.toNat).map λ(k:ag)=>ε (0+(k:ah)))=.ok ([]++(bz Ω.toNat).map λ(k:ag)=>δ (wrd ns (k:ah))):=by
  refine XX _ _ _ _ _ λk hk acc=>?_
  have hk:=hG.mp hk;have w:=(sW hn (i:=0+(k:ah)) 0x1 0x1).1;rw[show(0:ah)+(k:ah)=(k:ah) by lia] at w ⊢;exact oF (b:=af) (bs:=[.int (k:ah)]) (y:=.str (wrd ns (k:ah))) rfl rfl rfl λ_=>⟨aQ (xs:=[.scr (ns.map ε),.int (k:ah)]) (aB rfl (aB rfl rfl)) w,rfl⟩
 obtain⟨ks,hks⟩:∃ks,ks=(bz Ω.toNat).map λ(k:ag)=>wrd ns (k:ah):=⟨_,rfl⟩
 have h1:∀k∈ks,IsK ns Ω k:=λk hk=>by
  rw[hks] at hk;obtain⟨j,hj,rfl⟩:=c6.mp hk;exact⟨j,by lia,by have:=hG.mp hj;lia,rfl⟩
 have h2:ks.length=Ω.toNat:=by rw[hks,az,f_]
 rw[show((bz Ω.toNat).map λ(k:ag)=>δ (wrd ns (k:ah)))=ks.map δ by rw[hks,c5];rfl] at h3;rw[dy] at h3;refine⟨Ω,ks,M,T,R,⟨hm,hm3⟩,hM,hT,hTl,⟨h1,h2,hks⟩,(cJ rfl).trans (call_v ?_)⟩;refine aN (ρ':=[.scr (ns.map ε),.int Ω,.uD,.uD]) (bQ (i:=1) (aH (x:=.int 1) (y:=.int (drw ns 39 % 3)) rfl (aH (x:=.int (drw ns 39)) (gW hn rfl rfl) rfl m3) a1)) ?_;refine aN (ρ':=[.scr (ns.map ε),.int Ω,bkD M T,.uD]) (bQ (i:=2) (bI (xs:=[.tup (M.map mkD),.tup (T.map tkD)]) (aB (aQ (xs:=[.scr (ns.map ε),.int Ω]) (aB rfl (aB rfl rfl)) eM) (aB (aQ (xs:=[.scr (ns.map ε),.int Ω]) (aB rfl (aB rfl rfl)) eT) rfl)) jL)) ?_;refine aN (ρ':=[.scr (ns.map ε),.int Ω,bkD M T,.tup (ks.map δ)]) (dU (i:=3) (aQ (xs:=[.lst (ks.map δ)]) (aB (gJ (FJ (n:=Ω) (aB rfl rfl) 0x1 0x1) (by rw[az,f_,fQ];lia) h3) rfl) rfl) (by rw[μ,bH])) ?_;exact gV (d:=pgD ks M T R) (bI (xs:=[.tup (ks.map δ),.tup (M.map mkD),.tup (T.map tkD),.tup (R.map rlD)]) (aB rfl (aB (aH (x:=bkD M T) (y:=.int 0) rfl rfl rfl) (aB (aH (x:=bkD M T) (y:=.int 1) rfl rfl rfl) (aB (aQ (xs:=[.scr (ns.map ε),bkD M T]) (aB rfl (aB rfl rfl)) eR) rfl)))) (bV (cy rfl))) (by rw[aK8];rfl)
structure KE{α:Type}[d4 α](ek:α->D):Prop where
 eq:∀a b,eqD (ek a) (ek b)=ϒ (a=b)
 ok:∀a,keyOk (ek a)=af
 tu:∀a b,isTup (ek a)=isTup (ek b)
section
variable {α:Type} [d4 α] {ek:α->D}
noncomputable def dD(ek:α->D)(L:aa (α×D)):aa (D×D):=L.map λp=>(ek p.1,p.2)
noncomputable def Q9:aa (α×D)->α->D->aa (α×D)
 |[],a,v=>[(a,v)]
 |p::L,a,v=>if p.1=a then (p.1,v)::L else p::Q9 L a v
noncomputable def dN:aa (α×D)->α->aq D
 |[],_=>aj
 |p::L,a=>if p.1=a then ae p.2 else dN L a
def lZ(L ps:aa (α×D)):aa (α×D):=ps.foldl (λL p=>Q9 L p.1 p.2) L
theorem wZ(h:KE ek)(a:α)(v:D):∀L:aa (α×D),putD (dD ek L) (ek a) v=dD ek (Q9 L a v)
 |[]=>rfl
 |p::L=>by
  show(if eqD (ek p.1) (ek a) then _ else _)=_;rw[h.eq,Q9];by_cases z:p.1=a
  ·rw[av z,av (cb z)];rfl
  ·rw[ax z,ax (by rw[c8 z];simp)];show _::putD (dD ek L) (ek a) v=_;rw[wZ h a v L];rfl
theorem sX(h:KE ek)(a:α):∀L:aa (α×D),d9 (dD ek L) (ek a)=dN L a
 |[]=>rfl
 |p::L=>by
  show(if eqD (ek p.1) (ek a) then _ else _)=_;rw[h.eq,dN];by_cases z:p.1=a
  ·rw[av z,av (cb z)]
  ·rw[ax z,ax (by rw[c8 z];simp)];exact sX h a L
theorem oG(h:KE ek)(L:aa (α×D))(a:α):BR (dD ek L) (ek a)=af:=by
 unfold BR dD;rw[h.ok,CC,jk];intro p hp;obtain⟨q,_,rfl⟩:=c6.mp hp;rw[h.tu q.1 a];exact fI _
theorem GD(L:aa (α×D)):(dD ek L).length=L.length:=az ..
theorem yC(a:α)(v:D):∀L:aa (α×D),(Q9 L a v).length<=L.length+1
 |[]=>ba _
 |p::L=>by
  rw[Q9];split
  ·exact iu _
  ·have:=yC a v L;rw[aS,aS];lia
theorem vM:∀(ps L:aa (α×D)),(lZ L ps).length<=L.length+ps.length
 |[],_=>ba _
 |p::ps,L=>by
  have:=vM ps (Q9 L p.1 p.2);have:=yC p.1 p.2 L;rw[aS];show(lZ (Q9 L p.1 p.2) ps).length<=_;lia
theorem K5(a b:α)(v:D):∀L:aa (α×D),dN (Q9 L a v) b=if a=b then ae v else dN L b
 |[]=>rfl
 |p::L=>by
  rw[Q9];by_cases z:p.1=a
  ·rw[av z,dN,dN,z];split<;>rfl
  ·rw[ax z,dN,dN,K5 a b v L];by_cases y:p.1=b
   ·rw[av y,av y,ax (λq=>z (y.trans q.symm))]
   ·rw[ax y,ax y]
theorem vN(a:α):∀(ps L:aa (α×D)),a∉ps.map (·.1)->dN (lZ L ps) a=dN L a
 |[],_,_=>rfl
 |p::ps,L,h=>by
  rw[bu,bP,jg] at h;show dN (lZ (Q9 L p.1 p.2) ps) a=_;rw[vN a ps _ h.2,K5,ax (λq=>h.1 q.symm)]
theorem sY(a:α)(v:D):∀(ps L:aa (α×D)),(ps.map (·.1)).Nodup->(a,v)∈ps->dN (lZ L ps) a=ae v
 |[],_,_,h=>by cases h
 |p::ps,L,hn,h=>by
  rw[bu,fE] at hn;show dN (lZ (Q9 L p.1 p.2) ps) a=_;rcases bP.mp h with rfl|h
  ·rw[vN _ ps _ hn.1,K5,av rfl]
  ·exact sY a v ps _ hn.2 h
theorem GF(h:KE ek)(e:dN L a=ae v):getD (.dct (dD ek L)) (ek a)=.ok v:=by
 have:getD (.dct (dD ek L)) (ek a)=(if keyOk (ek a) then ξ (d9 (dD ek L) (ek a)) else .bad):=by
  have:=h.ok a;generalize ek a=k at this ⊢;cases k<;>first|rfl|cases this
 rw[this,h.ok,av rfl,sX h,e];rfl
end
theorem aDi[d4 α][BEq α][LawfulBEq α](a b:α):(a==b)=ϒ (a=b):=by
 by_cases z:a=b
 ·rw[cb z,z,fI]
 ·rw[c8 z,dS];exact z
theorem gQ:KE δ:=⟨λa b=>by show(a==b)=_;exact aDi a b,λ_=>rfl,λ_ _=>rfl⟩
theorem Q0:KE ε:=⟨λa b=>by show(a==b)=_;exact aDi a b,λ_=>rfl,λ_ _=>rfl⟩
noncomputable abbrev En:=ah×ah
noncomputable def enD(e:En):D:=.tup [.int e.1,.int e.2]
theorem A_:KE enD:=⟨λa b=>by
 show((a.1==b.1)&&((a.2==b.2)&&af))=_;rw[Cf];by_cases z:a=b
 ·rw[cb z,z,fI,fI];rfl
 ·rw[c8 z,Bool.and_eq_false_iff,dS,dS];by_cases y:a.1=b.1
  ·exact .inr λq=>z (Prod.ext y q)
  ·exact .inl y,λ_=>rfl,λ_ _=>rfl⟩
theorem BJ(e:En):(enD e).pure=af:=rfl
theorem aKv(xs:aa Str):fJ [.tup (xs.map δ)]=.ok (.int (xs.length:ag)):=by
 rw[show fJ [.tup (xs.map δ)]=.ok (.int ((xs.map δ).length:ag)) from rfl,az]
theorem iQ(h:n<=10000):n<lim:=by rw[fQ];lia
theorem jM(h1:a ρ=.ok (.tup xs))(hp:ι xs=af)(h2:o9 t body xs ρ=r):G7 (cU a ai) t body ρ=r:=by
 have it:=fD h1;rw[μ,hp] at it;exact wI it h2
theorem aG0(f:α->D):∀{l m:aa D},l.Perm m->∀U:aa α,m=U.map f->∃V:aa α,V.Perm U/\l=V.map f:=by
 intro l m h;induction h with
 |nil=>intro U e;exact⟨U,.refl _,e⟩
 |cons x _ ih=>
  intro U e;cases U with
  |nil=>cases e
  |cons u U=>
   injection e with e1 e2
   obtain⟨V,p,e⟩:=ih U e2;exact⟨u::V,p.cons u,by rw[e,e1];rfl⟩
 |swap x y l=>
  intro U e
  match U,e with
  |u::v::U,e=>
   injection e with e1 e2
   injection e2 with e2 e3
   exact⟨v::u::U,.swap u v U,by rw[e1,e2,e3];rfl⟩
 |trans _ _ ih1 ih2=>
  intro U e;obtain⟨V,p,e⟩:=ih2 U e;obtain⟨W,q,e'⟩:=ih1 V e;exact⟨W,q.trans p,e'⟩
theorem K6(f:α->D)(k:ag)(hk:∀a,gR (f a)=k)(k0:(k !=0)=af)(hp:∀a,(f a).plain=af)(hq:∀a,(f a).gB aZ=af)(ho:∀a b,(o8 .lt (f a) (f b)).isSome=af)(U:aa α)(h64:U.length<64):∃V:aa α,V.Perm U/\gY [.lst (U.map f)]=.ok (.lst (V.map f)):=by
 obtain⟨V,p,e⟩:=aG0 f (oN (U.map f)) U rfl;refine⟨V,p,?_⟩;have c:cN (U.map f)=af:=by
  unfold cN;rw[bc];refine⟨cb (by rw[az];exact h64),jk.mpr λd hd=>?_⟩;obtain⟨t,ht,rfl⟩:=c6.mp hd;have hh:gR ((U.map f).headD .non)=k:=by
   cases U with
   |nil=>cases ht
   |cons u U=>exact hk u
  rw[hh,hk,hp,hq,k0,fI];refine jk.mpr λb hb=>?_
  obtain⟨u,_,rfl⟩:=c6.mp hb;exact ho t u
 show(if cN (U.map f) then τ (D.lst (uX (U.map f))) else .bad)=_;rw[c,av rfl,e]
theorem aDj(a b:En):(o8 .lt (enD a) (enD b)).isSome=af:=by
 show(if eqD (.int a.1) (.int b.1) then (if eqD (.int a.2) (.int b.2) then ae (lG.lt.nat 0 0) else ae (lG.lt.int a.2 b.2)) else ae (lG.lt.int a.1 b.1)).isSome=af;split
 ·split<;>rfl
 ·rfl
abbrev Ti:=En×En
def tiD(t:Ti):D:=.tup [enD t.1,enD t.2]
theorem m9(t:Ti):(tiD t).pure=af:=rfl
theorem aO4(a b:Ti):(o8 .lt (tiD a) (tiD b)).isSome=af:=by
 show(if eqD (enD a.1) (enD b.1) then (if eqD (enD a.2) (enD b.2) then ae (lG.lt.nat 0 0) else o8 .lt (enD a.2) (enD b.2)) else o8 .lt (enD a.1) (enD b.1)).isSome=af;split
 ·split
  ·rfl
  ·exact aDj _ _
 ·exact aDj _ _
noncomputable abbrev Pi:=ah×Str
noncomputable def piD(p:Pi):D:=.tup [.int p.1,.str p.2]
theorem aDk(t:Pi):(piD t).pure=af:=rfl
theorem aO5(a b:Pi):(o8 .lt (piD a) (piD b)).isSome=af:=by
 show(if eqD (.int a.1) (.int b.1) then (if eqD (.str a.2) (.str b.2) then ae (lG.lt.nat 0 0) else ae (lG.lt.str a.2 b.2)) else ae (lG.lt.int a.1 b.1)).isSome=af;split
 ·split<;>rfl
 ·rfl
theorem aK9(U:aa En)(h64:U.length<64):∃V:aa En,V.Perm U/\gY [.lst (U.map enD)]=.ok (.lst (V.map enD)):=K6 enD 3 (λ_=>rfl) rfl (λ_=>rfl) (λ_=>rfl) aDj U h64
theorem UV(U:aa Ti)(h64:U.length<64):∃V:aa Ti,V.Perm U/\gY [.lst (U.map tiD)]=.ok (.lst (V.map tiD)):=K6 tiD 5 (λ_=>rfl) rfl (λ_=>rfl) (λ_=>rfl) aO4 U h64
theorem aKa(U:aa Pi)(h64:U.length<64):∃V:aa Pi,V.Perm U/\gY [.lst (U.map piD)]=.ok (.lst (V.map piD)):=K6 piD 3 (λ_=>rfl) rfl (λ_=>rfl) (λ_=>rfl) aO5 U h64
theorem vO[d4 α](dB:β->D)(ps:β->aa (α×D))(hps:∀b,(ps b).length<=2)(R:aa (α×D)->aa D->Prop)
 (step:∀b L ρ,R L ρ->L.length<=5000->∃ρ1 ρ2,t (dB b) ρ=.ok ρ1/\body ρ1=.ok (.nx ρ2)/\R (lZ L (ps b)) ρ2) :
  ∀(bs:aa β)(L:aa (α×D))(ρ:aa D),R L ρ->L.length+2*bs.length<=5000->∃ρ',R (lZ L (bs.flatMap ps)) ρ'/\o9 t body (bs.map dB) ρ=.ok (.nx ρ')
 |[],L,ρ,h,_=>⟨ρ,h,rfl⟩
 |b::bs,L,ρ,h,hl=>by
  rw[aS] at hl;obtain⟨ρ1,ρ2,e1,e2,h2⟩:=step b L ρ h 0x1;have:=vM (ps b) L;have:=hps b;obtain⟨ρ',h3,e3⟩:=vO dB ps hps R step bs _ ρ2 h2 0x1;refine⟨ρ',?_,eO e1 e2 e3⟩;rw[D9];have:lZ L (ps b++bs.flatMap ps)=lZ (lZ L (ps b)) (bs.flatMap ps):=List.foldl_append ..;rw[this];exact h3
noncomputable def psM(M:aa Mk):aa (Str×D):=M.map λm=>(m.1,ε (m.2.2.length:ag))
noncomputable def psT(T:aa Tk):aa (Str×D):=T.map λt=>(t.1,ε ((t.2.2.2.length:ag)+1))
def stk(M:aa Mk)(T:aa Tk):aa (Str×D):=lZ (lZ [("copy",.int 2),("drop",.int 0)] (psM M)) (psT T)
theorem K7(f:α->β)(L:aa α):L.flatMap (λa=>[f a])=L.map f:=by
 induction L with
 |nil=>rfl
 |cons a L ih=>rw[D9,ih];rfl
theorem aG1(hM:M.length<=9)(hT:T.length<=3):bO 1 kO [pgD ks M T R]=.ok (.dct (dD δ (stk M T))):=by
 refine(cJ rfl).trans (call_v ?_);obtain⟨ρ1,⟨y2,y3,h1⟩,e1⟩:=vO (t:=tg1 2) (body:=RX 1 (b2 getD d8 bR) (aM fJ (aC (b2 getD d8 iT) aP))) mkD (λm=>[(m.1,ε (m.2.2.length:ag))]) (λ_=>cy rfl) (λL ρ=>∃x2 x3,ρ=[pgD ks M T R,.dct (dD δ L),x2,x3]) (λm L ρ z0 hl=>by
  obtain⟨x2,x3,h⟩:=z0;subst h;have p:=FN (i:=1) (ρ:=[pgD ks M T R,.dct (dD δ L),mkD m,x3]) (f:=b2 getD d8 bR) (g:=aM fJ (aC (b2 getD d8 iT) aP)) (kvs:=dD δ L) (k:=.str m.1) (d:=.int (m.2.2.length:ag)) (aQ (xs:=[.tup (m.2.2.map δ)]) (aB (aH (x:=mkD m) (y:=.int 2) rfl rfl rfl) rfl) (aKv _)) (aH (x:=mkD m) (y:=.int 0) rfl rfl rfl) rfl (by rw[GD];exact iQ 0x1) (oG gQ L m.1) rfl;rw[wZ gQ] at p;exact⟨_,_,rfl,p,_,_,rfl⟩) M [("copy",.int 2),("drop",.int 0)] [pgD ks M T R,.dct (dD δ [("copy",.int 2),("drop",.int 0)]),.uD,.uD] ⟨_,_,rfl⟩ (by show 2+_<=5000;lia)
 rw[K7] at h1;have l1:=vM (psM M) [("copy",.int 2),("drop",.int 0)];rw[psM,az] at l1;obtain⟨ρ2,⟨z2,z3,h2⟩,e2⟩:=vO (t:=tg1 3) (body:=RX 1 (b2 getD dG bR) (b2 (bG .add) (aM fJ (aC (b2 getD dG uY) aP)) cR)) tkD (λt=>[(t.1,ε ((t.2.2.2.length:ag)+1))]) (λ_=>cy rfl) (λL ρ=>∃x2 x3,ρ=[pgD ks M T R,.dct (dD δ L),x2,x3]) (λm L ρ z0 hl=>by
  obtain⟨x2,x3,h⟩:=z0;subst h;have p:=FN (i:=1) (ρ:=[pgD ks M T R,.dct (dD δ L),x2,tkD m]) (f:=b2 getD dG bR) (g:=b2 (bG .add) (aM fJ (aC (b2 getD dG uY) aP)) cR) (kvs:=dD δ L) (k:=.str m.1) (d:=.int ((m.2.2.2.length:ag)+1)) (aH (x:=.int (m.2.2.2.length:ag)) (y:=.int 1) (aQ (xs:=[.tup (m.2.2.2.map δ)]) (aB (aH (x:=tkD m) (y:=.int 3) rfl rfl rfl) rfl) (aKv _)) rfl (dH _ _)) (aH (x:=tkD m) (y:=.int 0) rfl rfl rfl) rfl (by rw[GD];exact iQ 0x1) (oG gQ L m.1) rfl;rw[wZ gQ] at p;exact⟨_,_,rfl,p,_,_,rfl⟩) T _ ρ1 ⟨_,_,h1⟩ (by have:([("copy",ε 2),("drop",ε 0)]:aa (Str×D)).length=2:=rfl;lia)
 rw[K7] at h2;refine aN (ρ':=[pgD ks M T R,.dct (dD δ [("copy",.int 2),("drop",.int 0)]),.uD,.uD]) (dY (i:=1) (d:=.dct (dD δ [("copy",.int 2),("drop",.int 0)])) (by unfold aJ3;with_unfolding_all rfl) rfl) ?_;refine aN (jM (xs:=M.map mkD) (aH (x:=pgD ks M T R) (y:=.int 1) rfl rfl rfl) (a_ mZ M) e1) ?_;subst h1;refine aN (jM (xs:=T.map tkD) (aH (x:=pgD ks M T R) (y:=.int 2) rfl rfl rfl) (a_ m7 T) e2) ?_;subst h2;rfl
noncomputable def hdM(m:Mk):Str×D:=(m.1,.tup [.str m.2.1,.tup (m.2.2.map δ)])
noncomputable def hdT(t:Tk):Str×D:=(t.1,.tup [.str t.2.1,.tup ((t.2.2.1::t.2.2.2).map δ)])
def hds(M:aa Mk)(T:aa Tk):aa (Str×D):=lZ (lZ [] (M.map hdM)) (T.map hdT)
theorem aG2(hM:M.length<=9)(hT:T.length<=3)(hTp:∀t∈T,t.2.2.2.length<=2):bO 1 lY [pgD ks M T R]=.ok (.dct (dD δ (hds M T))):=by
 refine(cJ rfl).trans (call_v ?_);obtain⟨ρ1,⟨y2,y3,y4,y5,y6,h1⟩,e1⟩:=vO (t:=tgN [2,3,4]) (body:=RX 1 d8 (cT (aC dG (aC iR aP)))) mkD (λm=>[hdM m]) (λ_=>cy rfl) (λL ρ=>∃x2 x3 x4 x5 x6,ρ=[pgD ks M T R,.dct (dD δ L),x2,x3,x4,x5,x6]) (λm L ρ z0 hl=>by
  obtain⟨x2,x3,x4,x5,x6,h⟩:=z0;subst h;have p:=FN (i:=1) (ρ:=[pgD ks M T R,.dct (dD δ L),.str m.1,.str m.2.1,.tup (m.2.2.map δ),x5,x6]) (f:=fM 2) (g:=cT (aC dG (aC iR aP))) (kvs:=dD δ L) (k:=.str m.1) (d:=.tup [.str m.2.1,.tup (m.2.2.map δ)]) (bI (xs:=[.str m.2.1,.tup (m.2.2.map δ)]) (aB rfl (aB rfl rfl)) jL) rfl rfl (by rw[GD];exact iQ 0x1) (oG gQ L m.1) (by show((ν (m.2.2.map δ)).pure&&af)=af;rw[μ,bH];rfl);rw[wZ gQ] at p;exact⟨_,_,rfl,p,_,_,_,_,_,rfl⟩) M [] [pgD ks M T R,.dct [],.uD,.uD,.uD,.uD,.uD] ⟨_,_,_,_,_,rfl⟩ (by show 0+_<=5000;lia)
 rw[K7] at h1;have l1:=vM (M.map hdM) [];rw[az,dQ] at l1;have hU:∀(U:aa Tk),(∀t∈U,t.2.2.2.length<=2)->∀(L:aa (Str×D))(ρ:aa D),(∃x2 x3 x4 x5 x6,ρ=[pgD ks M T R,.dct (dD δ L),x2,x3,x4,x5,x6])->L.length+U.length<=5000->∃ρ',(∃x2 x3 x4 x5 x6,ρ'=[pgD ks M T R,.dct (dD δ (lZ L (U.map hdT))),x2,x3,x4,x5,x6])/\o9 (tgN [2,3,5,6]) (RX 1 d8 (cT (aC dG (aC (b2 vQ (cT (aC lJ aP)) nO) aP)))) (U.map tkD) ρ=.ok (.nx ρ'):=by
  intro U;induction U with
  |nil=>intro _ L ρ h _;exact⟨ρ,h,rfl⟩
  |cons m U ih=>
   rintro hu L ρ ⟨x2,x3,x4,x5,x6,h⟩ hl;subst h;rw[aS] at hl;have h2:=hu m (bo ..);have p:=FN (i:=1) (ρ:=[pgD ks M T R,.dct (dD δ L),.str m.1,.str m.2.1,x4,.str m.2.2.1,.tup (m.2.2.2.map δ)]) (f:=fM 2) (g:=cT (aC dG (aC (b2 vQ (cT (aC lJ aP)) nO) aP))) (kvs:=dD δ L) (k:=.str m.1) (d:=.tup [.str m.2.1,.tup ((m.2.2.1::m.2.2.2).map δ)]) (bI (xs:=[.str m.2.1,.tup ((m.2.2.1::m.2.2.2).map δ)]) (aB rfl (aB (aH (x:=.tup [.str m.2.2.1]) (y:=.tup (m.2.2.2.map δ)) (bI (xs:=[.str m.2.2.1]) (aB rfl rfl) (bV (cy rfl))) rfl (h_ _ _ (by rw[az];show 1+_<=1000;lia))) rfl)) jL) rfl rfl (by rw[GD];exact iQ 0x1) (oG gQ L m.1) (by show((ν ((m.2.2.1::m.2.2.2).map δ)).pure&&af)=af;rw[μ,bH];rfl);rw[wZ gQ] at p;have pl:=yC m.1 (.tup [.str m.2.1,.tup ((m.2.2.1::m.2.2.2).map δ)]) L;obtain⟨ρ',i1,i2⟩:=ih (λt ht=>hu t (bw _ ht)) (Q9 L m.1 (.tup [.str m.2.1,.tup ((m.2.2.1::m.2.2.2).map δ)])) [pgD ks M T R,.dct (dD δ (Q9 L m.1 (.tup [.str m.2.1,.tup ((m.2.2.1::m.2.2.2).map δ)]))),.str m.1,.str m.2.1,x4,.str m.2.2.1,.tup (m.2.2.2.map δ)] ⟨_,_,_,_,_,rfl⟩ 0x1;exact⟨ρ',i1,eO rfl p i2⟩
 obtain⟨ρ2,⟨z2,z3,z4,z5,z6,h2⟩,e2⟩:=hU T hTp _ ρ1 ⟨_,_,_,_,_,h1⟩ 0x1;refine aN (ρ':=[pgD ks M T R,.dct [],.uD,.uD,.uD,.uD,.uD]) (dY (i:=1) (d:=.dct []) rfl rfl) ?_;refine aN (jM (xs:=M.map mkD) (aH (x:=pgD ks M T R) (y:=.int 1) rfl rfl rfl) (a_ mZ M) e1) ?_;subst h1;refine aN (jM (xs:=T.map tkD) (aH (x:=pgD ks M T R) (y:=.int 2) rfl rfl rfl) (a_ m7 T) e2) ?_;subst h2;rfl
def nm(ns:aa ah)(b:ah)(k:ag):ah:=(1+drw ns (b+(k:ah)) % 1000000000)*500+(k:ah)
theorem xF(ns:aa ah)(b:ah)(k:ag):0<nm ns b k:=by
 unfold nm;have:=dq (drw ns (b+(k:ah))) (show(1000000000:ah)≠0 by decide);lia
theorem X3{ns:aa ah}{b:ah}{i j:ag}(hi:i<500)(hj:j<500)(h:nm ns b i=nm ns b j):i=j:=by
 unfold nm at h;lia
def hk(ns:aa ah)(b:ah)(k g a:ag):aa En:=((bz (a+1)).filter λ(q:ag)=>!(((0:ah)+(q:ah))==(g:ah))).map λ(q:ag)=>(nm ns b k,(0:ah)+(q:ah))
theorem aKb(g:ag):∀a:ag,g<=a->((bz (a+1)).filter λ(q:ag)=>!(((0:ah)+(q:ah))==(g:ah))).length=a:=by
 intro a h;have h1:=List.length_eq_countP_add_countP (λ(q:ag)=>!(((0:ah)+(q:ah))==(g:ah))) (l:=bz (a+1));rw[f_,Ea] at h1;have h2:List.countP (λ(q:ag)=>decide ¬(!(((0:ah)+(q:ah))==(g:ah)))=af) (bz (a+1))=Eb g (bz (a+1)):=by
  unfold Eb;refine List.countP_congr λx _=>?_
  by_cases z:x=g
  ·subst z;simp
  ·have:¬((0:ah)+(x:ah)=(g:ah)):=by lia
   simp[z];lia
 rw[h2,AX.count,av (hG.mpr 0x1)] at h1;lia
theorem X4(ns:aa ah)(b:ah)(k:ag){g a:ag}(h:g<=a):(hk ns b k g a).length=a:=by
 unfold hk;rw[az];exact aKb g a h
def la(ns:aa ah)(b:ah)(ws:aa Str)(pg:D)(S:aa (Str×D))(Ts:aa Str)(P:aa Pi)(U:aa Ti)(W:aa En)(x9 x10 x11 x12:D):aa D:=[.scr (ns.map ε),.int b,.tup (ws.map δ),pg,.dct (dD δ S),.lst (Ts.map δ),.lst (P.map piD),.lst (U.map tiD),.lst (W.map enD),x9,x10,x11,x12]
theorem ne_int(a b:ah):cV .ne (.int a) (.int b)=.ok (.bl (!(a==b))):=rfl
theorem wC(n:ag):∀L:aa Str,ο n (L.map δ)=af
 |[]=>by rw[gx,ο]
 |x::L=>by rw[bu,ο,wC n L];cases n<;>rfl
theorem aKc(w:Str)(L:aa Str):inX (.str w) (.lst (L.map δ))=.ok (.bl (ϒ (w∈L))):=by
 show(if (δ w).gB aZ&&ο aZ (L.map δ) then τ (υ ((L.map δ).any λy=>eqD y (.str w))) else .bad)=_;rw[wC,show(δ w).gB aZ=af from rfl,gl,av rfl]
 congr 2
 rw[List.any_map];by_cases z:w∈L
 ·rw[cb z,B5];exact⟨w,z,fI w⟩
 ·rw[c8 z,List.any_eq_false];intro x hx y;exact z (eq_of_beq (show(x==w)=af from y)▸hx)
theorem aG3{n g:ah}(hn:0<n){V:aa En}(eV:gY [.lst ([(n,g),((0:ah),(0:ah))].map enD)]=.ok (.lst (V.map enD)))(h:V=[(n,g),(0,0)]):cg:=by
 have e:(if cN ([(n,g),((0:ah),(0:ah))].map enD) then τ (D.lst (uX ([(n,g),((0:ah),(0:ah))].map enD))) else .bad)=τ (.lst (V.map enD)):=eV;split at e
 ·have e2:uX ([(n,g),((0:ah),(0:ah))].map enD)=V.map enD:=by
   have:=Res.ok.inj e;exact D.lst.inj this
  have s:=wG ([(n,g),((0:ah),(0:ah))].map enD);rw[e2,h] at s;have l:leE (enD (n,g)) (enD (0,0))=af:=(List.pairwise_cons.mp s).1 _ (bo ..);have o:o8 .lt (enD (0,0)) (enD (n,g))=ae af:=by
   show(if eqD (.int 0) (.int n) then (if eqD (.int 0) (.int g) then ae (lG.lt.nat 0 0) else ae (lG.lt.int 0 g)) else ae (lG.lt.int 0 n))=_;rw[show eqD (.int 0) (.int n)=((0:ah)==n) from rfl,dS.mpr (show ¬(0:ah)=n by lia),ax 0x4];show ae (ϒ ((0:ah)<n))=_;rw[cb hn]
  have e1:=R0 (enD (0,0)) (enD (n,g)) _ rfl rfl o;unfold leE at l;rw[<-e1] at l;cases l
 ·cases e
theorem aG4{ns:aa ah}(hn:ns.length<=63){ws:aa Str}{pg:D}{S:aa (Str×D)}{Ts:aa Str}{P:aa Pi}{U:aa Ti}{W:aa En}{e:En}{b:ah}{k a g:ag}{w:Str}{x11 x12:D}(hS:dN S w=ae (.int (a:ag)))(ha:a<=3)(hw:ϒ (w∈Ts)=(g==1))(hg:g<=1)(hga:g<=a)(hP:P.length<=1000)(hU:U.length<=1000)(hW:W.length<=3000) :
  ∃(t:Ti)(y11 y12:D),(t=(e,(nm ns b k,(g:ah)))\/(t=((nm ns b k,(g:ah)),e)/\e≠(0,0)))/\aJp (la ns b ws pg S Ts P U (e::W) (.int (k:ag)) (.str w) x11 x12)=.ok (.nx (la ns b ws pg S Ts (P++[(nm ns b k,w)]) (U++[t]) (hk ns b k g a++W) (.int (k:ag)) (.str w) y11 y12)):=by
 obtain⟨V,pV,eV⟩:=aK9 [(nm ns b k,(g:ah)),e] (show 2<64 by decide);obtain⟨t,ht,hV⟩:∃t:Ti,(t=(e,(nm ns b k,(g:ah)))\/t=((nm ns b k,(g:ah)),e))/\V=[t.1,t.2]:=by
  have hl:=pV.length_eq
  match V,hl with
  |[x,y],_=>
   have h1:=pV.mem_iff (a:=(nm ns b k,(g:ah)));have h2:=pV.mem_iff (a:=e);have h3:=pV.mem_iff (a:=x);have h4:=pV.mem_iff (a:=y);simp only[bP,nB,or_false,true_or,or_true,iff_true,true_iff] at h1 h2 h3 h4;refine⟨(x,y),?_,rfl⟩;rcases h3 with h3|h3<;>rcases h4 with h4|h4
   ·subst h3 h4;rcases h2 with h2|h2<;>(subst h2;exact .inl rfl)
   ·subst h3 h4;exact .inr rfl
   ·subst h3 h4;exact .inl rfl
   ·subst h3 h4;rcases h1 with h1|h1<;>(rw[<-h1];exact .inl rfl)
 have ht:t=(e,(nm ns b k,(g:ah)))\/(t=((nm ns b k,(g:ah)),e)/\e≠(0,0)):=ht.imp id λz=>⟨z,λy=>by
  rw[y] at eV;refine aG3 (xF ns b k) eV ?_;rw[hV,z,y]⟩
 refine⟨t,.int (nm ns b k),.int (g:ag),ht,?_⟩;have d1:=dH b (k:ag);have pw:=N_ 9 0x4;have m1:=cG (drw ns (b+(k:ah))) (10 ^ 9) 0x4;have a1:=dH 1 (drw ns (b+(k:ah)) % 1000000000);have mu1:o6 (.int (1+drw ns (b+(k:ah)) % 1000000000)) (.int 500)=.ok (.int ((1+drw ns (b+(k:ah)) % 1000000000)*500)):=(aNw _ _).trans (aBx _ _ 0x4);have a2:=dH ((1+drw ns (b+(k:ah)) % 1000000000)*500) (k:ag);refine aN (ρ':=la ns b ws pg S Ts P U (e::W) (.int (k:ag)) (.str w) (.int (nm ns b k)) x12) (bQ (i:=11) (aH (x:=.int ((1+drw ns (b+(k:ah)) % 1000000000)*500)) (y:=.int (k:ag)) (aH (x:=.int (1+drw ns (b+(k:ah)) % 1000000000)) (y:=.int 500) (aH (x:=.int 1) (y:=.int (drw ns (b+(k:ah)) % 1000000000)) rfl (aH (x:=.int (drw ns (b+(k:ah)))) (y:=.int (10 ^ 9)) (gW hn rfl (aH (x:=.int b) (y:=.int (k:ag)) rfl rfl d1)) (aH (x:=.int 10) (y:=.int (9:ag)) rfl rfl pw) m1) a1) rfl mu1) rfl a2)) ?_;have hin:inX (.str w) (.lst (Ts.map δ))=.ok (.bl (g==1)):=by rw[aKc,hw]
 have hib:aOx [.bl (g==1)]=.ok (.int (g:ag)):=by
  match g,hg with
  |0,_=>rfl
  |1,_=>rfl
 refine aN (ρ':=la ns b ws pg S Ts P U (e::W) (.int (k:ag)) (.str w) (.int (nm ns b k)) (.int (g:ag))) (bQ (i:=12) (aQ (xs:=[.bl (g==1)]) (aB (aH (x:=.str w) (y:=.lst (Ts.map δ)) rfl rfl hin) rfl) hib)) ?_;refine aN (ρ':=la ns b ws pg S Ts P (U++[t]) W (.int (k:ag)) (.str w) (.int (nm ns b k)) (.int (g:ag))) ?_ ?_
 ·have q1:aJ0 (wK (cT (aC iG (aC lK aP))) (O7 (JN 8) (aGy))) (la ns b ws pg S Ts P U (e::W) (.int (k:ag)) (.str w) (.int (nm ns b k)) (.int (g:ag)))=.ok (.lst ([(nm ns b k,(g:ah)),e].map enD),la ns b ws pg S Ts P U W (.int (k:ag)) (.str w) (.int (nm ns b k)) (.int (g:ag))):=by
   have q0:cT (aC iG (aC lK aP)) (la ns b ws pg S Ts P U (e::W) (.int (k:ag)) (.str w) (.int (nm ns b k)) (.int (g:ag)))=.ok (enD (nm ns b k,(g:ah))):=bI (xs:=[.int (nm ns b k),.int (g:ag)]) (aB rfl (aB rfl rfl)) jL;have q2:O7 (JN 8) (aGy) (la ns b ws pg S Ts P U (e::W) (.int (k:ag)) (.str w) (.int (nm ns b k)) (.int (g:ag)))=.ok ([enD e],la ns b ws pg S Ts P U W (.int (k:ag)) (.str w) (.int (nm ns b k)) (.int (g:ag))):=rfl;have q3:wK (cT (aC iG (aC lK aP))) (O7 (JN 8) (aGy)) (la ns b ws pg S Ts P U (e::W) (.int (k:ag)) (.str w) (.int (nm ns b k)) (.int (g:ag)))=.ok ([(nm ns b k,(g:ah)),e].map enD,la ns b ws pg S Ts P U W (.int (k:ag)) (.str w) (.int (nm ns b k)) (.int (g:ag))):=by
    unfold wK;rw[q0,θ,q2];rfl
   unfold aJ0;rw[q3,θ];have l2:ϒ (([(nm ns b k,(g:ah)),e].map enD).length<=lim)=af:=cb jL;rw[l2,a_ BJ];rfl
  have q2:xB1 gY af (aJ0 (wK (cT (aC iG (aC lK aP))) (O7 (JN 8) (aGy)))) (la ns b ws pg S Ts P U (e::W) (.int (k:ag)) (.str w) (.int (nm ns b k)) (.int (g:ag)))=.ok (.lst [enD t.1,enD t.2],la ns b ws pg S Ts P U W (.int (k:ag)) (.str w) (.int (nm ns b k)) (.int (g:ag))):=by
   unfold xB1;rw[q1,θ];show(gY [.lst ([(nm ns b k,(g:ah)),e].map enD)]).bind _=_;rw[eV,hV];rfl
  have q3:xB1 fO ai (xB1 gY af (aJ0 (wK (cT (aC iG (aC lK aP))) (O7 (JN 8) (aGy))))) (la ns b ws pg S Ts P U (e::W) (.int (k:ag)) (.str w) (.int (nm ns b k)) (.int (g:ag)))=.ok (tiD t,la ns b ws pg S Ts P U W (.int (k:ag)) (.str w) (.int (nm ns b k)) (.int (g:ag))):=by
   show(xB1 gY af (aJ0 (wK (cT (aC iG (aC lK aP))) (O7 (JN 8) (aGy)))) (la ns b ws pg S Ts P U (e::W) (.int (k:ag)) (.str w) (.int (nm ns b k)) (.int (g:ag)))).bind _=_;rw[q2];rfl
  unfold aJ9;rw[q3,θ];show(if ϒ ((U.map tiD).length<lim)&&af then τ (Fl.nx ((la ns b ws pg S Ts P U W (.int (k:ag)) (.str w) (.int (nm ns b k)) (.int (g:ag))).set 7 (.lst (U.map tiD++[tiD t])))) else .bad)=_;rw[az,cb (iQ (show U.length<=10000 by lia)),gl,av rfl];unfold la;rw[bE];rfl
 refine aN (ρ':=la ns b ws pg S Ts (P++[(nm ns b k,w)]) (U++[t]) W (.int (k:ag)) (.str w) (.int (nm ns b k)) (.int (g:ag))) ?_ ?_
 ·have ap:=lW (i:=6) (ρ:=la ns b ws pg S Ts P (U++[t]) W (.int (k:ag)) (.str w) (.int (nm ns b k)) (.int (g:ag))) (f:=cT (aC iG (aC mG aP))) (xs:=P.map piD) (d:=piD (nm ns b k,w)) (bI (xs:=[.int (nm ns b k),.str w]) (aB rfl (aB rfl rfl)) jL) rfl (by rw[az];exact iQ 0x1) rfl;refine ap.trans ?_;unfold la;rw[show(P++[(nm ns b k,w)]).map piD=P.map piD++[piD (nm ns b k,w)] from bE ..];rfl
 have gs:getD (.dct (dD δ S)) (.str w)=.ok (.int (a:ag)):=GF gQ hS;have c:gD (iH 13 lM (bTB (b2 (cV .ne) yO lK)) (cT (aC iG (aC yO aP))) ai (la ns b ws pg S Ts (P++[(nm ns b k,w)]) (U++[t]) W (.int (k:ag)) (.str w) (.int (nm ns b k)) (.int (g:ag)))) [] ((bz ((a:ah)+1).toNat).map λ(k:ag)=>ε (0+(k:ah)))=.ok ((hk ns b k g a).map enD):=by
  have:=fC (iH 13 lM (bTB (b2 (cV .ne) yO lK)) (cT (aC iG (aC yO aP))) ai (la ns b ws pg S Ts (P++[(nm ns b k,w)]) (U++[t]) W (.int (k:ag)) (.str w) (.int (nm ns b k)) (.int (g:ag)))) (λ(q:ag)=>ε (0+(q:ah))) (λq=>!(((0:ah)+(q:ah))==(g:ah))) (λq=>enD (nm ns b k,0+(q:ah))) (λacc q=>gK (y:=enD (nm ns b k,0+(q:ah))) rfl (dZ (aH (x:=.int (0+(q:ah))) (y:=.int (g:ag)) rfl rfl (ne_int _ _))) (λ_=>⟨bI (xs:=[.int (nm ns b k),.int (0+(q:ah))]) (aB rfl (aB rfl rfl)) jL,rfl⟩)) (bz ((a:ah)+1).toNat) [];rw[this,dy,show((a:ah)+1).toNat=a+1 by lia];unfold hk;rw[c5];rfl
 have hl:(hk ns b k g a).length=a:=X4 ns b k hga;have e1:=dY (i:=8) (ρ:=la ns b ws pg S Ts (P++[(nm ns b k,w)]) (U++[t]) W (.int (k:ag)) (.str w) (.int (nm ns b k)) (.int (g:ag))) (d:=.lst ((hk ns b k g a).map enD++W.map enD)) (aH (f:=bG .add) (x:=.lst ((hk ns b k g a).map enD)) (y:=.lst (W.map enD)) (gJ (n:=13) (FJ (f:=aC (b2 (bG .add) (b2 getD iR mG) cR) aP) (n:=(a:ah)+1) (aB (aH (x:=.int (a:ag)) (y:=.int 1) (aH (x:=.dct (dD δ S)) (y:=.str w) rfl rfl gs) rfl (dH _ _)) rfl) 0x1 0x1) (by rw[az,f_,fQ];lia) c) (b:=fM 8) rfl (nW _ _ (by simp only[az];exact ii (iQ 0x1)) (a_ BJ _) (a_ BJ _))) (by rw[<-bE];exact a_ BJ _);rw[e1,<-bE];rfl
noncomputable abbrev Wa:=Str×ag×ag
structure Wk(S:aa (Str×D))(Ts:aa Str)(w:Wa):Prop where
 st:dN S w.1=ae (.int (w.2.1:ag))
 le:w.2.1<=3
 tk:ϒ (w.1∈Ts)=(w.2.2==1)
 g1:w.2.2<=1
 ga:w.2.2<=w.2.1
inductive Ld(Q:Wa->Prop):ag->aa Wa->Prop
 |nil:Ld Q 0 []
 |cons {w:Wa} {n:ag} {X:aa Wa}:Q w->Ld Q (w.2.1+n) X->Ld Q (n+1) (w::X)
def pr(ns:aa ah)(b:ah):ag->aa Wa->aa En->aa (En×En)
 |k,w::X,e::W=>(e,(nm ns b k,(w.2.2:ah)))::pr ns b (k+1) X (hk ns b k w.2.2 w.2.1++W)
 |_,_,_=>[]
def pcs(ns:aa ah)(b:ah):ag->aa Wa->aa Pi
 |_,[]=>[]
 |k,w::X=>(nm ns b k,w.1)::pcs ns b (k+1) X
inductive Sw:aa Ti->aa Ti->Prop
 |nil:Sw [] []
 |cons {t p:Ti} {U V:aa Ti}:(t=p\/(t=(p.2,p.1)/\p.1≠(0,0)))->Sw U V->Sw (t::U) (p::V)
theorem X5{ns:aa ah}(hn:ns.length<=63){b:ah}{wa:aa Str}{pg:D}{S:aa (Str×D)}{Ts:aa Str}:∀(X:aa Wa)(n k:ag)(P:aa Pi)(U:aa Ti)(W:aa En)(x9 x10 x11 x12:D),Ld (Wk S Ts) n X->n=W.length->P.length+X.length<=500->U.length+X.length<=500->W.length+3*X.length<=3000->
  ∃(V:aa Ti)(y9 y10 y11 y12:D),Sw V (pr ns b k X W)/\o9 (tgN [9,10]) aJp (((X.map (·.1)).zipIdx k).map λp=>.tup [.int (p.2:ag),.str p.1]) (la ns b wa pg S Ts P U W x9 x10 x11 x12)=.ok (.nx (la ns b wa pg S Ts (P++pcs ns b k X) (U++V) [] y9 y10 y11 y12))
 |[],n,k,P,U,W,x9,x10,x11,x12,hd,hl,_,_,_=>by
  cases hd;have:W=[]:=xu.mp hl.symm;subst this;exact⟨[],x9,x10,x11,x12,.nil,by rw[pcs,eD,eD];rfl⟩
 |w::X,n,k,P,U,W,x9,x10,x11,x12,hd,hl,h1,h2,h3=>by
  cases hd with
  |@cons _ n' _ hw hd=>
   rw[aS] at h1 h2 h3;cases W with
   |nil=>cases hl
   |cons e W=>
    rw[aS] at h3 hl;have:=hw.le;obtain⟨t,y11,y12,ht,es⟩:=aG4 hn (b:=b) (ws:=wa) (pg:=pg) (P:=P) (U:=U) (W:=W) (e:=e) (k:=k) (x11:=x11) (x12:=x12) hw.st hw.le hw.tk hw.g1 hw.ga 0x1 0x1 0x1;have hkl:=X4 ns b k hw.ga;obtain⟨V,z9,z10,z11,z12,hV,eV⟩:=X5 hn (b:=b) (wa:=wa) (pg:=pg) X (w.2.1+n') (k+1) (P++[(nm ns b k,w.1)]) (U++[t]) (hk ns b k w.2.2 w.2.1++W) (.int (k:ag)) (.str w.1) y11 y12 hd (by rw[bp,hkl];lia) (by rw[bp];show P.length+1+_<=_;lia) (by rw[bp];show U.length+1+_<=_;lia) (by rw[bp,hkl];lia);refine⟨t::V,z9,z10,z11,z12,?_,?_⟩
    ·rw[pr];exact .cons ht hV
    ·rw[bu,Aj,bu,pcs,show P++(nm ns b k,w.1)::pcs ns b (k+1) X=P++[(nm ns b k,w.1)]++pcs ns b (k+1) X by simp,show U++t::V=U++[t]++V by simp];exact eO (ρ1:=la ns b wa pg S Ts P U (e::W) (.int (k:ag)) (.str w.1) x11 x12) rfl es eV
theorem names_nodup(hn:ns.length<=63)(hm3:Ω<=3)(hM:MOk ns Ω Ω.toNat M):(M.map (·.1)).Nodup:=by
 obtain⟨ks,k1,k2,k3⟩:=hM.names;rw[k1];unfold AY;rw[we];refine k2.imp_of_mem λ{a b} ha hb hab z=>?_
 have ha:=k3 a ha;have hb:=k3 b hb;have:=KZ hn 0x1 0x1 0x1 0x1 z;lia
noncomputable def tn(T:aa Tk):aa Str:=T.map (·.1)
theorem aG5{T:aa Tk}(hn:ns.length<=63)(hl:T.length<=3)(h:T.map (·.1)=(bz T.length).map (λ(k:ag)=>wrd ns (17+(k:ah)))):(tn T).Nodup:=by
 unfold tn;rw[h];unfold AY;rw[we];refine(AX (n:=T.length)).imp_of_mem λ{a b} ha hb hab z=>hab ?_
 have ha:=hG.mp ha;have hb:=hG.mp hb;have:=KZ hn 0x1 0x1 0x1 0x1 z;lia
theorem Q3{T:aa Tk}(hn:ns.length<=63)(hm3:Ω<=3)(hM:MOk ns Ω Ω.toNat M)(hT:∀t∈T,lB ns Ω t){m:Mk}(hm:m∈M):m.1∉tn T:=λz=>by
 obtain⟨t,ht,e⟩:=c6.mp z;obtain⟨k,q1,q2,q3⟩:=(hT t ht).1;obtain⟨ks,k1,k2,k3⟩:=hM.names;have:m.1∈ks.map (wrd ns):=by rw[<-k1];exact c6.mpr ⟨m,hm,rfl⟩
 obtain⟨j,hj,ej⟩:=c6.mp this;have:=k3 j hj;have:=KZ hn (i:=j) (j:=k) 0x1 0x1 0x1 0x1 (by rw[ej,<-q3];exact e.symm);lia
structure Pg(ns:aa ah)(Ω:ah)(M:aa Mk)(T:aa Tk):Prop where
 hn:ns.length<=63
 hm:0<Ω
 hm3:Ω<=3
 hM:MOk ns Ω Ω.toNat M
 hT:∀t∈T,lB ns Ω t
 hTl:T.length<=3
 hTn:T.map (·.1)=(bz T.length).map (λ(k:ag)=>wrd ns (17+(k:ah)))
noncomputable def mw(m:Mk):Wa:=(m.1,m.2.2.length,0)
noncomputable def tw(t:Tk):Wa:=(t.1,t.2.2.2.length+1,1)
def sds(M:aa Mk):aa (Str×D):=lZ [] (psM M)
structure Fx(M:aa Mk)(T:aa Tk)(m:Mk):Prop where
 wk:Wk (stk M T) (tn T) (mw m)
 hds:dN (hds M T) m.1=ae (.tup [.str m.2.1,.tup (m.2.2.map δ)])
 sid:dN (sds M) m.1=ae (.int (m.2.2.length:ag))
 len:m.2.2.length<=3
theorem fx(p:Pg ns Ω M T){m:Mk}(hm:m∈M):Fx M T m:=by
 have nd:=names_nodup p.hn p.hm3 p.hM;have nt:=Q3 p.hn p.hm3 p.hM p.hT hm;have n1:((psM M).map (·.1)).Nodup:=by unfold psM;rw[c5];exact nd
 have n2:((M.map hdM).map (·.1)).Nodup:=by rw[c5];exact nd
 have t1:m.1∉(psT T).map (·.1):=by unfold psT;rw[c5];exact nt
 have t2:m.1∉(T.map hdT).map (·.1):=by rw[c5];exact nt
 have i1:(m.1,ε (m.2.2.length:ag))∈psM M:=c6.mpr ⟨m,hm,rfl⟩;have i2:(m.1,ν [.str m.2.1,.tup (m.2.2.map δ)])∈M.map hdM:=c6.mpr ⟨m,hm,rfl⟩;refine⟨⟨?_,(p.hM.part m hm).2.1,c8 nt,cq _,cq _⟩,?_,sY _ _ _ _ n1 i1,(p.hM.part m hm).2.1⟩
 ·unfold Lk66.stk;rw[vN _ _ _ (show(mw m).1∉_ from t1)];exact sY _ _ _ _ n1 i1
 ·unfold Lk66.hds;rw[vN _ _ _ t2];exact sY _ _ _ _ n2 i2
theorem tx(p:Pg ns Ω M T){t:Tk}(ht:t∈T):Wk (stk M T) (tn T) (tw t)/\dN (sds M) t.1=aj:=by
 have nd:=aG5 p.hn p.hTl p.hTn;have n1:((psT T).map (·.1)).Nodup:=by unfold psT;rw[c5];exact nd
 have i1:(t.1,ε ((t.2.2.2.length:ag)+1))∈psT T:=c6.mpr ⟨t,ht,rfl⟩;refine⟨⟨?_,by have:=(p.hT t ht).2.2.2.1;show t.2.2.2.length+1<=3;lia,cb (c6.mpr ⟨t,ht,rfl⟩),ba _,Nat.le_add_left _ _⟩,?_⟩
 ·unfold Lk66.stk;exact sY _ _ _ _ n1 i1
 ·unfold sds;rw[vN _ _ _ (λz=>?_)]
  ·rfl
  ·unfold psM at z;rw[c5] at z;obtain⟨m,hm,e⟩:=c6.mp z;exact Q3 p.hn p.hm3 p.hM p.hT hm (c6.mpr ⟨t,ht,e.symm⟩)
theorem aQw(hQ:∀m∈M,Q (mw m)):∀{st ws:aa Str},Dv M st ws->∃Y:aa Mk,ws=Y.map (·.1)/\(∀m∈Y,m∈M)/\Ld Q st.length (Y.map mw):=by
 intro st ws h;induction h with
 |nil=>exact⟨[],rfl,λ_ h=>(by cases h),.nil⟩
 |@cons m st ws hm _ ih=>
  obtain⟨Y,h1,h2,h3⟩:=ih;refine⟨m::Y,by rw[h1];rfl,λx hx=>?_,.cons (hQ m hm) ?_⟩
  ·rcases bP.mp hx with rfl|hx
   ·exact hm
   ·exact h2 x hx
  ·rw[bp] at h3;exact h3
theorem aO6{b:ah}{Q:Wa->Prop}(hQ:∀w,Q w->w.2.2<=w.2.1):∀(X:aa Wa)(n k:ag)(W:aa En),Ld Q n X->n=W.length->(pr ns b k X W).length=X.length
 |[],n,k,W,hd,hl=>by cases W<;>rfl
 |w::X,n,k,W,hd,hl=>by
  cases hd with
  |@cons _ n' _ hw hd=>
   cases W with
   |nil=>cases hl
   |cons e W=>
    rw[aS] at hl;rw[pr,aS,aS,aO6 hQ X (w.2.1+n') (k+1) _ hd (by rw[bp,X4 _ _ _ (hQ w hw)];lia)]
theorem aO7{U V:aa Ti}(h:Sw U V):U.length=V.length:=by
 induction h with
 |nil=>rfl
 |cons _ _ ih=>rw[aS,aS,ih]
theorem UW(ns:aa ah)(b:ah):∀(X:aa Wa)(k:ag),(pcs ns b k X).length=X.length
 |[],_=>rfl
 |w::X,k=>by rw[pcs,aS,aS,UW ns b X]
def ntR(P:aa Pi)(V:aa Ti)(r:ah):D:=.tup [.tup (P.map piD),.tup (V.map tiD),.int r]
def ntD(P:aa Pi)(V:aa Ti):D:=ntR P V 0
theorem U0(P:aa Pi)(V:aa Ti)(r:ah):(ntR P V r).pure=af:=by
 show((ν (P.map piD)).pure&&((ν (V.map tiD)).pure&&af))=af;rw[μ,μ,a_ aDk,a_ m9];rfl
structure Lay(ns:aa ah)(b:ah)(X:aa Wa)(P:aa Pi)(V:aa Ti):Prop where
 pP:P.Perm (pcs ns b 0 X)
 sw:∃W,V.Perm W/\Sw W (pr ns b 0 X [(0,0)])
theorem BK{b:ah}{X:aa Wa}{ws:aa Str}(hws:X.map (·.1)=ws)(p:Pg ns Ω M T)(hd:Ld (Wk (stk M T) (tn T)) 1 X)(hl:X.length<64) :
  ∃(P:aa Pi)(V:aa Ti),Lay ns b X P V/\P.length=X.length/\V.length=X.length/\bO 4 d7 [.scr (ns.map ε),.int b,.tup (ws.map δ),pgD ks M T R]=.ok (ntD P V):=by
 have ml:=p.hM.len;have hm3:=p.hm3;obtain⟨W,y9,y10,y11,y12,hW,e⟩:=X5 p.hn (b:=b) (wa:=ws) (pg:=pgD ks M T R) (Ts:=tn T) X 1 0 [] [] [(0,0)] .uD .uD .uD .uD hd rfl (by show 0+_<=500;lia) (by show 0+_<=500;lia) (by show 1+_<=3000;lia);rw[dy,dy,hws] at e;have wl:W.length=X.length:=by rw[aO7 hW];exact aO6 (λw hw=>hw.ga) X 1 0 _ hd rfl
 obtain⟨P,pP,eP⟩:=aKa (pcs ns b 0 X) (by rw[UW];exact hl);obtain⟨V,pV,eV⟩:=UV W (by rw[wl];exact hl);refine⟨P,V,⟨pP,W,pV,hW⟩,by rw[pP.length_eq,UW],by rw[pV.length_eq,wl],(cJ rfl).trans (call_v ?_)⟩;have sk:=aG1 (ks:=ks) (R:=R) (M:=M) (T:=T) 0x1 p.hTl;unfold zK;refine aN (ρ':=[.scr (ns.map ε),.int b,.tup (ws.map δ),pgD ks M T R,.dct (dD δ (stk M T)),.uD,.uD,.uD,.uD,.uD,.uD,.uD,.uD]) (bQ (i:=4) (aQ (xs:=[pgD ks M T R]) (aB rfl rfl) sk)) ?_;have c:=fC (iH 13 lM g8 (b2 getD yO bR) ai [.scr (ns.map ε),.int b,.tup (ws.map δ),pgD ks M T R,.dct (dD δ (stk M T)),.uD,.uD,.uD,.uD,.uD,.uD,.uD,.uD]) tkD (λ_=>af) (λt=>δ t.1) (λacc t=>gK (y:=.str t.1) (b:=af) rfl rfl (λ_=>⟨aH (x:=tkD t) (y:=.int 0) rfl rfl rfl,rfl⟩)) T [];rw[dy,nI.mpr (λ_ _=>rfl)] at c;refine aN (ρ':=[.scr (ns.map ε),.int b,.tup (ws.map δ),pgD ks M T R,.dct (dD δ (stk M T)),.lst ((tn T).map δ),.uD,.uD,.uD,.uD,.uD,.uD,.uD]) (bQ (i:=5) (gJ (xs:=T.map tkD) (fD (aH (x:=pgD ks M T R) (y:=.int 2) rfl rfl rfl)) (by rw[az];have:=p.hTl;exact bV 0x1) (c.trans (by unfold tn;rw[c5];rfl)))) ?_;refine aN (ρ':=[.scr (ns.map ε),.int b,.tup (ws.map δ),pgD ks M T R,.dct (dD δ (stk M T)),.lst ((tn T).map δ),.lst [],.uD,.uD,.uD,.uD,.uD,.uD]) (dY (i:=6) (lA (xs:=[]) rfl (cq _)) rfl) ?_;refine aN (ρ':=[.scr (ns.map ε),.int b,.tup (ws.map δ),pgD ks M T R,.dct (dD δ (stk M T)),.lst ((tn T).map δ),.lst [],.lst [],.uD,.uD,.uD,.uD,.uD]) (dY (i:=7) (lA (xs:=[]) rfl (cq _)) rfl) ?_;refine aN (ρ':=la ns b ws (pgD ks M T R) (stk M T) (tn T) [] [] [(0,0)] .uD .uD .uD .uD) (dY (i:=8) (lA (xs:=[enD (0,0)]) (aB (bI (xs:=[.int 0,.int 0]) (aB rfl (aB rfl rfl)) jL) rfl) (bV (cy rfl))) rfl) ?_;refine aN (wI (xs:=(ws.zipIdx 0).map λp=>.tup [.int (p.2:ag),.str p.1]) ?_ e) ?_
 ·show(if ι (ws.map δ) then τ (BX (ws.map δ),af) else .bad)=_;rw[bH,av rfl]
  congr 2
  unfold BX;rw[Ec,c5];rfl
 exact gV (d:=ntD P V) (bI (xs:=[.tup (P.map piD),.tup (V.map tiD),.int 0]) (aB (aQ (xs:=[.lst (P.map piD)]) (aB (aQ (xs:=[.lst ((pcs ns b 0 X).map piD)]) (aB rfl rfl) eP) rfl) rfl) (aB (aQ (xs:=[.lst (V.map tiD)]) (aB (aQ (xs:=[.lst (W.map tiD)]) (aB rfl rfl) eV) rfl) rfl) (aB rfl rfl))) aKt) (by unfold ntD;rw[U0];rfl)
noncomputable def fl(U:aa Ti):aa En:=U.flatMap λt=>[t.1,t.2]
theorem oH(t:Ti)(U:aa Ti):fl (t::U)=t.1::t.2::fl U:=rfl
theorem aQe{U V:aa Ti}(h:Sw U V):(fl U).Perm (fl V):=by
 induction h with
 |nil=>exact .refl _
 |cons q _ ih=>
  rw[oH,oH];rcases q with rfl|⟨rfl,_⟩
  ·exact(ih.cons _).cons _
  ·exact((ih.cons _).cons _).trans (.swap ..)
theorem aO8{U V:aa Ti}(h:Sw U V):∀p∈V,p∈U\/(p.2,p.1)∈U:=by
 induction h with
 |nil=>intro p hp;cases hp
 |cons q _ ih=>
  intro p hp;rcases bP.mp hp with rfl|hp
  ·rcases q with rfl|⟨rfl,_⟩
   ·exact .inl (bo ..)
   ·exact .inr (bo ..)
  ·exact(ih p hp).imp (bw _) (bw _)
def Old(ns:aa ah)(b:ah)(k:ag)(e:En):Prop:=e.1=0\/∃i:ag,i<k/\e.1=nm ns b i
theorem old_ne{ns:aa ah}{b:ah}{k j:ag}{e:En}(h:Old ns b k e)(hj:k<=j)(h5:j<500):e.1≠nm ns b j:=λz=>by
 rcases h with h|⟨i,hi,h⟩
 ·have:=xF ns b j;lia
 ·have:=X3 0x1 h5 (h.symm.trans z);lia
theorem Q4{ns:aa ah}{b:ah}{k g a:ag}{e:En}(h:e∈hk ns b k g a):e.1=nm ns b k/\e.2≠(g:ah):=by
 obtain⟨q,hq,rfl⟩:=c6.mp h;have:=(lz.mp hq).2;refine⟨rfl,λz=>?_⟩;have z:(0:ah)+(q:ah)=(g:ah):=z;rw[z] at this;simp at this
theorem aG6(ns:aa ah)(b:ah)(k g a:ag):(hk ns b k g a).Nodup:=by
 unfold hk AY;rw[we];refine(AX.filter _).imp λ{x y} h z=>h ?_
 have:=di Prod.snd z;simp only at this;lia
theorem X6{ns:aa ah}{b:ah}:∀(X:aa Wa)(k:ag)(W:aa En),k+X.length<=500->W.Nodup->(∀e∈W,Old ns b k e)->(fl (pr ns b k X W)).Nodup/\∀e∈fl (pr ns b k X W),e∈W\/∃i:ag,k<=i/\i<500/\e.1=nm ns b i
 |[],k,W,_,_,_=>by cases W<;>exact⟨g9,λe he=>by cases he⟩
 |w::X,k,[],_,_,_=>⟨g9,λe he=>by cases he⟩
 |w::X,k,e::W,hl,hw,ho=>by
  rw[aS] at hl;rw[fE] at hw;have oe:=ho e (bo ..);have oW:∀x∈W,Old ns b k x:=λx hx=>ho x (bw _ hx)
  obtain⟨i1,i2⟩:=X6 X (k+1) (hk ns b k w.2.2 w.2.1++W) 0x1 (by
   rw[sy];refine⟨aG6 ..,hw.2,λa ha b hb z=>?_⟩;subst z;exact old_ne (oW _ hb) (ba k) 0x1 (Q4 ha).1) (λx hx=>by
   rcases e5.mp hx with hx|hx
   ·exact .inr ⟨k,oq k,(Q4 hx).1⟩
   ·rcases oW x hx with h|⟨i,h1,h2⟩
    ·exact .inl h
    ·exact .inr ⟨i,by lia,h2⟩)
  rw[pr,oH];have n1:e.1≠nm ns b k:=old_ne oe (ba k) 0x1;refine⟨?_,λx hx=>?_⟩
  ·rw[fE,fE];refine⟨λz=>?_,λz=>?_,i1⟩
   ·rcases bP.mp z with z|z
    ·exact n1 (di wc z)
    ·rcases i2 e z with q|⟨i,h1,h2,h3⟩
     ·rcases e5.mp q with q|q
      ·exact n1 (Q4 q).1
      ·exact hw.1 q
     ·exact old_ne oe 0x1 h2 h3
   ·rcases i2 _ z with q|⟨i,h1,h2,h3⟩
    ·rcases e5.mp q with q|q
     ·exact(Q4 q).2 rfl
     ·exact old_ne (oW _ q) (ba k) 0x1 rfl
    ·have:=X3 0x1 h2 h3;lia
  ·rcases bP.mp hx with rfl|hx
   ·exact .inl (bo ..)
   ·rcases bP.mp hx with rfl|hx
    ·exact .inr ⟨k,ba k,by lia,rfl⟩
    ·rcases i2 x hx with q|⟨i,h1,h2⟩
     ·rcases e5.mp q with q|q
      ·exact .inr ⟨k,ba k,by lia,(Q4 q).1⟩
      ·exact .inl (bw _ q)
     ·exact .inr ⟨i,by lia,h2⟩
theorem aRx(ns:aa ah)(b:ah):∀e∈[((0:ah),(0:ah))],Old ns b 0 e:=λe he=>by
 rw[d6.mp he];exact .inl rfl
theorem m_{ns:aa ah}{b:ah}{X:aa Wa}{V:aa Ti}{P:aa Pi}(hl:X.length<=450)(h:Lay ns b X P V):(fl V).Nodup/\((fl V).Perm (fl (pr ns b 0 X [(0,0)])))/\∀e∈fl V,e=(0,0)\/∃i:ag,i<500/\e.1=nm ns b i:=by
 obtain⟨W,pV,hW⟩:=h.sw;obtain⟨i1,i2⟩:=X6 (ns:=ns) (b:=b) X 0 [(0,0)] 0x1 0x2 (aRx ns b);have p:(fl V).Perm (fl (pr ns b 0 X [(0,0)])):=(pV.flatMap_right _).trans (aQe hW);refine⟨p.nodup_iff.mpr i1,p,λe he=>?_⟩;rcases i2 e (p.mem_iff.mp he) with q|⟨i,_,q1,q2⟩
 ·exact .inl (d6.mp q)
 ·exact .inr ⟨i,q1,q2⟩
theorem BL{ns:aa ah}{b:ah}{X:aa Wa}{V:aa Ti}{P:aa Pi}(hl:X.length<=450)(h0:X≠[])(h:Lay ns b X P V):((fl V).filter λe=>e.1==0).length=1:=by
 obtain⟨nd,p,al⟩:=m_ hl h;have m0:(0,0)∈fl V:=by
  cases X with
  |nil=>exact bf rfl h0
  |cons w X=>exact p.mem_iff.mpr (by rw[pr,oH];exact bo ..)
 have e:(fl V).filter (λe=>e.1==0)=(fl V).filter (λe=>e==(0,0)):=by
  refine List.filter_congr λx hx=>?_
  rcases al x hx with rfl|⟨i,_,q⟩
  ·rfl
  ·have:=xF ns b i;have n1:¬x.1=0:=by lia
   have n2:¬x=(0,0):=λz=>n1 (by rw[z])
   rw[dS.mpr n1,dS.mpr n2]
 rw[e,<-Ea];exact(nd.count (a:=((0:ah),(0:ah)))).trans (av m0)
theorem aKd(V:aa Ti)(hV:V.length<=1000):bO 1 vK [.tup (V.map tiD)]=.ok (.lst ((fl V).map enD)):=by
 refine(cJ rfl).trans (call_v ?_);have lp:∀(U:aa Ti)(E:aa En)(x2 x3:D),E.length+2*U.length<=5000->∃y2 y3:D,o9 (tgN [2,3]) (bN (BV 1 d8) (BV 1 dG)) (U.map tiD) [.tup (V.map tiD),.lst (E.map enD),x2,x3]=.ok (.nx [.tup (V.map tiD),.lst ((E++fl U).map enD),y2,y3]):=by
  intro U;induction U with
  |nil=>intro E x2 x3 _;exact⟨x2,x3,by rw[show fl []=[] from rfl,eD];rfl⟩
  |cons t U ih=>
   intro E x2 x3 hl;rw[aS] at hl;obtain⟨y2,y3,e⟩:=ih (E++[t.1,t.2]) (enD t.1) (enD t.2) (by rw[bp];show E.length+2+_<=_;lia);refine⟨y2,y3,?_⟩;rw[oH,show E++t.1::t.2::fl U=E++[t.1,t.2]++fl U by simp];have a1:=lW (i:=1) (ρ:=[.tup (V.map tiD),.lst (E.map enD),enD t.1,enD t.2]) (f:=fM 2) (xs:=E.map enD) (d:=enD t.1) rfl rfl (by rw[az];exact iQ 0x1) rfl;have a2:=lW (i:=1) (ρ:=[.tup (V.map tiD),.lst (E.map enD++[enD t.1]),enD t.1,enD t.2]) (f:=fM 3) (xs:=E.map enD++[enD t.1]) (d:=enD t.2) rfl rfl (by rw[bp,az];exact iQ (by show E.length+1<=_;lia)) rfl;refine eO (ρ1:=[.tup (V.map tiD),.lst (E.map enD),enD t.1,enD t.2]) (ρ2:=[.tup (V.map tiD),.lst ((E++[t.1,t.2]).map enD),enD t.1,enD t.2]) rfl (aN a1 (a2.trans ?_)) e;rw[bE];show _=τ (Fl.nx [ν (V.map tiD),.lst (E.map enD++[enD t.1,enD t.2]),enD t.1,enD t.2]);rw[ke];rfl
 obtain⟨y2,y3,e⟩:=lp V [] .uD .uD (by show 0+_<=_;lia);refine aN (ρ':=[.tup (V.map tiD),.lst [],.uD,.uD]) (dY (i:=1) (lA (xs:=[]) rfl (cq _)) rfl) ?_;refine aN (aIp (i:=0) (d:=.tup (V.map tiD)) rfl rfl e) ?_;rfl
theorem aO9(P:aa Pi)(V:aa Ti)(r:ah)(hV:V.length<=1000):bO 1 Z4 [ntR P V r]=.ok (.int (((fl V).filter λe=>e.1==0).length:ag)):=by
 have flen:(fl V).length=2*V.length:=by
  clear hV;induction V with
  |nil=>rfl
  |cons t V ih=>rw[oH,aS,aS,aS,ih];lia
 have ra:bO 1 mV [.lst ((fl V).map enD)]=.ok (.int (((fl V).filter λe=>e.1==0).length:ag)):=by
  refine(cJ rfl).trans (call_v ?_);have c:=fC (iH 1 lM (bTB (b2 (cV .eq) (b2 getD cW bR) bR)) cW ai [.lst ((fl V).map enD)]) enD (λe=>e.1==0) enD (λacc e=>gK (y:=enD e) rfl (dZ (aH (x:=.int e.1) (y:=.int 0) (aH (x:=enD e) (y:=.int 0) rfl rfl rfl) rfl (eq_int _ _))) (λ_=>⟨rfl,rfl⟩)) (fl V) [];rw[dy] at c;have hc:fG 1 (cU cO ai) lM (bTB (b2 (cV .eq) (b2 getD cW bR) bR)) cW ai [.lst ((fl V).map enD)]=.ok (.lst (((fl V).filter λe=>e.1==0).map enD)):=gJ (xs:=(fl V).map enD) (kk:=(ai||(D.lst ((fl V).map enD)).pure)) rfl (by rw[az];exact ii (iQ 0x1)) c;have hb:aC (fG 1 (cU cO ai) lM (bTB (b2 (cV .eq) (b2 getD cW bR) bR)) cW ai) aP [.lst ((fl V).map enD)]=.ok [.lst (((fl V).filter λe=>e.1==0).map enD)]:=aB hc rfl;have hr:aM fJ (aC (fG 1 (cU cO ai) lM (bTB (b2 (cV .eq) (b2 getD cW bR) bR)) cW ai) aP) [.lst ((fl V).map enD)]=.ok (.int (((fl V).filter λe=>e.1==0).length:ag)):=aQ hb (by rw[jV,az]);exact gV (k:=af) hr rfl
 refine(cJ rfl).trans (call_v ?_);exact gV (aQ (xs:=[.lst ((fl V).map enD)]) (aB (aQ (xs:=[.tup (V.map tiD)]) (aB (aH (x:=ntR P V r) (y:=.int 1) rfl rfl rfl) rfl) (aKd V hV)) rfl) ra) rfl
def mts(V:aa Ti):aa (En×D):=lZ [] (V.flatMap λt=>[(t.1,enD t.2),(t.2,enD t.1)])
theorem aG7(P:aa Pi)(V:aa Ti)(r:ah)(hV:V.length<=1000):bO 1 oX [ntR P V r]=.ok (.dct (dD enD (mts V))):=by
 refine(cJ rfl).trans (call_v ?_);obtain⟨ρ1,⟨y2,y3,h1⟩,e1⟩:=vO (t:=tgN [2,3]) (body:=bN (RX 1 d8 dG) (RX 1 dG d8)) tiD (λt=>[(t.1,enD t.2),(t.2,enD t.1)]) (λ_=>ba _) (λL ρ=>∃x2 x3,ρ=[ntR P V r,.dct (dD enD L),x2,x3]) (λt L ρ ⟨x2,x3,h⟩ hl=>by
  subst h;have p1:=FN (i:=1) (ρ:=[ntR P V r,.dct (dD enD L),enD t.1,enD t.2]) (f:=fM 2) (g:=fM 3) (kvs:=dD enD L) (k:=enD t.1) (d:=enD t.2) rfl rfl rfl (by rw[GD];exact iQ 0x1) (oG A_ L t.1) rfl;rw[wZ A_] at p1;have pl:=yC t.1 (enD t.2) L;have p2:=FN (i:=1) (ρ:=[ntR P V r,.dct (dD enD (Q9 L t.1 (enD t.2))),enD t.1,enD t.2]) (f:=fM 3) (g:=fM 2) (kvs:=dD enD (Q9 L t.1 (enD t.2))) (k:=enD t.2) (d:=enD t.1) rfl rfl rfl (by rw[GD];exact iQ 0x1) (oG A_ _ t.2) rfl;rw[wZ A_] at p2;exact⟨_,_,rfl,aN p1 p2,_,_,rfl⟩) V [] [ntR P V r,.dct [],.uD,.uD] ⟨_,_,rfl⟩ (by show 0+_<=5000;lia)
 refine aN (ρ':=[ntR P V r,.dct [],.uD,.uD]) (dY (i:=1) (d:=.dct []) rfl rfl) ?_;refine aN (jM (xs:=V.map tiD) (aH (x:=ntR P V r) (y:=.int 1) rfl rfl rfl) (a_ m9 V) e1) ?_;subst h1;rfl
theorem K8{V:aa Ti}(hn:(fl V).Nodup){p:Ti}(h:p∈V\/(p.2,p.1)∈V):dN (mts V) p.1=ae (enD p.2):=by
 refine sY _ _ _ _ ?_ ?_
 ·have e:(V.flatMap λt=>[(t.1,enD t.2),(t.2,enD t.1)]).map (·.1)=fl V:=by
   unfold fl;rw[List.map_flatMap];rfl
  rw[e];exact hn
 ·rw[xy];rcases h with h|h
  ·exact⟨p,h,bo ..⟩
  ·exact⟨_,h,bw _ (bo ..)⟩
theorem K9{α:Type}[d4 α]{ek:α->D}(h:KE ek):∀(ps L:aa (α×D)),nF (dD ek L) (dD ek ps)=dD ek (lZ L ps)
 |[],_=>rfl
 |p::ps,L=>by
  show nF (putD (dD ek L) (ek p.1) p.2) (dD ek ps)=_;rw[wZ h,K9 h ps];rfl
theorem K_{α β:Type}(f:β->α×D)(ek:α->D)(hk:∀a,mF (ek a)=af)(hp:∀b,(f b).2.pure=af):∀L:aa β,nD (L.map λb=>.tup [ek (f b).1,(f b).2])=ae (dD ek (L.map f))
 |[]=>rfl
 |b::L=>by
  rw[bu,nD,hk,hp,gl,av rfl,K_ f ek hk hp L];rfl
def nms(P:aa Pi):aa (ah×D):=lZ [] (P.map λp=>(p.1,δ p.2))
theorem aDl(P:aa Pi)(hP:P.length<=1000):JP (.tup (P.map piD))=.ok (.dct (dD ε (nms P))):=by
 have e:nD (P.map piD)=ae (dD ε (P.map λp=>(p.1,δ p.2))):=K_ (λp:Pi=>(p.1,δ p.2)) ε (λ_=>rfl) (λ_=>rfl) P;show(match nD (P.map piD) with|some ps=>(if ϒ ((P.map piD).length<=1000) then τ (D.dct (nF [] ps)) else .bad)|none=>.bad)=_;rw[e];show(if ϒ ((P.map piD).length<=1000) then τ (D.dct (nF [] (dD ε (P.map λp=>(p.1,δ p.2))))) else .bad)=_;rw[az,cb hP,av rfl];exact di (λx=>τ (D.dct x)) (K9 Q0 _ [])
noncomputable def sdD(m:Mk):D:=.tup [.str m.1,.int (m.2.2.length:ag)]
theorem aDm(M:aa Mk)(hM:M.length<=1000):WT (.lst (M.map sdD))=.ok (.dct (dD δ (sds M))):=by
 have e:nD (M.map sdD)=ae (dD δ (psM M)):=K_ (λm:Mk=>(m.1,ε (m.2.2.length:ag))) δ (λ_=>rfl) (λ_=>rfl) M;show(match nD (M.map sdD) with|some ps=>(if ϒ ((M.map sdD).length<=1000) then τ (D.dct (nF [] ps)) else .bad)|none=>.bad)=_;rw[e];show(if ϒ ((M.map sdD).length<=1000) then τ (D.dct (nF [] (dD δ (psM M)))) else .bad)=_;rw[az,cb hM,av rfl];exact di (λx=>τ (D.dct x)) (K9 gQ _ [])
noncomputable def hks(q:ah)(a:ag):aa En:=(bz a).map λ(h:ag)=>(q,(h:ah)+1)
theorem hk0(ns:aa ah)(b:ah)(k a:ag):hk ns b k 0 a=hks (nm ns b k) a:=by
 unfold hk hks;rw[Cc,nE,ax 0x4,nI.mpr (λq hq=>by
  obtain⟨r,_,rfl⟩:=c6.mp hq;simp only[jh,dS];show ¬(0:ah)+((r+1:ag):ah)=((0:ag):ah);lia),c5]
 refine Ad λq _=>?_
 show(nm ns b k,(0:ah)+((q+1:ag):ah))=(nm ns b k,(q:ah)+1);rw[show(0:ah)+((q+1:ag):ah)=(q:ah)+1 by lia]
theorem oJ{f g:FS}{ρ:aa D}{c:Str}{as:aa D}(h:f ρ=.err c as):bN f g ρ=.err c as:=by
 unfold bN;rw[h];rfl
def al(pg nt:D)(S:aa (Str×D))(N:aa (ah×D))(E:aa (En×D))(F:aa Str)(W:aa En)(x7 x8:D):aa D:=[pg,nt,.dct (dD δ S),.dct (dD ε N),.dct (dD enD E),.lst (F.map δ),.lst (W.map enD),x7,x8]
theorem aKe{pg nt:D}{S:aa (Str×D)}{N:aa (ah×D)}{E:aa (En×D)}{F:aa Str}{W:aa En}{e:En}{q:ah}{a:ag}{w:Str}{x7 x8:D}(hE:dN E e=ae (enD (q,0)))(hN:dN N (q)=ae (.str w))(hS:dN S w=ae (.int (a:ag)))(ha:a<=3)(hF:F.length<=1000)(hW:W.length<=3000) :
  ∃y7 y8:D,QB (al pg nt S N E F ((e::W).reverse) x7 x8)=.ok (.nx (al pg nt S N E (F++[w]) ((hks q a++W).reverse) y7 y8)):=by
 refine⟨enD (q,0),.str w,?_⟩;have rv:(e::W).reverse.map enD=(W.reverse.map enD)++[enD e]:=by rw[gw,bE];rfl
 refine aN (ρ':=al pg nt S N E F W.reverse (enD (q,0)) x8) (dC ?_) ?_
 ·have q1:vG 6 (al pg nt S N E F ((e::W).reverse) x7 x8)=.ok (enD e,al pg nt S N E F W.reverse x7 x8):=by
   show(match ((e::W).reverse.map enD)[((e::W).reverse.map enD).length-1]? with|some x=>τ (x,(al pg nt S N E F ((e::W).reverse) x7 x8).set 6 (.lst ((e::W).reverse.map enD).dropLast))|none=>.bad)=_;rw[rv,bp,xA];rw[show(W.reverse.map enD).length+[enD e].length-1=(W.reverse.map enD).length by simp,xB];rfl
  have q2:x2R getD iR (vG 6) (al pg nt S N E F ((e::W).reverse) x7 x8)=.ok (enD (q,0),al pg nt S N E F W.reverse x7 x8):=by
   unfold x2R;rw[show iR (al pg nt S N E F ((e::W).reverse) x7 x8)=.ok (.dct (dD enD E)) from rfl,θ,q1,θ,GF A_ hE];rfl
  unfold aC8;rw[q2];rfl
 have g1:aI6 (.dct (dD ε N)) [.int (q)]=.ok (.str w):=by
  show(if BR (dD ε N) (.int (q)) then τ ((d9 (dD ε N) (.int (q))).getD .non) else .bad)=_;rw[oG Q0,av rfl,sX Q0,hN];rfl
 refine aN (ρ':=al pg nt S N E F W.reverse (enD (q,0)) (.str w)) (dC (dU (i:=8) ?_ rfl)) ?_
 ·unfold bM;rw[show dG (al pg nt S N E F W.reverse (enD (q,0)) x8)=.ok (.dct (dD ε N)) from rfl,θ];exact g1
 have c1:cV .notin (.str w) (.dct (dD δ S))=.ok (.bl ai):=by
  show(if BR (dD δ S) (.str w) then τ (υ (!(d9 (dD δ S) (.str w)).isSome)) else .bad)=_;rw[oG gQ,av rfl,sX gQ,hS];rfl
 refine aN (ρ':=al pg nt S N E F W.reverse (enD (q,0)) (.str w)) (j6 (dC (aQv (dZ (aH (x:=.str w) (y:=.dct (dD δ S)) rfl rfl c1)) (dZ (aH (x:=.int 0) (y:=.int 0) (aH (x:=enD (q,0)) (y:=.int 1) rfl rfl rfl) rfl rfl)))) rfl) ?_;refine aN (ρ':=al pg nt S N E (F++[w]) W.reverse (enD (q,0)) (.str w)) (dC ?_) ?_
 ·have ap:=lW (i:=5) (ρ:=al pg nt S N E F W.reverse (enD (q,0)) (.str w)) (f:=fM 8) (xs:=F.map δ) (d:=.str w) rfl rfl (by rw[az];exact iQ 0x1) rfl;refine ap.trans ?_;unfold al;rw[show(F++[w]).map δ=F.map δ++[.str w] from bE ..];rfl
 have gs:getD (.dct (dD δ S)) (.str w)=.ok (.int (a:ag)):=GF gQ hS;have hr:(hks q a).reverse.map enD=(bz a).map λ(z:ag)=>enD (q,(a:ah)+(z:ag)*-1):=by
  unfold hks;rw[<-xw,c5,xw];refine CU 0x2 λi h1 h2=>?_
  simp only[li,az,f_] at h1;simp only[List.getElem_reverse,AV,List.getElem_range,az,f_,CO]
  congr 2
  lia
 have c:gD (iH 9 lM g8 (cT (aC (b2 getD vP bR) (aC xK aP))) ai (al pg nt S N E (F++[w]) W.reverse (enD (q,0)) (.str w))) [] ((bz ((a:ah)-0).toNat).map λ(z:ag)=>ε ((a:ah)+(z:ag)*-1))=.ok ((hks q a).reverse.map enD):=by
  have:=fC (iH 9 lM g8 (cT (aC (b2 getD vP bR) (aC xK aP))) ai (al pg nt S N E (F++[w]) W.reverse (enD (q,0)) (.str w))) (λ(z:ag)=>ε ((a:ah)+(z:ag)*-1)) (λ_=>af) (λz=>enD (q,(a:ah)+(z:ag)*-1)) (λacc z=>gK (y:=enD (q,(a:ah)+(z:ag)*-1)) (b:=af) rfl rfl (λ_=>⟨bI (xs:=[.int (q),.int ((a:ah)+(z:ag)*-1)]) (aB (aH (x:=enD (q,0)) (y:=.int 0) rfl rfl rfl) (aB rfl rfl)) jL,rfl⟩)) (bz ((a:ah)-0).toNat) [];rw[this,dy,nI.mpr (λ_ _=>rfl),hr,show((a:ah)-0).toNat=a by lia]
 have hit:lL (aC (b2 getD d8 yN) (aC bR (aC (b1 aOw cR) aP))) aKs (al pg nt S N E (F++[w]) W.reverse (enD (q,0)) (.str w))=.ok ((bz ((a:ah)-0).toNat).map λ(z:ag)=>ε ((a:ah)+(z:ag)*-1),af):=by
  unfold lL;rw[show aC (b2 getD d8 yN) (aC bR (aC (b1 aOw cR) aP)) (al pg nt S N E (F++[w]) W.reverse (enD (q,0)) (.str w))=.ok [.int (a:ag),.int 0,.int (-1)] from aB (aH (x:=.dct (dD δ S)) (y:=.str w) rfl rfl gs) rfl,θ,aKs,av (by rw[cb (show(0:ah)<=(a:ag) by lia),cb (show((a:ag):ah)<=1000 by lia)];rfl)]
 have hc:=gJ (n:=9) hit (by rw[az,f_,fQ];lia) c;have hl:(hks q a).length=a:=by unfold hks;rw[az,f_]
 refine dC ?_;unfold aN4;rw[hc,θ];show(if ϒ ((W.reverse.map enD).length+((hks q a).reverse.map enD).length<=lim)&&ι ((hks q a).reverse.map enD) then τ (Fl.nx ((al pg nt S N E (F++[w]) W.reverse (enD (q,0)) (.str w)).set 6 (.lst (W.reverse.map enD++(hks q a).reverse.map enD)))) else .bad)=_;rw[a_ BJ,cb (show _<=lim by simp only[az,li,hl];exact ii (iQ 0x1)),gl,av rfl,<-bE,<-Ed];rfl
theorem aKf{pg nt:D}{S:aa (Str×D)}{N:aa (ah×D)}{E:aa (En×D)}{F:aa Str}{W:aa En}{e:En}{q h:ah}{w:Str}{x7 x8:D}(hE:dN E e=ae (enD (q,h)))(hN:dN N q=ae (.str w))(hS:dN S w=aj\/h≠0) :
  QB (al pg nt S N E F ((e::W).reverse) x7 x8)=.err "NoValue" [.exc "NoValue" []]:=by
 have rv:(e::W).reverse.map enD=(W.reverse.map enD)++[enD e]:=by rw[gw,bE];rfl
 refine aN (ρ':=al pg nt S N E F W.reverse (enD (q,h)) x8) (dC ?_) ?_
 ·have q1:vG 6 (al pg nt S N E F ((e::W).reverse) x7 x8)=.ok (enD e,al pg nt S N E F W.reverse x7 x8):=by
   show(match ((e::W).reverse.map enD)[((e::W).reverse.map enD).length-1]? with|some x=>τ (x,(al pg nt S N E F ((e::W).reverse) x7 x8).set 6 (.lst ((e::W).reverse.map enD).dropLast))|none=>.bad)=_;rw[rv,bp,xA];rw[show(W.reverse.map enD).length+[enD e].length-1=(W.reverse.map enD).length by simp,xB];rfl
  have q2:x2R getD iR (vG 6) (al pg nt S N E F ((e::W).reverse) x7 x8)=.ok (enD (q,h),al pg nt S N E F W.reverse x7 x8):=by
   unfold x2R;rw[show iR (al pg nt S N E F ((e::W).reverse) x7 x8)=.ok (.dct (dD enD E)) from rfl,θ,q1,θ,GF A_ hE];rfl
  unfold aC8;rw[q2];rfl
 have g1:aI6 (.dct (dD ε N)) [.int q]=.ok (.str w):=by
  show(if BR (dD ε N) (.int q) then τ ((d9 (dD ε N) (.int q)).getD .non) else .bad)=_;rw[oG Q0,av rfl,sX Q0,hN];rfl
 refine aN (ρ':=al pg nt S N E F W.reverse (enD (q,h)) (.str w)) (dC (dU (i:=8) ?_ rfl)) ?_
 ·unfold bM;rw[show dG (al pg nt S N E F W.reverse (enD (q,h)) x8)=.ok (.dct (dD ε N)) from rfl,θ];exact g1
 have c1:cV .notin (.str w) (.dct (dD δ S))=.ok (.bl (!(dN S w).isSome)):=by
  show(if BR (dD δ S) (.str w) then τ (υ (!(d9 (dD δ S) (.str w)).isSome)) else .bad)=_;rw[oG gQ,av rfl,sX gQ]
 have c2:=aA0 (dZ (aH (ρ:=al pg nt S N E F W.reverse (enD (q,h)) (.str w)) (a:=fM 8) (b:=fM 2) (x:=.str w) (y:=.dct (dD δ S)) rfl rfl c1)) (dZ (aH (a:=b2 getD vP cR) (b:=bC (.int 0)) (x:=.int h) (y:=.int 0) (aH (x:=enD (q,h)) (y:=.int 1) rfl rfl rfl) rfl (ne_int h 0)));have c3:(!(dN S w).isSome||!(h==0))=af:=by
  rcases hS with z|z
  ·rw[z];rfl
  ·rw[dS.mpr z];simp
 rw[c3] at c2;exact oJ (xX (dC c2) rfl)
def wz(ns:aa ah)(b:ah):ag->aa Wa->aa En->aa En
 |k,w::X,_::W=>wz ns b (k+1) X (hk ns b k w.2.2 w.2.1++W)
 |_,_,W=>W
theorem aDn{pg nt:D}{S:aa (Str×D)}{N:aa (ah×D)}{E:aa (En×D)}{F:aa Str}{W:aa En}{e:En}{x7 x8:D}:noE (bTr nO) (al pg nt S N E F ((e::W).reverse) x7 x8)=.ok af:=by
 refine dC ?_;show τ (!((e::W).reverse.map enD).isEmpty)=_;rw[gw,bE];cases W.reverse.map enD<;>rfl
theorem aDo{ns:aa ah}{b:ah}{Q:Wa->Prop}{pg nt:D}{S:aa (Str×D)}{N:aa (ah×D)}{E:aa (En×D)}:∀(Y:aa Mk)(Z:aa Wa)(n k:ag)(F:aa Str)(W:aa En)(f:ag)(x7 x8:D),Ld Q n (Y.map mw++Z)->n=W.length->F.length+Y.length<=500->W.length+3*Y.length<=3000->
  (∀p∈pr ns b k (Y.map mw) W,dN E p.1=ae (enD p.2))->(∀p∈pcs ns b k (Y.map mw),dN N p.1=ae (.str p.2))->(∀m∈Y,dN S m.1=ae (.int (m.2.2.length:ag))/\m.2.2.length<=3)->
  Ld Q (wz ns b k (Y.map mw) W).length Z/\∃y7 y8:D,xY (noE (bTr nO)) QB (Y.length+f) (al pg nt S N E F W.reverse x7 x8)=xY (noE (bTr nO)) QB f (al pg nt S N E (F++Y.map (·.1)) (wz ns b k (Y.map mw) W).reverse y7 y8)
 |[],Z,n,k,F,W,f,x7,x8,hd,hl,_,_,_,_,_=>by
  subst hl;refine⟨by cases W<;>exact hd,x7,x8,?_⟩;rw[dQ,mM,gx,eD];cases W<;>rfl
 |m::Y,Z,n,k,F,W,f,x7,x8,hd,hl,h1,h2,hE,hN,hS=>by
  cases hd with
  |@cons _ n' _ hw hd=>
   rw[aS] at h1 h2;obtain⟨s1,s2⟩:=hS m (bo ..);cases W with
   |nil=>cases hl
   |cons e W=>
    rw[aS] at h2 hl;rw[bu,pr] at hE;rw[bu,pcs] at hN;have hE0:dN E e=ae (enD (nm ns b k,0)):=hE _ (bo ..);have hN0:dN N (nm ns b k)=ae (.str m.1):=hN _ (bo ..);obtain⟨y7,y8,es⟩:=aKe (pg:=pg) (nt:=nt) (F:=F) (W:=W) (x7:=x7) (x8:=x8) hE0 hN0 s1 s2 0x1 0x1;have hkl:(hk ns b k (mw m).2.2 (mw m).2.1).length=m.2.2.length:=X4 ns b k (cq _);obtain⟨z0,z7,z8,ez⟩:=aDo (pg:=pg) (nt:=nt) Y Z ((mw m).2.1+n') (k+1) (F++[m.1]) (hk ns b k (mw m).2.2 (mw m).2.1++W) f y7 y8 hd (by rw[bp,hkl];show m.2.2.length+n'=_;lia) (by rw[bp];show F.length+1+_<=_;lia) (by rw[bp,hkl];lia) (λp hp=>hE p (bw _ hp)) (λp hp=>hN p (bw _ hp)) (λx hx=>hS x (bw _ hx));refine⟨z0,z7,z8,?_⟩;rw[aS,show Y.length+1+f=(Y.length+f)+1 by lia,xY,aDn,θ,av rfl,es,<-hk0];show xY _ _ (Y.length+f) _=_;rw[show F++(m::Y).map (·.1)=F++[m.1]++Y.map (·.1) by simp];exact ez
theorem GJ{f:FS}{n m:ag}{ds as:aa D}{c:Str}(h:f (ds++b9 (m-n) D.uD)=.err c as):fnS n m f ds=.err c as:=by
 unfold fnS;rw[h];rfl
theorem aQf{f:FE}{ρ as:aa D}{c:Str}{i:ag}(h:f ρ=.err c as):bW ai i f af ρ=.err c as:=by
 unfold bW;rw[h];rfl
theorem aDp{f:aa D->Res D}{a:FA}{ρ xs:aa D}(h:a ρ=.ok xs):aM f a ρ=f xs:=by
 unfold aM;rw[h];rfl
noncomputable abbrev NV:aa D:=[.exc "NoValue" []]
theorem aOa{f:D->Res D}{a:FE}{ρ:aa D}{x y:D}(h1:a ρ=.ok x)(h2:f x=.ok y):b1 f a ρ=.ok y:=by
 unfold b1;rw[h1];exact h2
theorem BP{M:aa Mk}{T:aa Tk}{R:aa Rl}{ks:aa Str}{P:aa Pi}{V:aa Ti}{r:ah}{res:Res Fl}(ml:M.length<=9)(hPl:P.length<=1000)(hV:V.length<=1000)
 (h:bN (aMv (noE (bTr nO)) QB) (noE (oM (aM fO (aC lJ aP)) ai)) (al (pgD ks M T R) (ntR P V r) (sds M) (nms P) (mts V) [] [((0:ah),(0:ah))].reverse .uD .uD)=res) :
  mR ([pgD ks M T R,ntR P V r]++b9 (9-2) D.uD)=res:=by
 unfold mR;have c:=fC (iH 9 (aKn 3) g8 (cT (aC xK (aC (aM fJ (aC iG aP)) aP))) ai [pgD ks M T R,ntR P V r,.uD,.uD,.uD,.uD,.uD,.uD,.uD]) mkD (λ_=>af) sdD (λacc m=>oF (b:=af) (bs:=[.str m.1,.str m.2.1,.tup (m.2.2.map δ)]) (y:=sdD m) rfl rfl rfl (λ_=>⟨bI (xs:=[.str m.1,.int (m.2.2.length:ag)]) (aB rfl (aB (aQ (xs:=[.tup (m.2.2.map δ)]) (aB rfl rfl) (aKv _)) rfl)) jL,rfl⟩)) M [];rw[dy,nI.mpr (λ_ _=>rfl)] at c;refine aN (ρ':=[pgD ks M T R,ntR P V r,.dct (dD δ (sds M)),.uD,.uD,.uD,.uD,.uD,.uD]) (dC (bQ (i:=2) (aOa (gJ (xs:=M.map mkD) (fD (aH (x:=pgD ks M T R) (y:=.int 1) rfl rfl rfl)) (by rw[az];exact bV 0x1) c) (aDm M 0x1)))) ?_;refine aN (ρ':=[pgD ks M T R,ntR P V r,.dct (dD δ (sds M)),.dct (dD ε (nms P)),.uD,.uD,.uD,.uD,.uD]) (dC (bQ (i:=3) (aOa (aH (x:=ntR P V r) (y:=.int 0) (z:=.tup (P.map piD)) rfl rfl rfl) (aDl P hPl)))) ?_;refine aN (ρ':=[pgD ks M T R,ntR P V r,.dct (dD δ (sds M)),.dct (dD ε (nms P)),.dct (dD enD (mts V)),.uD,.uD,.uD,.uD]) (dC (bQ (i:=4) (aQ (xs:=[ntR P V r]) (aB rfl rfl) (aG7 P V r hV)))) ?_;refine aN (ρ':=[pgD ks M T R,ntR P V r,.dct (dD δ (sds M)),.dct (dD ε (nms P)),.dct (dD enD (mts V)),.lst [],.uD,.uD,.uD]) (dC (dY (i:=5) (lA (xs:=[]) rfl (cq _)) rfl)) ?_;refine aN (ρ':=al (pgD ks M T R) (ntR P V r) (sds M) (nms P) (mts V) [] [(0,0)] .uD .uD) (dC (dY (i:=6) (lA (xs:=[enD (0,0)]) (aB (bI (xs:=[.int 0,.int 0]) (aB rfl (aB rfl rfl)) jL) rfl) (bV (cy rfl))) rfl)) ?_;exact h
structure Met(ns:aa ah)(b:ah)(M:aa Mk)(Y:aa Mk)(P:aa Pi)(V:aa Ti):Prop where
 inM:∀m∈Y,m∈M
 hl:Y.length<=450
 hE:∀p∈pr ns b 0 (Y.map mw) [(0,0)],dN (mts V) p.1=ae (enD p.2)
 hN:∀p∈pcs ns b 0 (Y.map mw),dN (nms P) p.1=ae (.str p.2)
 hP:P.length<=1000
 hV:V.length<=1000
theorem X7{R:aa Rl}{ks:aa Str}{r:ah}{V:aa Ti}(p:Pg ns Ω M T)(h:Met ns b M Y P V)(hd:Ld Q 1 (Y.map mw))(hws:Y.map (·.1)=ws):bO 2 cX [pgD ks M T R,ntR P V r]=.ok (.tup (ws.map δ)):=by
 have ml:=p.hM.len;have hm3:=p.hm3;have hl:=h.hl;obtain⟨z0,y7,y8,e⟩:=aDo (pg:=pgD ks M T R) (nt:=ntR P V r) (S:=sds M) (N:=nms P) (E:=mts V) Y [] 1 0 [] [(0,0)] (1000-Y.length) .uD .uD (by rw[eD];exact hd) rfl (by show 0+_<=500;lia) (by show 1+_<=3000;lia) h.hE h.hN (λm hm=>⟨(fx p (h.inM m hm)).sid,(fx p (h.inM m hm)).len⟩);have w0:wz ns b 0 (Y.map mw) [(0,0)]=[]:=by
  cases hz:wz ns b 0 (Y.map mw) [(0,0)] with
  |nil=>rfl
  |cons e W=>rw[hz] at z0;cases z0
 have s:xY (noE (bTr nO)) QB (1000-Y.length) (al (pgD ks M T R) (ntR P V r) (sds M) (nms P) (mts V) (Y.map (·.1)) ([]:aa En).reverse y7 y8)=.ok (.nx (al (pgD ks M T R) (ntR P V r) (sds M) (nms P) (mts V) (Y.map (·.1)) [] y7 y8)):=by
  rw[show 1000-Y.length=(999-Y.length)+1 by lia];rfl
 rw[w0,dy,show Y.length+(1000-Y.length)=1000 by lia,s,hws] at e;refine(cJ rfl).trans (call_v (BP 0x1 h.hP h.hV ?_));refine aN e ?_;exact dC (gV (k:=ai) (d:=.tup (ws.map δ)) (aQ (xs:=[.lst (ws.map δ)]) (aB rfl rfl) rfl) (by rw[μ,bH];rfl))
theorem Q5{R:aa Rl}{ks:aa Str}{r:ah}{V:aa Ti}(p:Pg ns Ω M T)(h:Met ns b M Y P V)(hd:Ld Q 1 (Y.map mw++z::Z))(he:∀e W,wz ns b 0 (Y.map mw) [(0,0)]=e::W->∃q h w,dN (mts V) e=ae (enD (q,h))/\dN (nms P) q=ae (.str w)/\(dN (sds M) w=aj\/h≠0)):bO 2 cX [pgD ks M T R,ntR P V r]=.err "NoValue" NV:=by
 have ml:=p.hM.len;have hm3:=p.hm3;have hl:=h.hl;obtain⟨z0,y7,y8,e⟩:=aDo (pg:=pgD ks M T R) (nt:=ntR P V r) (S:=sds M) (N:=nms P) (E:=mts V) Y (z::Z) 1 0 [] [(0,0)] (1000-Y.length) .uD .uD hd rfl (by show 0+_<=500;lia) (by show 1+_<=3000;lia) h.hE h.hN (λm hm=>⟨(fx p (h.inM m hm)).sid,(fx p (h.inM m hm)).len⟩);cases hz:wz ns b 0 (Y.map mw) [(0,0)] with
 |nil=>rw[hz] at z0;cases z0
 |cons e0 W=>
  obtain⟨q,hh,w,a1,a2,a3⟩:=he e0 W hz;have s:xY (noE (bTr nO)) QB (1000-Y.length) (al (pgD ks M T R) (ntR P V r) (sds M) (nms P) (mts V) ([]++Y.map (·.1)) (e0::W).reverse y7 y8)=.err "NoValue" NV:=by
   rw[show 1000-Y.length=(999-Y.length)+1 by lia,xY,aDn,θ,av rfl,aKf a1 a2 a3];rfl
  rw[hz,show Y.length+(1000-Y.length)=1000 by lia,s] at e;refine(cJ rfl).trans (GJ (BP 0x1 h.hP h.hV ?_));exact oJ e
theorem aDq{H:aa (Str×D)}{w:Str}{h:D}(e:dN H w=ae h)(hp:h.pure=af):bO 3 vJ [.dct (dD δ H),.str w,.dct []]=.ok h:=by
 refine(cJ rfl).trans (call_v ?_);have c:inX (.str w) (.dct (dD δ H))=.ok (.bl af):=by
  show(if BR (dD δ H) (.str w) then τ (υ (d9 (dD δ H) (.str w)).isSome) else .bad)=_;rw[oG gQ,av rfl,sX gQ,e];rfl
 exact aD8 (dC (xX (dZ (aH (x:=.str w) (y:=.dct (dD δ H)) rfl rfl c)) (gV (d:=h) (aH (x:=.dct (dD δ H)) (y:=.str w) rfl rfl (GF gQ e)) (by rw[hp];rfl))))
def kw(H:aa (Str×D))(ws:aa Str)(kind:Str)(st:aa Str)(x5 x6:D):aa D:=[.dct (dD δ H),.tup (ws.map δ),.str kind,.dct [],.lst (st.reverse.map δ),x5,x6]
theorem aOb{H:aa (Str×D)}{wa:aa Str}{kind:Str}{m:Mk}{st:aa Str}{x6:D}(hH:dN H m.1=ae (.tup [.str m.2.1,.tup (m.2.2.map δ)]))(h3:m.2.2.length<=3)(hs:st.length<=5000):∃y6:D,aD2 (kw H wa kind (m.2.1::st) (.str m.1) x6)=.ok (.nx (kw H wa kind (m.2.2++st) (.str m.1) y6)):=by
 refine⟨.tup [.str m.2.1,.tup (m.2.2.map δ)],?_⟩;have rv:(m.2.1::st).reverse.map δ=(st.reverse.map δ)++[.str m.2.1]:=by rw[gw,bE];rfl
 have ne:bTr iR (kw H wa kind (m.2.1::st) (.str m.1) x6)=.ok af:=by
  show τ (!((m.2.1::st).reverse.map δ).isEmpty)=_;rw[rv];cases st.reverse.map δ<;>rfl
 have nn:aKl (bTr iR) (kw H wa kind (m.2.1::st) (.str m.1) x6)=.ok ai:=by
  unfold aKl;rw[ne];rfl
 refine aN (ρ':=kw H wa kind (m.2.1::st) (.str m.1) x6) (j6 (dC nn) rfl) ?_;refine aN (ρ':=kw H wa kind (m.2.1::st) (.str m.1) (.tup [.str m.2.1,.tup (m.2.2.map δ)])) (bQ (i:=6) (aQ (xs:=[.dct (dD δ H),.str m.1,.dct []]) (dC (aB rfl (aB rfl (aB rfl rfl)))) (aDq hH (by show((ν (m.2.2.map δ)).pure&&af)=af;rw[μ,bH];rfl)))) ?_;have q1:vG 4 (kw H wa kind (m.2.1::st) (.str m.1) (.tup [.str m.2.1,.tup (m.2.2.map δ)]))=.ok (.str m.2.1,kw H wa kind st (.str m.1) (.tup [.str m.2.1,.tup (m.2.2.map δ)])):=by
  show(match ((m.2.1::st).reverse.map δ)[((m.2.1::st).reverse.map δ).length-1]? with|some x=>τ (x,(kw H wa kind (m.2.1::st) (.str m.1) (.tup [.str m.2.1,.tup (m.2.2.map δ)])).set 4 (.lst ((m.2.1::st).reverse.map δ).dropLast))|none=>.bad)=_;rw[rv,bp,xA];rw[show(st.reverse.map δ).length+[δ m.2.1].length-1=(st.reverse.map δ).length by simp,xB];rfl
 have q2:xTB (x2R (cV .ne) (bPu (b2 getD nO bR)) (vG 4)) (kw H wa kind (m.2.1::st) (.str m.1) (.tup [.str m.2.1,.tup (m.2.2.map δ)]))=.ok (ai,kw H wa kind st (.str m.1) (.tup [.str m.2.1,.tup (m.2.2.map δ)])):=by
  have q0:bPu (b2 getD nO bR) (kw H wa kind (m.2.1::st) (.str m.1) (.tup [.str m.2.1,.tup (m.2.2.map δ)]))=.ok (.str m.2.1):=rfl;have q3:x2R (cV .ne) (bPu (b2 getD nO bR)) (vG 4) (kw H wa kind (m.2.1::st) (.str m.1) (.tup [.str m.2.1,.tup (m.2.2.map δ)]))=.ok (.bl ai,kw H wa kind st (.str m.1) (.tup [.str m.2.1,.tup (m.2.2.map δ)])):=by
   unfold x2R;rw[q0,θ,q1,θ,show cV .ne (.str m.2.1) (.str m.2.1)=.ok (.bl (!(m.2.1==m.2.1))) from rfl,fI];rfl
  unfold xTB;rw[q3];rfl
 refine aN (ρ':=kw H wa kind st (.str m.1) (.tup [.str m.2.1,.tup (m.2.2.map δ)])) ?_ ?_
 ·unfold aGz;rw[dC q2];rfl
 have g:b1 aKr (b2 getD nO cR) (kw H wa kind st (.str m.1) (.tup [.str m.2.1,.tup (m.2.2.map δ)]))=.ok (.lst (m.2.2.reverse.map δ)):=by
  show aKr (.tup (m.2.2.map δ))=_;rw[aKr,bH,az,cb (show m.2.2.length<=lim from bV 0x1),gl,av rfl,xw]
 refine dC ?_;unfold aN4;rw[g,θ];show(if ϒ ((st.reverse.map δ).length+(m.2.2.reverse.map δ).length<=lim)&&ι (m.2.2.reverse.map δ) then τ (Fl.nx ((kw H wa kind st (.str m.1) (.tup [.str m.2.1,.tup (m.2.2.map δ)])).set 4 (.lst (st.reverse.map δ++m.2.2.reverse.map δ)))) else .bad)=_;rw[bH,cb (show _<=lim by simp only[az,li];exact ii (iQ 0x1)),gl,av rfl,<-bE,<-Ed];rfl
theorem aQg{H:aa (Str×D)}{wa:aa Str}{kind k0:Str}{m:Mk}{st:aa Str}{x6:D}(hH:dN H m.1=ae (.tup [.str m.2.1,.tup (m.2.2.map δ)]))(hk:m.2.1≠k0):aD2 (kw H wa kind (k0::st) (.str m.1) x6)=.err "BadKind" [.exc "BadKind" [("word",m.1)]]:=by
 have rv:(k0::st).reverse.map δ=(st.reverse.map δ)++[.str k0]:=by rw[gw,bE];rfl
 have ne:bTr iR (kw H wa kind (k0::st) (.str m.1) x6)=.ok af:=by
  show τ (!((k0::st).reverse.map δ).isEmpty)=_;rw[rv];cases st.reverse.map δ<;>rfl
 have nn:aKl (bTr iR) (kw H wa kind (k0::st) (.str m.1) x6)=.ok ai:=by
  unfold aKl;rw[ne];rfl
 refine aN (ρ':=kw H wa kind (k0::st) (.str m.1) x6) (j6 (dC nn) rfl) ?_;refine aN (ρ':=kw H wa kind (k0::st) (.str m.1) (.tup [.str m.2.1,.tup (m.2.2.map δ)])) (bQ (i:=6) (aQ (xs:=[.dct (dD δ H),.str m.1,.dct []]) (dC (aB rfl (aB rfl (aB rfl rfl)))) (aDq hH (by show((ν (m.2.2.map δ)).pure&&af)=af;rw[μ,bH];rfl)))) ?_;have q1:vG 4 (kw H wa kind (k0::st) (.str m.1) (.tup [.str m.2.1,.tup (m.2.2.map δ)]))=.ok (.str k0,kw H wa kind st (.str m.1) (.tup [.str m.2.1,.tup (m.2.2.map δ)])):=by
  show(match ((k0::st).reverse.map δ)[((k0::st).reverse.map δ).length-1]? with|some x=>τ (x,(kw H wa kind (k0::st) (.str m.1) (.tup [.str m.2.1,.tup (m.2.2.map δ)])).set 4 (.lst ((k0::st).reverse.map δ).dropLast))|none=>.bad)=_;rw[rv,bp,xA];rw[show(st.reverse.map δ).length+[δ k0].length-1=(st.reverse.map δ).length by simp,xB];rfl
 have q2:xTB (x2R (cV .ne) (bPu (b2 getD nO bR)) (vG 4)) (kw H wa kind (k0::st) (.str m.1) (.tup [.str m.2.1,.tup (m.2.2.map δ)]))=.ok (af,kw H wa kind st (.str m.1) (.tup [.str m.2.1,.tup (m.2.2.map δ)])):=by
  have q0:bPu (b2 getD nO bR) (kw H wa kind (k0::st) (.str m.1) (.tup [.str m.2.1,.tup (m.2.2.map δ)]))=.ok (.str m.2.1):=rfl;have q3:x2R (cV .ne) (bPu (b2 getD nO bR)) (vG 4) (kw H wa kind (k0::st) (.str m.1) (.tup [.str m.2.1,.tup (m.2.2.map δ)]))=.ok (.bl af,kw H wa kind st (.str m.1) (.tup [.str m.2.1,.tup (m.2.2.map δ)])):=by
   unfold x2R;rw[q0,θ,q1,θ,show cV .ne (.str m.2.1) (.str k0)=.ok (.bl (!(m.2.1==k0))) from rfl,dS.mpr hk];rfl
  unfold xTB;rw[q3];rfl
 refine oJ ?_;unfold aGz;rw[dC q2];show nG "BadKind" ["word"] (noE (aC lJ aP)) (kw H wa kind st (.str m.1) (.tup [.str m.2.1,.tup (m.2.2.map δ)]))=_;unfold nG;rw[dC (show aC lJ aP (kw H wa kind st (.str m.1) (.tup [.str m.2.1,.tup (m.2.2.map δ)]))=.ok [.str m.1] from aB rfl rfl)];rfl
theorem aG8{H:aa (Str×D)}{m1 m2:Mk}{k0:Str}{ws:aa Str}(h1:dN H m1.1=ae (.tup [.str m1.2.1,.tup (m1.2.2.map δ)]))(h2:dN H m2.1=ae (.tup [.str m2.2.1,.tup (m2.2.2.map δ)]))(hp:m1.2.2=[k0])(hk:m2.2.1≠k0):bO 4 iM [.dct (dD δ H),.tup ((m1.1::m2.1::ws).map δ),.str m1.2.1,.dct []]=.err "BadKind" [.exc "BadKind" [("word",m2.1)]]:=by
 refine(cJ rfl).trans (GJ ?_);unfold wQ;refine aN (ρ':=kw H (m1.1::m2.1::ws) m1.2.1 [m1.2.1] .uD .uD) (dC (dY (i:=4) (wA (xs:=[.str m1.2.1]) (aB rfl rfl) (bV (cy rfl)) rfl) rfl)) ?_;obtain⟨y6,e1⟩:=aOb (wa:=m1.1::m2.1::ws) (kind:=m1.2.1) (st:=[]) (x6:=.uD) h1 (by rw[hp];show 1<=3;decide) 0x4;rw[hp,eD] at e1;have e2:=aQg (wa:=m1.1::m2.1::ws) (kind:=m1.2.1) (st:=[]) (x6:=y6) h2 hk;refine oJ ?_;show(fM 1 (kw H (m1.1::m2.1::ws) m1.2.1 [m1.2.1] .uD .uD) >>= λd=>nP d >>= λxs=>o9 (noT (tg1 5)) aD2 xs _)=_;show o9 (noT (tg1 5)) aD2 (.str m1.1::.str m2.1::ws.map δ) (kw H (m1.1::m2.1::ws) m1.2.1 [m1.2.1] .uD .uD)=_;refine eO (ρ1:=kw H (m1.1::m2.1::ws) m1.2.1 [m1.2.1] (.str m1.1) .uD) rfl e1 ?_;show(noT (tg1 5) (.str m2.1) (kw H (m1.1::m2.1::ws) m1.2.1 [k0] (.str m1.1) y6) >>= _)=_;rw[show noT (tg1 5) (.str m2.1) (kw H (m1.1::m2.1::ws) m1.2.1 [k0] (.str m1.1) y6)=.ok (kw H (m1.1::m2.1::ws) m1.2.1 [k0] (.str m2.1) y6) from rfl,θ,e2];rfl
section
variable {ks:aa Str} {M:aa Mk} {T:aa Tk} {R:aa Rl} {P:aa Pi} {V:aa Ti} {r:ah}
def rmc(V:aa Ti):ag:=((fl V).filter λe=>e.1==0).length
theorem aOc(hV:V.length<=1000):bOr (bTB (b2 (cV .ne) (aM (bO 1 Z4) (aC cW aP)) cR)) (bTB (b2 (cV .ne) (b2 getD cW iT) bR)) [pgD ks M T R,ntR P V r,.uD,.uD]=.ok (!(((rmc V:ag):ah)==1)||!(r==0)):=
 aA0 (dZ (aH (x:=.int (rmc V:ag)) (y:=.int 1) (aQ (xs:=[ntR P V r]) (aB rfl rfl) (aO9 P V r hV)) rfl (ne_int _ _))) (dZ (aH (x:=.int r) (y:=.int 0) (aH (x:=ntR P V r) (y:=.int 2) rfl rfl rfl) rfl (ne_int _ _)))
theorem U3(hV:V.length<=1000)(h:rmc V≠1\/r≠0):bO 2 dF [pgD ks M T R,ntR P V r]=.err "NoValue" NV:=by
 refine(cJ rfl).trans (GJ (oJ (xX (dC ((aOc hV).trans ?_)) rfl)));rcases h with h|h
 ·rw[dS.mpr (show ¬((rmc V:ag):ah)=1 by lia)];rfl
 ·rw[dS.mpr h];cases !(((rmc V:ag):ah)==1)<;>rfl
theorem aDr(hV:V.length<=1000)(h1:rmc V=1){res:Res Fl}{g:FS}(h:g [pgD ks M T R,ntR P V 0,.uD,.uD]=res):bN (sIf (noE (bOr (bTB (b2 (cV .ne) (aM (bO 1 Z4) (aC cW aP)) cR)) (bTB (b2 (cV .ne) (b2 getD cW iT) bR)))) (zG "NoValue") vV) g [pgD ks M T R,ntR P V 0,.uD,.uD]=res:=by
 refine aN (ρ':=[pgD ks M T R,ntR P V 0,.uD,.uD]) (j6 (dC ((aOc hV).trans ?_)) rfl) h;rw[h1];rfl
theorem aOd(hV:V.length<=1000)(h1:rmc V=1)(h:bO 2 cX [pgD ks M T R,ntR P V 0]=.err "NoValue" NV):bO 2 dF [pgD ks M T R,ntR P V 0]=.err "NoValue" NV:=by
 refine(cJ rfl).trans (GJ (aDr hV h1 (oJ (aQf ?_))));exact(aDp (dC (show aC cO (aC cW aP) [pgD ks M T R,ntR P V 0,.uD,.uD]=.ok [pgD ks M T R,ntR P V 0] from aB rfl (aB rfl rfl)))).trans h
theorem aOe(hV:V.length<=1000)(h1:rmc V=1){ws:aa Str}(h:bO 2 cX [pgD ks M T R,ntR P V 0]=.ok (.tup (ws.map δ))){res:Res Fl}{g:FS}(hg:g [pgD ks M T R,ntR P V 0,.tup (ws.map δ),.uD]=res):bN (bW ai 2 (aM (bO 2 cX) (noE (aC cO (aC cW aP)))) af) g [pgD ks M T R,ntR P V 0,.uD,.uD]=res:=
 aN (ρ':=[pgD ks M T R,ntR P V 0,.tup (ws.map δ),.uD]) (bQ (i:=2) ((aDp (dC (show aC cO (aC cW aP) [pgD ks M T R,ntR P V 0,.uD,.uD]=.ok [pgD ks M T R,ntR P V 0] from aB rfl (aB rfl rfl)))).trans h)) hg
theorem aOf{ws:aa Str}:bTB (b2 (cV .ne) (aM fJ (aC d8 aP)) (aM fJ (aC (b2 getD cW bR) aP))) [pgD ks M T R,ntR P V 0,.tup (ws.map δ),.uD]=.ok (!(((ws.length:ag):ah)==((P.length:ag):ah))):=by
 have lp:fJ [.tup (P.map piD)]=.ok (.int (P.length:ag)):=by
  rw[show fJ [.tup (P.map piD)]=.ok (.int ((P.map piD).length:ag)) from rfl,az]
 exact dZ (aH (x:=.int (ws.length:ag)) (y:=.int (P.length:ag)) (aQ (xs:=[.tup (ws.map δ)]) (aB rfl rfl) (aKv _)) (aQ (xs:=[.tup (P.map piD)]) (aB (aH (x:=ntR P V 0) (y:=.int 0) rfl rfl rfl) rfl) lp) (ne_int _ _))
theorem aKg(hV:V.length<=1000)(h1:rmc V=1){ws:aa Str}(h:bO 2 cX [pgD ks M T R,ntR P V 0]=.ok (.tup (ws.map δ)))(hl:ws.length≠P.length):bO 2 dF [pgD ks M T R,ntR P V 0]=.err "NoValue" NV:=by
 refine(cJ rfl).trans (GJ (aDr hV h1 (aOe hV h1 h (oJ (xX (dC (aOf.trans ?_)) rfl)))));rw[dS.mpr (show ¬((ws.length:ag):ah)=((P.length:ag):ah) by lia)];rfl
theorem aG9{m1 m2:Mk}{k0:Str}{us ws:aa Str}(hM:M.length<=9)(hT:T.length<=3)(hTp:∀t∈T,t.2.2.2.length<=2)(hV:V.length<=1000)(h1:rmc V=1)(hws:ws=m1.1::m2.1::us)(h:bO 2 cX [pgD ks M T R,ntR P V 0]=.ok (.tup (ws.map δ)))(hl:ws.length=P.length)
 (q1:dN (hds M T) m1.1=ae (.tup [.str m1.2.1,.tup (m1.2.2.map δ)]))(q2:dN (hds M T) m2.1=ae (.tup [.str m2.2.1,.tup (m2.2.2.map δ)]))(hp:m1.2.2=[k0])(hk:m2.2.1≠k0):bO 2 dF [pgD ks M T R,ntR P V 0]=.err "NoValue" NV:=by
 refine(cJ rfl).trans (GJ (aDr hV h1 (aOe hV h1 h ?_)));have c2:=aOf (ks:=ks) (M:=M) (T:=T) (R:=R) (P:=P) (V:=V) (ws:=ws);rw[hl,fI] at c2;refine aN (ρ':=[pgD ks M T R,ntR P V 0,.tup (ws.map δ),.uD]) (j6 (dC c2) rfl) (oJ ?_);have wb:=aG8 (ws:=us) q1 q2 hp hk;rw[<-hws] at wb;have hd:=aG2 (ks:=ks) (R:=R) hM hT hTp;have g0:getD (.tup (ws.map δ)) (.int 0)=.ok (.str m1.1):=by
  rw[hws];show ξ ((ixD ((m1.1::m2.1::us).map δ).length 0).bind λj=>((m1.1::m2.1::us).map δ)[j]?)=_;have:ixD ((m1.1::m2.1::us).map δ).length 0=ae 0:=by
   unfold ixD;rw[av (lr 0),av (by rw[az,aS];lia)];rfl
  rw[this];rfl
 have a:aC dG (aC d8 (aC (b2 getD (b2 getD dG (b2 getD d8 bR)) bR) (aC (bC (.dct [])) aP))) [pgD ks M T R,ntR P V 0,.tup (ws.map δ),.dct (dD δ (hds M T))]=.ok [.dct (dD δ (hds M T)),.tup (ws.map δ),.str m1.2.1,.dct []]:=
  aB rfl (aB rfl (aB (aH (x:=.tup [.str m1.2.1,.tup (m1.2.2.map δ)]) (y:=.int 0) (aH (x:=.dct (dD δ (hds M T))) (y:=.str m1.1) rfl (aH (x:=.tup (ws.map δ)) (y:=.int 0) rfl rfl g0) (GF gQ q1)) rfl rfl) (aB rfl rfl)))
 have b:bN (noE (bW ai 3 (aM (bO 1 lY) (aC cO aP)) af)) (M8 (aM (bO 4 iM) (noE (aC dG (aC d8 (aC (b2 getD (b2 getD dG (b2 getD d8 bR)) bR) (aC (bC (.dct [])) aP))))))) [pgD ks M T R,ntR P V 0,.tup (ws.map δ),.uD]=.err "BadKind" [.exc "BadKind" [("word",m2.1)]]:=by
  refine aN (ρ':=[pgD ks M T R,ntR P V 0,.tup (ws.map δ),.dct (dD δ (hds M T))]) (dC (bQ (i:=3) (aQ (xs:=[pgD ks M T R]) (aB rfl rfl) hd))) ?_;unfold M8;rw[aDp (dC a),wb];rfl
 unfold aFn;rw[b];rfl
end
theorem aKh{s kd ca:D}{pg nt:aa D}(h:bO 2 dF [.tup pg,.tup nt]=.err "NoValue" NV):lend [s,.tup pg,kd,.tup nt,ca,.uD,.uD]=.ok (.rt (.bl af)):=by
 refine aN (ρ':=[s,.tup pg,kd,.tup nt,ca,.non,.uD]) (bQ (i:=5) rfl) ?_;refine aN (ρ':=[s,.tup pg,kd,.tup nt,ca,.exc "NoValue" [],.uD]) ?_ ?_
 ·unfold aQ2;rw[show aC cW (aC dG aP) [s,.tup pg,kd,.tup nt,ca,.non,.uD]=.ok [.tup pg,.tup nt] from aB rfl (aB rfl rfl),θ,h];rfl
 rfl
theorem yD{ks:aa Str}{R:aa Rl}{at_:ah}(p:Pg ns Ω M T)(hk:IsK ns Ω kind):∃(Y:aa Mk)(ws:aa Str),Y.map (·.1)=ws/\(∀m∈Y,m∈M)/\Ld (Wk (stk M T) (tn T)) 1 (Y.map mw)/\Y.length<=18/\Dv M [kind] ws/\bO 4 dJ [.scr (ns.map ε),.int at_,pgD ks M T R,.str kind]=.ok (.tup (ws.map δ)):=by
 have m8:=cG (drw ns 63) 8 0x4;have a1:=dH 1 (drw ns 63 % 8);have p1:=dq (drw ns 63) (show(8:ah)≠0 by decide);have p2:=dP (drw ns 63) (show(0:ah)<8 by decide);obtain⟨mo,hmo⟩:∃mo:ag,(mo:ah)=1+drw ns 63 % 8:=⟨(1+drw ns 63 % 8).toNat,by lia⟩
 rw[<-hmo] at a1;obtain⟨ws,⟨_,wd,wl⟩,ew⟩:=K4 (at_:=at_) (M:=M) (T:=[]) (K:=[]) (kind:=kind) (mo:=mo) (le:=0) p.hn p.hm p.hm3 p.hM (λ_ h=>by cases h) (cq _) (cq _) (cq _) 0x1 hk;have hd:=wd rfl rfl;have hl:=wl rfl rfl 0x1;obtain⟨Y,e1,e2,e3⟩:=aQw (λm hm=>(fx p hm).wk) hd;refine⟨Y,ws,e1.symm,e2,e3,by rw[e1,az] at hl;exact hl,hd,(cJ rfl).trans (call_v ?_)⟩;refine gV (k:=af) (d:=.tup (ws.map δ)) ?_ rfl;refine(aDp (xs:=[.scr (ns.map ε),.int at_,bkD M [],.dct (knD []),.str kind,.int (mo:ag)]) ?_).trans ew;exact aB rfl (aB rfl (aB (bI (xs:=[.tup (M.map mkD),.tup []]) (aB (aH (x:=pgD ks M T R) (y:=.int 1) rfl rfl rfl) (aB rfl rfl)) jL) (aB rfl (aB rfl (aB (aH (x:=.int 1) (y:=.int (drw ns 63 % 8)) rfl (aH (x:=.int (drw ns 63)) (y:=.int 8) (gW p.hn rfl rfl) rfl m8) a1) rfl)))))
theorem aOg(ns:aa ah)(b:ah){k:ag}(h:k<500):nm ns b k<10000000000000:=by
 unfold nm;have:=dP (drw ns (b+(k:ah))) (show(0:ah)<1000000000 by decide);lia
theorem aH7{ns:aa ah}{b:ah}:∀(X:aa Wa)(j:ag),j+X.length<=500->((pcs ns b j X).map (·.1)).Nodup/\∀x∈(pcs ns b j X).map (·.1),∃i:ag,j<=i/\i<500/\x=nm ns b i
 |[],j,_=>⟨g9,λx hx=>by cases hx⟩
 |v::X,j,hj=>by
  rw[aS] at hj;obtain⟨i1,i2⟩:=aH7 X (j+1) 0x1;rw[pcs,bu];refine⟨fE.mpr ⟨λz=>?_,i1⟩,λx hx=>?_⟩
  ·obtain⟨i,h1,h2,h3⟩:=i2 _ z;have:=X3 0x1 h2 h3;lia
  ·rcases bP.mp hx with rfl|hx
   ·exact⟨j,ba j,by lia,rfl⟩
   ·obtain⟨i,h1,h2⟩:=i2 x hx;exact⟨i,by lia,h2⟩
theorem Q6{b:ah}{V:aa Ti}(hl:X.length<=450)(h:Lay ns b X P V):(P.map (·.1)).Nodup/\(∀x∈P.map (·.1),0<x/\x<10000000000000)/\∀e∈fl V,0<=e.1/\e.1<10000000000000:=by
 obtain⟨i1,i2⟩:=aH7 (ns:=ns) (b:=b) X 0 0x1;obtain⟨_,_,al⟩:=m_ hl h;refine⟨(h.pP.map _).nodup_iff.mpr i1,λx hx=>?_,λe he=>?_⟩
 ·obtain⟨i,_,q1,q2⟩:=i2 x ((h.pP.map _).mem_iff.mp hx);rw[q2];exact⟨xF ..,aOg _ _ q1⟩
 ·rcases al e he with rfl|⟨i,q1,q2⟩
  ·exact⟨lr _,by decide⟩
  ·rw[q2];exact⟨Int.le_of_lt (xF ..),aOg _ _ q1⟩
theorem aDs{P:aa Pi}(nd:(P.map (·.1)).Nodup){q:Pi}(h:q∈P):dN (nms P) q.1=ae (.str q.2):=by
 refine sY _ _ _ _ ?_ (c6.mpr ⟨_,h,rfl⟩);rw[c5];exact nd
theorem LC{V':aa Ti}(inM:∀m∈Y,m∈M)(hl:Y.length<=450)(nd:(fl V').Nodup)(hV:∀p∈pr ns b 0 (Y.map mw) [(0,0)],p∈V'\/(p.2,p.1)∈V')(ndP:(P'.map (·.1)).Nodup)(hP:∀p∈pcs ns b 0 (Y.map mw),p∈P')(l1:P'.length<=1000)(l2:V'.length<=1000):Met ns b M Y P' V':=
 ⟨inM,hl,λp hp=>K8 nd (hV p hp),λp hp=>aDs ndP (hP p hp),l1,l2⟩
theorem GK(A B:aa Ti):fl (A++B)=fl A++fl B:=List.flatMap_append ..
theorem X8{V:aa Ti}(h:Lay ns b X P V):(∀p∈pr ns b 0 X [(0,0)],p∈V\/(p.2,p.1)∈V)/\∀p∈pcs ns b 0 X,p∈P:=by
 obtain⟨W,pV,hW⟩:=h.sw;exact⟨λp hp=>(aO8 hW p hp).imp (λq=>pV.mem_iff.mpr q) (λq=>pV.mem_iff.mpr q),λp hp=>h.pP.mem_iff.mpr hp⟩
theorem aDt:((10:ah) ^ 13)=10000000000000:=by decide
def Bs(P2:aa Pi)(V2:aa Ti):Prop:=∃x:Str,(P2=[(10000000000000,x),(10000000000001,"drop")]/\V2=[((10000000000000,0),(10000000000001,0))])\/(P2=[(10000000000000,x)]/\V2=[((10000000000000,0),(10000000000000,1))])
theorem aOh(L:aa Str):cV .eq (.tup (L.map δ)) (.tup [])=.ok (.bl L.isEmpty):=by
 have q:(ν (L.map δ)).gB aZ=af:=wC 11 L;show(if (ν (L.map δ)).gB aZ&&(ν []).gB aZ then τ (υ (yM (L.map δ) [])) else .bad)=_;rw[q];cases L<;>rfl
theorem sE{xs:aa D}{i:ag}{x:D}(h:xs[i]?=ae x):getD (.tup xs) (.int (i:ag))=.ok x:=by
 have hl:=(du.mp h).1;show ξ ((ixD xs.length (i:ag)).bind λj=>xs[j]?)=_;have:ixD xs.length (i:ag)=ae i:=by
  unfold ixD;rw[av 0x1,av 0x1]
  congr 1
 rw[this];show ξ (xs[i]?)=_;rw[h];rfl
theorem aOi{xs:aa D}{i:ag}{x:D}(h:xs[i]?=ae x):getD (.lst xs) (.int (i:ag))=.ok x:=by
 have hl:=(du.mp h).1;show ξ ((ixD xs.length (i:ag)).bind λj=>xs[j]?)=_;have:ixD xs.length (i:ag)=ae i:=by
  unfold ixD;rw[av 0x1,av 0x1]
  congr 1
 rw[this];show ξ (xs[i]?)=_;rw[h];rfl
theorem X_{e1 e2:FE}{ρ:aa D}{P':aa Pi}{V':aa Ti}(h1:e1 ρ=.ok (.tup (P'.map piD)))(h2:e2 ρ=.ok (.tup (V'.map tiD))):oM (cT (aC e1 (aC e2 (aC bR aP)))) ai ρ=.ok (.rt (ntR P' V' 0)):=
 gV (k:=ai) (d:=ntR P' V' 0) (bI (xs:=[.tup (P'.map piD),.tup (V'.map tiD),.int 0]) (aB h1 (aB h2 (aB rfl rfl))) aKt) (by rw[U0];rfl)
theorem aDu{ks:aa Str}{R:aa Rl}{V:aa Ti}(p:Pg ns Ω M T)(hP:P.length<=100)(hV:V.length<=100):∃P2 V2,Bs P2 V2/\bO 3 jF [.scr (ns.map ε),ntD P V,pgD ks M T R]=.ok (ntR (P++P2) (V++V2) 0):=by
 have hm:=p.hm;obtain⟨m0,m1,R',hMe,h0,h1⟩:=p.hM.two 0x1;have ml:=p.hM.len;have hm3:=p.hm3;have pw:=N_ 13 0x4;have m66:=cG (drw ns 66) 2 0x4;have c1:bTB (b2 (cV .eq) (b2 (bG .mod) (aM (bO 2 aK) (aC cO (aC aAw aP))) iT) cR) [.scr (ns.map ε),ntD P V,pgD ks M T R,.int 10000000000000,.uD]=.ok (drw ns 66 % 2==1):=dZ (aH (x:=.int (drw ns 66 % 2)) (y:=.int 1) (aH (x:=.int (drw ns 66)) (y:=.int 2) (gW p.hn rfl rfl) rfl m66) rfl (eq_int _ _));have fin:∀{P2:aa Pi}{V2:aa Ti},P2.length<=10->V2.length<=10->(vQ (.tup (P.map piD)) (.tup (P2.map piD))=.ok (.tup ((P++P2).map piD)))/\(vQ (.tup (V.map tiD)) (.tup (V2.map tiD))=.ok (.tup ((V++V2).map tiD))):=λ{P2 V2} l1 l2=>by
  rw[bE,bE];exact⟨h_ _ _ (by simp only[az];lia),h_ _ _ (by simp only[az];lia)⟩
 have s0:bW ai 3 (b2 (bG .pow) Y5 aEm) af [.scr (ns.map ε),ntD P V,pgD ks M T R,.uD,.uD]=.ok (.nx [.scr (ns.map ε),ntD P V,pgD ks M T R,.int 10000000000000,.uD]):=by
  refine bQ (i:=3) (d:=.int 10000000000000) (aH (x:=.int 10) (y:=.int (13:ag)) rfl rfl (pw.trans ?_));rw[show((10:ah) ^ 13)=10000000000000 from aDt]
 cases hc:(drw ns 66 % 2==1) with
 |true=>
  rw[hc] at c1;have c:=fC (iH 5 lM (bTB (b2 (cV .eq) (b2 getD lJ iT) (cT aP))) (b2 getD lJ bR) ai [.scr (ns.map ε),ntD P V,pgD ks M T R,.int 10000000000000,.uD]) mkD (λm=>m.2.2.isEmpty) (λm=>δ m.1) (λacc m=>gK (y:=.str m.1) rfl (dZ (aH (x:=.tup (m.2.2.map δ)) (y:=.tup []) (aH (x:=mkD m) (y:=.int 2) rfl rfl rfl) (bI (xs:=[]) rfl (cq _)) (aOh _))) (λ_=>⟨aH (x:=mkD m) (y:=.int 0) rfl rfl rfl,rfl⟩)) M [];rw[dy] at c;have hf:∃L:aa D,(M.filter λm=>m.2.2.isEmpty).map (λm=>δ m.1)=.str m0.1::L:=by
   rw[hMe,nE,av (by rw[h0];rfl)];exact⟨_,rfl⟩
  obtain⟨L,hL⟩:=hf;rw[hL] at c;obtain⟨f1,f2⟩:=fin (P2:=[(10000000000000,m0.1),(10000000000001,"drop")]) (V2:=[((10000000000000,0),(10000000000001,0))]) (cy rfl) (cy rfl);refine⟨_,_,⟨m0.1,.inl ⟨rfl,rfl⟩⟩,(cJ rfl).trans (call_v ?_)⟩;refine aN s0 (aD8 (xX c1 ?_));refine aN (ρ':=[.scr (ns.map ε),ntD P V,pgD ks M T R,.int 10000000000000,.str m0.1]) (dU (i:=4) (aH (x:=.lst (.str m0.1::L)) (y:=.int (0:ag)) (gJ (xs:=M.map mkD) (fD (aH (x:=pgD ks M T R) (y:=.int 1) rfl rfl rfl)) (by rw[az];exact bV 0x1) c) rfl (aOi rfl)) rfl) ?_;refine X_ (aH (x:=.tup (P.map piD)) (y:=.tup ([((10000000000000:ah),m0.1),((10000000000001:ah),("drop" : Str))].map piD)) (aH (x:=ntD P V) (y:=.int 0) rfl rfl rfl) ?_ f1) (aH (x:=.tup (V.map tiD)) (y:=.tup ([(((10000000000000:ah),(0:ah)),((10000000000001:ah),(0:ah)))].map tiD)) (aH (x:=ntD P V) (y:=.int 1) rfl rfl rfl) ?_ f2)
  ·exact bI (xs:=[piD (10000000000000,m0.1),piD (10000000000001,"drop")]) (aB (bI (xs:=[.int 10000000000000,.str m0.1]) (aB rfl (aB rfl rfl)) jL) (aB (bI (xs:=[.int 10000000000001,.str "drop"]) (aB rfl (aB rfl rfl)) jL) rfl)) jL
  ·exact bI (xs:=[tiD ((10000000000000,0),(10000000000001,0))]) (aB (bI (xs:=[enD (10000000000000,0),enD (10000000000001,0)]) (aB (bI (xs:=[.int 10000000000000,.int 0]) (aB rfl (aB rfl rfl)) jL) (aB (bI (xs:=[.int 10000000000001,.int 0]) (aB rfl (aB rfl rfl)) jL) rfl)) jL) rfl) (bV (cy rfl))
 |false=>
  rw[hc] at c1;obtain⟨f1,f2⟩:=fin (P2:=[(10000000000000,m1.1)]) (V2:=[((10000000000000,0),(10000000000000,1))]) (cy rfl) (cy rfl);refine⟨_,_,⟨m1.1,.inr ⟨rfl,rfl⟩⟩,(cJ rfl).trans (call_v ?_)⟩;refine aN s0 (aN (j6 c1 rfl) ?_);have g1:getD (.tup (M.map mkD)) (.int (1:ag))=.ok (mkD m1):=sE (by rw[hMe];rfl);refine X_ (aH (x:=.tup (P.map piD)) (y:=.tup ([((10000000000000:ah),m1.1)].map piD)) (aH (x:=ntD P V) (y:=.int 0) rfl rfl rfl) ?_ f1) (aH (x:=.tup (V.map tiD)) (y:=.tup ([(((10000000000000:ah),(0:ah)),((10000000000000:ah),(1:ah)))].map tiD)) (aH (x:=ntD P V) (y:=.int 1) rfl rfl rfl) ?_ f2)
  ·exact bI (xs:=[piD (10000000000000,m1.1)]) (aB (bI (xs:=[.int 10000000000000,.str m1.1]) (aB rfl (aB (aH (x:=mkD m1) (y:=.int 0) (aH (x:=.tup (M.map mkD)) (y:=.int (1:ag)) (aH (x:=pgD ks M T R) (y:=.int 1) rfl rfl rfl) rfl g1) rfl rfl) rfl)) jL) rfl) (bV (cy rfl))
  ·exact bI (xs:=[tiD ((10000000000000,0),(10000000000000,1))]) (aB (bI (xs:=[enD (10000000000000,0),enD (10000000000000,1)]) (aB (bI (xs:=[.int 10000000000000,.int 0]) (aB rfl (aB rfl rfl)) jL) (aB (bI (xs:=[.int 10000000000000,.int 1]) (aB rfl (aB rfl rfl)) jL) rfl)) jL) rfl) (bV (cy rfl))
theorem aDv{Y:aa Mk}(hd:Ld Q 1 (Y.map mw)):Y≠[]:=λz=>by
 subst z;cases hd
theorem LK(A B:aa Ti):rmc (A++B)=rmc A+rmc B:=by
 unfold rmc;rw[GK,D4,bp]
theorem U4{B:aa Ti}(h:∀e∈fl B,10000000000000<=e.1):rmc B=0:=by
 unfold rmc;rw[D5.mpr λe he z=>?_]
 ·rfl
 ·have:=h e he;have:e.1=0:=by simpa using z
  lia
theorem aH8{A B:aa Ti}(hA:(fl A).Nodup)(ha:∀e∈fl A,e.1<10000000000000)(hB:(fl B).Nodup)(hb:∀e∈fl B,10000000000000<=e.1):(fl (A++B)).Nodup:=by
 rw[GK,sy];refine⟨hA,hB,λx hx y hy z=>?_⟩;subst z;have:=ha x hx;have:=hb x hy;lia
theorem aOj(h:Bs P2 V2):(fl V2).Nodup/\(∀e∈fl V2,10000000000000<=e.1)/\(P2.map (·.1)).Nodup/\(∀x∈P2.map (·.1),10000000000000<=x)/\0<P2.length/\P2.length<=2/\V2.length=1:=by
 obtain⟨x,⟨rfl,rfl⟩|⟨rfl,rfl⟩⟩:=h
 ·refine⟨by decide,λe he=>?_,?_,λy hy=>?_,cy rfl,cy rfl,rfl⟩
  ·rcases bP.mp he with rfl|he
   ·exact lr _
   ·rw[d6.mp he];decide
  ·show([10000000000000,10000000000001]:aa ah).Nodup;decide
  ·have hy:y∈([10000000000000,10000000000001]:aa ah):=hy;rcases bP.mp hy with rfl|hy
   ·exact lr _
   ·rw[d6.mp hy];decide
 ·refine⟨by decide,λe he=>?_,?_,λy hy=>?_,cy rfl,cy rfl,rfl⟩
  ·rcases bP.mp he with rfl|he
   ·exact lr _
   ·rw[d6.mp he];decide
  ·show([10000000000000]:aa ah).Nodup;decide
  ·have hy:y∈([10000000000000]:aa ah):=hy;rw[d6.mp hy];decide
theorem aDw{ks:aa Str}{R:aa Rl}{V:aa Ti}{b:ah}{Y:aa Mk}{Q:Wa->Prop}(p:Pg ns Ω M T)(inM:∀m∈Y,m∈M)(hd:Ld Q 1 (Y.map mw))(hl:Y.length<=18)(ly:Lay ns b (Y.map mw) P V)(lP:P.length=(Y.map mw).length)(lV:V.length=(Y.map mw).length)(h:Bs P2 V2):bO 2 dF [pgD ks M T R,ntR (P++P2) (V++V2) 0]=.err "NoValue" NV:=by
 obtain⟨b1,b2,b3,b4,b5,b6,b7⟩:=aOj h;rw[az] at lP lV;have hx:(Y.map mw).length<=450:=by rw[az];lia
 obtain⟨n1,n2,n3⟩:=Q6 hx ly;obtain⟨e1,_,_⟩:=m_ hx ly;obtain⟨i1,i2⟩:=X8 ly;have nd:=aH8 e1 (λe he=>(n3 e he).2) b1 b2;have hV:(V++V2).length<=1000:=by rw[bp];lia
 have r1:rmc (V++V2)=1:=by
  rw[LK,U4 b2];exact BL hx (λz=>aDv hd (xD.mp z)) ly
 have met:Met ns b M Y (P++P2) (V++V2):=LC inM 0x1 nd (λq hq=>(i1 q hq).imp (i6 _) (i6 _)) (by
  rw[bE,sy];refine⟨n1,b3,λx hx y hy z=>?_⟩;subst z;have:=(n2 x hx).2;have:=b4 x hy;lia) (λq hq=>i6 _ (i2 q hq)) (by rw[bp];lia) hV
 have al:=X7 (R:=R) (ks:=ks) (r:=0) p met hd rfl;exact aKg hV r1 al (by rw[az,bp];lia)
theorem aOk{ns:aa ah}{b:ah}{z:Wa}{Z:aa Wa}:∀(X:aa Wa)(k:ag)(W:aa En){e:En}{W':aa En},wz ns b k X W=e::W'->(e,(nm ns b (k+X.length),(z.2.2:ah)))∈pr ns b k (X++z::Z) W/\(nm ns b (k+X.length),z.1)∈pcs ns b k (X++z::Z)
 |[],k,W,e,W',h=>by
  have h:W=e::W':=by cases W<;>exact h
  subst h;exact⟨bo ..,bo ..⟩
 |w::X,k,[],e,W',h=>by cases h
 |w::X,k,a::W,e,W',h=>by
  obtain⟨q1,q2⟩:=aOk (z:=z) (Z:=Z) X (k+1) (hk ns b k w.2.2 w.2.1++W) h;rw[show k+1+X.length=k+(w::X).length by rw[aS];lia] at q1 q2;exact⟨bw _ q1,bw _ q2⟩
theorem aDx{ns:aa ah}{b:ah}{Z:aa Wa}:∀(X:aa Wa)(k:ag)(W:aa En),∀p∈pr ns b k X W,p∈pr ns b k (X++Z) W
 |[],k,W,p,hp=>by cases W<;>cases hp
 |w::X,k,[],p,hp=>by cases hp
 |w::X,k,a::W,p,hp=>by
  rcases bP.mp hp with rfl|hp
  ·exact bo ..
  ·exact bw _ (aDx X (k+1) _ p hp)
theorem U5{ns:aa ah}{b:ah}{Z:aa Wa}:∀(X:aa Wa)(k:ag),∀p∈pcs ns b k X,p∈pcs ns b k (X++Z)
 |[],k,p,hp=>by cases hp
 |w::X,k,p,hp=>by
  rcases bP.mp hp with rfl|hp
  ·exact bo ..
  ·exact bw _ (U5 X (k+1) p hp)
theorem YB{ks:aa Str}{R:aa Rl}{V:aa Ti}{b:ah}{t:Tk}{Y:aa Mk}{Z:aa Wa}{Q:Wa->Prop}(p:Pg ns Ω M T)(inM:∀m∈Y,m∈M)(hd:Ld Q 1 (Y.map mw++tw t::Z))(hl:(Y.map mw++tw t::Z).length<=450)(ly:Lay ns b (Y.map mw++tw t::Z) P V)(lP:P.length<=450)(lV:V.length<=450):bO 2 dF [pgD ks M T R,ntR P V 0]=.err "NoValue" NV:=by
 obtain⟨n1,n2,n3⟩:=Q6 hl ly;obtain⟨e1,_,_⟩:=m_ hl ly;obtain⟨i1,i2⟩:=X8 ly;have r1:rmc V=1:=BL hl 0x2 ly;rw[bp,az] at hl;have q1:=aDx (ns:=ns) (b:=b) (Z:=tw t::Z) (Y.map mw) 0 [(0,0)];have q2:=U5 (ns:=ns) (b:=b) (Z:=tw t::Z) (Y.map mw) 0;have met:Met ns b M Y P V:=LC inM 0x1 e1 (λq hq=>i1 q (q1 q hq)) n1 (λq hq=>i2 q (q2 q hq)) 0x1 0x1;refine aOd 0x1 r1 (Q5 (r:=0) p met hd λe W hz=>?_);obtain⟨w1,w2⟩:=aOk (z:=tw t) (Z:=Z) (Y.map mw) 0 [(0,0)] hz;exact⟨_,_,t.1,K8 e1 (i1 _ w1),aDs n1 (i2 _ w2),.inr (show((1:ag):ah)≠0 by decide)⟩
theorem aGa{ks:aa Str}{R:aa Rl}{V:aa Ti}{b:ah}{m1 m2:Mk}{Y:aa Mk}{Q:Wa->Prop}(p:Pg ns Ω M T)(inM:∀m∈m1::m2::Y,m∈M)(hd:Ld Q 1 ((m1::m2::Y).map mw))(hl:(m1::m2::Y).length<=450)(ly:Lay ns b ((m1::m2::Y).map mw) P V)(lP:P.length=(m1::m2::Y).length)(lV:V.length<=450)(hp:m1.2.2=[k0])(hk:m2.2.1≠k0):bO 2 dF [pgD ks M T R,ntR P V 0]=.err "NoValue" NV:=by
 have hx:((m1::m2::Y).map mw).length<=450:=by rw[az];exact hl
 obtain⟨n1,n2,n3⟩:=Q6 hx ly;obtain⟨e1,_,_⟩:=m_ hx ly;obtain⟨i1,i2⟩:=X8 ly;have r1:rmc V=1:=BL hx 0x2 ly;have met:Met ns b M (m1::m2::Y) P V:=LC inM hl e1 i1 n1 i2 0x1 0x1;have al:=X7 (R:=R) (ks:=ks) (r:=0) p met hd rfl;have ml:=p.hM.len;have hm3:=p.hm3;exact aG9 0x1 p.hTl (λt ht=>(p.hT t ht).2.2.2.1) 0x1 r1 rfl al (by rw[lP,aS,aS,aS,aS,az]) (fx p (inM m1 (bo ..))).hds (fx p (inM m2 (bw _ (bo ..)))).hds hp hk
theorem aH9{Q:Wa->Prop}:∀{a c:ag}{X Z:aa Wa},Ld Q a X->Ld Q c Z->Ld Q (a+c) (X++Z):=by
 intro a c X Z h h2;induction h with
 |nil=>rw[mM];exact h2
 |@cons w n X hw _ ih=>
  rw[show n+1+c=(n+c)+1 by lia];refine .cons hw ?_;rw[<-Nat.add_assoc];exact ih
theorem aGb{ks:aa Str}{R:aa Rl}(p:Pg ns Ω M T)(hks:ks=(bz Ω.toNat).map λ(k:ag)=>wrd ns (k:ah))(h2:1<ks.length):∃P V,bO 2 kY [.scr (ns.map ε),pgD ks M T R]=.ok (ntD P V)/\bO 2 dF [pgD ks M T R,ntD P V]=.err "NoValue" NV:=by
 have hm:=p.hm;have hm3:=p.hm3;obtain⟨m0,m1,R',hMe,h0,h1⟩:=p.hM.two 0x1;obtain⟨k0,hk0⟩:=Af.mp h1;have m1M:m1∈M:=by rw[hMe];exact bw _ (bo ..)
 have kl:ks.length=Ω.toNat:=by rw[hks,az,f_]
 have g0:(ks.map δ)[0]?=ae (.str (wrd ns ((0:ag):ah))):=by
  rw[hks,c5,io,AZ 0x1];rfl
 have g1:(ks.map δ)[1]?=ae (.str (wrd ns ((1:ag):ah))):=by
  rw[hks,c5,io,AZ 0x1];rfl
 have gm:getD (.tup (M.map mkD)) (.int (1:ag))=.ok (mkD m1):=sE (by rw[hMe];rfl);obtain⟨part,hpk,hpn,hset⟩:∃part,IsK ns Ω part/\part≠k0/\sIf (bTB (b2 (cV .eq) (b2 getD (b2 getD (b2 getD (b2 getD cW cR) cR) iT) bR) d8)) (bW ai 2 (b2 getD (b2 getD cW bR) cR) ai) vV [.scr (ns.map ε),pgD ks M T R,.str (wrd ns ((0:ag):ah)),.uD]=.ok (.nx [.scr (ns.map ε),pgD ks M T R,.str part,.uD]):=by
  have c:bTB (b2 (cV .eq) (b2 getD (b2 getD (b2 getD (b2 getD cW cR) cR) iT) bR) d8) [.scr (ns.map ε),pgD ks M T R,.str (wrd ns ((0:ag):ah)),.uD]=.ok (k0==wrd ns ((0:ag):ah)):=dZ (aH (x:=.str k0) (y:=.str (wrd ns ((0:ag):ah))) (aH (x:=.tup (m1.2.2.map δ)) (y:=.int (0:ag)) (aH (x:=mkD m1) (y:=.int 2) (aH (x:=.tup (M.map mkD)) (y:=.int (1:ag)) (aH (x:=pgD ks M T R) (y:=.int 1) rfl rfl rfl) rfl gm) rfl rfl) rfl (sE (by rw[hk0];rfl))) rfl rfl);by_cases z:k0=wrd ns ((0:ag):ah)
  ·refine⟨wrd ns ((1:ag):ah),⟨1,by lia,by lia,rfl⟩,λy=>?_,?_⟩
   ·have:=KZ p.hn (i:=((1:ag):ah)) (j:=((0:ag):ah)) 0x1 0x1 0x1 0x1 (y.trans z);lia
   ·rw[z,fI] at c;exact xX c (dU (i:=2) (aH (x:=.tup (ks.map δ)) (y:=.int (1:ag)) (aH (x:=pgD ks M T R) (y:=.int 0) rfl rfl rfl) rfl (sE g1)) rfl)
  ·rw[dS.mpr z] at c;exact⟨wrd ns ((0:ag):ah),⟨0,by lia,by lia,rfl⟩,λy=>z y.symm,j6 c rfl⟩
 obtain⟨ws,⟨_,wd,wl⟩,ew⟩:=K4 (at_:=460) (M:=M) (T:=[]) (K:=[]) (kind:=part) (mo:=0) (le:=0) p.hn p.hm p.hm3 p.hM (λ_ h=>by cases h) (cq _) (cq _) (cq _) 0x1 hpk;have hd:=wd rfl rfl;have hl:=wl rfl rfl 0x1;obtain⟨Y,e1,e2,e3⟩:=aQw (λm hm=>(fx p hm).wk) hd;obtain⟨m2,m2M,us,q1,q2⟩:∃m2∈M,∃us,m2.2.1=part/\Y=m2::us:=by
  cases hd with
  |@cons m _ ws' hm hd=>
   cases Y with
   |nil=>cases e1
   |cons y Y=>
    refine⟨y,e2 y (bo ..),Y,?_,rfl⟩;have hy:=e2 y (bo ..);have en:y.1=m.1:=by have:=(A0 e1).1;exact this.symm
    have h3:=(fx p hy).hds;have h4:=(fx p hm).hds;rw[en,h4] at h3;simp only[E8,D.tup.injEq,kb,D.str.injEq] at h3;exact h3.1.symm
 subst q2;have hd3:Ld (Wk (stk M T) (tn T)) 1 ((m1::m2::us).map mw):=by
  refine .cons (fx p m1M).wk ?_;show Ld _ (m1.2.2.length+0) _;rw[h1];exact e3
 have l18:(m2::us).length<=18:=by rw[e1,az] at hl;exact hl
 obtain⟨P,V,ly,lP,lV,el⟩:=BK (b:=500) (ks:=ks) (R:=R) (X:=(m1::m2::us).map mw) (ws:=m1.1::ws) (by rw[e1,c5];rfl) p hd3 (by rw[az,aS];lia);rw[az] at lP lV;have inM:∀m∈m1::m2::us,m∈M:=λm hq=>by
  rcases bP.mp hq with rfl|hq
  ·exact m1M
  ·exact e2 m hq
 refine⟨P,V,(cJ rfl).trans (call_v ?_),aGa p inM hd3 (by rw[aS];lia) ly lP (by rw[lV,aS];lia) hk0 (by rw[q1];exact hpn)⟩;refine aN (ρ':=[.scr (ns.map ε),pgD ks M T R,.str (wrd ns ((0:ag):ah)),.uD]) (dU (i:=2) (aH (x:=.tup (ks.map δ)) (y:=.int (0:ag)) (aH (x:=pgD ks M T R) (y:=.int 0) rfl rfl rfl) rfl (sE g0)) rfl) ?_;refine aN hset ?_;refine aN (ρ':=[.scr (ns.map ε),pgD ks M T R,.str part,.tup ((m1.1::ws).map δ)]) (dU (i:=3) (aH (x:=.tup [.str m1.1]) (y:=.tup (ws.map δ)) (bI (xs:=[.str m1.1]) (aB (aH (x:=mkD m1) (y:=.int 0) (aH (x:=.tup (M.map mkD)) (y:=.int (1:ag)) (aH (x:=pgD ks M T R) (y:=.int 1) rfl rfl rfl) rfl gm) rfl rfl) rfl) (bV (cy rfl))) ?_ (h_ [.str m1.1] (ws.map δ) (by rw[az];show 1+_<=_;lia))) (by rw[μ,bH])) ?_
 ·refine(aDp (xs:=[.scr (ns.map ε),.int 460,bkD M [],.dct (knD []),.str part,.int ((0:ag):ah)]) ?_).trans ew;exact aB rfl (aB rfl (aB (bI (xs:=[.tup (M.map mkD),.tup []]) (aB (aH (x:=pgD ks M T R) (y:=.int 1) rfl rfl rfl) (aB rfl rfl)) jL) (aB rfl (aB rfl (aB rfl rfl)))))
 refine gV (k:=af) (d:=ntD P V) ?_ rfl;exact aQ (xs:=[.scr (ns.map ε),.int 500,.tup ((m1.1::ws).map δ),pgD ks M T R]) (aB rfl (aB rfl (aB rfl (aB rfl rfl)))) el
theorem aHa{ks:aa Str}{R:aa Rl}{t:Tk}(p:Pg ns Ω M T):∀(L:aa Str)(k:ag)(W:aa Str)(x4 x5:D),(∀q∈L,IsK ns Ω q)->W.length+18*L.length<=100->k+L.length<=10->
  ∃(Y:aa Mk)(y4 y5:D),(∀m∈Y,m∈M)/\Ld (Wk (stk M T) (tn T)) L.length (Y.map mw)/\Y.length<=18*L.length/\o9 (tgN [4,5]) aJq ((L.zipIdx k).map λq=>.tup [.int (q.2:ag),.str q.1]) [.scr (ns.map ε),pgD ks M T R,tkD t,.tup (W.map δ),x4,x5]=.ok (.nx [.scr (ns.map ε),pgD ks M T R,tkD t,.tup ((W++Y.map (·.1)).map δ),y4,y5])
 |[],k,W,x4,x5,_,_,_=>⟨[],x4,x5,λ_ h=>(by cases h),.nil,cq _,by rw[gx,eD];rfl⟩
 |kd::L,k,W,x4,x5,hL,hl,hk=>by
  rw[aS] at hl hk;obtain⟨Y,ws,w1,w2,w3,w4,_,w6⟩:=yD (ks:=ks) (R:=R) (at_:=420+20*(k:ag)) p (hL kd (bo ..));have wl:ws.length<=18:=by rw[<-w1,az];exact w4
  obtain⟨Y2,y4,y5,v1,v2,v3,v4⟩:=aHa (ks:=ks) (R:=R) (t:=t) p L (k+1) (W++ws) (.int (k:ag)) (.str kd) (λq hq=>hL q (bw _ hq)) (by rw[bp];lia) 0x1;refine⟨Y++Y2,y4,y5,λm hm=>(e5.mp hm).elim (w2 m) (v1 m),?_,by rw[bp,aS];lia,?_⟩
  ·rw[bE,aS,Ee];exact aH9 w3 v2
  ·have a1:=dH 420 (20*(k:ag));have mu:o6 (.int 20) (.int (k:ag))=.ok (.int (20*(k:ag))):=(aNw _ _).trans (sO 20 _ 0x4);rw[show W++(Y++Y2).map (·.1)=W++ws++Y2.map (·.1) by rw[bE,w1,ke]];refine eO (ρ1:=[.scr (ns.map ε),pgD ks M T R,tkD t,.tup (W.map δ),.int (k:ag),.str kd]) (ρ2:=[.scr (ns.map ε),pgD ks M T R,tkD t,.tup ((W++ws).map δ),.int (k:ag),.str kd]) rfl ?_ v4;have ad:=h_ (W.map δ) (ws.map δ) (by simp only[az];lia);rw[<-bE] at ad;refine dU (i:=3) (aH (x:=.tup (W.map δ)) (y:=.tup (ws.map δ)) rfl ?_ ad) (by rw[μ,bH]);exact aQ (xs:=[.scr (ns.map ε),.int (420+20*(k:ag)),pgD ks M T R,.str kd]) (aB rfl (aB (aH (x:=.int 420) (y:=.int (20*(k:ag))) rfl (aH (x:=.int 20) (y:=.int (k:ag)) rfl rfl mu) a1) (aB rfl (aB rfl rfl)))) w6
theorem aGc{ks:aa Str}{R:aa Rl}(p:Pg ns Ω M T)(h0:0<T.length):∃P V,bO 2 kW [.scr (ns.map ε),pgD ks M T R]=.ok (ntD P V)/\bO 2 dF [pgD ks M T R,ntD P V]=.err "NoValue" NV:=by
 have hm:=p.hm;have hm3:=p.hm3;obtain⟨m0,m1,R',hMe,_,h1⟩:=p.hM.two 0x1;have m1M:m1∈M:=by rw[hMe];exact bw _ (bo ..)
 have gm:getD (.tup (M.map mkD)) (.int (1:ag))=.ok (mkD m1):=sE (by rw[hMe];rfl);have md:=cG (drw ns 64) (T.length:ag) 0x1;have p1:=dq (drw ns 64) (show((T.length:ag):ah)≠0 by lia);have p2:=dP (drw ns 64) (show(0:ah)<(T.length:ag) by lia);obtain⟨i,hi⟩:∃i:ag,(i:ah)=drw ns 64 % (T.length:ag):=⟨(drw ns 64 % (T.length:ag)).toNat,by lia⟩
 have hil:i<T.length:=by lia
 rw[<-hi] at md;obtain⟨t,ht⟩:∃t,t=T[i]:=⟨_,rfl⟩
 have tT:t∈T:=by rw[ht];exact oy ..
 have gt:getD (.tup (T.map tkD)) (.int (i:ag))=.ok (tkD t):=sE (by rw[io,ff hil,ht];rfl);have tp:=p.hT t tT;obtain⟨Y,ws,w1,w2,w3,w4,_,w6⟩:=yD (ks:=ks) (R:=R) (at_:=400) p tp.2.2.1;have wl:ws.length<=18:=by rw[<-w1,az];exact w4
 obtain⟨Y2,y4,y5,v1,v2,v3,v4⟩:=aHa (ks:=ks) (R:=R) (t:=t) p t.2.2.2 0 (t.1::ws) .uD .uD tp.2.2.2.2 (by have:=tp.2.2.2.1;rw[aS];lia) (by have:=tp.2.2.2.1;lia);have l2:=tp.2.2.2.1;have hZ:Ld (Wk (stk M T) (tn T)) (t.2.2.2.length+1+0) ((Y++Y2).map mw):=by
  rw[bE,CH,Ee];exact aH9 w3 v2
 have hX:Ld (Wk (stk M T) (tn T)) 1 (tw t::(Y++Y2).map mw):=.cons (tx p tT).1 hZ;have ad:=h_ [.str t.1] (ws.map δ) (by rw[az];show 1+_<=_;lia);have m66:=cG (drw ns 66) 2 0x4;have c1:∀{x:aa D},bTB (b2 (cV .eq) (b2 (bG .mod) (aM (bO 2 aK) (aC cO (aC aAw aP))) iT) cR) [.scr (ns.map ε),pgD ks M T R,tkD t,.tup x,y4,y5]=.ok (drw ns 66 % 2==1):=dZ (aH (x:=.int (drw ns 66 % 2)) (y:=.int 1) (aH (x:=.int (drw ns 66)) (y:=.int 2) (gW p.hn rfl rfl) rfl m66) rfl (eq_int _ _));have pre:∀{g:FS}{res:Res Fl},g [.scr (ns.map ε),pgD ks M T R,tkD t,.tup ((t.1::ws++Y2.map (·.1)).map δ),y4,y5]=res->bN (bW ai 2 (b2 getD (b2 getD cW iT) (b2 (bG .mod) (aM (bO 2 aK) (aC cO (aC aI4 aP))) (aM fJ (aC (b2 getD cW iT) aP)))) ai) (bN (bW ai 3 (b2 vQ (cT (aC (b2 getD d8 bR) aP)) (aM (bO 4 dJ) (aC cO (aC aAv (aC cW (aC (b2 getD d8 iT) aP)))))) ai) (bN (G7 (PJ (b2 getD d8 uY)) (tgN [4,5]) aJq) g)) [.scr (ns.map ε),pgD ks M T R,.uD,.uD,.uD,.uD]=res:=λ{g res} hg=>by
  refine aN (ρ':=[.scr (ns.map ε),pgD ks M T R,tkD t,.uD,.uD,.uD]) (dU (i:=2) (aH (x:=.tup (T.map tkD)) (y:=.int (i:ag)) (aH (x:=pgD ks M T R) (y:=.int 2) rfl rfl rfl) (aH (x:=.int (drw ns 64)) (y:=.int (T.length:ag)) (gW p.hn rfl rfl) (aQ (xs:=[.tup (T.map tkD)]) (aB (aH (x:=pgD ks M T R) (y:=.int 2) rfl rfl rfl) rfl) (by rw[show fJ [.tup (T.map tkD)]=.ok (.int ((T.map tkD).length:ag)) from rfl,az])) md) gt) (m7 t)) ?_;refine aN (ρ':=[.scr (ns.map ε),pgD ks M T R,tkD t,.tup ((t.1::ws).map δ),.uD,.uD]) (dU (i:=3) (aH (x:=.tup [.str t.1]) (y:=.tup (ws.map δ)) (bI (xs:=[.str t.1]) (aB (aH (x:=tkD t) (y:=.int 0) rfl rfl rfl) rfl) (bV (cy rfl))) (aQ (xs:=[.scr (ns.map ε),.int 400,pgD ks M T R,.str t.2.2.1]) (aB rfl (aB rfl (aB rfl (aB (aH (x:=tkD t) (y:=.int 2) rfl rfl rfl) rfl)))) w6) ad) (by rw[μ,bH])) ?_;refine aN (wI (xs:=(t.2.2.2.zipIdx 0).map λq=>.tup [.int (q.2:ag),.str q.1]) ?_ v4) hg;have hb:b2 getD d8 uY [.scr (ns.map ε),pgD ks M T R,tkD t,.tup ((t.1::ws).map δ),.uD,.uD]=.ok (.tup (t.2.2.2.map δ)):=aH (x:=tkD t) (y:=.int 3) rfl rfl rfl;unfold PJ;rw[hb];show(if ι (t.2.2.2.map δ) then τ (BX (t.2.2.2.map δ),af) else .bad)=_;rw[bH,av rfl]
  congr 2
  unfold BX;rw[Ec,c5];rfl
 cases hc:(drw ns 66 % 2==1) with
 |true=>
  obtain⟨P,V,ly,lP,lV,el⟩:=BK (b:=500) (ks:=ks) (R:=R) (X:=[m1].map mw++tw t::(Y++Y2).map mw) (ws:=m1.1::(t.1::ws++Y2.map (·.1))) (by rw[<-w1];simp[mw,tw,zt]) p (.cons (fx p m1M).wk (by show Ld _ (m1.2.2.length+0) _;rw[h1];exact hX)) (by simp only[bp,az,aS,dQ];lia);have lx:([m1].map mw++tw t::(Y++Y2).map mw).length<=100:=by simp only[bp,az,aS,dQ];lia
  refine⟨P,V,(cJ rfl).trans (call_v (pre ?_)),YB (Y:=[m1]) (t:=t) (Z:=(Y++Y2).map mw) p (λm hq=>by rw[d6.mp hq];exact m1M) (.cons (fx p m1M).wk (by show Ld _ (m1.2.2.length+0) _;rw[h1];exact hX)) 0x1 ly 0x1 0x1⟩;have ad2:=h_ [.str m1.1] ((t.1::ws++Y2.map (·.1)).map δ) (by simp only[bp,az,aS,dQ];lia);refine aN (ρ':=[.scr (ns.map ε),pgD ks M T R,tkD t,.tup ((m1.1::(t.1::ws++Y2.map (·.1))).map δ),y4,y5]) (xX (c1.trans (by rw[hc])) (dU (i:=3) (aH (x:=.tup [.str m1.1]) (y:=.tup ((t.1::ws++Y2.map (·.1)).map δ)) (bI (xs:=[.str m1.1]) (aB (aH (x:=mkD m1) (y:=.int 0) (aH (x:=.tup (M.map mkD)) (y:=.int (1:ag)) (aH (x:=pgD ks M T R) (y:=.int 1) rfl rfl rfl) rfl gm) rfl rfl) rfl) (bV (cy rfl))) rfl ad2) (by rw[μ,bH]))) ?_;exact gV (k:=af) (d:=ntD P V) (aQ (xs:=[.scr (ns.map ε),.int 500,.tup ((m1.1::(t.1::ws++Y2.map (·.1))).map δ),pgD ks M T R]) (aB rfl (aB rfl (aB rfl (aB rfl rfl)))) el) rfl
 |false=>
  obtain⟨P,V,ly,lP,lV,el⟩:=BK (b:=500) (ks:=ks) (R:=R) (X:=tw t::(Y++Y2).map mw) (ws:=t.1::ws++Y2.map (·.1)) (by rw[<-w1];simp[mw,tw,zt]) p hX (by simp only[bp,az,aS,dQ];lia);have lx:(tw t::(Y++Y2).map mw).length<=100:=by simp only[bp,az,aS,dQ];lia
  refine⟨P,V,(cJ rfl).trans (call_v (pre ?_)),YB (Y:=[]) (t:=t) (Z:=(Y++Y2).map mw) p (λm hq=>by cases hq) hX (by rw[gx,dy];lia) ly 0x1 0x1⟩;refine aN (ρ':=[.scr (ns.map ε),pgD ks M T R,tkD t,.tup ((t.1::ws++Y2.map (·.1)).map δ),y4,y5]) (j6 (c1.trans (by rw[hc])) rfl) ?_;exact gV (k:=af) (d:=ntD P V) (aQ (xs:=[.scr (ns.map ε),.int 500,.tup ((t.1::ws++Y2.map (·.1)).map δ),pgD ks M T R]) (aB rfl (aB rfl (aB rfl (aB rfl rfl)))) el) rfl
noncomputable def sh(t:Ti):Ti:=if t.1=(0,0) then ((0,1),(t.2.1+10000000000000,t.2.2)) else ((t.1.1+10000000000000,t.1.2),(t.2.1+10000000000000,t.2.2))
theorem aQh(a b:En):cV .eq (enD a) (enD b)=.ok (.bl (ϒ (a=b))):=by
 show(if (enD a).gB aZ&&(enD b).gB aZ then τ (υ (eqD (enD a) (enD b))) else .bad)=_;rw[show((enD a).gB aZ&&(enD b).gB aZ)=af from rfl,av rfl,A_.eq]
def ss(s nt pg ws ot pc:D)(U:aa Ti)(x8 x9:D):aa D:=[s,nt,pg,ws,ot,.int 10000000000000,pc,.lst (U.map tiD),x8,x9]
theorem aOl{s nt pg ws ot pc:D}{U:aa Ti}{t:Ti}(hl:U.length<=1000):aJs (ss s nt pg ws ot pc U (enD t.1) (enD t.2))=.ok (.nx (ss s nt pg ws ot pc (U++[sh t]) (enD t.1) (enD t.2))):=by
 have c:bTB (b2 (cV .eq) yN (cT (aC bR (aC bR aP)))) (ss s nt pg ws ot pc U (enD t.1) (enD t.2))=.ok (ϒ (t.1=(0,0))):=dZ (aH (x:=enD t.1) (y:=enD (0,0)) rfl (bI (xs:=[.int 0,.int 0]) (aB rfl (aB rfl rfl)) jL) (aQh _ _));have mv:∀{i:ag}{e:En},(ss s nt pg ws ot pc U (enD t.1) (enD t.2))[i]?=ae (enD e)->cT (aC (b2 (bG .add) (b2 getD (fM i) bR) lJ) (aC (b2 getD (fM i) cR) aP)) (ss s nt pg ws ot pc U (enD t.1) (enD t.2))=.ok (enD (e.1+10000000000000,e.2)):=λ{i e} hi=>by
  have v:fM i (ss s nt pg ws ot pc U (enD t.1) (enD t.2))=.ok (enD e):=by
   unfold fM;rw[ef,hi];rfl
  exact bI (xs:=[.int (e.1+10000000000000),.int e.2]) (aB (aH (x:=.int e.1) (y:=.int 10000000000000) (aH (x:=enD e) (y:=.int 0) v rfl rfl) rfl (dH _ _)) (aB (aH (x:=enD e) (y:=.int 1) v rfl rfl) rfl)) jL
 have fin:∀{f:FE},f (ss s nt pg ws ot pc U (enD t.1) (enD t.2))=.ok (tiD (sh t))->BV 7 f (ss s nt pg ws ot pc U (enD t.1) (enD t.2))=.ok (.nx (ss s nt pg ws ot pc (U++[sh t]) (enD t.1) (enD t.2))):=λ{f} hf=>by
  refine(lW (i:=7) (xs:=U.map tiD) (d:=tiD (sh t)) hf rfl (by rw[az];exact iQ 0x1) rfl).trans ?_;unfold ss;rw[bE];rfl
 by_cases z:t.1=(0,0)
 ·rw[cb z] at c;refine xX c (fin ?_);have e:sh t=((0,1),(t.2.1+10000000000000,t.2.2)):=by unfold sh;rw[av z]
  rw[e];exact bI (xs:=[enD (0,1),enD (t.2.1+10000000000000,t.2.2)]) (aB (bI (xs:=[.int 0,.int 1]) (aB rfl (aB rfl rfl)) jL) (aB (mv (i:=9) rfl) rfl)) jL
 ·rw[c8 z] at c;refine j6 c (fin ?_);have e:sh t=((t.1.1+10000000000000,t.1.2),(t.2.1+10000000000000,t.2.2)):=by unfold sh;rw[ax z]
  rw[e];exact bI (xs:=[enD (t.1.1+10000000000000,t.1.2),enD (t.2.1+10000000000000,t.2.2)]) (aB (mv (i:=8) rfl) (aB (mv (i:=9) rfl) rfl)) jL
theorem aHb{s nt pg ws ot pc:D}:∀(L U:aa Ti)(x8 x9:D),U.length+L.length<=1000->∃y8 y9:D,o9 (tgN [8,9]) aJs (L.map tiD) (ss s nt pg ws ot pc U x8 x9)=.ok (.nx (ss s nt pg ws ot pc (U++L.map sh) y8 y9))
 |[],U,x8,x9,_=>⟨x8,x9,by rw[gx,gx,eD];rfl⟩
 |t::L,U,x8,x9,hl=>by
  rw[aS] at hl;obtain⟨y8,y9,e⟩:=aHb (s:=s) (nt:=nt) (pg:=pg) (ws:=ws) (ot:=ot) (pc:=pc) L (U++[sh t]) (enD t.1) (enD t.2) (by rw[bp];show U.length+1+_<=_;lia);refine⟨y8,y9,?_⟩;rw[bu,bu,show U++sh t::L.map sh=U++[sh t]++L.map sh by simp];exact eO (ρ1:=ss s nt pg ws ot pc U (enD t.1) (enD t.2)) rfl (aOl 0x1) e
theorem YC{A B:aa Ti}(h:A.Perm B):rmc A=rmc B:=by
 unfold rmc;exact((h.flatMap_right _).filter _).length_eq
theorem aOm{b:ah}{V:aa Ti}(hl:X.length<=450)(h0:X≠[])(h:Lay ns b X P V):rmc (V.map sh)=1:=by
 obtain⟨nd,_,al⟩:=m_ hl h;obtain⟨_,_,n3⟩:=Q6 hl h;obtain⟨W,pV,hW⟩:=h.sw;have pf:(fl V).Perm (fl W):=pV.flatMap_right _;rw[YC (pV.map sh)];have ndW:=pf.nodup_iff.mp nd;cases X with
 |nil=>exact bf rfl h0
 |cons w X=>
  rw[pr] at hW;cases hW with
  |@cons t _ U _ q hW=>
   have ht:t=((0,0),(nm ns b 0,(w.2.2:ah))):=q.elim id λz=>bf rfl z.2
   subst ht;rw[bu];have r0:rmc (U.map sh)=0:=by
    refine U4 λe he=>?_
    obtain⟨u,hu,he⟩:=xy.mp he;obtain⟨v,hv,rfl⟩:=c6.mp hu;have i1:v.1∈fl U:=xy.mpr ⟨v,hv,bo ..⟩;have i2:v.2∈fl U:=xy.mpr ⟨v,hv,bw _ (bo ..)⟩;have j1:=n3 v.1 (pf.mem_iff.mpr (bw _ (bw _ i1)));have j2:=n3 v.2 (pf.mem_iff.mpr (bw _ (bw _ i2)));have z:v.1≠(0,0):=λz=>by
     rw[oH,fE] at ndW;exact ndW.1 (bw _ (z▸i1))
    unfold sh at he;rw[ax z] at he;rcases bP.mp he with rfl|he
    ·show(10000000000000:ah)<=v.1.1+10000000000000;lia
    ·rw[d6.mp he];show(10000000000000:ah)<=v.2.1+10000000000000;lia
   have r1:rmc [sh ((0,0),(nm ns b 0,(w.2.2:ah)))]=1:=by
    unfold sh rmc fl;have:=xF ns b 0;rw[av rfl];show((([((0:ah),(1:ah)),(nm ns b 0+10000000000000,(w.2.2:ah))]:aa En)).filter λe=>e.1==0).length=1;rw[nE,av (show(((0:ah),(1:ah)).1==0)=af from rfl),nE,ax (by simp;lia)];rfl
   exact(LK [sh ((0,0),(nm ns b 0,(w.2.2:ah)))] (U.map sh)).trans (by rw[r0,r1])
theorem YD(V:aa Ti):Y7 [.tup (V.map tiD)]=.ok (.lst (V.map tiD)):=by
 unfold Y7;simp[a_ m9 V]
theorem aDy{ks:aa Str}{R:aa Rl}{V:aa Ti}{b:ah}(p:Pg ns Ω M T)(hks:ks=(bz Ω.toNat).map λ(k:ag)=>wrd ns (k:ah))(hl:X.length<=18)(h0:X≠[])(ly:Lay ns b X P V)(lP:P.length=X.length)(lV:V.length=X.length):∃P2 V2,bO 3 jD [.scr (ns.map ε),ntD P V,pgD ks M T R]=.ok (ntR P2 V2 0)/\bO 2 dF [pgD ks M T R,ntR P2 V2 0]=.err "NoValue" NV:=by
 have hm:=p.hm;have hm3:=p.hm3;have g0:(ks.map δ)[0]?=ae (.str (wrd ns ((0:ag):ah))):=by
  rw[hks,c5,io,AZ 0x1];rfl
 obtain⟨Y,ws,w1,w2,w3,w4,_,w6⟩:=yD (ks:=ks) (R:=R) (at_:=440) p (kind:=wrd ns ((0:ag):ah)) ⟨0,by lia,by lia,rfl⟩;obtain⟨P',V',ly',lP',lV',el⟩:=BK (b:=600) (ks:=ks) (R:=R) (X:=Y.map mw) (ws:=ws) (by rw[<-w1,c5];rfl) p w3 (by rw[az];lia);rw[az] at lP' lV';have pw:=N_ 13 0x4;have c:=fC (iH 10 (aKn 2) g8 (cT (aC (b2 (bG .add) mG lJ) (aC iG aP))) ai [.scr (ns.map ε),ntD P V,pgD ks M T R,.tup (ws.map δ),ntD P' V',.int 10000000000000,.uD,.uD,.uD,.uD]) piD (λ_=>af) (λq=>piD (q.1+10000000000000,q.2)) (λacc q=>oF (b:=af) (bs:=[.int q.1,.str q.2]) (y:=piD (q.1+10000000000000,q.2)) rfl rfl rfl (λ_=>⟨bI (xs:=[.int (q.1+10000000000000),.str q.2]) (aB (aH (x:=.int q.1) (y:=.int 10000000000000) rfl rfl (dH _ _)) (aB rfl rfl)) jL,rfl⟩)) P' [];rw[dy,nI.mpr (λ_ _=>rfl)] at c;obtain⟨P2,hP2⟩:∃P2:aa Pi,P2=P++P'.map λq=>(q.1+10000000000000,q.2):=⟨_,rfl⟩
 have cP:vQ (.tup (P.map piD)) (.tup (P'.map λq=>piD (q.1+10000000000000,q.2)))=.ok (.tup (P2.map piD)):=by
  rw[hP2,bE,c5];exact h_ _ _ (by simp only[az];lia)
 obtain⟨y8,y9,lp⟩:=aHb (s:=.scr (ns.map ε)) (nt:=ntD P V) (pg:=pgD ks M T R) (ws:=.tup (ws.map δ)) (ot:=ntD P' V') (pc:=.tup (P2.map piD)) V' V .uD .uD 0x1;obtain⟨V2,pV2,eV2⟩:=UV (V++V'.map sh) (by rw[bp,az];lia);have hr:rmc V2=2:=by
  rw[YC pV2,LK,aOm (by rw[az];lia) (λz=>aDv w3 (xD.mp z)) ly'];show rmc V+1=2;rw[show rmc V=1 from BL 0x1 h0 ly]
 have l2:V2.length<=1000:=by rw[pV2.length_eq,bp,az];lia
 refine⟨P2,V2,(cJ rfl).trans (call_v ?_),U3 l2 (.inl 0x1)⟩;refine aN (ρ':=[.scr (ns.map ε),ntD P V,pgD ks M T R,.tup (ws.map δ),.uD,.uD,.uD,.uD,.uD,.uD]) (bQ (i:=3) (aQ (xs:=[.scr (ns.map ε),.int 440,pgD ks M T R,.str (wrd ns ((0:ag):ah))]) (aB rfl (aB rfl (aB rfl (aB (aH (x:=.tup (ks.map δ)) (y:=.int (0:ag)) (aH (x:=pgD ks M T R) (y:=.int 0) rfl rfl rfl) rfl (sE g0)) rfl)))) w6)) ?_;refine aN (ρ':=[.scr (ns.map ε),ntD P V,pgD ks M T R,.tup (ws.map δ),ntD P' V',.uD,.uD,.uD,.uD,.uD]) (bQ (i:=4) (aQ (xs:=[.scr (ns.map ε),.int 600,.tup (ws.map δ),pgD ks M T R]) (aB rfl (aB rfl (aB rfl (aB rfl rfl)))) el)) ?_;refine aN (ρ':=[.scr (ns.map ε),ntD P V,pgD ks M T R,.tup (ws.map δ),ntD P' V',.int 10000000000000,.uD,.uD,.uD,.uD]) (bQ (i:=5) (d:=.int 10000000000000) (aH (x:=.int 10) (y:=.int (13:ag)) rfl rfl (pw.trans (by rw[show((10:ah) ^ 13)=10000000000000 from aDt])))) ?_;refine aN (ρ':=[.scr (ns.map ε),ntD P V,pgD ks M T R,.tup (ws.map δ),ntD P' V',.int 10000000000000,.tup (P2.map piD),.uD,.uD,.uD]) ?_ ?_
 ·first
  |exact bQ (i:=6) (aH (x:=.tup (P.map piD)) (y:=.tup (P'.map λq=>piD (q.1+10000000000000,q.2))) (aH (x:=ntD P V) (y:=.int 0) rfl rfl rfl) (aQ (xs:=[.lst (P'.map λq=>piD (q.1+10000000000000,q.2))]) (aB (gJ (xs:=P'.map piD) (fD (aH (x:=ntD P' V') (y:=.int 0) rfl rfl rfl)) (by rw[az];exact bV 0x1) c) rfl) rfl) cP)
  |exact dU (i:=6) (aH (x:=.tup (P.map piD)) (y:=.tup (P'.map λq=>piD (q.1+10000000000000,q.2))) (aH (x:=ntD P V) (y:=.int 0) rfl rfl rfl) (aQ (xs:=[.lst (P'.map λq=>piD (q.1+10000000000000,q.2))]) (aB (gJ (xs:=P'.map piD) (fD (aH (x:=ntD P' V') (y:=.int 0) rfl rfl rfl)) (by rw[az];exact bV 0x1) c) rfl) rfl) cP) (by rw[μ,a_ aDk])
 refine aN (ρ':=ss (.scr (ns.map ε)) (ntD P V) (pgD ks M T R) (.tup (ws.map δ)) (ntD P' V') (.tup (P2.map piD)) V .uD .uD) (dY (i:=7) (aQ (xs:=[.tup (V.map tiD)]) (aB (aH (x:=ntD P V) (y:=.int 1) rfl rfl rfl) rfl) (YD V)) (a_ m9 V)) ?_;refine aN (jM (xs:=V'.map tiD) (aH (x:=ntD P' V') (y:=.int 1) rfl rfl rfl) (a_ m9 V') lp) ?_;exact X_ (P':=P2) (V':=V2) rfl (aQ (xs:=[.lst (V2.map tiD)]) (aB (aQ (xs:=[.lst ((V++V'.map sh).map tiD)]) (aB rfl rfl) eV2) rfl) rfl)
theorem six(n d k:ag):Y0 n d (ae (k:ah))=min k n:=by
 show(if (k:ah)<0 then (max ((k:ah)+(n:ah)) 0).toNat else (min (k:ah) (n:ah)).toNat)=_;rw[ax 0x1];lia
theorem aOn{xs A B:aa D}{x:D}(hp:ι xs=af)(h:xs=A++x::B):aGu (.tup xs) aj (ae ((A.length:ag):ah))=.ok (.tup A):=by
 have hl:xs.length=A.length+(B.length+1):=by rw[h,bp,aS]
 show(if !ι xs||ϒ (Y0 xs.length 0 aj=0/\Y0 xs.length xs.length (ae ((A.length:ag):ah))=xs.length) then Res.bad else τ (ν (cutD xs aj (ae ((A.length:ag):ah)))))=_;rw[hp,c8 (by rw[six];lia),ax 0x2];unfold cutD;rw[six,show Y0 xs.length 0 aj=0 from rfl,List.drop_zero,show min A.length xs.length-0=A.length by lia,h,List.take_left]
theorem aOo{xs A B:aa D}{x:D}(hp:ι xs=af)(h:xs=A++x::B):aGu (.tup xs) (ae (((A.length+1:ag):ag):ah)) aj=.ok (.tup B):=by
 have hl:xs.length=A.length+(B.length+1):=by rw[h,bp,aS]
 show(if !ι xs||ϒ (Y0 xs.length 0 (ae ((A.length+1:ag):ah))=0/\Y0 xs.length xs.length aj=xs.length) then Res.bad else τ (ν (cutD xs (ae ((A.length+1:ag):ah)) aj)))=_;rw[hp,c8 (by rw[six];lia),ax 0x2];unfold cutD;rw[six,show Y0 xs.length xs.length aj=xs.length from rfl,show min (A.length+1) xs.length=A.length+1 by lia,show xs.drop (A.length+1)=B by rw[h,show A++x::B=(A++[x])++B by simp,List.drop_left' 0x2],List.take_of_length_le 0x1]
noncomputable def gvr(t:Ti):Ti:=if t.1.1=0\/0<t.1.2 then (t.2,t.1) else t
def fT(t:Ti):aa Ti:=[((gvr t).1,(10000000000000,0)),((gvr t).2,(10000000000000,1)),((10000000000000,2),(10000000000001,0))]
noncomputable def fP:aa Pi:=[(10000000000000,"copy"),(10000000000001,"drop")]
theorem aDz{ns:aa ah}{P:aa Pi}{V:aa Ti}(hn:ns.length<=63)(lP:P.length<=50)(lV:V.length<=50)(h0:0<V.length):∃A t B V2,V=A++t::B/\V2.Perm ((A++B)++fT t)/\bO 2 jG [.scr (ns.map ε),ntD P V]=.ok (ntR (P++fP) V2 0):=by
 have pw:=N_ 13 0x4;have md:=cG (drw ns 66) (V.length:ag) 0x1;have p1:=dq (drw ns 66) (show((V.length:ag):ah)≠0 by lia);have p2:=dP (drw ns 66) (show(0:ah)<(V.length:ag) by lia);obtain⟨i,hi⟩:∃i:ag,(i:ah)=drw ns 66 % (V.length:ag):=⟨(drw ns 66 % (V.length:ag)).toNat,by lia⟩
 have hil:i<V.length:=by lia
 rw[<-hi] at md;obtain⟨A,t,B,hV,hA⟩:∃A t B,V=A++t::B/\A.length=i:=⟨V.take i,V[i],V.drop (i+1),by rw[List.getElem_cons_drop,List.take_append_drop],by rw[vc];lia⟩
 have hl:A.length+(B.length+1)=V.length:=by rw[hV,bp,aS]
 have hm:V.map tiD=A.map tiD++tiD t::B.map tiD:=by rw[hV,bE,bu]
 obtain⟨V2,pV2,eV2⟩:=UV ((A++B)++fT t) (by rw[bp,bp];show A.length+B.length+3<64;lia);have gt:getD (.tup (V.map tiD)) (.int (i:ag))=.ok (tiD t):=sE (by rw[hm,<-hA,hI (by rw[az];exact ba _),az,Nat.sub_self];rfl);have pv:=a_ m9 V;refine⟨A,t,B,V2,hV,pV2,(cJ rfl).trans (call_v ?_)⟩;refine aN (ρ':=[.scr (ns.map ε),ntD P V,.int 10000000000000,.uD,.uD,.uD,.uD]) (bQ (i:=2) (d:=.int 10000000000000) (aH (x:=.int 10) (y:=.int (13:ag)) rfl rfl (pw.trans (by rw[show((10:ah) ^ 13)=10000000000000 from aDt])))) ?_;refine aN (ρ':=[.scr (ns.map ε),ntD P V,.int 10000000000000,.int (i:ag),.uD,.uD,.uD]) (bQ (i:=3) (aH (x:=.int (drw ns 66)) (y:=.int (V.length:ag)) (gW hn rfl rfl) (aQ (xs:=[.tup (V.map tiD)]) (aB (aH (x:=ntD P V) (y:=.int 1) rfl rfl rfl) rfl) (by rw[show fJ [.tup (V.map tiD)]=.ok (.int ((V.map tiD).length:ag)) from rfl,az])) md)) ?_;refine aN (ρ':=[.scr (ns.map ε),ntD P V,.int 10000000000000,.int (i:ag),enD t.1,enD t.2,.uD]) ?_ ?_
 ·have q:b2 getD (b2 getD cW cR) dG [.scr (ns.map ε),ntD P V,.int 10000000000000,.int (i:ag),.uD,.uD,.uD]=.ok (tiD t):=aH (x:=.tup (V.map tiD)) (y:=.int (i:ag)) (aH (x:=ntD P V) (y:=.int 1) rfl rfl rfl) rfl gt;unfold aPr;rw[q];rfl
 refine aN (ρ':=[.scr (ns.map ε),ntD P V,.int 10000000000000,.int (i:ag),enD (gvr t).1,enD (gvr t).2,.uD]) ?_ ?_
 ·have c:=aA0 (dZ (aH (ρ:=[.scr (ns.map ε),ntD P V,.int 10000000000000,.int (i:ag),enD t.1,enD t.2,.uD]) (a:=b2 getD iR bR) (b:=bC (.int 0)) (x:=.int t.1.1) (y:=.int 0) (aH (x:=enD t.1) (y:=.int 0) rfl rfl rfl) rfl (eq_int _ _))) (dZ (aH (a:=b2 getD iR cR) (b:=bC (.int 0)) (x:=.int t.1.2) (y:=.int 0) (aH (x:=enD t.1) (y:=.int 1) rfl rfl rfl) rfl (aFt _ _)));by_cases z:t.1.1=0\/0<t.1.2
  ·have e:gvr t=(t.2,t.1):=av z;have b:(t.1.1==0||ϒ (0<t.1.2))=af:=by
    rcases z with z|z
    ·rw[z];rfl
    ·rw[cb z,wj]
   rw[b] at c;rw[e];exact xX c rfl
  ·have e:gvr t=t:=ax z;have b:(t.1.1==0||ϒ (0<t.1.2))=ai:=by
    rw[dS.mpr λy=>z (.inl y),c8 λy=>z (.inr y)];rfl
   rw[b] at c;rw[e];exact j6 c rfl
 have n1:b2 getD cW cR [.scr (ns.map ε),ntD P V,.int 10000000000000,.int (i:ag),enD (gvr t).1,enD (gvr t).2,.uD]=.ok (.tup (V.map tiD)):=aH (x:=ntD P V) (y:=.int 1) rfl rfl rfl;have s1:aBv (b2 getD cW cR) G6 (G5 dG) [.scr (ns.map ε),ntD P V,.int 10000000000000,.int (i:ag),enD (gvr t).1,enD (gvr t).2,.uD]=.ok (.tup (A.map tiD)):=by
  have q:=aOn pv hm;rw[az,hA] at q;unfold aBv;rw[n1];exact q
 have s2:aBv (b2 getD cW cR) (G5 (b2 (bG .add) dG cR)) G6 [.scr (ns.map ε),ntD P V,.int 10000000000000,.int (i:ag),enD (gvr t).1,enD (gvr t).2,.uD]=.ok (.tup (B.map tiD)):=by
  have q:=aOo pv hm;rw[az,hA] at q;unfold aBv;rw[n1];exact q
 have ad:=h_ (A.map tiD) (B.map tiD) (by simp only[az];lia);rw[<-bE] at ad;refine aN (ρ':=[.scr (ns.map ε),ntD P V,.int 10000000000000,.int (i:ag),enD (gvr t).1,enD (gvr t).2,.lst ((A++B).map tiD)]) (bQ (i:=6) (aQ (xs:=[.tup ((A++B).map tiD)]) (aB (aH (x:=.tup (A.map tiD)) (y:=.tup (B.map tiD)) s1 s2 ad) rfl) (YD _))) ?_;have al:=nW ((A++B).map tiD) ((fT t).map tiD) (by rw[az,bp];show A.length+B.length+3<=lim;exact ii (iQ 0x1)) (a_ m9 _) (a_ m9 _);rw[<-bE] at al;refine aN (ρ':=[.scr (ns.map ε),ntD P V,.int 10000000000000,.int (i:ag),enD (gvr t).1,enD (gvr t).2,.lst (((A++B)++fT t).map tiD)]) (bQ (i:=6) (aH (x:=.lst ((A++B).map tiD)) (y:=.lst ((fT t).map tiD)) rfl ?_ al)) ?_
 ·refine wA (xs:=(fT t).map tiD) (aB (bI (xs:=[enD (gvr t).1,enD (10000000000000,0)]) (aB rfl (aB (bI (xs:=[.int 10000000000000,.int 0]) (aB rfl (aB rfl rfl)) jL) rfl)) jL) (aB (bI (xs:=[enD (gvr t).2,enD (10000000000000,1)]) (aB rfl (aB (bI (xs:=[.int 10000000000000,.int 1]) (aB rfl (aB rfl rfl)) jL) rfl)) jL) (aB (bI (xs:=[enD (10000000000000,2),enD (10000000000001,0)]) (aB (bI (xs:=[.int 10000000000000,.int 2]) (aB rfl (aB rfl rfl)) jL) (aB (bI (xs:=[.int 10000000000001,.int 0]) (aB rfl (aB rfl rfl)) jL) rfl)) jL) rfl))) (bV (cy rfl)) (a_ m9 _)
 have f1:=h_ (P.map piD) (fP.map piD) (by simp only[az];show P.length+2<=_;lia);rw[<-bE] at f1;refine X_ (aH (x:=.tup (P.map piD)) (y:=.tup (fP.map piD)) (aH (x:=ntD P V) (y:=.int 0) rfl rfl rfl) ?_ f1) (aQ (xs:=[.lst (V2.map tiD)]) (aB (aQ (xs:=[.lst (((A++B)++fT t).map tiD)]) (aB rfl rfl) eV2) rfl) rfl);exact bI (xs:=[piD (10000000000000,"copy"),piD (10000000000001,"drop")]) (aB (bI (xs:=[.int 10000000000000,.str "copy"]) (aB rfl (aB rfl rfl)) jL) (aB (bI (xs:=[.int 10000000000001,.str "drop"]) (aB rfl (aB rfl rfl)) jL) rfl)) jL
theorem aOp{U V:aa Ti}(h:Sw U V):∀t∈U,∃q∈V,t=q\/t=(q.2,q.1):=by
 induction h with
 |nil=>intro t ht;cases ht
 |@cons t p U V q _ ih=>
  intro u hu;rcases bP.mp hu with rfl|hu
  ·exact⟨p,bo ..,q.imp id (·.1)⟩
  ·obtain⟨r,h1,h2⟩:=ih u hu;exact⟨r,bw _ h1,h2⟩
theorem aOq{ns:aa ah}{b:ah}:∀(X:aa Wa)(k:ag)(W:aa En){q:Ti},q∈pr ns b k X W->∃X1 z X2 W',X=X1++z::X2/\wz ns b k X1 W=q.1::W'/\q.2=(nm ns b (k+X1.length),(z.2.2:ah))
 |[],k,W,q,h=>by cases W<;>cases h
 |w::X,k,[],q,h=>by cases h
 |w::X,k,a::W,q,h=>by
  rcases bP.mp h with rfl|h
  ·exact⟨[],w,X,W,rfl,rfl,rfl⟩
  ·obtain⟨X1,z,X2,W',e1,e2,e3⟩:=aOq X (k+1) _ h;exact⟨w::X1,z,X2,W',by rw[e1];rfl,e2,by rw[e3,aS,show k+1+X1.length=k+(X1.length+1) by lia]⟩
theorem aKi{ns:aa ah}{b:ah}:∀(Y:aa Mk)(k:ag)(W:aa En),(∀e∈W,e.1=0\/0<e.2)->∀q∈pr ns b k (Y.map mw) W,(q.1.1=0\/0<q.1.2)/\∃i,k<=i/\i<k+Y.length/\q.2=(nm ns b i,0)
 |[],k,W,_,q,h=>by cases W<;>cases h
 |m::Y,k,[],_,q,h=>by cases h
 |m::Y,k,a::W,hW,q,h=>by
  rcases bP.mp h with rfl|h
  ·exact⟨hW _ (bo ..),k,ba _,by rw[aS];lia,rfl⟩
  ·obtain⟨q1,i,h1,h2,h3⟩:=aKi Y (k+1) (hk ns b k 0 m.2.2.length++W) (λe he=>by
    rcases e5.mp he with he|he
    ·rw[hk0] at he;obtain⟨x,_,rfl⟩:=c6.mp he;exact .inr (show 0<(x:ah)+1 by lia)
    ·exact hW e (bw _ he)) q h
   exact⟨q1,i,by lia,by rw[aS];lia,h3⟩
noncomputable def fE2:aa Ti:=[((10000000000000,0),(10000000000000,1)),((10000000000000,2),(10000000000001,0))]
theorem U6:(fl fE2).Nodup/\∀e∈fl fE2,(10000000000000:ah)<=e.1:=by
 constructor
 ·decide
 ·decide
theorem aE0{ks:aa Str}{R:aa Rl}{V:aa Ti}{b:ah}{Y:aa Mk}{Q:Wa->Prop}{A B V2:aa Ti}{t:Ti}(p:Pg ns Ω M T)(inM:∀m∈Y,m∈M)(hd:Ld Q 1 (Y.map mw))(hl:Y.length<=18)(ly:Lay ns b (Y.map mw) P V)(lP:P.length=(Y.map mw).length)(lV:V.length=(Y.map mw).length)(hV:V=A++t::B)(pV2:V2.Perm ((A++B)++fT t)):bO 2 dF [pgD ks M T R,ntR (P++fP) V2 0]=.err "NoValue" NV:=by
 have hx:(Y.map mw).length<=450:=by rw[az];lia
 obtain⟨n1,n2,n3⟩:=Q6 hx ly;obtain⟨e1,_,_⟩:=m_ hx ly;obtain⟨i1,i2⟩:=X8 ly;have rim1:rmc V=1:=BL hx (λz=>aDv hd (xD.mp z)) ly;rw[az] at lP lV;obtain⟨W,pW,hW⟩:=ly.sw;have tV:t∈V:=by rw[hV];exact fA _ (bo ..)
 obtain⟨q,hq,htq⟩:=aOp hW t (pW.mem_iff.mp tV);obtain⟨qa,iq,_,hiq,eq2⟩:=aKi Y 0 [(0,0)] (λe he=>by rw[d6.mp he];exact .inl rfl) q hq;obtain⟨X1,z,X2,W',eX,ewz,eq3⟩:=aOq _ _ _ hq;obtain⟨Y1,Yr,eY,eY1,eYr⟩:=List.map_eq_append_iff.mp eX;cases Yr with
 |nil=>cases eYr
 |cons m Y2=>
  obtain⟨ez,eY2⟩:=A0 eYr;subst eY1 ez eY2 eY;rw[mM,az] at eq3;have hl1:Y1.length<18:=by rw[bp,aS] at hl;lia
  have np:=xF ns b Y1.length;have gv:gvr t=(q.2,q.1):=by
   rcases htq with h|h
   ·rw[h];exact av qa
   ·rw[h];refine ax λy=>?_
    rw[eq3] at y;rcases y with y|y
    ·have y:nm ns b Y1.length=0:=y;lia
    ·exact bf y (by show ¬(0:ah)<((0:ag):ah);decide)
  have fT_eq:fT t=[(q.2,(10000000000000,0)),(q.1,(10000000000000,1)),((10000000000000,2),(10000000000001,0))]:=by unfold fT;rw[gv]
  have pf:(fl V2).Perm (fl (V++fE2)):=by
   refine(pV2.flatMap_right _).trans ?_;show(fl ((A++B)++fT t)).Perm _;rw[fT_eq,hV,GK,GK,GK,GK,oH t B];have f1:fl [(q.2,((10000000000000:ah),(0:ah))),(q.1,(10000000000000,1)),((10000000000000,2),(10000000000001,0))]=[q.2,(10000000000000,0),q.1,(10000000000000,1),(10000000000000,2),(10000000000001,0)]:=rfl;have f2:fl fE2=[(10000000000000,0),(10000000000000,1),(10000000000000,2),(10000000000001,0)]:=rfl;rw[f1,f2];refine List.perm_iff_count.mpr λa=>?_
   rcases htq with h|h<;>rw[h]<;>simp only[List.count_append,List.count_cons,List.count_nil]<;>lia
  have nd:(fl V2).Nodup:=pf.nodup_iff.mpr (aH8 e1 (λe he=>(n3 e he).2) U6.1 U6.2);have r2:rmc V2=1:=by
   have:rmc V2=rmc (V++fE2):=(pf.filter _).length_eq;rw[this,LK,U4 U6.2,rim1]
  have l2:V2.length<=1000:=by
   rw[pV2.length_eq,bp,bp,fT_eq];have:V.length=A.length+(B.length+1):=by rw[hV,bp,aS]
   show A.length+B.length+3<=1000;lia
  have kp:∀u∈V,u≠t->u∈V2:=λu hu ne=>pV2.mem_iff.mpr (i6 _ (by
   rw[hV] at hu;rcases e5.mp hu with h|h
   ·exact i6 _ h
   ·rcases bP.mp h with h|h
    ·exact bf h ne
    ·exact fA _ h))
  have met:Met ns b M Y1 (P++fP) V2:=LC (λm hm=>inM m (i6 _ hm)) 0x1 nd (λr hr=>by
   obtain⟨_,j,_,hj,er⟩:=aKi Y1 0 [(0,0)] (λe he=>by rw[d6.mp he];exact .inl rfl) r hr;have hr':=aDx (Z:=mw m::Y2.map mw) (Y1.map mw) 0 [(0,0)] r hr;have z1:r.2≠q.2:=λy=>by
    rw[er,eq3] at y;have:=X3 0x1 0x1 (di wc y);lia
   have z2:r.2≠q.1:=λy=>by
    rw[<-y,er] at qa;have:=xF ns b j;rcases qa with y|y
    ·have y:nm ns b j=0:=y;lia
    ·exact bf y (by show ¬(0:ah)<0;decide)
   rcases i1 r (by rw[bE,bu];exact hr') with h|h
   ·refine .inl (kp r h λy=>?_);rcases htq with g|g
    ·exact z1 (by rw[y,g])
    ·exact z2 (by rw[y,g])
   ·refine .inr (kp _ h λy=>?_);have y1:r.2=t.1:=di wc y;rcases htq with g|g
    ·exact z2 (by rw[y1,g])
    ·exact z1 (by rw[y1,g])) (by
   rw[bE,sy];refine⟨n1,by show([10000000000000,10000000000001]:aa ah).Nodup;decide,λx hx y hy e=>?_⟩;subst e;have:=(n2 x hx).2;have hy:x∈([10000000000000,10000000000001]:aa ah):=hy;rcases bP.mp hy with rfl|hy
   ·lia
   ·rw[d6.mp hy] at this;lia) (λr hr=>i6 _ (i2 r (by rw[bE,bu];exact U5 (Z:=mw m::Y2.map mw) (Y1.map mw) 0 r hr))) (by rw[bp];show P.length+2<=1000;lia) l2
  refine aOd l2 r2 (Q5 (z:=mw m) (Z:=Y2.map mw) (r:=0) p met (by rw[bE,bu] at hd;exact hd) λe W'' hz=>?_);rw[ewz] at hz;obtain⟨ee,_⟩:=A0 hz;subst ee;refine⟨10000000000000,1,"copy",K8 nd (p:=(q.1,(10000000000000,1))) (.inl (pV2.mem_iff.mpr (fA _ (by rw[fT_eq];exact bw _ (bo ..))))),aDs (q:=(10000000000000,"copy")) ?_ (fA _ (bo ..)),.inr 0x4⟩;rw[bE,sy];refine⟨n1,by show([10000000000000,10000000000001]:aa ah).Nodup;decide,λx hx y hy e=>?_⟩;subst e;have:=(n2 x hx).2;have hy:x∈([10000000000000,10000000000001]:aa ah):=hy;rcases bP.mp hy with rfl|hy
  ·lia
  ·rw[d6.mp hy] at this;lia
theorem aE1{f g:FT}{ρ:aa D}{a b:au}(h1:f ρ=.ok a)(h2:g ρ=.ok b):Y6 f g ρ=.ok (a&&b):=by
 cases a with
 |true=>exact ZF h1 h2
 |false=>exact aF2 h1
theorem aOr{ks:aa Str}{R:aa Rl}{V:aa Ti}{Y:aa Mk}{kd:D}{c:ah}(p:Pg ns Ω M T)(hks:ks=(bz Ω.toNat).map λ(k:ag)=>wrd ns (k:ah))(inM:∀m∈Y,m∈M)(hd:Ld Q 1 (Y.map mw))(hl:Y.length<=18)(ly:Lay ns 500 (Y.map mw) P V)(lP:P.length=(Y.map mw).length)(lV:V.length=(Y.map mw).length) :
  ∃P' V' r,aQs [.scr (ns.map ε),pgD ks M T R,kd,ntD P V,.int c,.uD,.uD]=.ok (.nx [.scr (ns.map ε),pgD ks M T R,kd,ntR P' V' r,.int c,.uD,.uD])/\bO 2 dF [pgD ks M T R,ntR P' V' r]=.err "NoValue" NV:=by
 have yl:=lP;have vl:=lV;rw[az] at yl vl;have y0:0<Y.length:=List.length_pos_iff.mpr (aDv hd);have ce:∀k:ah,bTB (b2 (cV .eq) iR (bC (.int k))) [.scr (ns.map ε),pgD ks M T R,kd,ntD P V,.int c,.uD,.uD]=.ok (c==k):=λk=>dZ (aH (x:=.int c) (y:=.int k) rfl rfl (eq_int _ _))
 have lt:bTB (b2 (cV (.ord .gt)) (aM fJ (aC (b2 getD cW iT) aP)) bR) [.scr (ns.map ε),pgD ks M T R,kd,ntD P V,.int c,.uD,.uD]=.ok (ϒ ((0:ah)<(T.length:ag))):=dZ (aH (x:=.int (T.length:ag)) (y:=.int 0) (aQ (xs:=[.tup (T.map tkD)]) (aB (aH (x:=pgD ks M T R) (y:=.int 2) rfl rfl rfl) rfl) (by rw[show fJ [.tup (T.map tkD)]=.ok (.int ((T.map tkD).length:ag)) from rfl,az])) rfl (aFt _ _));have lk:bTB (b2 (cV (.ord .gt)) (aM fJ (aC (b2 getD cW bR) aP)) cR) [.scr (ns.map ε),pgD ks M T R,kd,ntD P V,.int c,.uD,.uD]=.ok (ϒ ((1:ah)<(ks.length:ag))):=dZ (aH (x:=.int (ks.length:ag)) (y:=.int 1) (aQ (xs:=[.tup (ks.map δ)]) (aB (aH (x:=pgD ks M T R) (y:=.int 0) rfl rfl rfl) rfl) (aKv _)) rfl (aFt _ _));have s2:∀{g:aa D->Res D}{nt:D},g [.scr (ns.map ε),pgD ks M T R]=.ok nt->bW ai 3 (aM g (aC cO (aC cW aP))) af [.scr (ns.map ε),pgD ks M T R,kd,ntD P V,.int c,.uD,.uD]=.ok (.nx [.scr (ns.map ε),pgD ks M T R,kd,nt,.int c,.uD,.uD]):=λh=>bQ (i:=3) (aQ (xs:=[.scr (ns.map ε),pgD ks M T R]) (aB rfl (aB rfl rfl)) h)
 have s3:∀{g:aa D->Res D}{nt:D},g [.scr (ns.map ε),ntD P V,pgD ks M T R]=.ok nt->bW ai 3 (aM g (aC cO (aC dG (aC cW aP)))) af [.scr (ns.map ε),pgD ks M T R,kd,ntD P V,.int c,.uD,.uD]=.ok (.nx [.scr (ns.map ε),pgD ks M T R,kd,nt,.int c,.uD,.uD]):=λh=>bQ (i:=3) (aQ (xs:=[.scr (ns.map ε),ntD P V,pgD ks M T R]) (aB rfl (aB rfl (aB rfl rfl))) h)
 have a1:=aE1 (ce 1) lt;by_cases z1:(c==1&&ϒ ((0:ah)<(T.length:ag)))=af
 ·rw[z1] at a1;rw[bc,dE] at z1;obtain⟨P',V',e,u⟩:=aGc (ks:=ks) (R:=R) p 0x1;exact⟨P',V',0,xX a1 (s2 e),u⟩
 rw[lu] at z1;rw[z1] at a1;cases z2:(c==2) with
 |true=>
  obtain⟨P',V',e,u⟩:=aDy (ks:=ks) (R:=R) p hks (by rw[az];exact hl) (λz=>aDv hd (xD.mp z)) ly lP lV;exact⟨P',V',0,j6 a1 (xX ((ce 2).trans (by rw[z2])) (s3 e)),u⟩
 |false=>
 cases z3:(c==3) with
 |true=>
  obtain⟨P2,V2,hB,e⟩:=aDu (ks:=ks) (R:=R) (P:=P) (V:=V) p 0x1 0x1;exact⟨P++P2,V++V2,0,j6 a1 (j6 ((ce 2).trans (by rw[z2])) (xX ((ce 3).trans (by rw[z3])) (s3 e))),aDw p inM hd hl ly lP lV hB⟩
 |false=>
 cases z4:(c==4) with
 |true=>
  obtain⟨A,t,B,V2,hV,pV2,e⟩:=aDz (ns:=ns) (P:=P) (V:=V) p.hn 0x1 0x1 0x1;refine⟨P++fP,V2,0,j6 a1 (j6 ((ce 2).trans (by rw[z2])) (j6 ((ce 3).trans (by rw[z3])) (xX ((ce 4).trans (by rw[z4])) ?_))),aE0 p inM hd hl ly lP lV hV pV2⟩;exact bQ (i:=3) (aQ (xs:=[.scr (ns.map ε),ntD P V]) (aB rfl (aB rfl rfl)) e)
 |false=>
 cases z6:(c==6) with
 |true=>
  refine⟨[],[],0,j6 a1 (j6 ((ce 2).trans (by rw[z2])) (j6 ((ce 3).trans (by rw[z3])) (j6 ((ce 4).trans (by rw[z4])) (xX ((ce 6).trans (by rw[z6])) ?_)))),U3 (cq _) (.inl 0x4)⟩;exact bQ (i:=3) (d:=ntR [] [] 0) (bI (xs:=[.tup [],.tup [],.int 0]) (aB (bI (xs:=[]) rfl (cq _)) (aB (bI (xs:=[]) rfl (cq _)) (aB rfl rfl))) aKt)
 |false=>
 have a5:=aE1 (ce 5) lk;by_cases z5:(c==5&&ϒ ((1:ah)<(ks.length:ag)))=af
 ·rw[z5] at a5;rw[bc,dE] at z5;obtain⟨P',V',e,u⟩:=aGb (ks:=ks) (R:=R) p hks 0x1;exact⟨P',V',0,j6 a1 (j6 ((ce 2).trans (by rw[z2])) (j6 ((ce 3).trans (by rw[z3])) (j6 ((ce 4).trans (by rw[z4])) (j6 ((ce 6).trans (by rw[z6])) (xX a5 (s2 e)))))),u⟩
 rw[lu] at z5;rw[z5] at a5;have pw:=N_ 9 0x4;have m65:=cG (drw ns 65) (10 ^ 9) 0x4;have ad:=dH 1 (drw ns 65 % 10 ^ 9);have p1:=dq (drw ns 65) (show((10:ah) ^ 9)≠0 by decide);refine⟨P,V,1+drw ns 65 % 10 ^ 9,j6 a1 (j6 ((ce 2).trans (by rw[z2])) (j6 ((ce 3).trans (by rw[z3])) (j6 ((ce 4).trans (by rw[z4])) (j6 ((ce 6).trans (by rw[z6])) (j6 a5 ?_))))),U3 0x1 (.inr 0x1)⟩;refine dU (i:=3) (d:=ntR P V (1+drw ns 65 % 10 ^ 9)) ?_ (U0 _ _ _);exact bI (xs:=[.tup (P.map piD),.tup (V.map tiD),.int (1+drw ns 65 % 10 ^ 9)]) (aB (aH (x:=ntD P V) (y:=.int 0) rfl rfl rfl) (aB (aH (x:=ntD P V) (y:=.int 1) rfl rfl rfl) (aB (aH (x:=.int 1) (y:=.int (drw ns 65 % 10 ^ 9)) rfl (aH (x:=.int (drw ns 65)) (y:=.int (10 ^ 9)) (gW p.hn rfl rfl) (aH (x:=.int 10) (y:=.int (9:ag)) rfl rfl pw) m65) ad) rfl))) aKt
theorem main:∀ns:aa ah,ns.length<=63->Z5 [.scr (ns.map ε)]=.ok (.bl af):=by
 intro ns hn;obtain⟨Ω,ks,M,T,R,⟨hm,hm3⟩,hM,hT,⟨hTl,hTn⟩,⟨hk1,hk2,hks⟩,ep⟩:=aA1 hn;have p:Pg ns Ω M T:=⟨hn,hm,hm3,hM,hT,hTl,hTn⟩
 have kl:((ks.length:ag):ah)=Ω:=by lia
 have m60:=cG (drw ns 60) Ω hm;have p1:=dq (drw ns 60) (show Ω≠0 by lia);have p2:=dP (drw ns 60) hm;obtain⟨i,hi⟩:∃i:ag,(i:ah)=drw ns 60 % Ω:=⟨(drw ns 60 % Ω).toNat,by lia⟩
 have hil:i<ks.length:=by lia
 rw[<-hi] at m60;have gk:getD (.tup (ks.map δ)) (.int (i:ag))=.ok (.str ks[i]):=sE (by rw[io,ff hil];rfl);obtain⟨Y,ws,w1,w2,w3,w4,_,w6⟩:=yD (ks:=ks) (R:=R) (at_:=400) p (hk1 ks[i] (oy ..));obtain⟨P,V,ly,lP,lV,el⟩:=BK (b:=500) (ks:=ks) (R:=R) (X:=Y.map mw) (ws:=ws) (by rw[<-w1,c5];rfl) p w3 (by rw[az];lia);have m62:=cG (drw ns 62) 7 0x4;obtain⟨P',V',r,eb,eu⟩:=aOr (R:=R) (kd:=.str ks[i]) (c:=drw ns 62 % 7) p hks w2 w3 w4 ly lP lV;refine call_v ?_;unfold aNp;refine aN (ρ':=[.scr (ns.map ε),pgD ks M T R,.uD,.uD,.uD,.uD,.uD]) (bQ (i:=1) (aQ (xs:=[.scr (ns.map ε)]) (aB rfl rfl) ep)) ?_;refine aN (ρ':=[.scr (ns.map ε),pgD ks M T R,.str ks[i],.uD,.uD,.uD,.uD]) (dU (i:=2) (aH (x:=.tup (ks.map δ)) (y:=.int (i:ag)) (aH (x:=pgD ks M T R) (y:=.int 0) rfl rfl rfl) (aH (x:=.int (drw ns 60)) (y:=.int Ω) (gW hn rfl rfl) (aQ (xs:=[.tup (ks.map δ)]) (aB (aH (x:=pgD ks M T R) (y:=.int 0) rfl rfl rfl) rfl) (by rw[aKv,kl])) m60) gk) rfl) ?_;refine aN (ρ':=[.scr (ns.map ε),pgD ks M T R,.str ks[i],ntD P V,.uD,.uD,.uD]) (bQ (i:=3) (aQ (xs:=[.scr (ns.map ε),.int 500,.tup (ws.map δ),pgD ks M T R]) (aB rfl (aB rfl (aB (aQ (xs:=[.scr (ns.map ε),.int 400,pgD ks M T R,.str ks[i]]) (aB rfl (aB rfl (aB rfl (aB rfl rfl)))) w6) (aB rfl rfl)))) el)) ?_;refine aN (ρ':=[.scr (ns.map ε),pgD ks M T R,.str ks[i],ntD P V,.int (drw ns 62 % 7),.uD,.uD]) (bQ (i:=4) (aH (x:=.int (drw ns 62)) (y:=.int 7) (gW hn rfl rfl) rfl m62)) ?_;refine aN eb ?_;exact aKh eu
end Lk66
section
open PySem PySem.W PyProof.Rows
namespace PySem.W.Fast
def tw9736871871891008051:=()
def tw89684147573887924:=()
def tw12637289949961227775:=()
def tw5610221485339096344:=()
def tw7718997946522540152:=()
def tw18418600806825029881:=()
def tw5453390109846510215:=()
def tw7399389269437146293:=()
def tw12398754309529840183:=()
def tw16349549673436906706:=()
def tw3581596018191835818:=()
def tw10761327573552901882:=()
def tw2796024397141707104:=()
def tw5704165410080653112:=()
def tw6178098255960489772:=()
def tw16902351174136093723:=()
def tw2189085068719281845:=()
def tw318206776606299080:=()
def tw10314227162220981489:=()
def tw675489188160057559:=()
def tw11033127032680838985:=()
def tw3783253521901270024:=()
def tw12734837354503792463:=()
def tw5060723532420901165:=()
def tw3510280726052664620:=()
def tw16518514661077085001:=()
def tw2225779395157572367:=()
def tw7422757278417259930:=()
def tw15782368878772216745:=()
def tw15571922879087719400:=()
def tw14572670469424811701:=()
def tw13020479992789516034:=()
def tw1968826343930915407:=()
def tw16127927054650518581:=()
def tw12019809881819929736:=()
def tw15607273292467846069:=()
def tw3459823253972943877:=()
def tw3015533614895764638:=()
def tw6402520158624828856:=()
def tw12329262415593160256:=()
def tw10369102145690107156:=()
def tw17514839687432661918:=()
def tw3160738799477138122:=()
def tw10716453666660598320:=()
def tw5534747535418952248:=()
def tw1317212588171533815:=()
def tw8689081168621216720:=()
def tw12585353790872006383:=()
def tw15897800573037915274:=()
def tw17441994383047183174:=()
def tw10179168182014228667:=()
def tw4738920047590349734:=()
def tw753616105602078785:=()
def tw6240973021621453675:=()
def tw12197581567336447928:=()
def tw15270042574693592689:=()
def tw4224737470949164315:=()
def tw2273702884296628937:=()
def tw492837554156817455:=()
def tw3309814814262227769:=()
def tw6887280370285528725:=()
def tw17379235951085847122:=()
def tw1590618621722930366:=()
def tw827231029459758362:=()
def tw13098290306308458159:=()
def tw6429727106252279344:=()
def tw2934512308884889387:=()
def tw5184945174528299445:=()
def tw17683094540877742896:=()
def tw3716699164259311795:=()
def tw4678373831508202550:=()
def tw17906897345162208244:=()
def tw791462310304534072:=()
def tw9322374640152870705:=()
def tw16551236285411052905:=()
def tw11120119821436450472:=()
def tw2105574103145369886:=()
def tw9467919699927249375:=()
def tw15326966056073062464:=()
def tw3994890341930497328:=()
def tw10933508785728346826:=()
def tw16292918743283329007:=()
def tw13433709224450674925:=()
def tw1870008782164138738:=()
def tw15281173990792607028:=()
def tw15127034671763814515:=()
def tw5211566709091397054:=()
def tw7066142735706362903:=()
def tw6085347311168479401:=()
def tw10701420723577457582:=()
def tw4421707544492123299:=()
def tw10921840336106882965:=()
def tw12676060681315118698:=()
def tw17304223333756581960:=()
def tw7149533039842587897:=()
def tw4674356626329698273:=()
def tw3012226135904967727:=()
def tw6008298562952499758:=()
def tw10877916361615781189:=()
def tw17531521485076437380:=()
def tw6672331603281147811:=()
def tw15692645316824444521:=()
def tw5055926815620443780:=()
def tw12754491197475584532:=()
def tw16126375504626078620:=()
def tw15016805469371456562:=()
def tw16400663963706271810:=()
def tw3984415146845952202:=()
def tw4822576460825311268:=()
def tw13141431337029598347:=()
def tw1202826795435859472:=()
def tw15380341306692597728:=()
def tw17899728935426381997:=()
def tw1350781153750439496:=()
def tw3030322539496785603:=()
def tw17973983382836956407:=()
def tw18021486543183920413:=()
def tw2207874792413057583:=()
def tw924569182597605537:=()
def tw6535331716589404522:=()
def tw13865365431409755801:=()
def tw16542723953267655237:=()
def tw13885454297796514184:=()
def tw4286214129877691887:=()
def tw12457161186955044143:=()
def tw11079587657707959652:=()
def tw17707243360791443305:=()
def tw4167471051146429808:=()
def tw1926831464149422788:=()
def tw7939866618083718627:=()
def tw4440547263130802148:=()
def tw15966682987942748397:=()
def tw7043390330355169321:=()
def tw5961101295110458830:=()
def tw15880259804705815883:=()
def tw13321480270448406124:=()
def tw17855959929106954358:=()
def tw2587819189325296658:=()
def tw10442367293534899860:=()
def tw5014715974225635957:=()
def tw8789236863815658962:=()
def tw5527635318438415851:=()
def tw14205221551266159178:=()
def tw3235635451745863157:=()
def tw16012026470567658559:=()
def tw1780035512733402590:=()
def tw996009662492907779:=()
def tw589772723649102585:=()
def tw11867413662467954579:=()
def tw13124919533050290828:=()
def tw4480226185527409791:=()
def tw16942431361961163083:=()
def tw17935613593607277755:=()
def tw10344539325182189290:=()
def tw13640640149018083056:=()
def tw8052400219662317955:=()
def tw17212673288854506806:=()
def tw14745544131145256578:=()
def tw7589785896226600277:=()
def tw7290552029818605045:=()
def tw17240342001315462382:=()
def tw16988124325847070488:=()
def tw12560754243102403765:=()
def tw4708301820912262203:=()
def tw10652295879064319175:=()
def tw10510685222185941075:=()
def tw8551469724242504436:=()
def tw3939020277974313739:=()
def tw5573752655969777156:=()
def tw6846335499067718888:=()
def tw17382569351499322897:=()
def tw16219468364699216128:=()
def tw7748172343398883105:=()
def tw1882760518795040151:=()
def tw3183916974135500732:=()
def tw6015106991029962592:=()
def tw17812833097340058497:=()
def tw10980301531000127848:=()
def tw12498816994224167993:=()
def tw780781291220551823:=()
def tw17112199107364058887:=()
def tw17323950587228814226:=()
def tw17768084099083622820:=()
def tw1365565022908634625:=()
def tw1848045368842156589:=()
def tw17093723708661284990:=()
def tw11170035271090965940:=()
def tw8548954548168143751:=()
def tw10663266994209090092:=()
def tw12483135229573499224:=()
end PySem.W.Fast
set_option maxRecDepth 100000 in
set_option maxHeartbeats 0 in
theorem PySem.Challenge.cw_hookmill_k66_no_value_holds : PySem.Challenge.rw_hookmill_k66_no_value.Holds := by
 w_on;o_law;k_head;(case hw=>w_witness2)
 k_fill
 refine Lk66.walk (l:=PySem.Challenge.rw_hookmill_k66_no_value) Lk66.main rfl rfl (fun w h Y=>PySem.W.kIn_of Y) ?F
 case F=>
  intro w mg fa h KX G hmg
  refine' Lk66.aNv KX G hmg ?a0 ?a1 ?a2 ?a3 ?a4 ?l4 ?c4 ?k4 ?t4 ?a5 ?a6 ?a7 ?a8 ?a9 ?a10 ?a11 ?a12 ?a13 ?a14 ?a15 ?a16 ?a17 ?a18 ?a19 ?a20 ?a21 ?a22 ?a23 ?a24 ?l24 ?c24 ?k24 ?qB ?qD ?qE ?qF ?qG ?qH ?qI ?qJ ?qK ?qL ?qM ?qN ?qO ?qP ?qQ ?qR ?qS ?qT ?p7 ?po ?pF ?qU ?qV ?qW ?qX ?qY ?pM ?pN ?xm1_BadKind ?qZ ?r6 ?r8 ?r9 ?rf ?rh ?ri ?rj ?rq ?rA ?rB ?rC ?rD ?rE ?rG ?rH ?rJ ?rK ?pO ?pQ ?pR ?pS ?pT ?rY ?rZ ?t5 ?t6 ?t7 ?t8 ?pU ?t9 ?rL ?pX ?pY ?pZ ?qb ?qc ?qd ?qe ?qf ?qg ?qh ?qi ?tf ?tj ?tm ?tq ?tB ?tD ?qj ?tE ?rM ?qk ?ql ?qo
  (case a0|a1|a2|a3|a5|a6|a7|a8|a9|a10|a11|a12|a13|a14|a15|a16|a17|a18|a19|a20|a21|a22|a23=>refine' Lk66.aQb ?a ?b ?c ?d;(case a=>k_is);(case b=>k_is);(case c=>k_is);case d=>k_is)
  (case a4|l4|c4|k4|t4|a24|l24|c24|k24|qB|qD|qE|qF|qG|qH|qI|qJ|qK|qL|qM|qN|qO|qP|qQ|qR|qS|qT|p7|po|pF|qU|qV|qW|qX|qY|pM|qZ|r8|r9|rf|rh|ri|rj|rq|rA|pQ|pR|pS|pT|rY|rZ|t5|t6|t7|t8|pU|t9|rL|pX|pY|pZ|qb|qc|qd|qf|qg|qh|qi|tf|tj|tm|tq|tB|tD|qj|tE|rM|qk|ql|qo=>k_is)
  (case pN=>k_exc)
  (case xm1_BadKind=>kts_exm)
  (case r6=>kts_exm)
  (case rB=>kit_is)
  (case rC=>kit_is)
  (case rD=>kit_is)
  (case rE=>kit_is)
  (case rG=>kit_is)
  (case rH=>kit_is)
  (case rJ=>kit_is)
  (case rK=>kit_is)
  (case pO=>kernel_rfl)
  (case qe=>kernel_rfl)
end
