import PyProof.Rows.All
import Wide.All
import OpenK.AllK
import Wide.FinOn
import PySem.Challenge.RW_hookmill_k15_whole_one_telling
open Array renaming length_toList->fA,toList_append->gw,getElem?_toList->kl,getD->kn,toList_inj->mI,toList_extract->oq,toList_reverse->sT,size_extract->s_,toList_push->wt,perm_iff_toList_perm->wv,getElem?_eq_none->yb,toList->zf,size_setIfInBounds->Az,toList_setIfInBounds->AA,size_map->Bk,size_append->B9,getElem?_eq_getElem->Cw
open Array.Perm renaming refl->ov
open Bool renaming true->ag,false->ai,and_eq_true->bj,false_eq_true->iv,and_true->i8,and_self->ja,not_eq_true'->jm,or_eq_true->jn,and_false->li,false_or->lm,or_false->mv,false_ne_true->nB,true_and->oP,true_or->Al,and_assoc->AF,or_true->B8
open Classical renaming byContradiction->ue,choose->Bo,choose_spec->Bp,axiomOfChoice->Ea
open Decidable renaming byContradiction->DJ
open False renaming elim->f_
open ForInStep renaming yield->wz
open Function renaming comp_def->DA,comp->DZ
open Int renaming emod_nonneg->jb,emod_lt_of_pos->kF,toNat_natCast->l5,lt_irrefl->ox,zero_add->ur,ofNat_inj->uS,mul_one->vg,le_refl->yo,mul_le_mul->C1,mul_nonneg->C3
open List renaming mem_map->aE,length_map->aS,map_cons->ba,mem_cons->bi,range->bn,mem_cons_of_mem->bo,map_map->bp,mem_cons_self->bu,map_append->bS,size_toArray->b6,length_cons->b9,mem_append->cj,length_append->cx,append_assoc->c6,map_congr_left->c_,nodup_cons->df,replicate->dg,map->dh,all_eq_true->dy,getD_eq_getElem?_getD->dz,mem_append_left->dP,mem_append_right->dS,append_nil->d4,getElem?_eq_getElem->eg,pairwise_map->eh,getElem?_eq_some_iff->ej,mem_singleton->em,cons_append->eu,nil_append->eJ,cons_lt_cons_iff->eL,length_nil->eW,getElem?_set_ne->ff,nodup_append->fm,length->fI,map_id->gj,nodup_nil->gS,flatMap_cons->hI,mem_range->hV,drop_eq_getElem_cons->ie,getElem_mem->ig,all_cons->ik,getElem?_set_self->im,getElem?_map->iE,length_singleton->iF,find?_cons->iL,take_of_length_le->iO,foldl_cons->iS,mem_flatMap->jc,getElem_map->jd,length_take->jh,map_nil->jk,lookup_cons->jo,length_range->ju,getElem?_append_right->kf,length_drop->kh,flatMap_append->kG,mem_filter->kP,getElem?_append_left->lc,any_cons->lj,take_append_drop->lx,not_lt->lI,toList_toArray->lS,getElem?_replicate->mj,lt_irrefl->mP,take_succ_eq_append_getElem->ng,not_mem_nil->np,nodup_range->nr,pairwise_append->nt,mem_of_getElem?->nI,drop_of_length_le->om,extract_eq_take_drop->ot,drop_eq_nil_of_le->oQ,range'->oS,getElem?_set->oT,filter_cons->ri,length_filter_le->rn,perm_append_comm->rL,pairwise_cons->rS,idxOf_append->rV,take_add_one->sN,getElem_of_mem->sP,zip_cons_cons->tN,take_length->ub,length_set->ud,reverse_cons->uf,getElem?_eq_none->ug,range'_succ->uq,flatten_append->ut,flatten_singleton->uv,perm_ext_iff_of_nodup->ux,mem_zipIdx_iff_getElem?->uz,filterMap_cons->ve,of_mem_zip->vk,getElem?_drop->wu,lt_of_le_of_lt->w8,lt_asymm->w_,le_antisymm->xg,forIn_nil->xh,forIn_cons->xi,range_succ_eq_map->xl,eq_nil_of_length_eq_zero->xt,map_take->xC,map_drop->xD,length_reverse->xI,getElem?_range->yk,filter_eq_self->yl,range_eq_range'->ym,take_append_of_le_length->yp,mem_flatten->yr,filter_append->yt,idxOf_cons->yu,exists_mem_of_ne_nil->yw,flatMap_map->yx,filter_congr->yy,mem_filterMap->zv,getElem?_take_of_lt->zD,length_replicate->zI,mem_of_mem_drop->Av,take_zero->Aw,pairwise_iff_getElem->Ax,zipIdx_cons->Ay,getElem?_append->AB,drop_drop->AC,zip_nil_left->Bb,zip_nil_right->Bc,countP_mono_left->Bq,countP_cons->Br,map_fst_zip->Bz,foldl_append->BI,mem_range'_1->B1,ext_getElem->B6,dropLast_eq_take->Ca,ext_getElem?->Cc,mem_map_of_mem->Cq,set_set->CL,mem_erase_of_ne->C0,flatMap_nil->C4,range_succ->C5,all_nil->C6,foldl_nil->C7,perm_middle->C8,count_cons->Da,filter_sublist->Dc,flatMap_singleton->Df,zipIdx_map_fst->Dh,zipIdx_map->Di,getElem_idxOf->Dj,idxOf_lt_length_of_mem->Dk,perm_cons_erase->Dm
open List.Nodup renaming erase_eq_filter->Dl,count->D8
open List.Pairwise renaming map->yn,imp₂->Dg,nil->Dy
open List.Perm renaming append_left->l7,cons->C9,append_right->Dd,eq_of_pairwise->Dz,of_eq->D6,refl->D7,trans->Eb
open List.Sublist renaming refl->D9
open List.cons renaming injEq->iu
open Nat renaming le_refl->bd,ne_of_lt->de,le_trans->dj,lt_of_lt_of_le->eC,zero_le->eI,lt_irrefl->fT,lt_succ_of_lt->iw,le_succ->i0,le_of_lt->jy,ne_of_gt->jz,lt_succ_self->kr,not_lt->oj,lt_or_ge->oy,le_of_ble_eq_true->rh,le_of_eq->sL,lt_of_not_le->sQ,add_assoc->tf,lt_of_le_of_lt->wo,add_sub_cancel_left->wx,le_succ_of_le->Bl,zero_add->BB,add_zero->B0
open Nat.succ renaming inj->xB
open Option renaming some->ae,none->aj,map_eq_some_iff->nS,getD_some->tq,isSome_iff_exists->vn,isSome_some->wj,isSome_map->wl,getD_none->Af,map_some->Au,bind_some->B7
open Option.some renaming inj->di,injEq->D5
open Or renaming inl->iN
open PUnit renaming unit->CM
open Prod renaming snd->nu,fst->oI
open PyProof.Rows renaming arrOf->ay,Keyed->aI,wpS_bind->bb,wpS_pure->bh,pendingOf->bX,wpS->cK,SortSt->cS,seqObj->e8,wpS_mono->gh,wpS_forRange->gi,failedOf->gv,pairsOf->gN,SortKind->hG,envOfC->io,wpS_get->iP,AllBare->jx,wpS_lift->lu,callWith_type1->l9,IsTup->nw,IntsAre->nX,wpS_modify->oh,setPending->ou,tuples'->oD,subscriptTail->sA,wpS_reverse->ti,bubble->tj,slot_tuple_getitem->wa,keyKind'->xn,sortedHeap->xo,listUpdate_at->xp,seqEpoch_at->xq,slicePart_none->zS,subscriptTail_builtinR->Ad,keyLt'_oneType->Bu,oneLt_int->Bw,oneLt_str->Bx,pairsOf_size->BA,callWith_builtin1->Do,lt_int->DD,le_int->DE,gt_int->DF,ge_int->DH,lt_str->DI,oneLt'_eq->DL,lt'_eq->DM,pairsOf_toList->DO,mem_zip_self->DS,collect_list->DT,size_push'->DU,boot_enumerate->D3
open PyProof.Rows.SortSt renaming mk'->og
open PySem renaming Value->ak,Addr->am,Shared->au,model->av,wpAny_bind->aw,wpAny_pure->bf,sizeLine->bg,Heap->bm,Stmt->bq,World->br,cLine->bw,Obj->bP,Program->cb,Around->cu,eval->cw,Pos->c9,compareOp->dq,starEach->dw,argBest->dL,Env->eD,bootBuiltins->eM,Sem->eP,sizeLine_eq->eS,mainGlobals->e9,foldedSetIterable->fg,swapsWith->fq,wpAny_mono->fu,binaryOp->fE,Tok->fN,sysModules->fS,Scope->gp,pyNext->gr,wpAny_newObj_type->gu,plainId_quiet->gL,pyIter->gX,FuncData->hX,wpAny_holding->ic,codeAny_builtin->ii,rawInt->iz,NameKind->iA,relabel->iX,wpAny_updateSeq->i9,wpAny_truthy_bool->jg,attributeBase->ji,wpAny_tryCatch->jq,updateSeq->jr,wpAny_letGo->jt,tupleKind->jv,backTo->jw,wpAny_Call_Name_kw->jI,bindL->jS,bindC->ke,IsPart->kg,call_meets->kj,atKey->km,wpAny_rule->ko,CmpOp->kt,richCompare_meets_room->kx,wpAny_seqItems->kz,Paired->kM,assign->kQ,assignEach->kX,PassesOwn->k8,wpAny_passesOwn->k9,rule->la,Result->lb,getItem->lf,sliceBounds->lg,typeOf->lh,callerA->lp,Meets->lP,wpAny_pyIter_list->lT,behindInMarks->ma,BindsTo->mf,codeAny_mono->mh,mem_of_lookup->mi,typeLookup->mr,valueAt->mw,stored->mz,tupleKind_room_in1->mB,Model->mE,compPost->mM,richCompare->mN,seqItems?->mS,wpAny_of_eq->mT,typeLookup_type->ni,builtinLookup_eq_fast->nj,spliced->ny,data2->nK,wpAny_call_entry->nL,DictEntry->oe,collect->oB,IsEnum->rf,Str->rX,Keyword->se,isTrue->sg,wpAny_execs_nil->si,letOwnedTupleGo->sj,unaryOp->so,wpAny_typeOf->sy,subscripted->sB,merged->sD,call_meetsIn->sF,Builtin->sM,call_function_tree->t9,wpAny_pyIter_tuple->uc,GenState->uh,Drawn->ui,OsState->uj,wpAny_typeNameOfWhole_keyiter->ul,wpAny_fieldsOf->um,wpAny_typeNameOf_keyiter->uo,builtinsNs->vd,wpAny_Name->vf,holding->vh,cellsFrom->vm,concat_meets->vp,noFill_tuple_add->vw,seq_tuple_add->vx,wpAny_field->vT,wpAny_callSpecial?_slot->v3,operate->wb,PlainAttrs->we,call->wm,newList->xk,wpAny_attempt->xu,wpAny_specialOf->xv,newTuple->xA,entryFor->xE,getAttr?->xS,wpAny_dictEntries->yd,wpAny_dictEpoch->ye,wpAny_isOneOf_keyiter->yf,wpAny_ite_split->yj,Within->za,keywordEach->zb,wpAny_Constant_int->zc,wpAny_execs_cons->zg,interactive->zh,swapsWithSole->zi,swappedStores->zj,wpAny_pyNext_list_item->zk,wpAny_pyNext_list_end->zl,wpAny_pyNext_tuple_item->zm,wpAny_pyNext_tuple_end->zn,IsRangeIter->zo,rangeSize_one->zt,call_range_1->zu,intBits_le_64->zw,recursionLimit->zz,evalPart_none->Ab,seqIndex_of->Ac,slot_list_getitem->Ae,call_list_seq->Ag,wpAny_Assign_Subscript->An,comprehension->AD,eval_ListComp->AE,wpAny_newList->Bi,wpAny_standAt->B3,entryFor_alias->Cd,wpAny_raiseAttrError->Ce,attrMsg_fits->Cf,sub_AttributeError->Ci,getattributeRaised->Cj,wpAny_dictSet_pairs->Cm,callType_codes->Co,wpAny_notOrdered_dict->Cp,wpAny_setField->Cy,firstArgMember->CB,wpAny_isInstance->CC,codeAny_call_builtin->CH,wpAny_pyIter_enum->CI,isSubtype_type->CY,wpAny->ϑ
open Decidable renaming decide->ϒ
open PySem.Around renaming under_plainId->il
open PySem.AutoSeq1 renaming wpAny_loadPart'->yg,sub_list_list->Bf,list_extend_list_list_0->Dw,sub_tuple_tuple->DB,list_insert_list_int_val_1->DV
open PySem.Builtin.Builtins renaming bindParams->ua
open PySem.Builtin.Dict renaming addKeywords->D0,dictSlotNone->D1,showsAll->D2
open PySem.Builtin.Dict_items renaming ownsTuple->Ct
open PySem.Builtin.List renaming listTooLong->nN,listExtendWith->qV,listLengthHint->yi,listFitsIndex->B5,listItems->CO,listSameRef->CS,listUpdate->D4
open PySem.Builtin.Range renaming rangeSize->zr
open PySem.Builtin.Slice renaming slicePlaces->sx,sliceAdjust->vS,sliceApplied->Aa,slicePartIndex->Dp,sliceFields->Dq
open PySem.Builtin.Tuple renaming tupleItemsOf->Dr,tupleCompareSizes->DC
open PySem.Calls renaming spliced_nil->su,spliced_cons->sv,Name_function_global->zd,callWith_builtin->Ah
open PySem.Code renaming quiet_builtin->yc,call->CF
open PySem.Data renaming seq->yY,fields->zp,cell->zq
open PySem.F renaming plain_min_loop->ky,plain_max_loop->kA,plainAttrs_list->nh,slot_dict_get->nV,slot_dict_keyiterator_next->qS,slot_list_extend->sC,entry_dict_get->sK,slot_tuple_add->vz,entry_tuple_add->vE,args_tuple_add_2->vF,slot_list_append->wg,slot_list_lt->xm,entry_min_loop->xw,entry_max_loop->xy,slot_list_getattribute->xL,slot_tuple_getattribute->ya,called_enumerate->yh,entry_list_extend->Ai,args_list_extend_2->Aj,slot_list_pop->Ak,args_dict_get_2->Ap,args_dict_get_3->Aq,entry_list_lt->Bg,args_list_lt_2->Bh,kind_min->BC,plain_min->BD,entry_min->BE,kind_max->BF,plain_max->BG,entry_max->BH,type_list_append->B2,slot_list_insert->B4,type_list_extend->Cb,slot_dict_iter->Cr,entry_dict_keyiterator_next->Cu,args_dict_keyiterator_next_1->Cv,plain_list_iadd->CD,plain_extend_loop->CU
open PySem.Heap renaming lt_size->bE,get?_push_of_some->cg,get?_push_size->dt,size_push->ix,get?_update_other->ki,get?_update_self->kC,SameBut->l8,size_update->xr,get?_push_ne->Bj,get?_update_ne->Bn,NewAttrErr->Cg,ExtBut->Ck
open PySem.Heap.DictOf renaming new->Ao
open PySem.Heap.IsSliceOf renaming new->Dt
open PySem.Heap.SameBut renaming update->CA
open PySem.IsL renaming update->Du
open PySem.IsiPair renaming dict_int->BN,dict_str->BO,dict_bool->BQ,dict_list->BS,dict_tuple->BU,dict_dict->BY
open PySem.MeetsSeq renaming list_pop_last->Dx
open PySem.MeetsSeq3 renaming plain_eq_loop->tP,entry_eq_loop->Be
open PySem.NameKind renaming free->kq,cell->xj
open PySem.Obj renaming mapSeq->fx,data_mapFields->Cz
open PySem.Paired renaming length->kN,snoc->Am
open PySem.PassesOwn renaming never->du
open PySem.SeqAt renaming RcAt->i6,RcNeAt->i7
open PySem.SeqAt.EqAt renaming of_refs->oz,same->tu,int_str->yB,str_int->yT,none_list->AI,bool_list->AL,int_list->AO,str_list->AS,tuple_list->AV,list_none->AY,list_bool->A1,list_int->A4,list_str->A7,list_tuple->Ba
open PySem.SeqAt.RcAt renaming lists->tx,lists_lengths->tI,none_list->AG,bool_list->AJ,int_list->AM,str_list->AQ,tuple_list->AT,list_none->AW,list_bool->AZ,list_int->A2,list_str->A5,list_tuple->A8
open PySem.SeqAt.RcNeAt renaming lists->tF,lists_lengths->tJ,none_list->AH,bool_list->AK,int_list->AN,str_list->AR,tuple_list->AU,list_none->AX,list_bool->A0,list_int->A3,list_str->A6,list_tuple->A9
open PySem.Value renaming ref->fR,type->jf,none->kK,bool->r_,int->u7,str->va,isInt->yz,isStrOf->yA,notImplemented->Bd
open PySem.W renaming Frag->cm,fnOf->mo,keepIn->nE,nsIn->tm,Looks->tT,kat_kind->t5,methodObj->vb,codeIn->vo,cellsFrom_some->zC
open PySem.W.Looks renaming of_pure->t0,ld->By
open PySem.W.WData renaming int->Ar
open PySem.W.WShape renaming has->As
open PySem.Walks renaming tuple->BM
open Sum renaming inl->fy,inr->kH
open _root_ renaming List->aa,Int->af,Nat->ah,if_pos->ao,if_neg->ap,Bool->aq,Array->ax,Option->az,absurd->aT,decide_eq_true->bz,decide_eq_false->cy,congrArg->cz,False->c8,of_decide_eq_true->d6,String->en,decide_eq_true_eq->eB,if_true->eT,DecidableEq->fF,if_false->gd,not_or->gz,True->ij,StateT->iq,beq_iff_eq->ir,beq_eq_false_iff_ne->je,Unit->jl,Decidable->lq,decide_eq_decide->lr,dif_pos->lw,decide_eq_false_iff_not->ly,beq_self_eq_true->ow,dif_neg->uy,ForInStep->wy,or_assoc->yq,bne_self_eq_false->Bm,decide_false->De
set_option Elab.async false
set_option maxRecDepth 100000
set_option maxHeartbeats 4000000
noncomputable section
local macro_rules|`(0x0)=>`(by trivial)|`(0x1)=>`(by lia)|`(0x2)=>`(by simp)|`(0x3)=>`(by rfl)|`(0x4)=>`(by decide)|`(0x5)=>`(by with_unfolding_all rfl)|`(0x6)=>`(by decide +kernel)|`(0x7)=>`(by intro z;cases z)|`(0x8)=>`(by kernel_rfl)|`(0x9)=>`(by refine⟨rfl,?_,?_,?_,?_,?_,?_⟩<;>decide +kernel)|`(0xa)=>`(by refine⟨rfl,rfl,rfl,?_,rfl,?_,?_⟩<;>decide +kernel)
set_option linter.all false
set_option autoImplicit true
set_option genSizeOfSpec false
set_option genInjectivity true
abbrev nDb(x:rX):Prop:= (x==("__debug__" : rX))=ai
abbrev nCd(x:rX):Prop:= (x==("__classdict__" : rX))=ai
namespace L2
open PySem PySem.Spec PyProof.Rows
noncomputable abbrev Key:=Sum af Str
noncomputable def VF:Key->ak->aq
 |.inl k,v=>yz k v
 |.inr x,v=>yA x v
noncomputable def aUx(w:br):Key->af
 |.inl k=>hashInt k
 |.inr x=>hashStr w x
theorem eG:∀{k:Key}{v:ak},VF k v=ag->(∃i t,k=fy i/\v=u7 i t)\/(∃x t,k=kH x/\v=va x t)
 |.inl i,v,h=>by
  obtain⟨t,e⟩:=Value.isInt_shape h;exact .inl ⟨i,t,rfl,e⟩
 |.inr x,v,h=>by
  obtain⟨t,e⟩:=Value.isStrOf_shape h;exact .inr ⟨x,t,rfl,e⟩
theorem aCw(i:af)(t:fN):VF (.inl i) (.int i t)=ag:=by simp[VF,yz]
theorem aCx(x:Str)(t:fN):VF (.inr x) (.str x t)=ag:=by simp[VF,yA]
theorem aOy(a b:af):ϒ ((fy a:Key)=fy b)=(a==b):=by
 by_cases e:a=b
 .subst e;simp
 .have h:¬(fy a:Key)=fy b:=λq=>e (Sum.inl.inj q)
  rw[cy h];exact(je.mpr e).symm
theorem aOz(a b:Str):ϒ ((kH a:Key)=kH b)=ϒ (a=b):=by
 by_cases e:a=b
 .subst e;simp
 .have h:¬(kH a:Key)=kH b:=λq=>e (Sum.inr.inj q)
  rw[cy h,cy e]
theorem aP0(a:af)(b:Str):ϒ ((fy a:Key)=kH b)=ai:=cy (λq=>nomatch q)
theorem aP1(a:Str)(b:af):ϒ ((kH a:Key)=fy b)=ai:=cy (λq=>nomatch q)
def dJ(prog:cb)(w:br):PySem.KeyKind prog w Key where
 is:=VF
 hash:=aUx w
 inj:=λv a b ha hb=>by
  rcases eG ha with ⟨i,t,rfl,rfl⟩|⟨x,t,rfl,rfl⟩
  .rcases eG hb with ⟨j,u,rfl,e⟩|⟨y,u,rfl,e⟩
   .injection e with e1 _;rw[e1]
   .exact nomatch e
  .rcases eG hb with ⟨j,u,rfl,e⟩|⟨y,u,rfl,e⟩
   .exact nomatch e
   .injection e with e1 _;rw[e1]
 byValue:=λk v h=>by
  rcases eG h with ⟨i,t,rfl,rfl⟩|⟨x,t,rfl,rfl⟩<;>rfl
 pyHash:=λhv h=>by
  rcases eG hv with ⟨i,t,rfl,rfl⟩|⟨x,t,rfl,rfl⟩
  .exact wpAny_pyHash_int h
  .exact wpAny_pyHash_str h
 eqBool:=λhu hv h=>by
  rcases eG hu with ⟨i,t,rfl,rfl⟩|⟨x,t,rfl,rfl⟩
  .rcases eG hv with ⟨j,u,rfl,rfl⟩|⟨y,u,rfl,rfl⟩
   .rw[aOy] at h;exact wpAny_eqBool_int h
   .rw[aP0] at h;exact yB i t y u _ _ _ _ h
  .rcases eG hv with ⟨j,u,rfl,rfl⟩|⟨y,u,rfl,rfl⟩
   .rw[aP1] at h;exact yT x t j u _ _ _ _ h
   .rw[aOz] at h;exact wpAny_eqBool_str h
 «strs»:=λk x t v h=>by
  rcases eG h with ⟨i,u,rfl,e⟩|⟨y,u,rfl,e⟩
  .exact nomatch e
  .injection e with e1 _
   subst e1;cases v<;>rfl
theorem VG(prog:cb)(w:br)(i:af)(t:fN):(dJ prog w).is (.inl i) (.int i t)=ag:=aCw i t
theorem VH(prog:cb)(w:br)(x:Str)(t:fN):(dJ prog w).is (.inr x) (.str x t)=ag:=aCx x t
inductive V where
 |non|bl (b:aq)|int (i:af)|str (x:Str)|byt (b:ax UInt8)|flt (b:UInt64)|ref (a:am)|ty (n:en)
 deriving fF
def RelV:V->ak->Prop
 |.non,u=>u=kK
 |.bl b,u=>u=r_ b
 |.int i,u=>∃t,u=u7 i t
 |.str x,u=>∃t,u=va x t
 |.byt b,u=>∃t,u=Value.bytes b t
 |.flt b,u=>∃t,u=Value.float b t
 |.ref a,u=>u=fR a
 |.ty n,u=>u=jf n
abbrev Vals:aa V->aa ak->Prop:=kM RelV
theorem Vals.length(r:Vals xs us):xs.length=us.length:=kN r
theorem Vals.get:∀{xs:aa V}{us:aa ak}{i:ah}{x:V},Vals xs us->xs[i]?=ae x->∃u,us[i]?=ae u/\RelV x u
 |_,_,_,_,.nil,e=>by simp at e
 |_,_,0,_,.cons r _,e=>by simp at e;subst e;exact⟨_,rfl,r⟩
 |_,_,i+1,x,.cons _ t,e=>by
  obtain⟨u,h1,h2⟩:=Vals.get t (by simpa using e);exact⟨u,by simpa using h1,h2⟩
theorem Vals.append:∀{xs ys:aa V}{us ws:aa ak},Vals xs us->Vals ys ws->Vals (xs++ys) (us++ws)
 |_,_,_,_,.nil,s=>s
 |_,_,_,_,.cons r t,s=>.cons r (Vals.append t s)
theorem Vals.take:∀{xs:aa V}{us:aa ak}(n:ah),Vals xs us->Vals (xs.take n) (us.take n)
 |_,_,0,_=>.nil
 |_,_,_+1,.nil=>.nil
 |_,_,n+1,.cons r t=>.cons r (Vals.take n t)
theorem Vals.drop:∀{xs:aa V}{us:aa ak}(n:ah),Vals xs us->Vals (xs.drop n) (us.drop n)
 |_,_,0,r=>r
 |_,_,_+1,.nil=>.nil
 |_,_,n+1,.cons _ t=>Vals.drop n t
def aCn:az V->az ak->Prop
 |some v,ae u=>RelV v u
 |none,aj=>ij
 |_,_=>c8
def KV{κ:Type}:aa (κ×V)->aa (κ×ak)->Prop:=kM λ(p:κ×V)(q:κ×ak)=>p.1=q.1/\RelV p.2 q.2
noncomputable def kV:Key->V
 |.inl i=>.int i
 |.inr x=>.str x
inductive HO where
 |lst (xs:aa V)
 |tup (xs:aa V)
 |dK (kvs:aa (Key×V))|dT (kvs:aa (aa Key×V))
 |set (S:af->aq) (n:ah)
 |ins (C dx:am) (fs:aa (Str×V))
 |own (x:am)
 |xd (fs:aa (Str×V))
 |met (f x:am)
 |rng (lo hi:af)
 |frz (o:bP) (u:HO)
 |tbl (ps:ax ak)
 |ext (φ:bm->Prop)
noncomputable abbrev Hp:=am->az HO
noncomputable def upd(H:Hp)(a:am)(o:HO):Hp:=λb=>if b=a then ae o else H b
theorem aM:upd H a o a=ae o:=by unfold upd;rw[ao rfl]
theorem bB(h:b≠a):upd H a o b=H b:=by unfold upd;rw[ap h]
theorem zK:upd (upd H a o) a u=upd H a u:=by
 funext b;unfold upd;split<;>rfl
theorem aHb{H:Hp}(h:H a=ae o)(h':H b=ae u)(d:o≠u):a≠b:=by
 intro e;subst e;rw[h] at h';exact d (di h')
theorem eY{H:Hp}(h:H a=ae o)(h':H b=aj):a≠b:=by
 intro e;subst e;rw[h] at h';cases h'
def mZ(h:bm)(a:am)(its:ax ak):Prop:=∃o,h.get? a=ae o/\o.cls=.type "tuple"/\∃n,(o.data,o.dict)=(yY its n,aj)
theorem mZ.tup{h:bm}{a:am}{its:ax ak}(t:mZ h a its):nw h a its:=let ⟨o,e,c,n,d⟩:=t;⟨o,e,c,n,cz (·.1) d⟩
theorem mZ.bare(t:mZ h a its):∃o,h.get? a=ae o/\o.dict=aj:=let ⟨o,e,_,_,d⟩:=t;⟨o,e,cz (·.2) d⟩
theorem mZ.new(h:bm)(items:ax ak):mZ (h.push {cls:=.type "tuple",data:=.seq items}) h.objs.size items:=⟨_,dt _ rfl,rfl,_,rfl⟩
section
variable (P:cb) (w:br)
def mY(H:Hp)(h:bm)(a:am):HO->Prop
 |.lst xs=>xs.length<=bg/\∃(its:aa ak)(n:ah),Vals xs its/\h.get? a=ae {cls:=.type "list",data:=.seq its.toArray n}
 |.tup xs=>xs.length<=bg/\∃its:aa ak,Vals xs its/\mZ h a its.toArray
 |.dK kvs=>kvs.length<=bg/\(a==fS)=ai/\∃vs,KV kvs vs/\h.DictOf (dJ P w) a vs
 |.dT kvs=>kvs.length<=bg/\(a==fS)=ai/\∃xs:aa (aa Key×am×ak),
   kM (λ(p:aa Key×V)(q:aa Key×am×ak)=>p.1=q.1/\H q.2.1=ae (.tup (p.1.map kV))/\RelV p.2 q.2.2) kvs xs/\
   ∃o es ep,h.get? a=ae o/\o.ExactDict/\o.data=.dict es ep/\es.toList=xs.map (entryOfKey (jv (dJ P w)))/\(xs.map (·.1)).Nodup
 |.set S n=>h.SetOf (intKind P w) a S n
 |.ins C dx fs=>H dx=ae (.own a)/\fs.length<=1000/\dx≠a/\h.get? a=ae (PySem.W.instObj C dx)/\
   ∃mA,h.Ns1 dx mA/\(∀f,aCn (fs.lookup f) (mA f))/\za mA (fs.map (·.1))
 |.own _=>∃o,h.get? a=ae o
 |.xd fs=>∃mA,h.Ns1 a mA/\∀f,aCn (fs.lookup f) (mA f)
 |.rng lo hi=>∃t u v,h.get? a=ae {cls:=.type "range",data:=.fields #[.int lo t,.int hi u,.int 1 v]}
 |.frz o u=>h.get? a=ae o/\mY H h a u
 |.tbl ps=>h.get? a=ae {cls:=.none,data:=.fields ps}
 |.met f x=>h.get? a=ae (vb (.ref f) (.ref x))
 |.ext φ=>φ h/\(∃o,h.get? a=ae o)/\∀h1 h2:bm,φ h1->(∀o,h1.get? a=ae o->h2.get? a=ae o)->φ h2
def HOk(H:Hp)(h:bm):Prop:=∀a o,H a=ae o->mY P w H h a o
end
section
variable {a:am}
theorem mY.lt(x:mY P w H h a o):a<h.objs.size:=by
 cases o with
 |lst xs=>obtain⟨_,_,_,_,e⟩:=x;exact bE e
 |tup xs=>obtain⟨_,_,_,p⟩:=x;exact p.tup.lt
 |dK kvs=>obtain⟨_,_,_,_,o,_,_,e,_⟩:=x;exact bE e
 |dT kvs=>obtain⟨_,_,_,_,o,_,_,e,_⟩:=x;exact bE e
 |set S n=>obtain⟨o,_,_,_,e,_⟩:=x;exact bE e
 |ins C dx fs=>obtain⟨_,_,_,e,_⟩:=x;exact bE e
 |own y=>obtain⟨_,e⟩:=x;exact bE e
 |xd fs=>obtain⟨_,⟨_,_,_,e,_⟩,_⟩:=x;exact bE e
 |rng lo hi=>obtain⟨_,_,_,e⟩:=x;exact bE e
 |frz ob u=>obtain⟨e,_⟩:=x;exact bE e
 |tbl ps=>exact bE (show h.get? a=ae _ from x)
 |met f y=>exact bE (show h.get? a=ae _ from x)
 |ext φ=>obtain⟨_,⟨_,e⟩,_⟩:=x;exact bE e
theorem Paired.aSy:∀{l₁:aa α}{l₂:aa β},kM F l₁ l₂->(∀a b,F a b->G a b)->kM G l₁ l₂
 |_,_,.nil,_=>.nil
 |_,_,.cons r t,f=>.cons (f _ _ r) (Paired.aSy t f)
theorem mY.stay(x:mY P w H h a o)(k:∀b u,(b=a\/H b=ae (.own a))->h.get? b=ae u->h'.get? b=ae u)
 (ho:∀b,H b=ae (.own a)->H' b=ae (.own a))(ht:∀b xs,H b=ae (.tup xs)->H' b=ae (.tup xs)):mY P w H' h' a o:=by
 induction o with
 |lst xs=>obtain⟨z,its,n,r,e⟩:=x;exact⟨z,its,n,r,k _ _ (.inl rfl) e⟩
 |tup xs=>obtain⟨z,its,r,ob,e,c⟩:=x;exact⟨z,its,r,ob,k _ _ (.inl rfl) e,c⟩
 |dK kvs=>obtain⟨z,y,vs,r,ob,es,ep,e,c⟩:=x;exact⟨z,y,vs,r,ob,es,ep,k _ _ (.inl rfl) e,c⟩
 |dT kvs=>
  obtain⟨z,y,xs,r,ob,es,ep,e,c⟩:=x;exact⟨z,y,xs,Paired.aSy r λp q z=>⟨z.1,ht _ _ z.2.1,z.2.2⟩,ob,es,ep,k _ _ (.inl rfl) e,c⟩
 |set S n=>obtain⟨ob,es,ep,t,e,c⟩:=x;exact⟨ob,es,ep,t,k _ _ (.inl rfl) e,c⟩
 |ins C dx fs=>
  obtain⟨d,z,ne,e,mA,⟨od,es,ep,e2,c⟩,r⟩:=x;exact⟨ho _ d,z,ne,k _ _ (.inl rfl) e,mA,⟨od,es,ep,k _ _ (.inr d) e2,c⟩,r⟩
 |own y=>obtain⟨ob,e⟩:=x;exact⟨ob,k _ _ (.inl rfl) e⟩
 |xd fs=>obtain⟨mA,⟨od,es,ep,e,c⟩,r⟩:=x;exact⟨mA,⟨od,es,ep,k _ _ (.inl rfl) e,c⟩,r⟩
 |rng lo hi=>obtain⟨t,u,v,e⟩:=x;exact⟨t,u,v,k _ _ (.inl rfl) e⟩
 |frz ob u ih=>obtain⟨e,q⟩:=x;exact⟨k _ _ (.inl rfl) e,ih q⟩
 |tbl ps=>
  have e:h.get? a=ae {cls:=.none,data:=.fields ps}:=x;show h'.get? a=ae {cls:=.none,data:=.fields ps};exact k a _ (.inl rfl) e
 |met f y=>
  have e:h.get? a=ae (vb (.ref f) (.ref y)):=x;show h'.get? a=ae (vb (.ref f) (.ref y));exact k a _ (.inl rfl) e
 |ext φ=>obtain⟨p,⟨o,e⟩,st⟩:=x;exact⟨st _ _ p λo q=>k _ _ (.inl rfl) q,⟨o,k _ _ (.inl rfl) e⟩,st⟩
theorem HOk.lt(x:HOk P w H h)(e:H a=ae o):a<h.objs.size:=(x a o e).lt
theorem HOk.fresh(x:HOk P w H h)(e:h.objs.size<=a):H a=aj:=by
 cases q:H a with
 |none=>rfl
 |some u=>exact aT (eC (x.lt q) e) (fT _)
theorem HOk.kept(x:HOk P w H h)(k:∀b u,h.get? b=ae u->h'.get? b=ae u):HOk P w H h':=λa o e=>
 (x a o e).stay (λb u _ q=>k b u q) (λ_ q=>q) λ_ _ q=>q
theorem HOk.laid(x:HOk P w H h)(k:∀b u,h.get? b=ae u->h'.get? b=ae u)(hp:h.objs.size<=a)(new:mY P w (upd H a o) h' a o):HOk P w (upd H a o) h':=λb u e=>by
 have hn:=x.fresh hp;by_cases hb:b=a
 .subst hb;rw[aM] at e;cases e;exact new
 .rw[bB hb] at e;exact(x b u e).stay (λc v _ q=>k c v q) (λc q=>by rw[bB (eY q hn)];exact q) λc xs q=>by rw[bB (eY q hn)];exact q
end
def Rd(H:Hp)(a:am)(u:HO):Prop:=H a=ae u\/∃o,H a=ae (.frz o u)
theorem Rd.ok(r:Rd H a u)(x:HOk P w H h):mY P w H h a u:=by
 rcases r with r|⟨o,r⟩
 .exact x a u r
 .obtain⟨_,q⟩:=x a _ r;exact q
def Mut:az HO->Prop
 |some (.lst _)=>ij
 |some (.dK _)=>ij
 |some (.dT _)=>ij
 |some (.set _ _)=>ij
 |some (.ins _ _ _)=>ij
 |some (.ext _)=>ij
 |_=>c8
section
variable {x e:am}
theorem HOk.write(ok:HOk P w H h)(mu:Mut (H x))(he:e=x\/H e=ae (.own x))(k:∀b u,b≠e->h.get? b=ae u->h'.get? b=ae u)(heo:∃u,h'.get? e=ae u)
 (new:mY P w (upd H x o') h' x o'):HOk P w (upd H x o') h':=λb u q=>by
 have nown:∀c y,H c=ae (.own y)->c≠x:=λc y r z=>by subst z;rw[r] at mu;exact mu
 have ntup:∀c xs,H c=ae (.tup xs)->c≠x:=λc xs r z=>by subst z;rw[r] at mu;exact mu
 by_cases hb:b=x
 .subst hb;rw[aM] at q;cases q;exact new
 .rw[bB hb] at q;by_cases hbe:b=e
  .have q':H b=ae (.own x):=by
    rcases he with z|z
    .exact aT (hbe.trans z) hb
    .rw[hbe];exact z
   rw[q] at q';cases q';obtain⟨v,hv⟩:=heo;exact⟨v,by rw[hbe];exact hv⟩
  .refine(ok b u q).stay (λc v hc r=>k c v ?_ r) (λc r=>by rw[bB (nown c b r)];exact r) λc xs r=>by rw[bB (ntup c xs r)];exact r
   rcases hc with rfl|hc
   .exact hbe
   .rintro rfl;rcases he with z|z
    .exact nown c b hc z
    .rw[hc] at z;cases z;exact hb rfl
end
structure Un(fs ex:aa am)(H H':Hp)(h h':bm):Prop where
 keep:∀b o,h.get? b=ae o->H b=aj->b∉fs->b∉ex->h'.get? b=ae o
 slot:∀b o,h.get? b=ae o->H b=aj->b∈fs->b∉ex->∃sl,h'.get? b=ae {o with slots:=sl}
 free:∀b o,h.get? b=ae o->H b=aj->b∉ex->H' b=aj
 there:∀b o,h.get? b=ae o->b∉ex->∃o',h'.get? b=ae o'
 tups:∀b xs,H b=ae (.tup xs)->H' b=ae (.tup xs)
 frzs:∀b o u,H b=ae (.frz o u)->H' b=ae (.frz o u)
 tbls:∀b ps,H b=ae (.tbl ps)->∃more,H' b=ae (.tbl (ps++more))
section
theorem Un.any(u:Un fs ex H H1 h h1)(q:h.get? b=ae ob)(n:H b=aj)(hx:b∉ex):∃sl,h1.get? b=ae {ob with slots:=sl}:=by
 by_cases hb:b∈fs
 .exact u.slot b ob q n hb hx
 .exact⟨ob.slots,u.keep b ob q n hb hx⟩
theorem Un.kept(k:∀b u,h.get? b=ae u->h'.get? b=ae u):Un fs ex H H h h':=
 ⟨λb ob q _ _ _=>k b ob q,λb ob q _ _ _=>⟨ob.slots,k b ob q⟩,λ_ _ _ n _=>n,λb ob q _=>⟨ob,k b ob q⟩,λ_ _ q=>q,λ_ _ _ q=>q,λ_ ps q=>⟨#[],by rw[q];simp⟩⟩
theorem Un.refl:Un fs ex H H h h:=Un.kept λ_ _ q=>q
theorem Un.laid(k:∀b u,h.get? b=ae u->h'.get? b=ae u)(hp:h.objs.size<=a)(hn:H a=aj):Un fs ex H (upd H a o) h h' where
 keep:=λb u q _ _ _=>k b u q
 slot:=λb u q _ _ _=>⟨u.slots,k b u q⟩
 free:=λb u q n _=>by rw[bB (de (eC (bE q) hp))];exact n
 there:=λb u q _=>⟨u,k b u q⟩
 tups:=λb xs q=>by rw[bB (eY q hn)];exact q
 frzs:=λb u xs q=>by rw[bB (eY q hn)];exact q
 tbls:=λb ps q=>⟨#[],by rw[bB (eY q hn),q];simp⟩
theorem Un.write(mu:Mut (H x))(he:e=x\/H e=ae (.own x))(k:∀b u,b≠e->h.get? b=ae u->h'.get? b=ae u)(heo:∃u,h'.get? e=ae u):Un fs ex H (upd H x o) h h':=by
 have hx:∀b,H b=aj->b≠x:=λb n z=>by subst z;rw[n] at mu;exact mu
 have hb:∀b,H b=aj->b≠e:=λb n z=>by
  subst z;rcases he with r|r
  .exact hx b n r
  .rw[n] at r;cases r
 have hm:∀b u,H b=ae u->¬Mut (ae u)->b≠x:=λb u q nm z=>by subst z;rw[q] at mu;exact nm mu
 refine⟨λb u q n _ _=>k b u (hb b n) q,λb u q n _ _=>⟨u.slots,k b u (hb b n) q⟩,λb u q n _=>by rw[bB (hx b n)];exact n,λb u q _=>?_,
  λb xs q=>by rw[bB (hm b _ q λz=>z)];exact q,λb u xs q=>by rw[bB (hm b _ q λz=>z)];exact q,λb ps q=>⟨#[],by rw[bB (hm b _ q λz=>z),q];simp⟩⟩
 by_cases hbe:b=e
 .subst hbe;exact heo
 .exact⟨u,k b u hbe q⟩
end
noncomputable def trk(h:bm)(H:Hp):aa am:=(bn h.objs.size).filter λa=>(H a).isSome
def aHc(h:bm)(H:Hp):bm:=PySem.W.hideAll h (trk h H)
theorem aCy(h:bm)(H:Hp):(aHc h H).objs.size=h.objs.size:=PySem.W.hideAll_size _ _
theorem aHd(e:h.get? b=ae o)(n:H b=aj):(aHc h H).get? b=ae o:=
 PySem.W.hideAll_get _ e λhm=>by
  have q:(H b).isSome=ag:=(kP.mp hm).2;rw[n] at q;simp at q
theorem aL3(e:(aHc h H).get? b=ae o):h.get? b=ae o/\H b=aj:=by
 have e':h.get? b=ae o:=PySem.W.of_hideAll (trk h H) e;refine⟨e',?_⟩;cases q:H b with
 |none=>rfl
 |some x=>
  have hm:b∈trk h H:=kP.mpr ⟨hV.mpr (bE e'),by simp[q]⟩;have z:(aHc h H).get? b=aj:=PySem.W.hideAll_none (trk h H) hm;rw[z] at e;cases e
structure Mod(K:cm)(mg:Str->az ak)(base:bm):Prop where
 kin:K.In base
 glob:base.Ns e9 mg
 blt:∃mb,base.Ns vd mb/\∀x:Str,x ≠ "__name__"->mb x=eM x
 nolimit:base.NoLimit
/-- the context: a def's body (or a comprehension's block) running. base: fixed through the whole law;s₀,H₀: the entry;outer: the frames whose slots others may change (a def's callers);stack: all frames that run;
   ex: iterators that were made ahead of the entry and are walked here (a comprehension's);fn: the names whose cells were made at the entry (a def: all;a comprehension's block: its own);calm: not within an except suite;pn: Ψ that every state bears;xe: what is wanted of an exception that leaves the code -/
structure Cx where
 prog:cb
 w:br
 K:cm
 mg:Str->az ak
 base:bm
 A:cu
 N:aa Str
 s₀:au
 H₀:Hp
 env:eD
 outer:aa eD
 stack:aa eD
 ex:aa am
 fn:Str->aq
 calm:aq
 pn:aa (am×bP)
 xe:ak->au->Prop
noncomputable def frs(l:aa eD):aa am:=l.filterMap (·.frame)
abbrev Cx.fs(X:Cx):aa am:=frs X.outer
def Vis(sc:gp)(x:Str):Prop:=sc.names.lookup x=ae .local\/sc.names.lookup x=ae .cell\/sc.names.lookup x=ae .free
def Loc(sc:gp)(x:Str):Prop:=sc.names.lookup x=ae .local\/sc.names.lookup x=ae .cell
def Look(env:eD)(h:bm)(m:Str->az ak)(x:Str)(u:ak):Prop:=
 (env.kindOf x=ae .local/\m x=ae u)\/((env.kindOf x=ae .cell\/env.kindOf x=ae .free)/\∃c,env.cells.lookup x=ae c/\h.IsCell c (ae u))
abbrev zSE(X:Cx)(e:Expr)(es:aa Expr):Prop:=dw (e::es) X.env=(ai,cw e X.env)::dw es X.env
abbrev zSP(X:Cx)(pos:c9)(es:aa Expr):Prop:=(jw pos (dw es X.env)).any (·.1)=ai
abbrev zFw(X:Cx)(cpos:c9)(es:aa Expr):Prop:=((jw cpos (dw es X.env)).all (λx=>!x.1)&&(backToKw cpos (zb [] X.env)).all (λx=>x.1.isSome)
  &&ϒ (es.length+([]:aa se).length+(if ([]:aa se).isEmpty then 0 else 1)<30))=ag
abbrev zSw(X:Cx)(e:Expr)(x:Str)(pos' pos:c9):Prop:=fq e (ae (.Name x pos')) pos.line X.env=pure ai
abbrev zFn(X:Cx)(x:Str):Prop:=X.fn x=ag\/X.env.scope.names.lookup x=ae .local
structure Cx.Ok(X:Cx):Prop where
 mod:Mod X.K X.mg X.base
 kind:X.env.scope.kind=.function
 glob:X.env.globals=e9
 blt:X.env.builtins=vd
 above:X.s₀.heap.objs.size<=X.env.locals
 inj:∀x y c,X.env.cells.lookup x=ae c->X.env.cells.lookup y=ae c->x=y
 has:∀x,(X.env.kindOf x=ae .cell\/X.env.kindOf x=ae .free)->∃c,X.env.cells.lookup x=ae c
 cab:∀x c,X.fn x=ag->X.env.cells.lookup x=ae c->X.s₀.heap.objs.size<=c
 hd:X.calm=ag->X.A.handled=aj
 frames:X.A.frames=ae X.stack
 stk:X.stack=X.outer\/(X.stack=X.env::X.outer/\X.env.frame=ae X.env.locals)
 exf:∀b∈X.ex,b≠X.env.locals/\∀x c,X.env.cells.lookup x=ae c->c≠b
 bs:∀b o,X.base.get? b=ae o->X.s₀.heap.get? b=ae o/\X.H₀ b=aj
 bsz:X.base.objs.size<=X.s₀.heap.objs.size
 noex:∀b o,X.base.get? b=ae o->b∉X.ex
 exfs:∀b∈X.ex,b∉X.fs
 aCz:X.s₀.heap.FunFrames X.base X.outer
 frf:∀b∈X.fs,X.H₀ b=aj
structure Inv(X:Cx)(Ψ:aa (am×bP))(σ:aa (az V))(H:Hp)(s:au):Prop where
 ok:X.Ok
 os:s.os=X.s₀.os
 bare:jx s.gens
 base:Un X.fs X.ex X.H₀ H X.s₀.heap s.heap
 loc:∃m,s.heap.Ns X.env.locals m/\∀(i:ah)(x:Str)(v:V),X.N[i]?=ae x->σ[i]?=ae (ae v)->Vis X.env.scope x->∃u,RelV v u/\Look X.env s.heap m x u
 cell:∀x c,X.env.cells.lookup x=ae c->∃v,s.heap.IsCell c v
 free:H X.env.locals=aj
 freeC:∀x c,X.env.cells.lookup x=ae c->H c=aj
 pin:∀p∈X.pn++Ψ,s.heap.get? p.1=ae p.2/\H p.1=aj/\p.1≠X.env.locals/\p.1∉X.fs/\∀v,p.2.data≠.cell v
 hok:HOk X.prog X.w H s.heap
 len:σ.length=X.N.length
section
variable {X:Cx} {Ψ:aa (am×bP)} {σ:aa (az V)} {H H':Hp} {s:au} {h':bm}
theorem Cx.Ok.aUy(ok:X.Ok)(e:X.base.get? b=ae o):b∉X.fs:=λhb=>by
 have:=(ok.aCz.mem hb).1;rw[e] at this;cases this
theorem Inv.bs(I:Inv X Ψ σ H s):∀b o,X.base.get? b=ae o->s.heap.get? b=ae o/\H b=aj:=λb o e=>
 ⟨I.base.keep b o (I.ok.bs b o e).1 (I.ok.bs b o e).2 (I.ok.aUy e) (I.ok.noex b o e),I.base.free b o (I.ok.bs b o e).1 (I.ok.bs b o e).2 (I.ok.noex b o e)⟩
theorem Inv.bk(I:Inv X Ψ σ H s):∀b o,X.base.get? b=ae o->s.heap.get? b=ae o:=λb o e=>(I.bs b o e).1
theorem Inv.mod(I:Inv X Ψ σ H s):Mod X.K X.mg X.base:=I.ok.mod
theorem Inv.kIn(I:Inv X Ψ σ H s):X.K.In s.heap:=I.ok.mod.kin.keeps I.bk
theorem Inv.lt(I:Inv X Ψ σ H s):X.env.locals<s.heap.objs.size:=let ⟨_,hn,_⟩:=I.loc;hn.lt
theorem Inv.sz(I:Inv X Ψ σ H s):X.s₀.heap.objs.size<=s.heap.objs.size:=dj I.ok.above (jy I.lt)
theorem Inv.aUj(I:Inv X Ψ σ H s)(h:s.heap.objs.size<=a):a∉X.fs:=λhb=>by
 obtain⟨_,o,ho,_⟩:=I.ok.aCz.mem hb;exact aT (eC (bE ho) (dj I.sz h)) (fT _)
theorem Inv.cne(I:Inv X Ψ σ H s):∀x c,X.env.cells.lookup x=ae c->c≠X.env.locals:=λx c e z=>by
 obtain⟨v,o,ho,hd⟩:=I.cell x c e;obtain⟨m,⟨o',es,ep,ho',hd',_⟩,_⟩:=I.loc;rw[z,ho'] at ho;cases ho;rw[hd'] at hd;cases hd
theorem Inv.aCz(I:Inv X Ψ σ H s):s.heap.FunFrames X.base X.outer:=by
 have all:∀(l:aa eD),(∀b∈frs l,b∈X.fs)->X.s₀.heap.FunFrames X.base l->s.heap.FunFrames X.base l:=by
  intro l;induction l with
  |nil=>intro _ _;trivial
  |cons env r ih=>
   intro hs hl;obtain⟨hk,⟨L,o,hf,hn,ho,hd⟩,hr⟩:=hl;have hL:L∈X.fs:=hs L (by unfold frs;rw[ve,hf];exact bu);obtain⟨sl,e⟩:=I.base.slot L o ho (I.ok.frf L hL) hL λz=>I.ok.exfs L z hL
   exact⟨hk,⟨L,_,hf,hn,e,hd⟩,ih (λb hb=>hs b (by unfold frs;rw[ve,hf];exact bo _ hb)) hr⟩
 exact all X.outer (λ_ hb=>hb) I.ok.aCz
theorem Inv.stack(I:Inv X Ψ σ H s):s.heap.FunFrames X.base X.stack:=by
 rcases I.ok.stk with e|⟨e,hf⟩
 .rw[e];exact I.aCz
 .rw[e];obtain⟨m,hn,_⟩:=I.loc;refine .cons (by rw[I.ok.kind];decide) hf hn ?_ I.aCz;exact Heap.get?_none_of_le (dj I.ok.bsz I.ok.above)
theorem Inv.YX(I:Inv X Ψ σ H s):∀b∈frs X.stack,b∈X.env.locals::X.fs:=λb hb=>by
 rcases I.ok.stk with e|⟨e,hf⟩
 .rw[e] at hb;exact bo _ hb
 .rw[e] at hb;unfold frs at hb;rw[ve,hf] at hb;exact hb
theorem Inv.aD0(I:Inv X Ψ σ H s):∀b∈frs X.stack,H b=aj:=λb hb=>by
 rcases bi.mp (I.YX b hb) with e|hb
 .rw[e];exact I.free
 .obtain⟨_,o,ho,_⟩:=I.ok.aCz.mem hb;exact I.base.free b o ho (I.ok.frf b hb) λz=>I.ok.exfs b z hb
theorem Inv.step{ch:aa am}(I:Inv X Ψ σ H s)
 (hch:∀b∈ch,(b∈X.ex\/X.s₀.heap.objs.size<=b)/\b≠X.env.locals/\(∀x c,X.env.cells.lookup x=ae c->c≠b)/\∀p∈X.pn++Ψ,p.1≠b)
 (keep:∀b o,b≠X.env.locals->b∉X.fs->b∉ch->s.heap.get? b=ae o->H b=aj->h'.get? b=ae o)
 (slot:∀b o,b≠X.env.locals->b∈X.fs->b∉ch->s.heap.get? b=ae o->H b=aj->∃sl,h'.get? b=ae {o with slots:=sl})(free:∀b o,b∉ch->s.heap.get? b=ae o->H b=aj->H' b=aj)
 (there:∀b o,b∉ch->s.heap.get? b=ae o->∃o',h'.get? b=ae o')
 (tups:∀b xs,H b=ae (.tup xs)->H' b=ae (.tup xs))(frzs:∀b o u,H b=ae (.frz o u)->H' b=ae (.frz o u))(tbls:∀b ps,H b=ae (.tbl ps)->∃more,H' b=ae (.tbl (ps++more)))
 (ns:∀m,s.heap.Ns X.env.locals m->h'.Ns X.env.locals m)(hok:HOk X.prog X.w H' h')(hg:jx g') :
  Inv X Ψ σ H' {s with heap:=h',gens:=g',drawn:=d',toks:=t'}:=by
 have neL:∀b o,X.s₀.heap.get? b=ae o->b≠X.env.locals:=λb o e=>de (eC (bE e) I.ok.above)
 have neC:∀b o,X.s₀.heap.get? b=ae o->b∉X.ex->b∉ch:=λb o e hx hb=>by
  rcases(hch b hb).1 with z|z
  .exact hx z
  .exact aT (eC (bE e) z) (fT _)
 have cellK:∀x c,X.env.cells.lookup x=ae c->∀v,s.heap.IsCell c v->h'.IsCell c v:=λx c e v ⟨o,ho,hd⟩=>by
  have nch:c∉ch:=λz=>(hch c z).2.2.1 x c e rfl
  by_cases hc:c∈X.fs
  .obtain⟨sl,q⟩:=slot c o (I.cne x c e) hc nch ho (I.freeC x c e);exact⟨_,q,hd⟩
  .exact⟨o,keep c o (I.cne x c e) hc nch ho (I.freeC x c e),hd⟩
 refine⟨I.ok,I.os,hg,⟨λb o e n hb hx=>?_,λb o e n hb hx=>?_,λb o e n hx=>?_,λb o e hx=>?_,λb xs e=>tups b xs (I.base.tups b xs e),λb o xs e=>frzs b o xs (I.base.frzs b o xs e),λb ps e=>?_⟩,?_,λx c e=>?_,?_,λx c e=>?_,λp hp=>?_,hok,I.len⟩
 .exact keep b o (neL b o e) hb (neC b o e hx) (I.base.keep b o e n hb hx) (I.base.free b o e n hx)
 .obtain⟨sl,e1⟩:=I.base.slot b o e n hb hx;obtain⟨sl',e2⟩:=slot b _ (neL b o e) hb (neC b o e hx) e1 (I.base.free b o e n hx);exact⟨sl',e2⟩
 .obtain⟨o',e1⟩:=I.base.there b o e hx;exact free b o' (neC b o e hx) e1 (I.base.free b o e n hx)
 .obtain⟨o',e1⟩:=I.base.there b o e hx;exact there b o' (neC b o e hx) e1
 .obtain⟨m1,e1⟩:=I.base.tbls b ps e;obtain⟨m2,e2⟩:=tbls b _ e1;exact⟨m1++m2,by rw[e2,Array.append_assoc]⟩
 .obtain⟨m,hn,hl⟩:=I.loc;refine⟨m,ns m hn,λi x v e1 e2 e3=>?_⟩;obtain⟨u,r,l⟩:=hl i x v e1 e2 e3;refine⟨u,r,?_⟩;rcases l with l|⟨k,c,e,z⟩
  .exact .inl l
  .exact .inr ⟨k,c,e,cellK x c e _ z⟩
 .obtain⟨v,z⟩:=I.cell x c e;exact⟨v,cellK x c e v z⟩
 .obtain⟨m,⟨o,_,_,ho,_⟩,_⟩:=I.loc;exact free _ o (λz=>(hch _ z).2.1 rfl) ho I.free
 .obtain⟨v,o,ho,hd⟩:=I.cell x c e;exact free c o (λz=>(hch c z).2.2.1 x c e rfl) ho (I.freeC x c e)
 .obtain⟨e,n,ne,nf,d⟩:=I.pin p hp;have nch:p.1∉ch:=λz=>(hch p.1 z).2.2.2 p hp rfl
  exact⟨keep p.1 p.2 ne nf nch e n,free p.1 p.2 nch e n,ne,nf,d⟩
theorem Inv.un(I:Inv X Ψ σ H s)(u:Un X.fs [] H H' s.heap h')(hok:HOk X.prog X.w H' h'):Inv X Ψ σ H' {s with heap:=h',toks:=t'}:=by
 obtain⟨m,⟨o,es,ep,ho,r⟩,_⟩:=id I.loc;obtain⟨sl,hL⟩:=u.any ho I.free 0x2;exact I.step (ch:=[]) (λ_ z=>nomatch z) (λb o _ hb _ e n=>u.keep b o e n hb 0x2) (λb o _ hb _ e n=>u.slot b o e n hb 0x2) (λb o _ e n=>u.free b o e n 0x2) (λb o _ e=>u.there b o e 0x2) u.tups u.frzs u.tbls (λm' hm=>by
  obtain⟨o',es',ep',ho',r'⟩:=hm;rw[ho] at ho';cases ho';exact⟨_,es',ep',hL,r'⟩) hok I.bare
theorem Inv.call(I:Inv X Ψ σ H s)(u:Un (frs X.stack) ch H H' s.heap h')(hok:HOk X.prog X.w H' h')(hg:jx g')
 (hch:∀b∈ch,(b∈X.ex\/X.s₀.heap.objs.size<=b)/\b≠X.env.locals/\(∀x c,X.env.cells.lookup x=ae c->c≠b)/\∀p∈X.pn++Ψ,p.1≠b) :
  Inv X Ψ σ H' {s with heap:=h',gens:=g',drawn:=d',toks:=t'}:=by
 obtain⟨m,⟨o,es,ep,ho,r⟩,_⟩:=id I.loc;obtain⟨sl,hL⟩:=u.any ho I.free λz=>(hch _ z).2.1 rfl
 exact I.step hch (λb o hL hb hc e n=>u.keep b o e n (λz=>(bi.mp (I.YX b z)).elim hL hb) hc) (λb o _ _ hc e n=>u.any e n hc) (λb o hc e n=>u.free b o e n hc) (λb o hc e=>u.there b o e hc) u.tups u.frzs u.tbls (λm' hm=>by
  obtain⟨o',es',ep',ho',r'⟩:=hm;rw[ho] at ho';cases ho';exact⟨_,es',ep',hL,r'⟩) hok hg
theorem Inv.turned(I:Inv X Ψ σ H s)(k:∀b o,b≠it->s.heap.get? b=ae o->h'.get? b=ae o)(hn:H it=aj)(hL:it≠X.env.locals)
 (h1:it∈X.ex\/X.s₀.heap.objs.size<=it)(h2:∀x c,X.env.cells.lookup x=ae c->c≠it)(h3:∀p∈X.pn++Ψ,p.1≠it):Inv X Ψ σ H {s with heap:=h',toks:=t'}:=by
 have nit:∀b u,H b=ae u->b≠it:=λb u e z=>by rw[z,hn] at e;cases e
 refine I.step (ch:=[it]) (λb hb=>?_) (λb o _ _ hc e _=>k b o (λz=>hc (by simp[z])) e) (λb o _ _ hc e _=>⟨o.slots,k b o (λz=>hc (by simp[z])) e⟩) (λ_ _ _ _ n=>n)
  (λb o hc e=>⟨o,k b o (λz=>hc (by simp[z])) e⟩) (λ_ _ e=>e) (λ_ _ _ e=>e) (λb ps e=>⟨#[],by rw[e];simp⟩) (λm hm=>?_) (λb u e=>?_) I.bare
 .have e:b=it:=by simpa using hb
  subst e;exact⟨h1,hL,h2,h3⟩
 .obtain⟨o,es,ep,ho,r⟩:=hm;exact⟨o,es,ep,k _ o (Ne.symm hL) ho,r⟩
 .refine(I.hok b u e).stay (λc v hc q=>k c v ?_ q) (λ_ q=>q) λ_ _ q=>q
  rcases hc with z|z
  .rw[z];exact nit b u e
  .exact nit c _ z
theorem Inv.tok(I:Inv X Ψ σ H s)(t:ah):Inv X Ψ σ H {s with toks:=t}:=I.un Un.refl I.hok
theorem Inv.kept(I:Inv X Ψ σ H s)(k:∀b u,s.heap.get? b=ae u->h'.get? b=ae u):Inv X Ψ σ H {s with heap:=h',toks:=t'}:=I.un (Un.kept k) (I.hok.kept k)
theorem Inv.laid(I:Inv X Ψ σ H s)(k:∀b u,s.heap.get? b=ae u->h'.get? b=ae u)(hp:s.heap.objs.size<=a)(new:mY X.prog X.w (upd H a o) h' a o) :
  Inv X Ψ σ (upd H a o) {s with heap:=h',toks:=t'}:=I.un (Un.laid k hp (I.hok.fresh hp)) (I.hok.laid k hp new)
theorem Inv.write(I:Inv X Ψ σ H s)(mu:Mut (H x))(he:e=x\/H e=ae (.own x))(k:∀b u,b≠e->s.heap.get? b=ae u->h'.get? b=ae u)(heo:∃u,h'.get? e=ae u)
 (new:mY X.prog X.w (upd H x o) h' x o):Inv X Ψ σ (upd H x o) {s with heap:=h',toks:=t'}:=I.un (Un.write mu he k heo) (I.hok.write mu he k heo new)
theorem Inv.weak(I:Inv X Ψ σ H s)(hl:σ'.length=σ.length)(w:∀(i:ah) v,σ'[i]?=ae (ae v)->σ[i]?=ae (ae v)):Inv X Ψ σ' H s:=
 ⟨I.ok,I.os,I.bare,I.base,let ⟨m,hn,hl'⟩:=I.loc;⟨m,hn,λi x v e1 e2 e3=>hl' i x v e1 (w i v e2) e3⟩,I.cell,I.free,I.freeC,I.pin,I.hok,hl.trans I.len⟩
theorem Inv.VJ(I:Inv X Ψ σ H s)(h:∀p∈pins',s.heap.get? p.1=ae p.2/\H p.1=aj/\p.1≠X.env.locals/\p.1∉X.fs/\∀v,p.2.data≠.cell v):Inv X pins' σ H s:=
 ⟨I.ok,I.os,I.bare,I.base,I.loc,I.cell,I.free,I.freeC,λp hp=>(cj.mp hp).elim (λz=>I.pin p (dP _ z)) (h p),I.hok,I.len⟩
theorem YZ{N:aa Str}(hN:N.Nodup){i j:ah}(a:N[i]?=ae x)(b:N[j]?=ae x):i=j:=by
 obtain⟨h1,e1⟩:=ej.mp a;obtain⟨h2,e2⟩:=ej.mp b;exact(List.getElem_inj hN).mp (e1.trans e2.symm)
theorem aD1(I:Inv X Ψ σ H s)(hN:X.N.Nodup)(hi:X.N[i]?=ae x)(hx:Loc X.env.scope x)(r:RelV v u)
 (h:∀s',Inv X Ψ (σ.set i (ae v)) H s'->(∃a,l8 a s.heap s'.heap/\(a=X.env.locals\/X.env.cells.lookup x=ae a))->Q () s')(hf:zFn X x:=by first|exact .inl rfl|exact .inr rfl|assumption):ϑ M A (storeName X.env x u) Q E s:=by
 obtain⟨m,hn,hl⟩:=id I.loc;have hcls:(X.env.scope.kind==.class||(X.env.scope.kind==.module&&X.env.locals !=X.env.globals))=ai:=by rw[I.ok.kind];rfl
 have hiσ:i<σ.length:=by rw[I.len];exact(ej.mp hi).1
 have cne:=I.cne;have tracked:∀{a:am}{h':bm},(∃o,s.heap.get? a=ae o/\H a=aj)->l8 a s.heap h'->HOk X.prog X.w H h':=λ{a h'} ha hs b ob e=>by
  obtain⟨_,_,hfree⟩:=ha;refine(I.hok b ob e).stay (λc w' hc q=>(hs.2 c ?_).trans q) (λ_ q=>q) λ_ _ q=>q
  rintro rfl;rcases hc with rfl|hc
  .rw[hfree] at e;cases e
  .rw[hfree] at hc;cases hc
 rcases hx with hk|hk
 .refine wpAny_storeName_local hk hn (λh' hn' hs=>?_) hcls;obtain⟨oL,_,_,hoL,_⟩:=id hn;refine h _ ⟨I.ok,I.os,I.bare,⟨λb o e n hb hx=>?_,λb o e n hb hx=>?_,I.base.free,λb o e hx=>?_,I.base.tups,I.base.frzs,I.base.tbls⟩,⟨_,hn',λj y v' e1 e2 e3=>?_⟩,λy c e=>?_,I.free,I.freeC,λp hp=>?_,tracked ⟨oL,hoL,I.free⟩ hs,by simpa using I.len⟩ ⟨_,hs,.inl rfl⟩
  .exact(hs.2 b (de (eC (bE e) I.ok.above))).trans (I.base.keep b o e n hb hx)
  .obtain⟨sl,e1⟩:=I.base.slot b o e n hb hx;exact⟨sl,(hs.2 b (de (eC (bE e) I.ok.above))).trans e1⟩
  .obtain⟨o',e1⟩:=I.base.there b o e hx;exact⟨o',(hs.2 b (de (eC (bE e) I.ok.above))).trans e1⟩
  .by_cases hj:j=i
   .subst hj;rw[hi] at e1;cases e1;rw[im hiσ] at e2;cases e2;exact⟨u,r,.inl ⟨hk,by simp⟩⟩
   .rw[ff (Ne.symm hj)] at e2;obtain⟨u',r',q⟩:=hl j y v' e1 e2 e3;refine⟨u',r',?_⟩;rcases q with ⟨k,e⟩|⟨k,c,e,z⟩
    .refine .inl ⟨k,?_⟩;have:y≠x:=λe=>hj (YZ hN e1 (e▸hi))
     simp[this,e]
    .exact .inr ⟨k,c,e,z.sameBut hs (cne y c e)⟩
  .obtain⟨w',z⟩:=I.cell y c e;exact⟨w',z.sameBut hs (cne y c e)⟩
  .obtain⟨e,n,ne,nf,d⟩:=I.pin p hp;exact⟨(hs.2 p.1 ne).trans e,n,ne,nf,d⟩
 .have hfn:X.fn x=ag:=by
   rcases hf with z|z
   .exact z
   .rw[z] at hk;cases hk
  obtain⟨c,hc⟩:=I.ok.has x (.inl hk);obtain⟨w',z⟩:=I.cell x c hc;refine wpAny_storeName_cell I.ok.kind hk hc z (λh' hc' hs=>?_);obtain⟨oc,hoc,hocd⟩:=id z;refine h {s with heap:=h'} ⟨I.ok,I.os,I.bare,⟨λb o e n hb hx=>?_,λb o e n hb hx=>?_,I.base.free,λb o e hx=>?_,I.base.tups,I.base.frzs,I.base.tbls⟩,⟨m,hn.sameBut hs (Ne.symm (cne x c hc)),λj y v' e1 e2 e3=>?_⟩,λy c' e=>?_,I.free,I.freeC,λp hp=>?_,tracked ⟨oc,hoc,I.freeC x c hc⟩ hs,by simpa using I.len⟩ ⟨c,hs,.inr hc⟩
  .exact(hs.2 b (de (eC (bE e) (I.ok.cab x c hfn hc)))).trans (I.base.keep b o e n hb hx)
  .obtain⟨sl,e1⟩:=I.base.slot b o e n hb hx;exact⟨sl,(hs.2 b (de (eC (bE e) (I.ok.cab x c hfn hc)))).trans e1⟩
  .obtain⟨o',e1⟩:=I.base.there b o e hx;exact⟨o',(hs.2 b (de (eC (bE e) (I.ok.cab x c hfn hc)))).trans e1⟩
  .by_cases hj:j=i
   .subst hj;rw[hi] at e1;cases e1;rw[im hiσ] at e2;cases e2;exact⟨u,r,.inr ⟨.inl hk,c,hc,hc'⟩⟩
   .rw[ff (Ne.symm hj)] at e2;obtain⟨u',r',q⟩:=hl j y v' e1 e2 e3;refine⟨u',r',?_⟩;rcases q with q|⟨k,c',e,z'⟩
    .exact .inl q
    .refine .inr ⟨k,c',e,z'.sameBut hs ?_⟩;rintro rfl;exact hj (YZ hN e1 (I.ok.inj _ _ _ e hc▸hi))
  .by_cases hcc:c'=c
   .subst hcc;exact⟨_,hc'⟩
   .obtain⟨w2,z2⟩:=I.cell y c' e;exact⟨w2,z2.sameBut hs hcc⟩
  .obtain⟨e,n,ne,nf,d⟩:=I.pin p hp;refine⟨(hs.2 p.1 ?_).trans e,n,ne,nf,d⟩;intro q;rw[q,hoc] at e;have q':oc=p.2:=di e;exact d w' (by rw[<-q'];exact hocd)
theorem Y0(I:Inv X Ψ σ H s)(hN:X.N.Nodup)(hi:X.N[i]?=ae x)(hx:Loc X.env.scope x)(r:RelV v u)
 (h:∀s',Inv X Ψ (σ.set i (ae v)) H s'->Q () s')(hf:zFn X x:=by first|exact .inl rfl|exact .inr rfl|assumption):ϑ M A (storeName X.env x u) Q E s:=
 aD1 I hN hi hx r (λs' I' _=>h s' I') hf
end
abbrev XK:=ak->az am->Hp->Prop
noncomputable abbrev St:=aa (az V)
abbrev VK:=V->Hp->Prop
abbrev TE:=St->Hp->VK->Prop
abbrev TT:=St->Hp->(aq->Hp->Prop)->Prop
abbrev TA:=St->Hp->(aa V->Hp->Prop)->Prop
structure Ends where
 nx:St->Hp->Prop
 rt:VK
 bk:St->Hp->Prop:=λ_ _=>c8
 ct:St->Hp->Prop:=λ_ _=>c8
abbrev TS:=Ends->St->Hp->Prop
def EP(X:Cx)(Ψ:aa (am×bP))(σ:St)(Q:VK)(u:ak)(s':au):Prop:=∃v H',Inv X Ψ σ H' s'/\RelV v u/\Q v H'
def TP(X:Cx)(Ψ:aa (am×bP))(σ:St)(Q:aq->Hp->Prop)(b:aq)(s':au):Prop:=∃H',Inv X Ψ σ H' s'/\Q b H'
def AP(X:Cx)(Ψ:aa (am×bP))(σ:St)(Q:aa V->Hp->Prop)(us:aa ak)(s':au):Prop:=∃vs H',Inv X Ψ σ H' s'/\Vals vs us/\Q vs H'
def SP(X:Cx)(Ψ:aa (am×bP))(D:Ends)(f:Flow)(s':au):Prop:=
 match f with
 |.next=>∃σ' H',Inv X Ψ σ' H' s'/\D.nx σ' H'
 |.brk=>∃σ' H',Inv X Ψ σ' H' s'/\D.bk σ' H'
 |.cont=>∃σ' H',Inv X Ψ σ' H' s'/\D.ct σ' H'
 |.ret u=>∃v σ' H',Inv X Ψ σ' H' s'/\RelV v u/\D.rt v H'
def PE(X:Cx)(e:Expr)(t:TE):Prop:=
 ∀(Ψ:aa (am×bP))(s:au)(σ:St)(H:Hp)(Q:VK),Inv X Ψ σ H s->t σ H Q->ϑ (av X.prog X.w) X.A (cw e X.env) (EP X Ψ σ Q) X.xe s
def PT(X:Cx)(e:Expr)(t:TT):Prop:=
 ∀(Ψ:aa (am×bP))(s:au)(σ:St)(H:Hp)(Q:aq->Hp->Prop),Inv X Ψ σ H s->t σ H Q->ϑ (av X.prog X.w) X.A (sg e X.env (cw e X.env)) (TP X Ψ σ Q) X.xe s
def PW(X:Cx)(e:Expr)(t:TT):Prop:=
 ∀(whole:eP ak)(Ψ:aa (am×bP))(s:au)(σ:St)(H:Hp)(Q:aq->Hp->Prop),Inv X Ψ σ H s->t σ H Q->ϑ (av X.prog X.w) X.A (sg e X.env whole) (TP X Ψ σ Q) X.xe s
theorem PW.pt(h:PW X e t):PT X e t:=h _
def PA(X:Cx)(es:aa Expr)(t:TA):Prop:=
 ∀(pos:c9)(Ψ:aa (am×bP))(s:au)(σ:St)(H:Hp)(Q:aa V->Hp->Prop),Inv X Ψ σ H s->t σ H Q->ϑ (av X.prog X.w) X.A (ny (jw pos (dw es X.env))) (AP X Ψ σ Q) X.xe s
def PS(X:Cx)(st:bq)(t:TS):Prop:=
 ∀(Ψ:aa (am×bP))(s:au)(σ:St)(H:Hp)(D:Ends),Inv X Ψ σ H s->t D σ H->ϑ (av X.prog X.w) X.A (exec st X.env) (SP X Ψ D) X.xe s
def PSs(X:Cx)(st:aa bq)(t:TS):Prop:=
 ∀(Ψ:aa (am×bP))(s:au)(σ:St)(H:Hp)(D:Ends),Inv X Ψ σ H s->t D σ H->ϑ (av X.prog X.w) X.A (execs st X.env) (SP X Ψ D) X.xe s
theorem thn(h:ϑ M A t Q E s)(hQ:∀a s,Q a s->Q' a s):ϑ M A t Q' E s:=fu h hQ λ_ _ x=>x
section
variable {X:Cx}
noncomputable def aUz(i:ah):TE:=λσ H Q=>∃v,σ[i]?=ae (ae v)/\Q v H
noncomputable def tC(v:V):TE:=λ_ H Q=>Q v H
theorem m9(hN:X.N[i]?=ae x)(hv:Vis X.env.scope x)(hd:nDb x:=by decide)(hcd:nCd x:=by decide):PE X (.Name x pos) (aUz i):=by
 intro Ψ s σ H Q I h;obtain⟨v,e,h⟩:=h;obtain⟨m,hn,hl⟩:=I.loc;obtain⟨u,r,l⟩:=hl i x v hN e hv;have fin:EP X Ψ σ Q u s:=⟨v,H,I,r,h⟩
 rcases l with ⟨hk,hm⟩|⟨hk,c,hc,hcell⟩
 .exact vf (wpAny_loadName_local I.ok.kind hk hn hm fin) hd
 .rcases hk with hk|hk
  .exact vf (wpAny_loadName_cell I.ok.kind hk hc hcell fin) hd
  .exact vf (wpAny_loadName_free I.ok.kind hk hc hcell fin hcd) hd
theorem aP2{i j pos}:PE X (.Constant (.int i) j pos) (tC (.int i)):=λ_ _ _ H _ I h=>zc ⟨.int i,H,I.tok _,⟨_,rfl⟩,h⟩
theorem aSz{b j pos}:PE X (.Constant (.bool b) j pos) (tC (.bl b)):=λ_ _ _ H _ I h=>Constant_bool ⟨.bl b,H,I,rfl,h⟩
theorem aP3{j pos}:PE X (.Constant .none j pos) (tC .non):=λ_ _ _ H _ I h=>Constant_none ⟨.non,H,I,rfl,h⟩
theorem aP4{x j pos}:PE X (.Constant (.str x) j pos) (tC (.str x)):=λ_ _ _ H _ I h=>Calls.Constant_str ⟨.str x,H,I.tok _,⟨_,rfl⟩,h⟩
def Gl(X:Cx)(x:Str):Prop:=X.env.kindOf x=ae .globalImplicit
theorem aL4(I:Inv X Ψ σ H s)(hg:Gl X x)(hm:X.mg x=ae u)(h:Q u s)
 (hd:nDb x:=by decide):ϑ (av X.prog X.w) X.A (cw (.Name x pos) X.env) Q E s:=
 zd I.ok.kind hg (Calls.loadGlobal_global (by rw[I.ok.glob];exact I.mod.glob.keeps I.bk) hm h) hd
theorem vJ(I:Inv X Ψ σ H s)(hg:Gl X x)(hm:X.mg x=aj)(hv:eM x=ae u)(h:Q u s)
 (hn:x ≠ "__name__":=by decide)(hd:nDb x:=by decide):ϑ (av X.prog X.w) X.A (cw (.Name x pos) X.env) Q E s:=by
 obtain⟨mb,h1,h2⟩:=I.mod.blt;exact zd I.ok.kind hg (Calls.loadGlobal_builtin (by rw[I.ok.glob];exact I.mod.glob.keeps I.bk) hm (by rw[I.ok.blt];exact h1.keeps I.bk) ((h2 x hn).trans hv) h) hd
theorem aL5(hg:Gl X x)(hm:X.mg x=aj)(hv:eM x=ae u)(r:RelV v u)(hn:x ≠ "__name__":=by decide)(hd:nDb x:=by decide):PE X (.Name x pos) (tC v):=
 λ_ _ _ H _ I h=>vJ I hg hm hv ⟨v,H,I,r,h⟩ hn hd
variable {a b:Expr} {ta tb:TE} {pos:c9}
variable {tA tB':TT} {rest:aa Expr}
noncomputable def aV0(t u:TT):TT:=λσ H Q=>t σ H λc H1=>if c=ag then u σ H1 Q else Q ai H1
noncomputable def tOr(t u:TT):TT:=λσ H Q=>t σ H λc H1=>if c=ag then Q ag H1 else u σ H1 Q
noncomputable def aV1(t:TT):TT:=λσ H Q=>t σ H λc H1=>Q (!c) H1
theorem aL6(ha:PT X a tA):PW X (.BoolOp .And [a] pos) tA:=by
 intro wh Ψ s σ H Q I h;refine isTrue_and (thn (ha Ψ s σ H Q I h) λc s1 e=>?_);cases c with
 |true=>exact isTrue_and_nil e
 |false=>exact e
theorem aP5(ha:PT X a tA):PW X (.BoolOp .Or [a] pos) tA:=by
 intro wh Ψ s σ H Q I h;refine isTrue_or (thn (ha Ψ s σ H Q I h) λc s1 e=>?_);cases c with
 |false=>exact isTrue_or_nil e
 |true=>exact e
theorem aP6(ha:PT X a tA)(hb:PW X (.BoolOp .And (b::rest) pos) tB'):PW X (.BoolOp .And (a::b::rest) pos) (aV0 tA tB'):=by
 intro wh Ψ s σ H Q I h;refine isTrue_and (thn (ha Ψ s σ H _ I h) λc s1 ⟨H1,I1,q1⟩=>?_);cases c with
 |true=>exact hb wh Ψ s1 σ H1 Q I1 q1
 |false=>exact⟨H1,I1,q1⟩
theorem aT0(ha:PT X a tA)(hb:PW X (.BoolOp .Or (b::rest) pos) tB'):PW X (.BoolOp .Or (a::b::rest) pos) (tOr tA tB'):=by
 intro wh Ψ s σ H Q I h;refine isTrue_or (thn (ha Ψ s σ H _ I h) λc s1 ⟨H1,I1,q1⟩=>?_);cases c with
 |true=>exact⟨H1,I1,q1⟩
 |false=>exact hb wh Ψ s1 σ H1 Q I1 q1
theorem aP7(ha:PT X a tA):PT X (.UnaryOp .Not a pos) (aV1 tA):=by
 intro Ψ s σ H Q I h;exact isTrue_not (ha Ψ s σ H (λc H1=>Q (!c) H1) I h)
noncomputable def aT1(ta tb:TE):TE:=λσ H Q=>ta σ H λx H1=>∃c,x=.bl c/\if c=ag then tb σ H1 Q else Q (.bl ai) H1
noncomputable def aT2(ta:TE):TE:=λσ H Q=>ta σ H λx H1=>∃c,x=.bl c/\Q (.bl (!c)) H1
theorem aP8{op}(h:PE X a t):PE X (.BoolOp op [a] pos) t:=λΨ s σ H Q I hw=>BoolOp_one (h Ψ s σ H Q I hw)
theorem aP9(ha:PE X a ta)(hb:PE X (.BoolOp .And (b::rest) pos) tb):PE X (.BoolOp .And (a::b::rest) pos) (aT1 ta tb):=by
 intro Ψ s σ H Q I h;refine BoolOp_and (thn (ha Ψ s σ H _ I h) λv s1 ⟨x,H1,I1,r1,q1⟩=>?_);obtain⟨c,rfl,q1⟩:=q1;cases r1;refine jg ?_;cases c with
 |true=>exact hb Ψ s1 σ H1 Q I1 q1
 |false=>exact⟨.bl ai,H1,I1,rfl,q1⟩
theorem aPa(ha:PE X a ta):PE X (.UnaryOp .Not a pos) (aT2 ta):=by
 intro Ψ s σ H Q I h;refine UnaryOp_ (thn (ha Ψ s σ H _ I h) λv s1 ⟨x,H1,I1,r1,q1⟩=>?_);obtain⟨c,rfl,q1⟩:=q1;cases r1;exact not_of (jg ⟨.bl (!c),H1,I1,rfl,q1⟩)
noncomputable def tIf(t:TT)(ta tb:TE):TE:=λσ H Q=>t σ H λc H1=>if c=ag then ta σ H1 Q else tb σ H1 Q
theorem aHe(hc:PT X c tA)(ha:PE X a ta)(hb:PE X b tb):PE X (.IfExp c a b pos) (tIf tA ta tb):=by
 intro Ψ s σ H Q I h;refine wpAny_IfExp (thn (hc Ψ s σ H _ I h) λd s1 ⟨H1,I1,q1⟩=>?_);cases d with
 |true=>exact ha Ψ s1 σ H1 Q I1 q1
 |false=>exact hb Ψ s1 σ H1 Q I1 q1
end
def SqL(K:cm)(H:Hp)(a:am)(xs:aa V):Prop:=
 Rd H a (.lst xs)\/
  ∃(o:bP)(its:ax ak)(n:ah),K.lookup a=ae o/\o.cls=.type "list"/\o.dict=aj/\o.data=.seq its n/\its.size<=bg/\Vals xs its.toList
def SqT(K:cm)(H:Hp)(a:am)(xs:aa V):Prop:=
 Rd H a (.tup xs)\/
  ∃(o:bP)(its:ax ak)(n:ah),K.lookup a=ae o/\o.cls=.type "tuple"/\o.data=.seq its n/\its.size<=bg/\Vals xs its.toList
noncomputable def aV2:ak->az V
 |.none=>ae .non
 |.bool b=>ae (.bl b)
 |.int i _=>ae (.int i)
 |.str x _=>ae (.str x)
 |.bytes b _=>ae (.byt b)
 |.float b _=>ae (.flt b)
 |.ref a=>ae (.ref a)
 |.type n=>ae (.ty n)
 |_=>aj
theorem RelV.abs(r:RelV x u):aV2 u=ae x:=by
 cases x with
 |non=>cases r;rfl
 |bl _=>cases r;rfl
 |int _=>obtain⟨t,rfl⟩:=r;rfl
 |str _=>obtain⟨t,rfl⟩:=r;rfl
 |byt _=>obtain⟨t,rfl⟩:=r;rfl
 |flt _=>obtain⟨t,rfl⟩:=r;rfl
 |ref _=>cases r;rfl
 |ty _=>cases r;rfl
theorem RelV.inj(r:RelV x u)(q:RelV y u):x=y:=di (r.abs.symm.trans q.abs)
theorem Vals.inj:∀{xs ys:aa V}{us:aa ak},Vals xs us->Vals ys us->xs=ys
 |_,_,_,.nil,.nil=>rfl
 |_,_,_,.cons r t,.cons r' t'=>by rw[r.inj r',Vals.inj t t']
section
variable {X:Cx} {Ψ:aa (am×bP)} {σ:St} {H:Hp} {s:au} {a:am} {xs ys:aa V}
theorem SqL.of{K:cm}(h:H a=ae (.lst xs)):SqL K H a xs:=.inl (.inl h)
theorem SqT.of{K:cm}(h:H a=ae (.tup xs)):SqT K H a xs:=.inl (.inl h)
theorem Inv.list(I:Inv X Ψ σ H s)(h:SqL X.K H a xs):∃its:aa ak,Vals xs its/\PlainL s.heap a its.toArray/\xs.length<=bg:=by
 rcases h with h|⟨o,its,n,hk,hc,hd,hs,hz,r⟩
 .obtain⟨z,its,n,r,e⟩:=h.ok I.hok;exact⟨its,r,⟨_,n,e,rfl,rfl,rfl⟩,z⟩
 .refine⟨its.toList,r,⟨o,n,I.kIn a o hk,hc,hd,by simpa using hs⟩,?_⟩;have e:=r.length;simp only[fA] at e;lia
theorem Inv.tuple(I:Inv X Ψ σ H s)(h:SqT X.K H a xs):∃its:aa ak,Vals xs its/\nw s.heap a its.toArray/\xs.length<=bg:=by
 rcases h with h|⟨o,its,n,hk,hc,hs,hz,r⟩
 .obtain⟨z,its,r,p⟩:=h.ok I.hok;exact⟨its,r,p.tup,z⟩
 .refine⟨its.toList,r,⟨o,I.kIn a o hk,hc,n,by simpa using hs⟩,?_⟩;have e:=r.length;simp only[fA] at e;lia
theorem Inv.yP(I:Inv X Ψ σ H s)(h:SqL X.K H a xs)(h':SqL X.K H a ys):xs=ys:=by
 obtain⟨its,r,⟨o,n,e,_,_,d⟩,_⟩:=I.list h;obtain⟨its',r',⟨o',n',e',_,_,d'⟩,_⟩:=I.list h';rw[e] at e';cases e';rw[d] at d';injection d' with d1 _
 have:its=its':=by simpa using cz zf d1
 subst this;exact r.inj r'
theorem Inv.aD2(I:Inv X Ψ σ H s)(h:SqT X.K H a xs)(h':SqT X.K H a ys):xs=ys:=by
 obtain⟨its,r,⟨o,e,_,n,d⟩,_⟩:=I.tuple h;obtain⟨its',r',⟨o',e',_,n',d'⟩,_⟩:=I.tuple h';rw[e] at e';cases e';rw[d] at d';injection d' with d1 _
 have:its=its':=by simpa using cz zf d1
 subst this;exact r.inj r'
end
noncomputable abbrev Cx.wish(X:Cx)(E:ak->au->Prop):Cx:={X with xe:=E}
noncomputable abbrev Cx.nox(X:Cx):Cx:=X.wish λ_ _=>c8
theorem Cx.Ok.wish{X:Cx}(ok:X.Ok)(E:ak->au->Prop):(X.wish E).Ok:=
 ⟨ok.mod,ok.kind,ok.glob,ok.blt,ok.above,ok.inj,ok.has,ok.cab,ok.hd,ok.frames,ok.stk,ok.exf,ok.bs,ok.bsz,ok.noex,ok.exfs,ok.aCz,ok.frf⟩
theorem Cx.Ok.xT{X:Cx}(ok:(X.wish E).Ok):X.Ok:=
 ⟨ok.mod,ok.kind,ok.glob,ok.blt,ok.above,ok.inj,ok.has,ok.cab,ok.hd,ok.frames,ok.stk,ok.exf,ok.bs,ok.bsz,ok.noex,ok.exfs,ok.aCz,ok.frf⟩
section
theorem Inv.wish(I:Inv X Ψ σ H s)(E:ak->au->Prop):Inv (X.wish E) Ψ σ H s:=⟨I.ok.wish E,I.os,I.bare,I.base,I.loc,I.cell,I.free,I.freeC,I.pin,I.hok,I.len⟩
theorem Inv.xT(I:Inv (X.wish E) Ψ σ H s):Inv X Ψ σ H s:=⟨I.ok.xT,I.os,I.bare,I.base,I.loc,I.cell,I.free,I.freeC,I.pin,I.hok,I.len⟩
theorem SP.xT(h:SP (X.wish E) Ψ D f s'):SP X Ψ D f s':=by
 cases f with
 |next=>obtain⟨σ',H',I,q⟩:=h;exact⟨σ',H',I.xT,q⟩
 |brk=>obtain⟨σ',H',I,q⟩:=h;exact⟨σ',H',I.xT,q⟩
 |cont=>obtain⟨σ',H',I,q⟩:=h;exact⟨σ',H',I.xT,q⟩
 |ret u=>obtain⟨v,σ',H',I,r,q⟩:=h;exact⟨v,σ',H',I.xT,r,q⟩
theorem PSs.nox{st:aa bq}(h:PSs X.nox st t):PSs X st t:=λΨ s σ H D I hw=>
 fu (h Ψ s σ H D (I.wish _) hw) (λ_ _ q=>q.xT) λ_ _ z=>f_ z
end
section
variable {X:Cx} {st:bq} {rest:aa bq} {t u:TS} {e:Expr} {te:TE} {pos:c9}
noncomputable def aT3:TS:=λD σ H=>D.nx σ H
noncomputable def aUk(t u:TS):TS:=λD σ H=>t {D with nx:=u D} σ H
theorem aD3:PSs X [] aT3:=λ_ _ σ H _ I h=>si ⟨σ,H,I,h⟩
theorem tD(h1:PS X st t)(h2:PSs X rest u):PSs X (st::rest) (aUk t u):=by
 intro Ψ s σ H D I h;refine zg (thn (h1 Ψ s σ H {D with nx:=u D} I h) λf s1 q=>?_);cases f with
 |next=>
  obtain⟨σ',H',I',q⟩:=q;exact h2 Ψ s1 σ' H' D I' q
 |ret v=>exact q
 |brk=>exact q
 |cont=>exact q
theorem zL(h1:PS X st t):PSs X [st] t:=by
 intro Ψ s σ H D I h;refine zg (thn (h1 Ψ s σ H D I h) λf s1 q=>?_);cases f with
 |next=>exact si q
 |ret v=>exact q
 |brk=>exact q
 |cont=>exact q
theorem Inv.quiet(I:Inv X Ψ σ H s):zh X.env=ai:=by simp[zh,I.ok.kind]
noncomputable def aT4(te:TE):TS:=λD σ H=>te σ H λ_ H1=>D.nx σ H1
theorem zM(he:PE X e te)(hs:fq e aj pos.line X.env=pure ai:=by rfl):PS X (.Expr e pos) (aT4 te):=by
 intro Ψ s σ H D I h;exact wpAny_Expr_any (thn (he Ψ s σ H _ I h) λv s1 ⟨x,H1,I1,r1,q1⟩=>⟨σ,H1,I1,q1⟩) I.quiet hs
noncomputable def aV3(te:TE):TS:=λD σ H=>te σ H D.rt
theorem aD4(he:PE X e te):PS X (.Return (ae e) pos) (aV3 te):=by
 intro Ψ s σ H D I h;exact wpAny_Return_some (thn (he Ψ s σ H _ I h) λv s1 ⟨x,H1,I1,r1,q1⟩=>⟨x,σ,H1,I1,r1,q1⟩)
noncomputable def aV4(c:TT)(t u:TS):TS:=λD σ H=>c σ H λb H1=>if b=ag then t D σ H1 else u D σ H1
theorem aPb(hc:PT X c tc)(ha:PSs X a t)(hb:PSs X b u):PS X (.If c a b pos) (aV4 tc t u):=by
 intro Ψ s σ H D I h;refine wpAny_If (thn (hc Ψ s σ H _ I h) λd s1 ⟨H1,I1,q1⟩=>?_);cases d with
 |true=>exact ha Ψ s1 σ H1 D I1 q1
 |false=>exact hb Ψ s1 σ H1 D I1 q1
end
abbrev TG:=V->St->Hp->(St->Hp->Prop)->Prop
abbrev TGs:=aa V->St->Hp->(St->Hp->Prop)->Prop
def PG(X:Cx)(target:Expr)(t:TG):Prop:=
 ∀(Ψ:aa (am×bP))(s:au)(σ:St)(H:Hp)(v:V)(u:ak)(Q:St->Hp->Prop),Inv X Ψ σ H s->RelV v u->t v σ H Q->
  ϑ (av X.prog X.w) X.A (kQ target X.env u) (λ_ s'=>∃σ' H',Inv X Ψ σ' H' s'/\Q σ' H') X.xe s
def PGs(X:Cx)(ts:aa Expr)(t:TGs):Prop:=
 ∀(Ψ:aa (am×bP))(s:au)(σ:St)(H:Hp)(vs:aa V)(us:aa ak)(Q:St->Hp->Prop),Inv X Ψ σ H s->Vals vs us->t vs σ H Q->
  ϑ (av X.prog X.w) X.A (assignInOrder ((kX ts X.env).map (·.2)) us) (λ_ s'=>∃σ' H',Inv X Ψ σ' H' s'/\Q σ' H') X.xe s
section
variable {X:Cx}
noncomputable def G3(i:ah):TG:=λv σ H Q=>Q (σ.set i (ae v)) H
theorem aX(hN:X.N.Nodup)(hi:X.N[i]?=ae x)(hx:Loc X.env.scope x)(hf:zFn X x:=by first|exact .inl rfl|exact .inr rfl|assumption):PG X (.Name x pos) (G3 i):=by
 intro Ψ s σ H v u Q I r h;exact wpAny_assign_Name (Y0 I hN hi hx r (λs' I'=>⟨_,H,I',h⟩) hf)
noncomputable def aUl:TGs:=λvs σ H Q=>vs=[]/\Q σ H
noncomputable def aPc(t:TG)(u:TGs):TGs:=λvs σ H Q=>∃v r,vs=v::r/\t v σ H λσ' H'=>u r σ' H' Q
theorem eO:PGs X [] aUl:=by
 intro Ψ s σ H vs us Q I r h;obtain⟨e,h⟩:=h;subst e;cases r;exact assignInOrder_nil ⟨σ,H,I,h⟩
theorem aZ(h1:PG X e t)(h2:PGs X es u)
 (hs:(kX (e::es) X.env).map (·.2)=kQ e X.env::(kX es X.env).map (·.2):=by rfl):PGs X (e::es) (aPc t u):=by
 intro Ψ s σ H vs us Q I r h;obtain⟨v,vr,e1,h⟩:=h;subst e1;cases r with
 |cons r rr=>
  rw[hs];refine assignInOrder_cons (thn (h1 Ψ s σ H _ _ _ I r h) λ_ s1 ⟨σ1,H1,I1,q1⟩=>?_);exact h2 Ψ s1 σ1 H1 _ _ Q I1 rr q1
noncomputable def aPd(K:cm)(n:ah)(t:TGs):TG:=λv σ H Q=>∃a xs,v=.ref a/\SqT K H a xs/\xs.length=n/\t xs σ H Q
theorem gW(hc:X.calm=ag)(h:PGs X es t)
 (hn:(kX es X.env).length=n:=by rfl)(hst:(kX es X.env).findIdx? (·.1)=aj:=by rfl):PG X (.Tuple es k pos) (aPd X.K n t):=by
 intro Ψ s σ H v u Q I r hw;obtain⟨a,xs,e1,hq,hl,hw⟩:=hw;subst e1;cases r;obtain⟨its,rv,ht,hz⟩:=I.tuple hq;refine assign_Tuple_tuple (I.ok.hd hc) ht (by simp[hn,<-hl,rv.length]) hst λh' hx=>?_
 have I1:Inv X Ψ σ H {s with heap:=h'}:=I.kept λb o e=>hx b o (de (bE e)) e
 exact h Ψ _ σ H xs _ Q I1 (by simpa using rv) hw
noncomputable def aOq(te:TE)(g:TG):TS:=λD σ H=>te σ H λx H1=>g x σ H1 D.nx
theorem aPe(he:PE X e te)(hg:PG X tg g)(hs:zi [tg] e pos.line X.env=pure ai:=by rfl)(hw:zj [tg] e X.env=pure aj:=by rfl)
 (h1:(kX [tg] X.env).map (·.2)=[kQ tg X.env]:=by rfl):PS X (.Assign [tg] e pos) (aOq te g):=by
 intro Ψ s σ H D I h;refine wpAny_Assign_stores (thn (he Ψ s σ H _ I h) λv s1 ⟨x,H1,I1,r1,q1⟩=>?_) hs hw;rw[h1];exact thn (hg Ψ s1 σ H1 x v _ I1 r1 q1) λ_ s2 q=>q
theorem Y4(hN:X.N.Nodup)(hi:X.N[i]?=ae x)(hx:Loc X.env.scope x)(he:PE X e te)(hs:zSw X e x pos' pos:=by rfl)(hf:zFn X x:=by first|exact .inl rfl|exact .inr rfl|assumption) :
  PS X (.Assign [.Name x pos'] e pos) (aOq te (G3 i)):=by
 intro Ψ s σ H D I h;refine wpAny_Assign_Name (thn (he Ψ s σ H _ I h) λv s1 ⟨y,H1,I1,r1,q1⟩=>?_) hs;exact Y0 I1 hN hi hx r1 (λs2 I2=>⟨_,H1,I2,q1⟩) hf
end
section
def aPf(c:TT)(tb:TS):TS:=λD σ H=>∃W:ah->St->Hp->Prop,(∃m,W m σ H)/\∀m σ H,W m σ H->
 c σ H λb H1=>if b=ag then ∃N:St->Hp->Prop,(∀σ' H',N σ' H'->∃m',m'<m/\W m' σ' H')/\tb {D with nx:=N,ct:=N,bk:=D.nx} σ H1 else D.nx σ H1
theorem aHf(hp:k8 (av X.prog X.w) X.A X.env X.xe)(hc:PT X c tc)(hb:PSs X body tb):PS X (.While c body [] pos) (aPf tc tb):=by
 intro Ψ s σ H D I h;obtain⟨W,⟨m0,w0⟩,turn⟩:=h;refine wpAny_While (codeAny_whileLoop (λn s'=>∃σ' H',Inv X Ψ σ' H' s'/\W n σ' H') ?_ m0 ⟨σ,H,I,w0⟩);rintro n s1 ⟨σ1,H1,I1,w1⟩;refine k9 hp (thn (hc Ψ s1 σ1 H1 _ I1 (turn n σ1 H1 w1)) λb s2 ⟨H2,I2,q2⟩=>?_);cases b with
 |true=>
  obtain⟨N,hN,q2⟩:=q2;rw[ao rfl];refine k9 hp (thn (hb Ψ s2 σ1 H2 _ I2 q2) λf s3 q3=>?_);cases f with
  |next=>
   obtain⟨σ3,H3,I3,n3⟩:=q3;obtain⟨m',hm,w3⟩:=hN σ3 H3 n3;exact⟨m',hm,σ3,H3,I3,w3⟩
  |cont=>
   obtain⟨σ3,H3,I3,n3⟩:=q3;obtain⟨m',hm,w3⟩:=hN σ3 H3 n3;exact⟨m',hm,σ3,H3,I3,w3⟩
  |brk=>exact q3
  |ret v=>exact q3
 |false=>
  rw[ap nB];exact si ⟨σ1,H2,I2,q2⟩
end
structure It where
 go:ah->Hp->Prop
 yld:ah->Hp->V->Hp->Prop
 stop:ah->Hp->Prop
def aCo(X:Cx)(Ψ:aa (am×bP))(H:Hp)(b:am):Prop:=
 H b=aj/\b≠X.env.locals/\b∉X.fs/\(b∈X.ex\/X.s₀.heap.objs.size<=b)/\(∀x c,X.env.cells.lookup x=ae c->c≠b)/\∀p∈X.pn++Ψ,p.1≠b
theorem Inv.aL7(I:Inv X Ψ σ H s)(hb:s.heap.objs.size<=b)(hn:H' b=aj):aCo X Ψ H' b:=by
 refine⟨hn,jz (eC I.lt hb),I.aUj hb,.inr (dj I.sz hb),λx c e z=>?_,λp hp z=>?_⟩
 .obtain⟨v,q⟩:=I.cell x c e;exact aT (eC q.lt (by rw[z];exact hb)) (fT _)
 .exact aT (eC (bE (I.pin p hp).1) (by rw[z];exact hb)) (fT _)
structure Turn(P:cb)(w:br)(K:cm)(tg:Expr)(J:It)(fp:aa am)(it:am)(tn:ah->bm->Prop):Prop where
 mem:it∈fp
 obj:∀i h,tn i h->∀b∈fp,∃o,h.get? b=ae o/\∀v,o.data≠.cell v
 keep:∀i h h',tn i h->(∀b∈fp,∀o,h.get? b=ae o->h'.get? b=ae o)->tn i h'
 item:∀(X:Cx),X.prog=P->X.w=w->X.K=K->X.calm=ag->∀(i:ah)(Ψ:aa (am×bP))(s:au)(σ:St)(H:Hp)(E:ak->au->Prop),Inv X Ψ σ H s->(∀b∈fp,aCo X Ψ H b)->tn i s.heap->J.go i H->
  ϑ (av P w) X.A (gr (.ref it)) (λr s1=>∃u,r=ae u/\
   ϑ (av P w) X.A (sj tg (.ref it) u) (λ_ s2=>∃x H',Inv X Ψ σ H' s2/\RelV x u/\J.yld i H x H'/\tn (i+1) s2.heap/\∀b∈fp,H' b=aj) E s1) E s
 done:∀(X:Cx),X.prog=P->X.w=w->X.K=K->X.calm=ag->∀(i:ah)(Ψ:aa (am×bP))(s:au)(σ:St)(H:Hp)(E:ak->au->Prop),Inv X Ψ σ H s->(∀b∈fp,aCo X Ψ H b)->tn i s.heap->J.stop i H->
  ϑ (av P w) X.A (gr (.ref it)) (λr s1=>r=aj/\Inv X Ψ σ H s1) E s
 self:∀(A:cu)(i:ah)(s:au)(Q:ak->au->Prop)(E:ak->au->Prop),tn i s.heap->Q (.ref it) s->ϑ (av P w) A (gX (.ref it)) Q E s
abbrev TI:=St->Hp->(It->Hp->Prop)->Prop
def PIE(X:Cx)(Ψ:aa (am×bP))(σ:St)(tg:Expr)(R:It->Hp->Prop)(itv:ak)(s2:au):Prop:=
 ∃(it:am)(fp:aa am)(tn:ah->bm->Prop)(J:It)(H':Hp),itv=.ref it/\Inv X Ψ σ H' s2/\Turn X.prog X.w X.K tg J fp it tn/\tn 0 s2.heap/\(∀b∈fp,aCo X Ψ H' b)/\R J H'
def PI(X:Cx)(tg iter:Expr)(wi:TI):Prop:=
 ∀(Ψ:aa (am×bP))(s:au)(σ:St)(H:Hp)(R:It->Hp->Prop),Inv X Ψ σ H s->wi σ H R->
  ϑ (av X.prog X.w) X.A (cw iter X.env) (λv s1=>ϑ (av X.prog X.w) X.A (gX v) (PIE X Ψ σ tg R) X.xe s1) X.xe s
theorem aL8(ho:s.heap.get? it=ae o)(hc:o.cls=.type n)(hd:o.data=.fields vs)
 (hn:["enumerate","zip","dict_itemiterator","dict_reverseitemiterator","odict_iterator","itertools.zip_longest","itertools.pairwise"].contains n=ai)(hQ:Q () s):ϑ M A (sj tg (.ref it) u) Q E s:= by
  unfold sj;cases tg<;>first
    |exact bf hQ
    | (cases u<;>first
        |exact bf hQ
        | (refine aw (wpAny_load ho ?_)
           rw[hc,hd];show ϑ M A (if (["enumerate","zip","dict_itemiterator","dict_reverseitemiterator","odict_iterator","itertools.zip_longest","itertools.pairwise"].contains n&&vs[0]?==ae (iz _))=ag then _ else _) Q E s;rw[ap (by intro h;rw[hn,Bool.false_and] at h;cases h)];exact bf hQ))
noncomputable def Itl(K:cm)(a:am):It:=
 ⟨λi H=>∃xs x,SqL K H a xs/\xs[i]?=ae x,λi H x H'=>H'=H/\∀xs,SqL K H a xs->xs[i]?=ae x,λi H=>∃xs,SqL K H a xs/\xs.length<=i⟩
noncomputable def Itt(K:cm)(a:am):It:=
 ⟨λi H=>∃xs x,SqT K H a xs/\xs[i]?=ae x,λi H x H'=>H'=H/\∀xs,SqT K H a xs->xs[i]?=ae x,λi H=>∃xs,SqT K H a xs/\xs.length<=i⟩
noncomputable def Itr(lo:af)(n:ah):It:=⟨λi _=>i<n,λi H x H'=>H'=H/\x=.int (lo+i),λi _=>n<=i⟩
theorem zN{K:cm}(a it:am):Turn P w K tg (Itl K a) [it] it (λi h=>h.IsListIter it a i) where
 mem:=by simp
 obj:=λi h st b hb=>by
  have e:b=it:=by simpa using hb
  subst e;obtain⟨o,e,c,d⟩:=st;exact⟨o,e,λv z=>by rw[d] at z;cases z⟩
 keep:=λi h h' st k=>st.at λo e=>k it 0x2 o e
 item:=by
  intro X hP hw hK hc i Ψ s σ H E I hf st hg;subst hP hw hK;obtain⟨xs,x,hq,hx⟩:=hg;obtain⟨its,rv,p,hz⟩:=I.list hq;obtain⟨u,hu,ru⟩:=rv.get hx;obtain⟨f0,f1,f2,f3,f4,f5⟩:=hf it 0x2;refine zk st p.isList (by simpa using hu) λh' st' sb=>?_
  have I1:Inv X Ψ σ H {s with heap:=h'}:=I.turned (λb o hb e=>(sb.2 b hb).trans e) f0 f1 f3 f4 f5;obtain⟨o,e,c,d⟩:=id st';exact⟨u,rfl,aL8 e c d 0x4 ⟨x,H,I1,ru,⟨rfl,λys hy=>by rw[I.yP hy hq];exact hx⟩,st',λb hb=>(hf b hb).1⟩⟩
 done:=by
  intro X hP hw hK hc i Ψ s σ H E I hf st hg;subst hP hw hK;obtain⟨xs,hq,hx⟩:=hg;obtain⟨its,rv,p,hz⟩:=I.list hq;obtain⟨f0,f1,f2,f3,f4,f5⟩:=hf it 0x2;have hl:=rv.length;exact zl (I.ok.hd hc) st p.isList (by simp;lia) λh' eb=>⟨rfl,I.turned (λb o hb e=>eb b o hb e) f0 f1 f3 f4 f5⟩
 self:=λ_ _ _ _ _ st h=>wpAny_pyIter_listiter st h
theorem aB7{K:cm}(a it:am):Turn P w K tg (Itt K a) [it] it (λi h=>h.IsTupleIter it a i) where
 mem:=by simp
 obj:=λi h st b hb=>by
  have e:b=it:=by simpa using hb
  subst e;obtain⟨o,e,c,d⟩:=st;exact⟨o,e,λv z=>by rw[d] at z;cases z⟩
 keep:=λi h h' st k=>st.at λo e=>k it 0x2 o e
 item:=by
  intro X hP hw hK hc i Ψ s σ H E I hf st hg;subst hP hw hK;obtain⟨xs,x,hq,hx⟩:=hg;obtain⟨its,rv,p,hz⟩:=I.tuple hq;obtain⟨u,hu,ru⟩:=rv.get hx;obtain⟨f0,f1,f2,f3,f4,f5⟩:=hf it 0x2;refine zm st (show s.heap.IsTuple a its.toArray from p) (by simpa using hu) λh' st' sb=>?_
  have I1:Inv X Ψ σ H {s with heap:=h'}:=I.turned (λb o hb e=>(sb.2 b hb).trans e) f0 f1 f3 f4 f5;obtain⟨o,e,c,d⟩:=id st';exact⟨u,rfl,aL8 e c d 0x4 ⟨x,H,I1,ru,⟨rfl,λys hy=>by rw[I.aD2 hy hq];exact hx⟩,st',λb hb=>(hf b hb).1⟩⟩
 done:=by
  intro X hP hw hK hc i Ψ s σ H E I hf st hg;subst hP hw hK;obtain⟨xs,hq,hx⟩:=hg;obtain⟨its,rv,p,hz⟩:=I.tuple hq;obtain⟨f0,f1,f2,f3,f4,f5⟩:=hf it 0x2;have hl:=rv.length;exact zn (I.ok.hd hc) st (show s.heap.IsTuple a its.toArray from p) (by simp;lia) λh' eb=>⟨rfl,I.turned (λb o hb e=>eb b o hb e) f0 f1 f3 f4 f5⟩
 self:=λ_ _ _ _ _ st h=>wpAny_pyIter_tupleiter st h
theorem aB8{K:cm}(it:am)(lo:af)(n:ah):Turn P w K tg (Itr lo n) [it] it (λi h=>zo h it (lo+(i:ah)*1) ((n:af)-(i:ah)) 1) where
 mem:=by simp
 obj:=λi h st b hb=>by
  have e:b=it:=by simpa using hb
  subst e;exact⟨_,st,λv z=>by
   have z':zp _=zq v:=z;cases z'⟩
 keep:=λi h h' st k=>k it 0x2 _ st
 item:=by
  intro X hP hw hK hc i Ψ s σ H E I hf st hg;subst hP hw hK;obtain⟨f0,f1,f2,f3,f4,f5⟩:=hf it 0x2;have W:=Walks.range (prog:=X.prog) (w:=X.w) (I.ok.hd hc) it lo 1 n;refine W.item i s _ _ hg st λv h' tk hv st' kk=>?_
  obtain⟨t,rfl⟩:=hv;have I1:Inv X Ψ σ H {s with heap:=h',toks:=tk}:=I.turned (λb o hb e=>kk b o (by simpa using hb) e) f0 f1 f3 f4 f5;refine⟨_,rfl,aL8 st' rfl rfl 0x4 ⟨.int (lo+i),H,I1,⟨t,?_⟩,⟨rfl,rfl⟩,st',λb hb=>(hf b hb).1⟩⟩;rw[vg]
 done:=by
  intro X hP hw hK hc i Ψ s σ H E I hf st hg;subst hP hw hK;obtain⟨f0,f1,f2,f3,f4,f5⟩:=hf it 0x2;exact wpAny_pyNext_range_end (I.ok.hd hc) st (by have:n<=i:=hg;lia) λh' eb=>⟨rfl,I.turned (λb o hb e=>eb b o hb e) f0 f1 f3 f4 f5⟩
 self:=λ_ _ _ _ _ st h=>wpAny_pyIter_rangeiter st h
section
theorem aHg{lo hi:af}{t u v:fN}{tk:ah}(I:Inv X Ψ σ H s)(h1:-(2 ^ 62)<=lo)(h2:lo<2 ^ 62)(h3:-(2 ^ 62)<=hi)(h4:hi<2 ^ 62)
 (q:R (Itr lo (hi-lo).toNat) H):ϑ (av X.prog X.w) X.A (gX (.ref s.heap.objs.size)) (PIE X Ψ σ tg R) E {s with heap:=s.heap.push {cls:=.type "range",data:=.fields #[.int lo t,.int hi u,.int 1 v]},toks:=tk}:=by
 refine wpAny_pyIter_range (IsRange.new ..) (small_one h1 h2 h3 h4) ?_;have I1:Inv X Ψ σ H {s with heap:=s.heap.push {cls:=.type "range",data:=.fields #[.int lo t,.int hi u,.int 1 v]},toks:=tk}:=I.kept λb o e=>cg _ e
 refine⟨(s.heap.push {cls:=.type "range",data:=.fields #[.int lo t,.int hi u,.int 1 v]}).objs.size,[(s.heap.push {cls:=.type "range",data:=.fields #[.int lo t,.int hi u,.int 1 v]}).objs.size],_,_,H,rfl,
  I1.kept λb o e=>cg _ e,aB8 _ lo (hi-lo).toNat,?_,λb hb=>?_,q⟩
 .have e1:lo+((0:ah):af)*1=lo:=by simp
  have e2:(((hi-lo).toNat:ah):af)-((0:ah):af)=zr lo hi 1:=by rw[zt];split<;>lia
  show zo _ _ (lo+((0:ah):af)*1) ((((hi-lo).toNat:ah):af)-((0:ah):af)) 1;rw[e1,e2];exact dt _ rfl
 .have e:b=(s.heap.push {cls:=.type "range",data:=.fields #[.int lo t,.int hi u,.int 1 v]}).objs.size:=by simpa using hb
  subst e;exact I1.aL7 (bd _) (I1.hok.fresh (bd _))
def aT5(ta:TA):TI:=λσ H R=>ta σ H λvs H1=>∃j:af,vs=[.int j]/\-(2 ^ 62)<=j/\j<2 ^ 62/\R (Itr 0 j.toNat) H1
theorem aD5{p pos:c9}(hg:Gl X "range")(hm:X.mg "range"=aj)(ha:PA X [a] ta)(hs:dw [a] X.env=[(ai,cw a X.env)]:=by rfl):PI X tg (.Call (.Name "range" p) [a] [] pos) (aT5 ta):=by
 intro Ψ s σ H R I h;refine Call_ (vJ I hg hm boot_range (l9 (thn (ha pos Ψ s σ H _ I h) λus s1 ⟨vs,H1,I1,r1,q1⟩=>?_) hs rfl));obtain⟨j,e,q1,q2,q⟩:=q1;subst e;cases r1 with
 |cons r rr=>
  cases rr;obtain⟨t,rfl⟩:=r;exact zu (aHg I1 0x1 0x1 q1 q2 (by simpa using q))
def aV5(wi:TI)(g:TG)(tb:TS):TS:=λD σ H=>wi σ H λJ H1=>∃W:ah->ah->St->Hp->Prop,(∃m,W 0 m σ H1)/\∀i m σ H,W i m σ H->
 (J.stop i H/\D.nx σ H)\/(J.go i H/\∃N:St->Hp->Prop,(∀σ' H',N σ' H'->∃m',m'<m/\W (i+1) m' σ' H')/\∀x H',J.yld i H x H'->g x σ H' λσ2 H2=>tb {D with nx:=N,ct:=N,bk:=D.nx} σ2 H2)
noncomputable def zO(fp:aa am)(h:bm):aa (am×bP):=fp.filterMap λb=>(h.get? b).map λo=>(b,o)
theorem tE(hb:b∈fp)(e:h.get? b=ae o):(b,o)∈zO fp h:=zv.mpr ⟨b,hb,by rw[e];rfl⟩
theorem aD6(hp:p∈zO fp h):p.1∈fp/\h.get? p.1=ae p.2:=by
 obtain⟨b,hb,e⟩:=zv.mp hp;cases q:h.get? b with
 |none=>rw[q] at e;cases e
 |some o=>
  rw[q] at e;have e':(b,o)=p:=di e;subst e';exact⟨hb,q⟩
theorem Inv.pinned(I:Inv X Ψ σ H s)(hf:∀b∈fp,aCo X Ψ H b)(ho:∀b∈fp,∃o,s.heap.get? b=ae o/\∀v,o.data≠.cell v):Inv X (Ψ++zO fp s.heap) σ H s:=
 I.VJ λp hp=>(cj.mp hp).elim (λz=>I.pin p (dS _ z)) λz=>by
  obtain⟨hb,e⟩:=aD6 z;obtain⟨f0,f1,f2,_⟩:=hf p.1 hb;obtain⟨o,e',d⟩:=ho p.1 hb;rw[e] at e';cases e';exact⟨e,f0,f1,f2,d⟩
theorem Inv.vK(I:Inv X (Ψ++pl) σ H s):Inv X Ψ σ H s:=I.VJ λp hp=>I.pin p (dS _ (dP _ hp))
theorem QH(hp:k8 (av X.prog X.w) X.A X.env X.xe)(hc:X.calm=ag)(hi:PI X tg iter wi)(hg:PG X tg g)(hb:PSs X body tb)
 (hs:∀x,fg iter X.env x=pure x:=by intro _;rfl):PS X (.For tg iter body [] pos) (aV5 wi g tb):=by
 intro Ψ s σ H D I h;refine wpAny_For (thn (hi Ψ s σ H _ I h) λv s1 h1=>thn h1 λitv s2 h2=>?_) hs;obtain⟨it,fp,tn,J,H2,e,I2,T,st2,f2,W,⟨m0,w0⟩,turn⟩:=h2;subst e
 -- what stays ag of the iterator's objects through the loop
 have stat:∀{H':Hp},(∀b∈fp,H' b=aj)->∀b∈fp,aCo X Ψ H' b:=λhn b hb=>⟨hn b hb,(f2 b hb).2⟩
 refine codeAny_forLoop_any (λn s'=>∃i σ' H',Inv X Ψ σ' H' s'/\tn i s'.heap/\(∀b∈fp,H' b=aj)/\W i n σ' H') ?_ m0 ⟨0,σ,H2,I2,st2,λb hb=>(f2 b hb).1,w0⟩;rintro n s3 ⟨i,σ3,H3,I3,st3,fr3,w3⟩;rcases turn i n σ3 H3 w3 with ⟨stop,qn⟩|⟨go,N,hN,step⟩
 .refine k9 hp (thn (T.done X rfl rfl rfl hc i Ψ s3 σ3 H3 X.xe I3 (stat fr3) st3 stop) λr s4 ⟨hr,I4⟩=>?_);subst hr;exact si ⟨σ3,H3,I4,qn⟩
 .refine k9 hp (thn (T.item X rfl rfl rfl hc i Ψ s3 σ3 H3 X.xe I3 (stat fr3) st3 go) λr s4 ⟨u,hr,h4⟩=>?_);subst hr;refine k9 hp (thn h4 λ_ s5 ⟨x,H5,I5,r5,y5,st5,fr5⟩=>?_);have I5':=I5.pinned (stat fr5) (T.obj _ _ st5);refine k9 hp (thn (hg _ s5 σ3 H5 x u _ I5' r5 (step x H5 y5)) λ_ s6 ⟨σ6,H6,I6,q6⟩=>?_);refine k9 hp (thn (hb _ s6 σ6 H6 _ I6 q6) λf s7 q7=>?_);have again:∀{σ7:St}{H7:Hp},Inv X (Ψ++zO fp s5.heap) σ7 H7 s7->N σ7 H7->∃m,m<n/\∃i σ' H',Inv X Ψ σ' H' s7/\tn i s7.heap/\(∀b∈fp,H' b=aj)/\W i m σ' H':=λ{σ7 H7} I7 n7=>by
   obtain⟨m',hm,w7⟩:=hN σ7 H7 n7;refine⟨m',hm,i+1,σ7,H7,I7.vK,T.keep _ _ _ st5 λb hb o e=>(I7.pin (b,o) (dS _ (dS _ (tE hb e)))).1,λb hb=>?_,w7⟩;obtain⟨o,e,d⟩:=T.obj _ _ st5 b hb;exact(I7.pin (b,o) (dS _ (dS _ (tE hb e)))).2.1
  cases f with
  |next=>obtain⟨σ7,H7,I7,n7⟩:=q7;exact again I7 n7
  |cont=>obtain⟨σ7,H7,I7,n7⟩:=q7;exact again I7 n7
  |brk=>obtain⟨σ7,H7,I7,q7⟩:=q7;exact⟨σ7,H7,I7.vK,q7⟩
  |ret v=>obtain⟨x7,σ7,H7,I7,r7,q7⟩:=q7;exact⟨x7,σ7,H7,I7.vK,r7,q7⟩
end
abbrev R2:=V->V->Hp->VK->Prop
def OpR(X:Cx)(f:ak->ak->eP ak)(r:R2):Prop:=
 ∀(Ψ:aa (am×bP))(s:au)(σ:St)(H:Hp)(x y:V)(v u:ak)(Q:VK),Inv X Ψ σ H s->RelV x v->RelV y u->r x y H Q->
  ϑ (av X.prog X.w) X.A (f v u) (EP X Ψ σ Q) X.xe s
def UnR(X:Cx)(f:ak->eP ak)(r:V->Hp->VK->Prop):Prop:=
 ∀(Ψ:aa (am×bP))(s:au)(σ:St)(H:Hp)(x:V)(v:ak)(Q:VK),Inv X Ψ σ H s->RelV x v->r x H Q->
  ϑ (av X.prog X.w) X.A (f v) (EP X Ψ σ Q) X.xe s
def oW(X:Cx)(f:ak)(r:aa V->Hp->VK->Prop):Prop:=
 ∀(Ψ:aa (am×bP))(s:au)(σ:St)(H:Hp)(xs:aa V)(us:aa ak)(Q:VK),Inv X Ψ σ H s->Vals xs us->r xs H Q->
  ϑ (av X.prog X.w) X.A (call f us) (EP X Ψ σ Q) X.xe s
def aV6(X:Cx)(r:V->Hp->(aq->Hp->Prop)->Prop):Prop:=
 ∀(Ψ:aa (am×bP))(s:au)(σ:St)(H:Hp)(x:V)(v:ak)(Q:aq->Hp->Prop),Inv X Ψ σ H s->RelV x v->r x H Q->
  ϑ (av X.prog X.w) X.A (truthy v) (TP X Ψ σ Q) X.xe s
noncomputable def tOp(r:R2)(ta tb:TE):TE:=λσ H Q=>ta σ H λx H1=>tb σ H1 λy H2=>r x y H2 Q
noncomputable def tUn(r:V->Hp->VK->Prop)(ta:TE):TE:=λσ H Q=>ta σ H λx H1=>r x H1 Q
noncomputable def rI(C:af->af->Prop)(g:af->af->V):R2:=λx y H Q=>∃i j,x=.int i/\y=.int j/\C i j/\Q (g i j) H
noncomputable def rI0(g:af->af->V):R2:=λx y H Q=>∃i j,x=.int i/\y=.int j/\Q (g i j) H
def rU(g:af->V):V->Hp->VK->Prop:=λx H Q=>∃i,x=.int i/\Q (g i) H
section
variable {a b:Expr}
theorem aT6(ha:PE X a ta)(hb:PE X b tb){R:V->V->Hp->Prop}(I:Inv X Ψ σ H s)
 (h:ta σ H λx H1=>tb σ H1 λy H2=>R x y H2){Q:ak->au->Prop}{f:ak->ak->eP ak}
 (hf:∀v u s2 x y H2,Inv X Ψ σ H2 s2->RelV x v->RelV y u->R x y H2->ϑ (av X.prog X.w) X.A (f v u) Q X.xe s2) :
  ϑ (av X.prog X.w) X.A (cw a X.env) (λv s₁=>ϑ (av X.prog X.w) X.A (cw b X.env) (λu s₂=>ϑ (av X.prog X.w) X.A (f v u) Q X.xe s₂) X.xe s₁) X.xe s:=by
 refine thn (ha Ψ s σ H _ I h) λv s1 ⟨x,H1,I1,r1,q1⟩=>?_
 refine thn (hb Ψ s1 σ H1 _ I1 q1) λu s2 ⟨y,H2,I2,r2,q2⟩=>?_
 exact hf v u s2 x y H2 I2 r1 r2 q2
theorem aT7(ho:OpR X (fE op) r)(ha:PE X a ta)(hb:PE X b tb):PE X (.BinOp a op b pos) (tOp r ta tb):=by
 intro Ψ s σ H Q I h;exact wpAny_BinOp (aT6 ha hb I h λv u s2 x y H2 I2 rx ry q=>ho Ψ s2 σ H2 x y v u Q I2 rx ry q)
theorem aT8(ho:UnR X (so op) r)(ha:PE X a ta):PE X (.UnaryOp op a pos) (tUn r ta):=by
 intro Ψ s σ H Q I h;exact UnaryOp_ (thn (ha Ψ s σ H _ I h) λv s1 ⟨x,H1,I1,r1,q1⟩=>ho Ψ s1 σ H1 x v Q I1 r1 q1)
theorem opI{g:af->af->af}
 (la:∀(i j:af) (t u:fN) (s:au) (Q:ak->au->Prop) (E:ak->au->Prop),C i j->Q (.int (g i j) s.toks) {s with toks:=s.toks+1}->ϑ (av X.prog X.w) X.A (f (.int i t) (.int j u)) Q E s) :
  OpR X f (rI C λi j=>.int (g i j)):=by
 intro Ψ s σ H x y v u Q I rx ry h;obtain⟨i,j,rfl,rfl,hc,q⟩:=h;obtain⟨t,rfl⟩:=rx;obtain⟨t',rfl⟩:=ry;exact la i j t t' s _ _ hc ⟨.int (g i j),H,I.tok _,⟨_,rfl⟩,q⟩
theorem aUm{g:af->af->af}
 (la:∀(i j:af) (t u:fN) (s:au) (Q:ak->au->Prop) (E:ak->au->Prop),Q (.int (g i j) s.toks) {s with toks:=s.toks+1}->ϑ (av X.prog X.w) X.A (f (.int i t) (.int j u)) Q E s) :
  OpR X f (rI0 λi j=>.int (g i j)):=by
 intro Ψ s σ H x y v u Q I rx ry h;obtain⟨i,j,rfl,rfl,q⟩:=h;obtain⟨t,rfl⟩:=rx;obtain⟨t',rfl⟩:=ry;exact la i j t t' s _ _ ⟨.int (g i j),H,I.tok _,⟨_,rfl⟩,q⟩
def aV7(i j:af):Prop:=0<j/\j<1073741824
def aV8(i j:af):Prop:=0<=j/\j<=1000000/\i.natAbs<2 ^ 64
def aT9(i j:af):Prop:=(-(2 ^ 64)<i/\i<2 ^ 64)\/(-(2 ^ 64)<j/\j<2 ^ 64)
theorem aT9.ok(h:aT9 i j):IntMulOk i j:=by
 rcases h with ⟨h1,h2⟩|⟨h1,h2⟩
 .exact .of_left (zw h1 h2)
 .exact .of_right (zw h1 h2)
theorem aPg:OpR X (fE .Add) (rI0 λi j=>.int (i+j)):=aUm λ_ _ _ _ _ _ _ q=>add_int q
theorem aPh:OpR X (fE .Sub) (rI0 λi j=>.int (i-j)):=aUm λ_ _ _ _ _ _ _ q=>sub_int q
theorem aPi:OpR X (fE .Mult) (rI aT9 λi j=>.int (i*j)):=opI λ_ _ _ _ _ _ _ hc q=>mul_int q hc.ok
theorem aL9:OpR X (fE .FloorDiv) (rI aV7 λi j=>.int (i / j)):=opI λi j _ _ _ _ _ hc q=>by
 have h1:(0:af)<j:=hc.1;have h2:j<1073741824:=hc.2;exact floordiv_int 0x1 (by rw[Int.fdiv_eq_ediv_of_nonneg i 0x1];exact q) (.inl (PyProof.noPylong_small 0x1))
theorem aPj:OpR X (fE .Mod) (rI (λ_ j=>0<j) λi j=>.int (i % j)):=opI λi j _ _ _ _ _ hc q=>by
 have h1:(0:af)<j:=hc;exact mod_int' 0x1 (by rw[Int.fmod_eq_emod_of_nonneg i 0x1];exact q)
theorem aPk:OpR X (fE .Pow) (rI aV8 λi j=>.int (i ^ j.toNat)):=opI λ_ _ _ _ _ _ _ hc q=>pow_int_small hc.1 hc.2.1 hc.2.2 q
theorem unI{g:af->af}
 (la:∀(i:af) (t:fN) (s:au) (Q:ak->au->Prop) (E:ak->au->Prop),Q (.int (g i) s.toks) {s with toks:=s.toks+1}->ϑ (av X.prog X.w) X.A (f (.int i t)) Q E s) :
  UnR X f (rU λi=>.int (g i)):=by
 intro Ψ s σ H x v Q I rx h;obtain⟨i,rfl,q⟩:=h;obtain⟨t,rfl⟩:=rx;exact la i t s _ _ ⟨.int (g i),H,I.tok _,⟨_,rfl⟩,q⟩
theorem aPl:UnR X (so .USub) (rU λi=>.int (-i)):=unI λ_ _ _ _ _ q=>neg_int q
end
section
variable {X:Cx} {a b c:Expr} {ta tb tc:TE} {pos:c9}
theorem aJu(I:Inv X Ψ σ H s)(q:Q (.bl k) H)(e:k=k'):EP X Ψ σ Q (.bool k') s:=by
 subst e;exact⟨.bl k,H,I,rfl,q⟩
theorem aPm:OpR X (dq .Is) (λx y H Q=>y=.non/\Q (.bl (ϒ (x=.non))) H):=by
 intro Ψ s σ H x y v u Q I rx ry h;obtain⟨rfl,q⟩:=h;cases ry;refine is_none_gen (aJu I q ?_);cases x<;>first
  | (cases rx;rfl)
  | (obtain⟨t,rfl⟩:=rx;rfl)
theorem aLa:OpR X (dq .IsNot) (λx y H Q=>y=.non/\Q (.bl (!ϒ (x=.non))) H):=by
 intro Ψ s σ H x y v u Q I rx ry h;obtain⟨rfl,q⟩:=h;cases ry;refine isnot_none_gen (aJu I q ?_);cases x<;>first
  | (cases rx;rfl)
  | (obtain⟨t,rfl⟩:=rx;rfl)
theorem bN(b:Expr)(h:op≠.In:=by decide)(h2:op≠.NotIn:=by decide):ma op b=ai:=by
 have e1:(op==CmpOp.In)=ai:=by cases op<;>first|rfl|exact aT rfl h
 have e2:(op==CmpOp.NotIn)=ai:=by cases op<;>first|rfl|exact aT rfl h2
 cases b<;>simp[ma,e1,e2]
theorem aLb(ho:OpR X (dq op) r)(ha:PE X a ta)(hb:PE X b tb)(hm:ma op b=ai):PE X (.Compare a [op] [b] pos) (tOp r ta tb):=by
 intro Ψ s σ H Q I h;exact wpAny_Compare1 (aT6 ha hb I h λv u s2 x y H2 I2 rx ry q=>ho Ψ s2 σ H2 x y v u Q I2 rx ry q) hm
noncomputable def aPn(t:TE):TT:=λσ H Q=>t σ H λx H'=>∃k,x=.bl k/\Q k H'
theorem aLc(ho:OpR X (dq op) r)(ha:PE X a ta)(hb:PE X b tb)(hm:ma op b=ai):PT X (.Compare a [op] [b] pos) (aPn (tOp r ta tb)):=by
 intro Ψ s σ H Q I h;refine wpAny_isTrue_Compare1 (thn (ha Ψ s σ H _ I h) λv s1 ⟨x,H1,I1,r1,q1⟩=>thn (hb Ψ s1 σ H1 _ I1 q1) λu s2 ⟨y,H2,I2,r2,q2⟩=>
  thn (ho Ψ s2 σ H2 x y v u _ I2 r1 r2 q2) λc s3 ⟨z,H3,I3,r3,k,e,q3⟩=>?_) hm
 subst e;cases r3;exact jg ⟨H3,I3,q3⟩
noncomputable def aJv(r r':R2)(ta tb tc:TE):TE:=λσ H Q=>ta σ H λx H1=>tb σ H1 λy H2=>r x y H2 λz H3=>∃k,z=.bl k/\
 (if k=ag then tc σ H3 λw' H4=>r' y w' H4 Q else Q (.bl ai) H3)
theorem aHh(ho:OpR X (dq op) r)(ho':OpR X (dq op') r')(ha:PE X a ta)(hb:PE X b tb)(hc:PE X c tc)
 (hm:lastMarks [op,op'] [b,c]=ai:=by with_unfolding_all rfl):PT X (.Compare a [op,op'] [b,c] pos) (aPn (aJv r r' ta tb tc)):=by
 intro Ψ s σ H Q I h;refine isTrue_chain (thn (ha Ψ s σ H _ I h) λv s1 ⟨x,H1,I1,r1,q1⟩=>test_link (thn (hb Ψ s1 σ H1 _ I1 q1) λu s2 ⟨y,H2,I2,r2,q2⟩=>
  thn (ho Ψ s2 σ H2 x y v u _ I2 r1 r2 q2) λd s3 ⟨z,H3,I3,r3,k,e,q3⟩=>?_)) hm
 subst e;cases r3;refine jg ?_;cases k with
 |false=>
  obtain⟨k',e',q'⟩:=q3;cases e';exact ite_ff ⟨H3,I3,q'⟩
 |true=>
  refine ite_tt (test_last (thn (hc Ψ s3 σ H3 _ I3 q3) λw' s4 ⟨z',H4,I4,r4,q4⟩=>thn (ho' Ψ s4 σ H4 y z' u w' _ I4 r2 r4 q4) λd' s5 ⟨z2,H5,I5,r5,k2,e2,q5⟩=>?_));subst e2;cases r5;exact jg ⟨H5,I5,q5⟩
def aTa(K:cm)(x:V)(H:Hp)(k:aq):Prop:=
 match x with
 |.non=>k=ai
 |.bl b=>k=b
 |.int i=>k=(i !=0)
 |.str y=>y.length<=bg/\k=((y.length:af)!=0)
 |.byt y=>y.size<=bg/\k=((y.size:af)!=0)
 |.ref p=>(∃xs,SqL K H p xs/\k=!xs.isEmpty)\/(∃xs,SqT K H p xs/\k=!xs.isEmpty)\/∃kvs,H p=ae (.dK kvs)/\k=!kvs.isEmpty
 |_=>c8
theorem aB9(r:KV kvs vs):(!vs.isEmpty)=!kvs.isEmpty:=by
 cases r<;>rfl
theorem JB(r:Vals xs its):(!its.toArray.isEmpty)=!xs.isEmpty:=by
 cases r<;>simp
theorem JC:(bg:ah)<2 ^ 63:=by rw[eS];decide
theorem aPo:aV6 X (λx H Q=>∃k,aTa X.K x H k/\Q k H):=by
 intro Ψ s σ H x v Q I rx h;obtain⟨k,e,q⟩:=h;have hl:=JC;have hs:bg=16777216:=eS;cases x with
 |non=>
  cases rx;have e':k=ai:=e;subst e';exact truthy_none ⟨H,I,q⟩
 |bl b=>
  cases rx;have e':k=b:=e;subst e';exact jg ⟨H,I,q⟩
 |int i=>
  obtain⟨t,rfl⟩:=rx;have e':k=(i !=0):=e;subst e';exact PySem.P.truthy_int ⟨H,I,q⟩
 |str y=>
  obtain⟨t,rfl⟩:=rx;obtain⟨hy,e'⟩:y.length<=bg/\k=((y.length:af)!=0):=e;subst e';exact PySem.P.truthy_str 0x1 ⟨H,I.tok _,q⟩
 |byt y=>
  obtain⟨t,rfl⟩:=rx;obtain⟨hy,e'⟩:y.size<=bg/\k=((y.size:af)!=0):=e;subst e';exact PySem.W.truthy_bytes 0x1 ⟨H,I.tok _,q⟩
 |ref p=>
  cases rx;have e':(∃xs,SqL X.K H p xs/\k=!xs.isEmpty)\/(∃xs,SqT X.K H p xs/\k=!xs.isEmpty)\/∃kvs,H p=ae (.dK kvs)/\k=!kvs.isEmpty:=e;rcases e' with ⟨xs,hx,e'⟩|⟨xs,hx,e'⟩|⟨kvs,hx,e'⟩
  .subst e';obtain⟨its,r,pl,hz⟩:=I.list hx;have hlen:=r.length;exact wpAny_truthy_list pl.isList (by simp only[b6];lia) ⟨H,I.tok _,by rw[JB r];exact q⟩
  .subst e';obtain⟨its,r,pl,hz⟩:=I.tuple hx;have hlen:=r.length;exact truthy_tuple pl (by simp only[b6];lia) ⟨H,I.tok _,by rw[JB r];exact q⟩
  .subst e';obtain⟨hz,hS,vs,r,m⟩:kvs.length<=bg/\(p==fS)=ai/\∃vs,KV kvs vs/\s.heap.DictOf (dJ X.prog X.w) p vs:=I.hok p _ hx;have hlen:kvs.length=vs.length:=kN r;exact wpAny_truthy_dict hS m 0x1 ⟨H,I.tok _,by rw[aB9 r];exact q⟩
 |_=>exact(show c8 from e).elim
theorem aHi(ha:PE X a ta)(he:∀whole,sg a X.env whole=(do let v <- whole;standAt a.pos;vh [v] (truthy v))) :
  PT X a (λσ H Q=>ta σ H λx H'=>∃k,aTa X.K x H' k/\Q k H'):=by
 intro Ψ s σ H Q I h;exact isTrue_plain (thn (ha Ψ s σ H _ I h) λv s1 ⟨x,H1,I1,r1,q1⟩=>aPo Ψ s1 σ H1 x v Q I1 r1 q1) (he _)
theorem aBa:OpR X (fE .Add) (λx y H Q=>∃i j,x=.str i/\y=.str j/\i.length+j.length<=bg/\Q (.str (i++j)) H):=by
 intro Ψ s σ H x y v u Q I rx ry h;obtain⟨i,j,rfl,rfl,hz,q⟩:=h;obtain⟨t,rfl⟩:=rx;obtain⟨t',rfl⟩:=ry;exact add_str (λt' tk=>⟨.str (i++j),H,I.tok _,⟨_,rfl⟩,q⟩) hz
theorem vals1(r:Vals [x] us):∃u,us=[u]/\RelV x u:=by
 cases r with
 |cons r1 r2=>cases r2;exact⟨_,rfl,r1⟩
end
theorem aCn.some_of(r:aCn (ae v) o):∃u,o=ae u/\RelV v u:=by
 cases o with
 |none=>exact(show c8 from r).elim
 |some u=>exact⟨u,rfl,r⟩
structure GR(k:ah)(A:cu):Prop where
 hd:A.handled=aj
 dp:A.depth+3*k+5<zz
 un:A.units+16*k+200<bw
theorem GR.mono(r:GR k A)(h:j<=k):GR j A:=⟨r.hd,by have:=r.dp;lia,by have:=r.un;lia⟩
theorem GR.deeper(r:GR (k+1) A)(env:eD):GR k (A.deeper env):=
 ⟨r.hd,by have:=r.dp;show A.depth+1+3*k+5<_;lia,by have:=r.un;show A.units+3+16*k+200<_;lia⟩
theorem GR.depth(r:GR k A):A.depth<zz:=by have:=r.dp;lia
theorem GR.units(r:GR k A):A.units+64<bw:=by have:=r.un;lia
noncomputable def aV9:TA:=λ_ H Q=>Q [] H
noncomputable def aTb(ta:TE)(tr:TA):TA:=λσ H Q=>ta σ H λx H1=>tr σ H1 λxs H2=>Q (x::xs) H2
section
variable {t:TA}
theorem vL:PA X [] aV9:=λ_ _ _ _ H Q I h=>su ⟨[],H,I,.nil,h⟩
theorem nO(ha:PE X e te)(hr:PA X es t)(hs:zSE X e es:=by rfl):PA X (e::es) (aTb te t):=by
 intro pos Ψ s σ H Q I h;rw[hs];show ϑ _ _ (ny ((ai,cw e X.env)::jw pos (dw es X.env))) _ _ s;refine sv (thn (ha Ψ s σ H _ I h) λu s1 ⟨x,H1,I1,r1,q1⟩=>?_);exact thn (hr pos Ψ s1 σ H1 _ I1 q1) λus s2 ⟨xs,H2,I2,r2,q2⟩=>⟨x::xs,H2,I2,.cons r1 r2,q2⟩
def aVa(t:TA):TE:=λσ H Q=>t σ H λxs H1=>xs.length<=bg/\∀p,H1 p=aj->Q (.ref p) (upd H1 p (.tup xs))
def aVb(t:TA):TE:=λσ H Q=>t σ H λxs H1=>xs.length<=bg/\∀p,H1 p=aj->Q (.ref p) (upd H1 p (.lst xs))
theorem aPp{x1}(h:PA X es t):PE X (.Tuple es x1 pos) (aVa t):=by
 intro Ψ s σ H Q I hq;refine wpAny_Tuple_spliced (thn (h pos Ψ s σ H _ I hq) λus s1 ⟨xs,H1,I1,r,z,q⟩=>⟨by rw[<-r.length];exact z,?_⟩);have hf:H1 s1.heap.objs.size=aj:=I1.hok.fresh (bd _);refine⟨.ref s1.heap.objs.size,upd H1 s1.heap.objs.size (.tup xs),I1.laid (λb u e=>cg _ e) (bd _) ?_,rfl,q _ hf⟩;exact⟨z,us,r,⟨_,dt _ rfl,rfl,_,rfl⟩⟩
theorem aD7(h:PA X es t):PE X (.List es pos) (aVb t):=by
 intro Ψ s σ H Q I hq;refine wpAny_List_spliced (thn (h pos Ψ s σ H _ I hq) λus s1 ⟨xs,H1,I1,r,z,q⟩=>⟨by rw[<-r.length];exact z,?_⟩);have hf:H1 s1.heap.objs.size=aj:=I1.hok.fresh (bd _);refine⟨.ref s1.heap.objs.size,upd H1 s1.heap.objs.size (.lst xs),I1.laid (λb u e=>cg _ e) (bd _) ?_,rfl,q _ hf⟩;exact⟨z,us,0,r,dt _ rfl⟩
end
abbrev Sp:=aa V->Hp->VK->XK->Prop
abbrev CXT:=aa eD->Hp->au->XK->ak->au->Prop
structure aSn(P:cb)(w:br)(K:cm)(mg:Str->az ak)(base:bm)(A:cu)(outer:aa eD)(s:au)(H:Hp):Prop where
 frames:A.frames=ae outer
 mod:Mod K mg base
 bs:∀b o,base.get? b=ae o->s.heap.get? b=ae o/\H b=aj
 bsz:base.objs.size<=s.heap.objs.size
 aCz:s.heap.FunFrames base outer
 frf:∀b∈frs outer,H b=aj
 hok:HOk P w H s.heap
 bare:jx s.gens
def CE(outer:aa eD)(P:cb)(w:br)(H:Hp)(s:au)(Q:VK)(u:ak)(s':au):Prop:=
 ∃v H',s'.os=s.os/\jx s'.gens/\Un (frs outer) [] H H' s.heap s'.heap/\HOk P w H' s'.heap/\RelV v u/\Q v H'
def CR(CX:CXT)(outer:aa eD)(P:cb)(w:br)(H:Hp)(s:au)(Q:VK)(E:XK)(r:lb)(s':au):Prop:=
 match r with
 |.ok (.ret u)=>CE outer P w H s Q u s'
 |.ok _=>c8
 |.error e=>CX outer H s E e s'
structure aCp(P:cb)(w:br)(K:cm)(mg:Str->az ak)(base:bm)(CX:CXT)(k:ah)(f:am)(fd:hX)(ps:aa Str)(sp:Sp):Prop where
 len:∀vs H Q E,sp vs H Q E->vs.length=ps.length
 run:∀(A:cu)(outer:aa eD)(s:au)(H:Hp)(args:Args)(us:aa ak)(vs:aa V)(Q:VK)(E:XK),GR k A->aSn P w K mg base A outer s H->mf s fd args (ps.zip us)->Vals vs us->sp vs H Q E->
  codeAny (av P w) A (.call (.ref f) args) (CR CX outer P w H s Q E) s
section
theorem Inv.env0(I:Inv X Ψ σ H s):aSn X.prog X.w X.K X.mg X.base X.A X.stack s H:=
 ⟨I.ok.frames,I.ok.mod,I.bs,dj I.ok.bsz I.sz,I.stack,I.aD0,I.hok,I.bare⟩
theorem Inv.after(I:Inv X Ψ σ H s)(h:CE X.stack X.prog X.w H s Q u s'):EP X Ψ σ Q u s':=by
 obtain⟨v,H',os,bare,un,hok,r,q⟩:=h;obtain⟨hh,g,d,t,os'⟩:=s';obtain rfl:os'=s.os:=os;exact⟨v,H',I.call un hok bare (λb z=>aT z 0x2),r,q⟩
end
noncomputable def aTc(sp:Sp)(dvs:aa V)(E:XK)(t:TA):TE:=λσ H Q=>t σ H λvs H1=>sp (vs++dvs) H1 Q E
def Binds(K:cm)(fd:hX)(ps:aa Str)(ds:aa ak):Prop:=
 ∀(s:au)(us:aa ak),K.In s.heap->(us++ds).length=ps.length->mf s fd ⟨us,[]⟩ (ps.zip (us++ds))
theorem Binds.all{K:cm}(h:∀us:aa ak,us.length=ps.length->bindArgs fd ⟨us,[]⟩=pure (ps.zip us)):Binds K fd ps []:=λs us _ hl=>by
 rw[d4] at hl ⊢;exact .of_eq (h us hl)
def aD8(CX:CXT)(X:Cx)(E:XK):Prop:=∀(Ψ:aa (am×bP))(σ:St)(H:Hp)(s:au)(e:ak)(s':au),Inv X Ψ σ H s->CX X.stack H s E e s'->X.xe e s'
section
variable {f:am} {e:Expr}
theorem aPq(F:aCp X.prog X.w X.K X.mg X.base CX k f fd ps sp)(hr:GR k X.A)(hb:Binds X.K fd ps ds)(hd:Vals dvs ds)(hx:aD8 CX X E)
 (I:Inv X Ψ σ H s)(r:Vals vs us)(h:sp (vs++dvs) H Q E):ϑ (av X.prog X.w) X.A (call (.ref f) us) (EP X Ψ σ Q) X.xe s:=by
 have r2:Vals (vs++dvs) (us++ds):=r.append hd;have hl:(us++ds).length=ps.length:=by rw[<-r2.length];exact F.len _ _ _ _ h
 refine wpAny_call (mh (F.run X.A X.stack s H ⟨us,[]⟩ (us++ds) (vs++dvs) Q E hr I.env0 (hb s us I.kIn hl) r2 h) λr s' hq=>?_);cases r with
 |error e=>exact hx Ψ σ H s e s' I hq
 |ok fl=>
  cases fl with
  |ret u=>exact I.after hq
  |next=>exact f_ hq
  |brk=>exact f_ hq
  |cont=>exact f_ hq
theorem aLd(F:aCp X.prog X.w X.K X.mg X.base CX k f fd ps sp)(hr:GR k X.A)(hg:Gl X x)(hm:X.mg x=ae (.ref f))(hk:nE X.K (.ref f)=ag)(hb:Binds X.K fd ps ds)(hd:Vals dvs ds)(hx:aD8 CX X E)
 (ha:PA X (e::es) t)(hdb:nDb x:=by decide)(he:zSE X e es:=by rfl)(hpl:zSP X pos es:=by rfl) :
  PE X (.Call (.Name x p) (e::es) [] pos) (aTc sp dvs E t):=by
 intro Ψ s σ H Q I h;refine jI (aL4 I hg hm ?_ hdb);refine PySem.W.callWith_K I.ok.mod.kin hk (thn (ha pos Ψ s σ H _ I h) λus s1 ⟨vs,H1,I1,r,q⟩=>⟨I1.kIn,?_⟩) he hpl;exact aPq F hr hb hd hx I1 r q
end
structure b7(N P:aa Str)(sc:gp):Prop where
 kind:sc.kind=.function
 co:sc.isCoroutine=ai
 gen:sc.isGenerator=ai
 nd:N.Nodup
 pre:N.take P.length=P
 par:∀x∈P,sc.names.lookup x=ae .local\/sc.names.lookup x=ae .cell
 nofree:∀y∈sc.names,y.2≠.free
theorem QJ{kindOf:Str->az iA}:∀{binds:aa (Str×ak)}{m:Str->az ak},(∀v,(x,v)∉binds)->jS kindOf binds m x=m x
 |[],_,_=>rfl
 | (n,v)::r,m,h=>by
  unfold jS;rw[QJ λw hw=>h w (bo _ hw)];split
  .have:x≠n:=by rintro rfl;exact h v bu
   simp[this]
  .rfl
theorem QK{kindOf:Str->az iA}:∀{binds:aa (Str×ak)}{m:Str->az ak},(∀v,(x,v)∉binds)->ke kindOf binds m x=m x
 |[],_,_=>rfl
 | (n,v)::r,m,h=>by
  unfold ke;rw[QK λw hw=>h w (bo _ hw)];split
  .rfl
  .have:x≠n:=by rintro rfl;exact h v bu
   simp[this]
theorem QL{kindOf:Str->az iA}:∀{P:aa Str}{vs:aa ak}{i:ah}{m:Str->az ak},P.Nodup->P[i]?=ae x->vs[i]?=ae v->kindOf x=ae .local->
  jS kindOf (P.zip vs) m x=ae v
 |[],_,_,_,_,h,_,_=>by simp at h
 |_::_,[],_,_,_,_,h,_=>by simp at h
 |p::P,w::vs,0,m,nd,h1,h2,hk=>by
  simp at h1 h2;subst h1;subst h2;show jS kindOf ((p,w)::P.zip vs) m p=_;unfold jS;rw[QJ λv hv=>(df.mp nd).1 (vk hv).1,ao hk];simp
 |p::P,w::vs,i+1,m,nd,h1,h2,hk=>by
  show jS kindOf ((p,w)::P.zip vs) m x=_;unfold jS;exact QL (df.mp nd).2 (by simpa using h1) (by simpa using h2) hk
theorem QM{kindOf:Str->az iA}:∀{P:aa Str}{vs:aa ak}{i:ah}{m:Str->az ak},P.Nodup->P[i]?=ae x->vs[i]?=ae v->kindOf x≠ae .local->
  ke kindOf (P.zip vs) m x=ae v
 |[],_,_,_,_,h,_,_=>by simp at h
 |_::_,[],_,_,_,_,h,_=>by simp at h
 |p::P,w::vs,0,m,nd,h1,h2,hk=>by
  simp at h1 h2;subst h1;subst h2;show ke kindOf ((p,w)::P.zip vs) m p=_;unfold ke;rw[QK λv hv=>(df.mp nd).1 (vk hv).1,ap hk];simp
 |p::P,w::vs,i+1,m,nd,h1,h2,hk=>by
  show ke kindOf ((p,w)::P.zip vs) m x=_;unfold ke;exact QM (df.mp nd).2 (by simpa using h1) (by simpa using h2) hk
noncomputable def start(N:aa Str)(vs:aa V):St:=vs.map ae++dg (N.length-vs.length) aj
noncomputable def aJw(CX:CXT)(P:cb)(w:br)(K:cm)(mg:Str->az ak)(base:bm)(N:aa Str)(qual:Str)(scope:gp)(f:am)(cd:ak)(A:cu)(outer:aa eD)(s:au)(H:Hp)(E:XK):Cx where
 prog:=P
 w:=w
 K:=K
 mg:=mg
 base:=base
 A:=A.deeper (io qual scope s.heap.objs.size f cd)
 N:=N
 s₀:=s
 H₀:=H
 env:=io qual scope s.heap.objs.size f cd
 outer:=outer
 stack:=io qual scope s.heap.objs.size f cd::outer
 ex:=[]
 calm:=ag
 fn:=λ_=>ag
 pn:=[]
 xe:=λe s'=>ϑ (av P w) (A.deeper (io qual scope s.heap.objs.size f cd)) (leaving (io qual scope s.heap.objs.size f cd) e) (λ_ s''=>CX outer H s E e s'') (λe' s''=>CX outer H s E e' s'') s'
theorem Y5{sc:gp}(h:sc.names.lookup x=ae .cell):∃c,(vm n sc.names []).lookup x=ae c:=by
 have q:=zC sc.names n [] (.inl h);exact vn.mp q
theorem aD9{CX:CXT}{P:cb}{w:br}{K:cm}{mg:Str->az ak}{base:bm}{N ps:aa Str}{qual:Str}{scope:gp}{f:am}{cd:ak}{A:cu}{outer:aa eD}{s s1:au}{H:Hp}{E:XK}{us:aa ak}{vs:aa V}
 (S:b7 N ps scope)(hd:A.handled=aj)(e0:aSn P w K mg base A outer s H)(hl:vs.length=ps.length)(r:Vals vs us)
 (x:InCallC s s.heap.objs.size (jS (io qual scope s.heap.objs.size f cd).kindOf (ps.zip us) λ_=>aj) (vm (s.heap.objs.size+1) scope.names []) (ke (io qual scope s.heap.objs.size f cd).kindOf (ps.zip us) λ_=>aj) s1) :
  Inv (aJw CX P w K mg base N qual scope f cd A outer s H E) [] (start N vs) H s1:=by
 have hpl:ps.length<=N.length:=by have:=cz fI S.pre;rw[jh] at this;lia
 obtain⟨h1,tk,rfl,hk⟩:=x.done;have noA:∀b:am,b∉(aJw CX P w K mg base N qual scope f cd A outer s H E).ex:=λb z=>aT (show b∈([]:aa am) from z) 0x2
 refine⟨⟨e0.mod,S.kind,rfl,rfl,bd _,λy z c h1 h2=>?_,λy hy=>?_,λy c _ h=>?_,λ_=>hd,Around.frames_deeper e0.frames,.inr ⟨rfl,rfl⟩,λb z=>aT z (noA b),e0.bs,e0.bsz,λb _ _=>noA b,λb z=>aT z (noA b),e0.aCz,e0.frf⟩,
  rfl,e0.bare,Un.kept hk,⟨_,x.toInCall.ns,λi y v h1 h2 h3=>?_⟩,λy c h=>⟨_,x.cell y c h⟩,e0.hok.fresh (bd _),λy c h=>?_,λp hp=>aT (show p∈([]:aa (am×bP)) from hp) 0x2,e0.hok.kept hk,?_⟩
 .exact name_of_addr x.apart (mi h1) (mi h2)
 .have hy:scope.names.lookup y=ae .cell\/scope.names.lookup y=ae .free:=hy;rcases hy with hy|hy
  .exact Y5 hy
  .exact aT rfl (S.nofree _ (mi hy))
 .exact jy (x.above y c (mi h))
 .have hi:i<vs.length:=by
   unfold start at h2;by_cases hi:i<vs.length
   .exact hi
   .rw[kf (by simpa using hi)] at h2;rw[mj] at h2;split at h2<;>cases h2
  have ha:vs[i]?=ae v:=by
   unfold start at h2;rw[lc (by simpa using hi),iE] at h2;cases e:vs[i]? with
   |none=>rw[e] at h2;cases h2
   |some a=>rw[e] at h2;cases h2;rfl
  obtain⟨u,hu,rv⟩:=r.get ha;have hp:ps[i]?=ae y:=by
   rw[<-S.pre,zD 0x1];exact h1
  have ndP:ps.Nodup:=by rw[<-S.pre];exact S.nd.sublist (List.take_sublist _ _)
  refine⟨u,rv,?_⟩;rcases S.par y (nI hp) with k|k
  .exact .inl ⟨k,QL ndP hp hu k⟩
  .obtain⟨c,e⟩:=Y5 k;refine .inr ⟨.inl k,c,e,?_⟩;have q:=x.cell y c e;rw[QM ndP hp hu (by show scope.names.lookup y≠_;rw[k];decide)] at q;exact q
 .exact e0.hok.fresh (jy (x.above y c (mi h)))
 .unfold start;show _=N.length;rw[cx,aS,zI];lia
theorem aTd{w:br}{K:cm}{mg:Str->az ak}{base:bm}{k:ah}{f:am}{name qual:Str}{params:Arguments}{body:aa bq}{scope:gp}{dV kV doc pm cdv ct oc:ak}{an od:az am}
 {osl:ax (az ak)}{N ps:aa Str}{sp:Sp}(lk:K.lookup f=ae ⟨oc,od,.func (mo name qual params body scope dV kV doc pm an cdv ct),osl⟩)(hcd:vo K cdv qual=ag)(S:b7 N ps scope)
 (len:∀vs H Q E,sp vs H Q E->vs.length=ps.length)
 (hbody:∀(A:cu) (outer:aa eD) (s:au) (H:Hp) (vs:aa V) (Q:VK) (E:XK),GR k (A.deeper (io qual scope s.heap.objs.size f cdv))->sp vs H Q E->
   ∃t,PSs (aJw CX P w K mg base N qual scope f cdv A outer s H E) body t/\t {nx:=λ_ H'=>Q .non H',rt:=Q} (start N vs) H) :
  aCp P w K mg base CX (k+1) f (mo name qual params body scope dV kV doc pm an cdv ct) ps sp:=by
 refine⟨len,λA outer s H args us vs Q E hr e0 hb r hsp=>?_⟩;have hl:=len _ _ _ _ hsp;have KX:K.In s.heap:=e0.mod.kin.keeps λb o e=>(e0.bs b o e).1
 have lim:s.heap.NoLimit:=e0.mod.nolimit.keeps λb o e=>(e0.bs b o e).1
 have hkind:∀y∈ps.zip us,scope.names.lookup y.1=ae .local\/(scope.names.lookup y.1=ae .cell/\((vm (s.heap.objs.size+1) scope.names []).lookup y.1).isSome=ag):=λ⟨n,v⟩ hy=>by
  rcases S.par n (vk hy).1 with q|q
  .exact .inl q
  .exact .inr ⟨q,zC _ _ _ (.inl q)⟩
 refine codeAny_call_function hr.depth (KX _ _ lk) rfl S.co S.gen rfl (PySem.W.codeRec_of KX hcd) (hb _ _ _ _ ?_);refine wpAny_newFunctionEnv_cells S.kind hkind λenv he s1 x=>?_
 subst he;refine⟨lim.keeps x.toInCall.keep,codeAny_func ?_⟩;obtain⟨t,ht,hq⟩:=hbody A outer s H vs Q E (hr.deeper _) hsp;have I:Inv (aJw CX P w K mg base N qual scope f cdv A outer s H E) [] (start N vs) H s1:=aD9 S hr.hd e0 hl r x;refine fu (ht [] s1 (start N vs) H _ I hq) (λfl s' hs=>?_) λe s' hs=>hs
 have fin:∀{σ':St}{H':Hp}{v:V}{u:ak},Inv (aJw CX P w K mg base N qual scope f cdv A outer s H E) [] σ' H' s'->RelV v u->Q v H'->CE outer P w H s Q u s':=
  λ{σ' H' v u} J rv q=>⟨v,H',J.os,J.bare,J.base,J.hok,rv,q⟩
 cases fl with
 |ret u=>
  obtain⟨v,σ',H',J,rv,q⟩:=hs;exact fin J rv q
 |next=>
  obtain⟨σ',H',J,q⟩:=hs;exact fin (v:=V.non) J rfl q
 |brk=>
  obtain⟨_,_,_,q⟩:=hs;exact f_ q
 |cont=>
  obtain⟨_,_,_,q⟩:=hs;exact f_ q
section
variable {e:Expr} {t:TA} {id T:en} {r:aa V->Hp->VK->Prop}
noncomputable def tCB(r:aa V->Hp->VK->Prop)(t:TA):TE:=λσ H Q=>t σ H λvs H1=>r vs H1 Q
theorem Y6(hc:oW X (.builtin id) r)(hg:Gl X x)(hm:X.mg x=aj)(hv:eM x=ae (.builtin id))(ha:PA X (e::es) t)(hn:x ≠ "__name__":=by decide)(hdb:nDb x:=by decide)
 (he:zSE X e es:=by rfl)(hpl:zSP X pos es:=by rfl):PE X (.Call (.Name x p) (e::es) [] pos) (tCB r t):=by
 intro Ψ s σ H Q I h;refine jI (vJ I hg hm hv ?_ hn hdb);exact Do (thn (ha pos Ψ s σ H _ I h) λus s1 ⟨vs,H1,I1,r1,q1⟩=>hc Ψ s1 σ H1 vs us Q I1 r1 q1) he hpl
theorem QR(hc:oW X (.type T) r)(hg:Gl X x)(hm:X.mg x=aj)(hv:eM x=ae (.type T))(ha:PA X (e::es) t)(hn:x ≠ "__name__":=by decide)(hdb:nDb x:=by decide)
 (he:zSE X e es:=by rfl)(hpl:zSP X pos es:=by rfl):PE X (.Call (.Name x p) (e::es) [] pos) (tCB r t):=by
 intro Ψ s σ H Q I h;refine jI (vJ I hg hm hv ?_ hn hdb);exact l9 (thn (ha pos Ψ s σ H _ I h) λus s1 ⟨vs,H1,I1,r1,q1⟩=>hc Ψ s1 σ H1 vs us Q I1 r1 q1) he hpl
end
end L2
namespace HT
open PySem PyProof.Rows
section
variable {prog:cb} {w:br} {A:cu} {E:ak->au->Prop} {s:au}
theorem aLe(ht:nw s.heap t vs.toArray)(hb:nw s.heap b ws.toArray)(hv:vs≠[])
 (h1:ws=[]->Q (.ref t) s)(h2:ws≠[]->Q (.ref s.heap.objs.size) {s with heap:=s.heap.push {cls:=.type "tuple",data:=.seq (vs++ws).toArray}})
 (hsz:vs.length+ws.length<=bg):ϑ (av prog w) A (fE .Add (.ref t) (.ref b)) Q E s:=by
 obtain⟨⟨cls,dd,data,sl⟩,ho,hc,n,hd⟩:=id ht;obtain⟨⟨cls2,dd2,nK,sl2⟩,ho2,hc2,n2,hd2⟩:=id hb;simp only at hc hd hc2 hd2;subst hc hd hc2 hd2;have e:vs.toArray++ws.toArray=(vs++ws).toArray:=by simp
 by_cases hw:ws=[]
 .exact vp ⟨_,ho,rfl⟩ ⟨_,ho2,rfl⟩ vw vx vz vE (vF _ _)
   (tuple_addW1 t b vs.toArray ws.toArray n n2 dd dd2 sl sl2 (by simpa using hv) (by simp[hw])) ⟨ho,ho2,h1 hw⟩
 .refine vp ⟨_,ho,rfl⟩ ⟨_,ho2,rfl⟩ vw vx vz vE (vF _ _)
   (tuple_addW2 t b vs.toArray ws.toArray n n2 dd dd2 sl sl2 (by simpa using hv) (by simpa using hw) (by rw[b6,b6];exact hsz)) ⟨ho,ho2,?_⟩
  rw[e];exact h2 hw
noncomputable def sIx(n d:ah):az af->ah
 |none=>d
 |some v=>if v<0 then (v+(n:af)).toNat else min v.toNat n
theorem aPr(n d:ah)(hd:d<=n)(o:az af):sIx n d o<=n:=by
 cases o with
 |none=>exact hd
 |some v=>
  show(if v<0 then (v+(n:af)).toNat else min v.toNat n)<=n;by_cases hv:v<0
  .rw[ao hv];lia
  .rw[ap hv];exact Nat.min_le_right _ _
theorem aDa(v:af)(n d:ah):(if v<0 then max (v+(n:af)) 0 else min v (n:af))=((sIx n d (ae v):ah):af):=by
 show(if v<0 then max (v+(n:af)) 0 else min v (n:af))=(((if v<0 then (v+(n:af)).toNat else min v.toNat n):ah):af);by_cases hv:v<0
 .simp only[ao hv];lia
 .simp only[ap hv];lia
theorem aBb(lo hi:az af)(n:ah):vS lo hi 1 (n:af)=(((sIx n 0 lo:ah):af),((sIx n n hi:ah):af)):=by
 have h1:¬((1:af)<0):=by lia
 unfold vS;simp only[h1,gd];refine Prod.ext ?_ ?_
 .cases lo with
  |none=>rfl
  |some v=>exact aDa v n 0
 .cases hi with
  |none=>rfl
  |some v=>exact aDa v n n
theorem aBc(i j:ah):sx (i:af) (j:af) 1=j-i:=by
 unfold sx;have h1:(1:af) > 0:=by lia
 simp only[h1,eT,Int.ediv_one];split<;>lia
theorem JD(p:kg v o)(h:Q o s):ϑ (av prog w) A (Dp v) Q E s:=by
 cases p with
 |none=>exact zS h
 |int i t=>exact slicePart_int h
theorem yH{lo hi:az af}{Q:af×af×ah->au->Prop}(hs:s.heap.IsSliceOf sl vl vu .none)(pl:kg vl lo)(pu:kg vu hi)
 (h:Q (((sIx n 0 lo:ah):af),1,sIx n n hi-sIx n 0 lo) s):ϑ (av prog w) A (Aa (.ref sl) (pure (n:af))) Q E s:=by
 obtain⟨os,hos,hcs,hds⟩:=id hs;unfold Aa Dq;refine aw (aw (vT hos hds rfl (aw (vT hos hds rfl (aw (vT hos hds rfl (bf ?_)))))));refine aw (zS ?_);show ϑ _ _ (if ((1:af)==0)=ag then _ else _) _ _ s;rw[ap 0x4];refine aw (JD pl (aw (JD pu (aw (bf ?_)))));show ϑ _ _ (match vS lo hi 1 (n:af) with|(lo,hi)=>pure (lo,(1:af),sx lo hi 1)) _ _ s;rw[aBb lo hi n];show ϑ _ _ (pure (((sIx n 0 lo:ah):af),(1:af),sx ((sIx n 0 lo:ah):af) ((sIx n n hi:ah):af) 1)) _ _ s;rw[aBc];exact bf h
theorem aHj(xs:ax ak)(i k:ah):((bn k).filterMap λ(m:ah)=>xs[((i:af)+(m:af)*1).toNat]?).toArray=((xs.toList.drop i).take k).toArray:=by
 have e:(λ(m:ah)=>xs[((i:af)+(m:af)*1).toNat]?)=λm=>xs[i+m]?:=by
  funext m
  have:((i:af)+(m:af)*1).toNat=i+m:=by lia
  rw[this]
 rw[e];have:=pick_run xs i k;rw[List.filterMap_map] at this;have e2:((λx=>xs[x]?) ∘ λx=>i+x)=λm=>xs[i+m]?:=rfl
 rw[e2] at this;rw[this]
theorem wQ{lo hi:az af}{Q:ak->au->Prop}(ht:nw s.heap t items)(hs:s.heap.IsSliceOf sl vl vu .none)(pl:kg vl lo)(pu:kg vu hi)
 (hw:¬(sIx items.size 0 lo=0/\sIx items.size items.size hi=items.size))
 (h:Q (.ref s.heap.objs.size) {s with heap:=s.heap.push {cls:=.type "tuple",data:=.seq ((items.toList.drop (sIx items.size 0 lo)).take (sIx items.size items.size hi-sIx items.size 0 lo)).toArray}})
 (hsz:items.size<=bg):ϑ (av prog w) A (lf (.ref t) (.ref sl)) Q E s:=by
 have htake:sizeOk (.seq ((items.toList.drop (sIx items.size 0 lo)).take (sIx items.size items.size hi-sIx items.size 0 lo)).toArray):=by
  show((items.toList.drop (sIx items.size 0 lo)).take (sIx items.size items.size hi-sIx items.size 0 lo)).toArray.size<=bg;rw[b6,jh,kh,fA];lia
 have hj:sIx items.size items.size hi<=items.size:=aPr _ _ (bd _) hi;obtain⟨os,hos,hcs,hds⟩:=id hs;have hTs:s.TypeIs (.ref sl) "slice":=⟨os,hos,hcs⟩
 unfold lf
 try with_reducible refine ic ?_
 first|refine aw (bf ?_)|skip
 refine aw (wpAny_sequenceKey ht.typeIs 0x4 ?_);refine aw (v3 ht.typeIs wa
  (nL wa ht.typeIs entry_tuple_getitem ?_ (args_tuple_getitem _ _)))
 show ϑ _ _ (Dr (.ref t) >>= _) _ _ s;refine aw (tupleItemsOf_ ht ?_);refine aw (sy hTs ?_);rw[ao 0x4];refine aw (yH hs pl pu ?_);have hno:¬((((sIx items.size 0 lo:ah):af)==0&&(1:af)==1&&(sIx items.size items.size hi-sIx items.size 0 lo)==items.size)=ag):=by
  intro q;rw[bj,bj] at q;have q1:((sIx items.size 0 lo:ah):af)=0:=eq_of_beq q.1.1;have q2:sIx items.size items.size hi-sIx items.size 0 lo=items.size:=eq_of_beq q.2;exact hw ⟨by lia,by lia⟩
 show ϑ _ _ (if (((sIx items.size 0 lo:ah):af)==0&&(1:af)==1&&(sIx items.size items.size hi-sIx items.size 0 lo)==items.size)=ag then _ else _) _ _ s;rw[ap hno,aHj]
 first
  |exact aw (gu (bf ⟨_,rfl,bf h⟩) htake)
  |exact aw (gu (aw (bf (bf ⟨_,rfl,bf h⟩))) htake)
  |exact aw (aw (gu (bf (bf ⟨_,rfl,bf h⟩)) htake))
  |exact aw (aw (gu (bf ⟨_,rfl,bf h⟩) htake))
end
end HT
namespace L2
open PySem PySem.Spec PyProof.Rows
abbrev TO:=St->Hp->(az af->Hp->Prop)->Prop
def PO(X:Cx)(e:az Expr)(t:TO):Prop:=
 ∀(Ψ:aa (am×bP))(s:au)(σ:St)(H:Hp)(Q:az af->Hp->Prop),Inv X Ψ σ H s->t σ H Q->
  ϑ (av X.prog X.w) X.A (evalPart e X.env) (λu s'=>∃o H',Inv X Ψ σ H' s'/\kg u o/\Q o H') X.xe s
noncomputable def aLf:TO:=λ_ H Q=>Q aj H
noncomputable def aTe(t:TE):TO:=λσ H Q=>t σ H λx H1=>∃i,x=.int i/\Q (ae i) H1
section
variable {X:Cx} {te:TE} {lo hi:az Expr} {tl th:TO}
theorem aLg:PO X aj aLf:=by
 intro Ψ s σ H Q I h;rw[Ab];exact bf ⟨aj,H,I,.none,h⟩
theorem aLh(h:PE X e te):PO X (ae e) (aTe te):=by
 intro Ψ s σ H Q I hw;rw[evalPart_some];refine thn (h Ψ s σ H _ I hw) λu s1 ⟨x,H1,I1,r1,q1⟩=>?_
 obtain⟨i,rfl,q⟩:=q1;obtain⟨t,rfl⟩:=r1;exact⟨ae i,H1,I1,.int i t,q⟩
def SlR(X:Cx)(r:V->az af->az af->Hp->VK->Prop):Prop:=
 ∀(Ψ:aa (am×bP))(s:au)(σ:St)(H:Hp)(x:V)(v vl vu:ak)(lo hi:az af)(sl:am)(Q:VK),Inv X Ψ σ H s->RelV x v->s.heap.IsSliceOf sl vl vu .none->kg vl lo->kg vu hi->r x lo hi H Q->
  ∃T id,mr (.type T) "__getitem__"=pure (ae (.builtin id))/\s.TypeIs v T/\ϑ (av X.prog X.w) X.A (lf v (.ref sl)) (EP X Ψ σ Q) X.xe s
noncomputable def tSl(r:V->az af->az af->Hp->VK->Prop)(te:TE)(tl th:TO):TE:=λσ H Q=>te σ H λx H1=>tl σ H1 λl H2=>th σ H2 λu H3=>r x l u H3 Q
theorem aHk(hr:SlR X r)(he:PE X e te)(hl:PO X lo tl)(hu:PO X hi th):PE X (.Subscript e (.Slice lo hi aj p2) pos) (tSl r te tl th):=by
 intro Ψ s σ H Q I h;refine Subscript_ (thn (he Ψ s σ H _ I h) λv s1 ⟨x,H1,I1,r1,q1⟩=>?_);refine wpAny_Slice (thn (hl Ψ s1 σ H1 _ I1 q1) λvl s2 ⟨l,H2,I2,pl,q2⟩=>thn (hu Ψ s2 σ H2 _ I2 q2) λvu s3 ⟨u,H3,I3,pu,q3⟩=>?_);rw[Ab];refine bf ?_;have I4:Inv X Ψ σ H3 {s3 with heap:=s3.heap.push {cls:=.type "slice",data:=.fields #[vl,vu,.none]}}:=I3.kept λb ob q=>cg _ q
 obtain⟨T,id,hT,ht,hg⟩:=hr Ψ {s3 with heap:=s3.heap.push {cls:=.type "slice",data:=.fields #[vl,vu,.none]}} σ H3 x v vl vu l u s3.heap.objs.size Q I4 r1 (Dt ..) pl pu q3;show ϑ (av X.prog X.w) X.A (sA e (.Slice lo hi aj p2) v (.ref s3.heap.objs.size)) (EP X Ψ σ Q) X.xe {s3 with heap:=s3.heap.push {cls:=.type "slice",data:=.fields #[vl,vu,.none]}};exact tail_any ht hT hg 0x5
noncomputable def aHl(xs:aa V)(lo hi:az af):aa V:=(xs.drop (HT.sIx xs.length 0 lo)).take (HT.sIx xs.length xs.length hi-HT.sIx xs.length 0 lo)
theorem zP(xs:aa V)(lo hi:az af):(aHl xs lo hi).length<=xs.length:=by
 unfold aHl;rw[jh,kh];lia
def aVc(K:cm):V->az af->az af->Hp->VK->Prop:=λx lo hi H Q=>∃a xs,x=.ref a/\SqT K H a xs/\
 ¬(HT.sIx xs.length 0 lo=0/\HT.sIx xs.length xs.length hi=xs.length)/\∀p,H p=aj->Q (.ref p) (upd H p (.tup (aHl xs lo hi)))
theorem aPs:SlR X (aVc X.K):=by
 intro Ψ s σ H x v vl vu lo hi sl Q I rx hs pl pu h;obtain⟨a,xs,rfl,hx,hw,q⟩:=h;cases rx;obtain⟨its,r,ht,hz⟩:=I.tuple hx;have hlen:its.toArray.size=xs.length:=by rw[b6];exact r.length.symm
 refine⟨"tuple",_,wa.lookup,ht.typeIs,?_⟩;refine HT.wQ ht hs pl pu (by rw[hlen];exact hw) ?_ (by rw[hlen];exact hz);rw[hlen];refine⟨.ref s.heap.objs.size,_,I.laid (λb ob q=>cg _ q) (bd _) ?_,rfl,q _ (I.hok.fresh (bd _))⟩;exact⟨dj (zP xs lo hi) hz,_,(r.drop (HT.sIx xs.length 0 lo)).take (HT.sIx xs.length xs.length hi-HT.sIx xs.length 0 lo),mZ.new _ _⟩
def aTf(K:cm):R2:=λx y H Q=>∃a b xs ys,x=.ref a/\y=.ref b/\SqT K H a xs/\SqT K H b ys/\xs≠[]/\xs.length+ys.length<=bg/\
 (ys=[]->Q (.ref a) H)/\(ys≠[]->∀p,H p=aj->Q (.ref p) (upd H p (.tup (xs++ys))))
theorem Vals.zQ(r:Vals xs us):us=[]↔xs=[]:=by
 cases r with
 |nil=>simp
 |cons _ _=>simp
theorem aLi:OpR X (fE .Add) (aTf X.K):=by
 intro Ψ s σ H x y v u Q I rx ry h;obtain⟨a,b,xs,ys,rfl,rfl,ha,hb,hx,hz,q1,q2⟩:=h;cases rx;cases ry;obtain⟨its,r1,p1,_⟩:=I.tuple ha;obtain⟨its2,r2,p2,_⟩:=I.tuple hb;refine HT.aLe p1 p2 (λz=>hx (r1.zQ.mp z)) (λz=>⟨.ref a,H,I,rfl,q1 (r2.zQ.mp z)⟩) (λz=>?_) (by rw[<-r1.length,<-r2.length];exact hz);refine⟨.ref s.heap.objs.size,_,I.laid (λb ob q=>cg _ q) (bd _) ?_,rfl,q2 (λw=>z (r2.zQ.mpr w)) _ (I.hok.fresh (bd _))⟩;exact⟨by rw[cx];exact hz,_,r1.append r2,mZ.new _ _⟩
end
noncomputable def ixN(n:ah)(i:af):az ah:=if 0<=i then (if i<n then ae i.toNat else aj) else if -(n:af)<=i then ae (i+n).toNat else aj
def atI{α:Type}(xs:aa α)(i:af):az α:=(ixN xs.length i).bind λj=>xs[j]?
theorem aLj(h:ixN n i=ae j):seqIndex? i n=ae j/\j<n/\-(n:af)<=i/\i<n:=by
 unfold ixN at h;by_cases h0:0<=i
 .rw[ao h0] at h;by_cases h1:i<n
  .rw[ao h1] at h;have e:i.toNat=j:=di h;exact⟨by rw[Ac h0 h1,e],by lia,by lia,h1⟩
  .rw[ap h1] at h;cases h
 .rw[ap h0] at h;by_cases h1:-(n:af)<=i
  .rw[ao h1] at h;have e:(i+n).toNat=j:=di h;exact⟨by rw[seqIndex_neg 0x1 h1,e],by lia,h1,by lia⟩
  .rw[ap h1] at h;cases h
theorem VL(h:atI xs i=ae v):∃j,seqIndex? i xs.length=ae j/\xs[j]?=ae v/\j<xs.length/\-(xs.length:af)<=i/\i<xs.length:=by
 unfold atI at h;cases e:ixN xs.length i with
 |none=>rw[e] at h;cases h
 |some j=>
  rw[e] at h;obtain⟨h1,h2,h3,h4⟩:=aLj e;exact⟨j,h1,h,h2,h3,h4⟩
def J8(b:Expr):Prop:=∀o i,sB b ai o i=wb [o,i] (lf o i)
def IxR(X:Cx)(r:R2):Prop:=
 ∀(value slice:Expr)(Ψ:aa (am×bP))(s:au)(σ:St)(H:Hp)(x y:V)(v u:ak)(Q:VK),Inv X Ψ σ H s->RelV x v->RelV y u->r x y H Q->
  sB slice ai v u=wb [v,u] (lf v u)->ϑ (av X.prog X.w) X.A (sA value slice v u) (EP X Ψ σ Q) X.xe s
def MtR(X:Cx)(id:en)(r:V->aa V->Hp->VK->Prop):Prop:=
 ∀(Ψ:aa (am×bP))(s:au)(σ:St)(H:Hp)(x:V)(xs:aa V)(v:ak)(us:aa ak)(Q:VK),Inv X Ψ σ H s->RelV x v->Vals xs us->r x xs H Q->
  ϑ (av X.prog X.w) X.A (call (.builtin id) (v::us)) (EP X Ψ σ Q) X.xe s
section
variable {X:Cx} {a b:Expr} {ta tb:TE} {pos:c9}
theorem aPt(hr:IxR X r)(ha:PE X a ta)(hb:PE X b tb)(hs:J8 b):PE X (.Subscript a b pos) (tOp r ta tb):=by
 intro Ψ s σ H Q I h;exact Subscript_ (aT6 ha hb I h λv u s2 x y H2 I2 rx ry q=>hr a b Ψ s2 σ H2 x y v u Q I2 rx ry q (hs _ _))
def aVd(K:cm):R2:=λx y H Q=>∃p xs i v,x=.ref p/\y=.int i/\SqL K H p xs/\atI xs i=ae v/\Q v H
def aVe(K:cm):R2:=λx y H Q=>∃p xs i v,x=.ref p/\y=.int i/\SqT K H p xs/\atI xs i=ae v/\Q v H
def aVf:R2:=λx y H Q=>∃z i c,x=.str z/\y=.int i/\z.length<=bg/\atI z.cps.toList i=ae c/\Q (.str ⟨#[c]⟩) H
theorem VM:IxR X (aVd X.K):=by
 intro value slice Ψ s σ H x y v u Q I rx ry h hs;obtain⟨p,xs,i,z,rfl,rfl,hq,he,q⟩:=h;cases rx;obtain⟨t,rfl⟩:=ry;obtain⟨its,r,pl,hz⟩:=I.list hq;obtain⟨j,h1,h2,h3,h4,h5⟩:=VL he;obtain⟨w,ew,rw'⟩:=r.get h2;have hl:=r.length;have hn:=JC;have fin:EP X Ψ σ Q w s:=⟨z,H,I,rw',q⟩
 by_cases h0:0<=i
 .have hj:i.toNat=j:=by
   rw[Ac h0 h5] at h1;exact di h1
  exact item_listR pl.isList h0 0x1 (by rw[hj];simpa using ew) fin hs
 .have hj:(i+(its.toArray.size:af)).toNat=j:=by
   rw[seqIndex_neg 0x1 h4] at h1;rw[b6,<-hl];exact di h1
  exact Ad pl.isList.typeIs Ae.lookup
   (wpAny_getItem_list_neg pl.isList 0x1 (by rw[b6]<;>lia) 0x1 (by rw[hj];simpa using ew) ⟨rfl,fin⟩) hs
theorem aPu:IxR X (aVe X.K):=by
 intro value slice Ψ s σ H x y v u Q I rx ry h hs;obtain⟨p,xs,i,z,rfl,rfl,hq,he,q⟩:=h;cases rx;obtain⟨t,rfl⟩:=ry;obtain⟨its,r,pl,hz⟩:=I.tuple hq;obtain⟨j,h1,h2,h3,h4,h5⟩:=VL he;obtain⟨w,ew,rw'⟩:=r.get h2;have hl:=r.length;have hn:=JC;have fin:EP X Ψ σ Q w s:=⟨z,H,I,rw',q⟩
 exact Ad pl.typeIs slot_tuple_getitem.lookup
  (getItem_tuple pl 0x1 0x1 (by rw[b6,<-hl];exact h1) (by simpa using ew) ⟨rfl,fin⟩) hs
theorem aPv:IxR X aVf:=by
 intro value slice Ψ s σ H x y v u Q I rx ry h hs;obtain⟨z,i,c,rfl,rfl,hz,he,q⟩:=h;obtain⟨t,rfl⟩:=rx;obtain⟨t',rfl⟩:=ry;obtain⟨j,h1,h2,h3,h4,h5⟩:=VL he;have hl:z.cps.toList.length=z.length:=by simp[Str.length]
 rw[hl] at h1 h4 h5;have hn:=JC;exact tail_any (typeIs_str s z t) slot_str_getitem.lookup (getItem_str (by
  have e1:ϒ (i < -(2 ^ 63:af))=ai:=cy 0x1;have e2:ϒ (i >= 2 ^ 63)=ai:=cy 0x1;rw[e1,e2,mv]) (by rw[h1];simpa using h2) ⟨.str ⟨#[c]⟩,H,I.tok _,⟨_,rfl⟩,q⟩) hs
theorem Inv.lst{Ψ:aa (am×bP)}{σ:St}{H:Hp}{s:au}{p:am}{xs:aa V}(I:Inv X Ψ σ H s)(h:H p=ae (.lst xs)) :
  ∃(its:aa ak)(n:ah),Vals xs its/\s.heap.get? p=ae {cls:=.type "list",data:=.seq its.toArray n}/\xs.length<=bg:=by
 obtain⟨z,its,n,r,e⟩:=I.hok p _ h;exact⟨its,n,r,e,z⟩
theorem QS(lo hi:az af)(n:ah):(lg lo hi aj n).1=((HT.sIx n 0 lo:ah):af)/\(lg lo hi aj n).2.1=((HT.sIx n n hi:ah):af)/\(lg lo hi aj n).2.2=1:=by
 refine⟨?_,?_,rfl⟩
 .cases lo with
  |none=>simp[lg,HT.sIx]
  |some i=>
   simp only[lg,HT.sIx,Af,show(1:af) > 0 by decide,eT];by_cases h:i<0
   .simp only[h,eT]<;>lia
   .simp only[h,gd]<;>lia
 .cases hi with
  |none=>simp[lg,HT.sIx]
  |some i=>
   simp only[lg,HT.sIx,Af,show(1:af) > 0 by decide,eT];by_cases h:i<0
   .simp only[h,eT]<;>lia
   .simp only[h,gd]<;>lia
theorem J9(its:aa ak)(lo hi:az af):slicePick its.toArray lo hi aj=((its.drop (HT.sIx its.length 0 lo)).take (HT.sIx its.length its.length hi-HT.sIx its.length 0 lo)).toArray:=by
 obtain⟨h1,h2,h3⟩:=QS lo hi its.toArray.size;unfold slicePick;rw[h1,h2,h3];simp only[sliceRange_one,pick_run,b6]<;>rfl
def aVg(K:cm):V->az af->az af->Hp->VK->Prop:=λx lo hi H Q=>∃a xs,x=.ref a/\SqL K H a xs/\∀p,H p=aj->Q (.ref p) (upd H p (.lst (aHl xs lo hi)))
theorem aDb:SlR X (aVg X.K):=by
 intro Ψ s σ H x v vl vu lo hi sl Q I rx hs pl pu h;obtain⟨a,xs,rfl,hx,q⟩:=h;cases rx;obtain⟨its,r,ht,hz⟩:=I.list hx;have hlen:=r.length;refine⟨"list",_,Ae.lookup,ht.isList.typeIs,?_⟩;refine wpAny_getItem_list_slice ht.isList hs pl pu .none 0x2 ?_ (by rw[b6]<;>lia);rw[J9,<-hlen];refine⟨.ref s.heap.objs.size,_,I.laid (λb ob q=>cg _ q) (bd _) ?_,rfl,q _ (I.hok.fresh (bd _))⟩;exact⟨dj (zP xs lo hi) hz,_,0,(r.drop (HT.sIx xs.length 0 lo)).take (HT.sIx xs.length xs.length hi-HT.sIx xs.length 0 lo),dt _ rfl⟩
theorem m_:oW X (.builtin "len") (λxs H Q=>∃p ys,xs=[.ref p]/\(SqL X.K H p ys\/SqT X.K H p ys)/\Q (.int ys.length) H):=by
 intro Ψ s σ H xs us Q I r h;obtain⟨p,ys,rfl,hq,q⟩:=h;obtain⟨u,rfl,rx⟩:=vals1 r;cases rx;have hn:=JC;rcases hq with hq|hq
 .obtain⟨its,r',pl,hz⟩:=I.list hq;have hlen:=r'.length;exact Calls.call_len_list pl.isList (by simp only[b6]<;>lia) ⟨.int ys.length,H,I.tok _,⟨s.toks+1,by rw[b6,hlen]⟩,q⟩
 .obtain⟨its,r',pl,hz⟩:=I.tuple hq;have hlen:=r'.length;exact len_tuple pl (by simp only[b6]<;>lia) ⟨.int ys.length,H,I.tok _,⟨s.toks+1,by rw[b6,hlen]⟩,q⟩
theorem QT:oW X (.builtin "len") (λxs H Q=>∃z,xs=[.str z]/\z.length<=bg/\Q (.int z.length) H):=by
 intro Ψ s σ H xs us Q I r h;obtain⟨z,rfl,hz,q⟩:=h;obtain⟨u,rfl,t,rfl⟩:=vals1 r;have hn:=JC;exact len_str 0x1 ⟨.int z.length,H,I.tok _,⟨_,rfl⟩,q⟩
theorem xU:oW X (.type "list") (λxs H Q=>∃p ys,xs=[.ref p]/\(SqL X.K H p ys\/SqT X.K H p ys)/\∀l,H l=aj->Q (.ref l) (upd H l (.lst ys))):=by
 intro Ψ s σ H xs us Q I r h;obtain⟨p,ys,rfl,hq,q⟩:=h;obtain⟨u,rfl,rx⟩:=vals1 r;cases rx;have fin:∀(its:aa ak),Vals ys its->ys.length<=bg->∀(h':bm)(c':ah),(∀b o',s.heap.get? b=ae o'->h'.get? b=ae o')->
   h'.get? s.heap.objs.size=ae {cls:=.type "list",dict:=aj,data:=.seq its.toArray c',slots:=#[]}->EP X Ψ σ Q (.ref s.heap.objs.size) {s with heap:=h'}:=λits r' hz h' c' kp e=>
  ⟨.ref s.heap.objs.size,_,I.laid kp (bd _) (show mY X.prog X.w _ h' _ (.lst ys) from ⟨hz,its,c',r',e⟩),rfl,q _ (I.hok.fresh (bd _))⟩
 rcases hq with hq|hq
 .obtain⟨its,r',pl,hz⟩:=I.list hq;have hlen:=r'.length;obtain⟨o,ho,hc,n,hd⟩:=pl.isList;exact Ag p (.inl rfl) ho hc hd (λh' c' kp e=>fin its r' hz h' c' kp e) (by simp only[b6]<;>lia)
 .obtain⟨its,r',pl,hz⟩:=I.tuple hq;have hlen:=r'.length;obtain⟨o,ho,hc,n,hd⟩:=pl;exact Ag p (.inr rfl) ho hc hd (λh' c' kp e=>fin its r' hz h' c' kp e) (by simp only[b6]<;>lia)
theorem vM:oW X (.type "tuple") (λxs H Q=>∃p ys,xs=[.ref p]/\((SqL X.K H p ys/\∀l,H l=aj->Q (.ref l) (upd H l (.tup ys)))\/(SqT X.K H p ys/\Q (.ref p) H))):=by
 intro Ψ s σ H xs us Q I r h;obtain⟨p,ys,rfl,h⟩:=h;obtain⟨u,rfl,rx⟩:=vals1 r;cases rx;rcases h with ⟨hq,q⟩|⟨hq,q⟩
 .obtain⟨its,r',pl,hz⟩:=I.list hq;have hlen:=r'.length;refine call_tuple_list pl.isList (λh' kp=>?_) (by simp only[b6]<;>lia);have I1:Inv X Ψ σ H {s with heap:=h'}:=I.kept kp;have I2:Inv X Ψ σ (upd H h'.objs.size (.tup ys)) {s with heap:=h'.push {cls:=.type "tuple",data:=.seq its.toArray}}:=
   I1.laid (λb o e=>cg _ e) (bd _) (show mY X.prog X.w _ _ _ (.tup ys) from ⟨hz,its,r',mZ.new _ _⟩)
  exact⟨.ref h'.objs.size,_,I2,rfl,q _ (I1.hok.fresh (bd _))⟩
 .obtain⟨its,r',pl,hz⟩:=I.tuple hq;exact call_tuple_same pl ⟨.ref p,H,I,rfl,q⟩
def tyV(K:cm)(T:en)(x:V)(H:Hp):Prop:=match x with
 |.str _=>T="str"
 |.int _=>T="int"
 |.ref p=>(T="list"/\∃xs,SqL K H p xs)\/(T="tuple"/\((∃o,K.lookup p=ae o/\o.cls=.type "tuple"/\o.dict=aj)\/∃xs,H p=ae (.tup xs)))\/
   (T="dict"/\((∃kvs,H p=ae (.dK kvs))\/∃kvs,H p=ae (.dT kvs)))\/(T="set"/\∃S n,H p=ae (.set S n))
 |_=>c8
theorem aJx(I:Inv X Ψ σ H s)(r:RelV x v)(ty:tyV X.K T x H) :
  s.TypeIs v T/\∀a,v=.ref a->∃ob,s.heap.get? a=ae ob/\ob.dict=aj:=by
 cases x with
 |str z=>
  obtain⟨t,rfl⟩:=r;cases (show T="str" from ty);exact⟨typeIs_str s z t,λ_ e=>nomatch e⟩
 |int i=>
  obtain⟨t,rfl⟩:=r;cases (show T="int" from ty);exact⟨typeIs_int s i t,λ_ e=>nomatch e⟩
 |ref p=>
  cases r;rcases ty with ⟨rfl,xs,hq⟩|⟨rfl,⟨o,hk,hc,hd⟩|⟨xs,hk⟩⟩|⟨rfl,hk⟩|⟨rfl,S,n,hk⟩
  .obtain⟨its,_,pl,_⟩:=I.list hq;refine⟨pl.isList.typeIs,λa e=>?_⟩;cases e;obtain⟨o,n,e,c,hd,_⟩:=pl;exact⟨o,e,hd⟩
  .refine⟨⟨o,I.kIn p o hk,hc⟩,λa e=>?_⟩;cases e;exact⟨o,I.kIn _ o hk,hd⟩
  .obtain⟨_,its,_,pl⟩:=I.hok p _ hk;refine⟨(mZ.tup pl).typeIs,λa e=>?_⟩;cases e;exact mZ.bare pl
  .have z:∃o,s.heap.get? p=ae o/\o.ExactDict:=by
    rcases hk with ⟨kvs,hk⟩|⟨kvs,hk⟩
    .obtain⟨_,_,_,_,o,_,_,e,ex,_⟩:=I.hok p _ hk;exact⟨o,e,ex⟩
    .obtain⟨_,_,_,_,o,_,_,e,ex,_⟩:=I.hok p _ hk;exact⟨o,e,ex⟩
   obtain⟨o,e,ex⟩:=z;refine⟨⟨o,e,ex.1⟩,λa e2=>?_⟩;cases e2;exact⟨o,e,ex.2.1⟩
  .obtain⟨o,_,_,_,e,ex,_⟩:=I.hok p _ hk;refine⟨⟨o,e,ex.1⟩,λa e2=>?_⟩;cases e2;exact⟨o,e,ex.2.1⟩
 |_=>exact f_ ty
noncomputable def aVh(K:cm)(T:en)(r:V->aa V->Hp->VK->Prop)(to:TE):TE:=λσ H Q=>to σ H λx H1=>tyV K T x H1/\r x [] H1 Q
noncomputable def tBM(K:cm)(T:en)(r:V->aa V->Hp->VK->Prop)(to:TE)(t:TA):TE:=λσ H Q=>to σ H λx H1=>tyV K T x H1/\t σ H1 λxs H2=>r x xs H2 Q
variable {o e:Expr} {es:aa Expr} {to:TE} {t:TA} {name:Str} {apos cpos:c9} {T id:en} {r:V->aa V->Hp->VK->Prop}
theorem aPw(pa:we T)(slot:Slot T name id)(hty:lh (.builtin id)=pure (.type "method_descriptor"))(hm:MtR X id r)(ho:PE X o to)
 (hbase:ji o name X.env (cw o X.env)=cw o X.env:=by rfl)(hline:(apos.endLine==cpos.line)=ag:=by rfl):PE X (.Call (.Attribute o name apos) [] [] cpos) (aVh X.K T r to):=by
 intro Ψ s σ H Q I h;refine wpAny_Call_method0_late hbase hline (thn (ho Ψ s σ H _ I h) λv s1 ⟨x,H1,I1,r1,ty,q1⟩=>?_);obtain⟨h1,h2⟩:=aJx I1 r1 ty;exact⟨T,id,pa,slot,hty,h1,h2,Ah rfl (PySem.evalArgs_none (hm Ψ s1 σ H1 x [] v [] Q I1 r1 .nil q1))⟩
theorem aBd(pa:we T)(slot:Slot T name id)(hty:lh (.builtin id)=pure (.type "method_descriptor"))(hm:MtR X id r)(ho:PE X o to)(ha:PA X (e::es) t)
 (hbase:ji o name X.env (cw o X.env)=cw o X.env:=by rfl)
 (hfew:zFw X cpos (e::es):=by rfl)
 (hline:(apos.endLine==cpos.line)=ag:=by rfl)(hs:zSE X e es:=by rfl)(hplain:zSP X cpos es:=by rfl) :
  PE X (.Call (.Attribute o name apos) (e::es) [] cpos) (tBM X.K T r to t):=by
 intro Ψ s σ H Q I h;refine wpAny_Call_method_late hbase hfew hline rfl (thn (ho Ψ s σ H _ I h) λv s1 ⟨x,H1,I1,r1,ty,q1⟩=>?_);obtain⟨h1,h2⟩:=aJx I1 r1 ty;refine⟨T,id,pa,slot,hty,h1,h2,?_⟩;have hA:=ha cpos Ψ s1 σ H1 _ I1 q1;rw[hs] at hA ⊢;refine Ah (by show(ai||(jw cpos (dw es X.env)).any (·.1))=ai;rw[hplain]<;>rfl) (Calls.evalArgs_plain ?_);exact thn hA λus s2 ⟨vs,H2,I2,r2,q2⟩=>hm Ψ s2 σ H2 x vs v us Q I2 r1 r2 q2
end
def MtM(X:Cx)(id:en)(r:V->aa V->Hp->VK->Prop):Prop:=
 ∀(Ψ:aa (am×bP))(s:au)(σ:St)(H:Hp)(x:V)(xs:aa V)(v:ak)(us:aa ak)(Q:VK),Inv X Ψ σ H s->RelV x v->Vals xs us->r x xs H Q->
  ϑ (av X.prog X.w) X.A (call (.builtin id) (v::us)) (EP X Ψ σ Q) X.xe s
theorem Vals.one:∀{x:V}{us:aa ak},Vals [x] us->∃u,us=[u]/\RelV x u
 |_,_,.cons r .nil=>⟨_,rfl,r⟩
theorem Vals.zero:∀{us:aa ak},Vals [] us->us=[]
 |_,.nil=>rfl
theorem Vals.dropLast(h:Vals xs us):Vals xs.dropLast us.dropLast:=by
 induction h with
 |nil=>exact .nil
 |cons r t ih=>
  cases t with
  |nil=>exact .nil
  |cons q t'=>exact .cons r ih
theorem aBe(l:aa α):l.eraseIdx (l.length-1)=l.dropLast:=by
 induction l with
 |nil=>rfl
 |cons a r ih=>
  cases r with
  |nil=>rfl
  |cons b r=>
   have e:(a::b::r).length-1=((b::r).length-1)+1:=by
    have h1:(a::b::r).length=r.length+2:=rfl;have h2:(b::r).length=r.length+1:=rfl;lia
   rw[e,List.eraseIdx_cons_succ,ih]
   all_goals rfl
section
theorem Inv.aPx{its its':aa ak}(I:Inv X Ψ σ H s)(hH:H l=ae (.lst xs))
 (e:s.heap.get? l=ae {cls:=.type "list",data:=.seq its.toArray n})(hf:f its.toArray=its'.toArray)(hv:Vals ys its')(hz:ys.length<=bg) :
  Inv X Ψ σ (upd H l (.lst ys)) {s with heap:=s.heap.update l (fx f),toks:=t'}:=by
 have q:=Du e f;rw[hf] at q;refine I.write (by rw[hH];exact trivial) (.inl rfl) (λb' u hb hu=>(ki s.heap (fx f) (Ne.symm hb)).trans hu) ⟨_,q⟩ ?_;exact⟨hz,its',_,hv,q⟩
theorem Inv.aVi(I:Inv X Ψ σ H s)(hv:Vals ys its)(hz:ys.length<=bg) :
  Inv X Ψ σ (upd H s.heap.objs.size (.lst ys)) {s with heap:=s.heap.push {cls:=.type "list",data:=.seq its.toArray},toks:=t'}:=
 I.laid (λ_ _ q=>cg _ q) (bd _) ⟨hz,its,0,hv,dt _ rfl⟩
theorem Inv.fresh(I:Inv X Ψ σ H s):H s.heap.objs.size=aj:=I.hok.fresh (bd _)
theorem Inv.aOr(I:Inv X Ψ σ H s)(hH:H l=ae (.lst xs)):xs.length<=bg/\∃(its:aa ak)(n:ah),Vals xs its/\xs.length=its.length/\s.heap.get? l=ae {cls:=.type "list",data:=.seq its.toArray n}:=by
 obtain⟨z,its,n,r,e⟩:=I.hok l _ hH;exact⟨z,its,n,r,r.length,e⟩
theorem Y7(h:n<=bg):nN n=ai:=by
 unfold nN;exact cy 0x1
end
section
variable {X:Cx}
def aLk:V->aa V->Hp->VK->Prop:=λx vs H Q=>∃l xs y,x=.ref l/\vs=[y]/\H l=ae (.lst xs)/\xs.length<bg/\Q .non (upd H l (.lst (xs++[y])))
theorem zR:MtM X "list.append" aLk:=by
 intro Ψ s σ H x vs v us Q I rx rv h;obtain⟨l,xs,y,rfl,rfl,hH,hz,q⟩:=h;cases rx;obtain⟨u,rfl,ru⟩:=rv.one;obtain⟨z,its,n,r,hl,e⟩:=I.aOr hH;refine kj wg ⟨_,e,rfl⟩ F.entry_list_append (F.args_list_append_2 _ _) (PySem.list_append l its.toArray n u (by rw[b6];lia)) ⟨e,?_⟩;refine⟨.non,_,I.aPx hH e 0x2 (r.append (.cons ru .nil)) ?_,rfl,q⟩;rw[cx,iF];lia
def aLl:V->aa V->Hp->VK->Prop:=λx vs H Q=>∃l b xs zs,x=.ref l/\vs=[.ref b]/\H l=ae (.lst xs)/\H b=ae (.lst zs)/\xs.length+zs.length<=bg/\Q .non (upd H l (.lst (xs++zs)))
theorem aDc:MtM X "list.extend" aLl:=by
 intro Ψ s σ H x vs v us Q I rx rv h;obtain⟨l,b,xs,zs,rfl,rfl,hH,hB,hz,q⟩:=h;cases rx;obtain⟨u,rfl,ru⟩:=rv.one;cases ru;obtain⟨z,its,n,r,hl,e⟩:=I.aOr hH;obtain⟨z2,its2,n2,r2,hl2,e2⟩:=I.aOr hB;have hsz:its.toArray.size+its2.toArray.size<=bg:=by rw[b6,b6];lia
 have hlong:¬(!its.toArray.isEmpty&&nN (its.toArray.size+its2.toArray.size))=ag:=by
  rw[Y7 hsz,li];exact nB
 refine kj sC ⟨_,e,rfl⟩ Ai (Aj _ _)
  (Dw l its.toArray n b its2.toArray n2 hlong (by rw[b6];lia) 0x1) ⟨e,e2,?_⟩
 refine⟨.non,_,I.aPx hH e 0x2 (r.append r2) ?_,rfl,q⟩;rw[cx];lia
def aVj:V->aa V->Hp->VK->Prop:=λx vs H Q=>∃l xs y,x=.ref l/\vs=[]/\H l=ae (.lst xs)/\xs[xs.length-1]?=ae y/\Q y (upd H l (.lst xs.dropLast))
theorem aPy:MtM X "list.pop" aVj:=by
 intro Ψ s σ H x vs v us Q I rx rv h;obtain⟨l,xs,y,rfl,rfl,hH,hy,q⟩:=h;cases rx;have hus:=rv.zero;subst hus;obtain⟨z,its,n,r,hl,e⟩:=I.aOr hH;obtain⟨u,hu,ru⟩:=r.get hy;have hy':its.toArray[its.toArray.size-1]?=ae u:=by
  show its.toArray[its.length-1]?=ae u;rw[<-kl,<-hl];exact hu
 refine kj Ak ⟨_,e,rfl⟩ F.entry_list_pop (F.args_list_pop_1 _) (Dx l its.toArray n u hy' (by rw[b6];lia)) ⟨e,?_⟩;refine⟨y,_,I.aPx hH e ?_ r.dropLast ?_,ru,q⟩
 .show its.toArray.eraseIdxIfInBounds (its.toArray.size-1)=its.dropLast.toArray;rw[b6,List.eraseIdxIfInBounds_toArray,aBe]
 .rw[List.length_dropLast];lia
end
section
variable {κ:Type} [fF κ]
noncomputable def wN(kvs:aa (κ×V))(k:κ):az V:=(kvs.find? λkv=>ϒ (kv.1=k)).map (·.2)
noncomputable def putK(kvs:aa (κ×V))(k:κ)(v:V):aa (κ×V):=
 if (kvs.any λkv=>ϒ (kv.1=k))=ag then kvs.map (λkv=>if kv.1=k then (kv.1,v) else kv) else kvs++[(k,v)]
theorem tG{k:κ}(e:p.1=k):wN (p::r) k=ae p.2:=by simp[wN,iL,e]
theorem tH{k:κ}(e:¬p.1=k):wN (p::r) k=wN r k:=by simp[wN,iL,e]
theorem vN(k:κ):∀kvs:aa (κ×V),(kvs.any λkv=>ϒ (kv.1=k))=(wN kvs k).isSome
 |[]=>rfl
 |p::r=>by
  rw[lj];by_cases e:p.1=k
  .simp only[tG e,bz e,Al,wj]
  .rw[tH e,cy e,lm];exact vN k r
theorem mD(kvs:aa (κ×V))(k:κ)(v:V):(putK kvs k v).length<=kvs.length+1:=by
 unfold putK;split
 .rw[aS];lia
 .rw[cx,b9,eW];lia
theorem Y8{k:κ}(v:V)(h:wN kvs k=aj):putK kvs k v=kvs++[(k,v)]:=by
 unfold putK;rw[vN,h];exact ap 0x4
theorem aCn.qZ(r:aCn o u):o.isSome=u.isSome:=by
 cases o with
 |none=>cases u with
  |none=>rfl
  |some _=>exact(show c8 from r).elim
 |some _=>cases u with
  |none=>exact(show c8 from r).elim
  |some _=>rfl
theorem aCn.getD(r:aCn o u)(rd:RelV d d'):RelV (o.getD d) (u.getD d'):=by
 cases o with
 |none=>cases u with
  |none=>exact rd
  |some _=>exact(show c8 from r).elim
 |some _=>cases u with
  |none=>exact(show c8 from r).elim
  |some _=>exact r
theorem KV.val(r:KV kvs vs)(k:κ):aCn (wN kvs k) (mw vs k):=by
 unfold KV at r;induction r with
 |nil=>exact True.intro
 |@cons p q ps qs h t ih=>
  obtain⟨h1,h2⟩:=h;by_cases e:p.1=k
  .have e':q.1=k:=h1.symm.trans e;have b:mw (q::qs) k=ae q.2:=by simp[mw,iL,e']
   rw[tG e,b];exact h2
  .have e':¬q.1=k:=λz=>e (h1.trans z)
   have b:mw (q::qs) k=mw qs k:=by simp[mw,iL,e']
   rw[tH e,b];exact ih
theorem KV.any(r:KV kvs vs)(k:κ):(kvs.any λkv=>ϒ (kv.1=k))=vs.any λkv=>ϒ (kv.1=k):=by
 unfold KV at r;induction r with
 |nil=>rfl
 |cons h t ih=>rw[lj,lj,ih,h.1]
theorem KV.repl(r:KV kvs vs)(k:κ)(ry:RelV y u) :
  KV (kvs.map λkv=>if kv.1=k then (kv.1,y) else kv) (vs.map λkv=>if kv.1=k then (kv.1,u) else kv):=by
 unfold KV at r ⊢;induction r with
 |nil=>exact .nil
 |@cons p q ps qs h t ih=>
  rw[ba,ba];refine .cons ?_ ih;obtain⟨h1,h2⟩:=h;by_cases e:p.1=k
  .rw[ao e,ao (h1.symm.trans e)];exact⟨h1,ry⟩
  .rw[ap e,ap (λz=>e (h1.trans z))];exact⟨h1,h2⟩
theorem KV.put(r:KV kvs vs)(k:κ)(ry:RelV y u):KV (putK kvs k y) (mz vs k u):=by
 unfold putK mz;rw[r.any k];by_cases e:(vs.any λkv=>ϒ (kv.1=k))=ag
 .rw[ao e,ao e];exact r.repl k ry
 .rw[ap e,ap e];exact Am r ⟨rfl,ry⟩
theorem KV.length(r:KV kvs vs):kvs.length=vs.length:=kN r
end
theorem zT(r:RelV (kV k) u):(dJ P w).is k u=ag:=by
 cases k with
 |inl i=>obtain⟨t,e⟩:=(show ∃t,u=u7 i t from r);subst e;exact VG P w i t
 |inr x=>obtain⟨t,e⟩:=(show ∃t,u=va x t from r);subst e;exact VH P w x t
theorem QV:∀{ks:aa Key}{us:aa ak},Vals (ks.map kV) us->ItemsAre (dJ P w) ks us
 |[],_,r=>by rw[jk] at r;cases r;exact .nil
 |k::ks,_,r=>by
  rw[ba] at r;cases r with
  |cons h t=>exact .cons (zT h) (QV t)
abbrev KT(H:Hp):aa (aa Key×V)->aa (aa Key×am×ak)->Prop:=kM λp q=>p.1=q.1/\H q.2.1=ae (.tup (p.1.map kV))/\RelV p.2 q.2.2
theorem KT.val(r:KT H kvs xs)(k:aa Key):aCn (wN kvs k) ((km xs k).map (·.2)):=by
 induction r with
 |nil=>exact True.intro
 |@cons p q ps qs h t ih=>
  obtain⟨h1,_,h2⟩:=h;by_cases e:p.1=k
  .have e':q.1=k:=h1.symm.trans e;have b:km (q::qs) k=ae q.2:=by simp[km,iL,e']
   rw[tG e,b];exact h2
  .have e':¬q.1=k:=λz=>e (h1.trans z)
   have b:km (q::qs) k=km qs k:=by simp[km,iL,e']
   rw[tH e,b];exact ih
theorem KT.repl(r:KT H kvs xs)(k:aa Key)(ry:RelV y u) :
  KT H (kvs.map λkv=>if kv.1=k then (kv.1,y) else kv) (xs.map (putAt k u)):=by
 induction r with
 |nil=>exact .nil
 |@cons p q ps qs h t ih=>
  rw[ba,ba];refine .cons ?_ ih;obtain⟨h1,h2,h3⟩:=h;unfold putAt;by_cases e:p.1=k
  .rw[ao e,ao (h1.symm.trans e)];exact⟨h1,h2,ry⟩
  .rw[ap e,ap (λz=>e (h1.trans z))];exact⟨h1,h2,h3⟩
theorem KT.put(r:KT H kvs xs)(k:aa Key)(hb:H b=ae (.tup (k.map kV)))(ry:RelV y u) :
  KT H (putK kvs k y) (storedH xs k b u):=by
 have e:(kvs.any λkv=>ϒ (kv.1=k))=(km xs k).isSome:=by
  rw[vN,(r.val k).qZ,wl]
 unfold putK storedH;rw[e];by_cases q:(km xs k).isSome=ag
 .rw[ao q,ao q];exact r.repl k ry
 .rw[ap q,ap q];exact Am r ⟨rfl,hb,ry⟩
theorem KT.keeps(r:KT H kvs xs)(ht:∀b ys,H b=ae (.tup ys)->H' b=ae (.tup ys)):KT H' kvs xs:=
 Paired.aSy r λ_ _ z=>⟨z.1,ht _ _ z.2.1,z.2.2⟩
section
variable {a:am}
theorem aPz(ok:HOk P w H h)(e:Rd H a u):mY P w H h a u:=e.ok ok
theorem VN(ok:HOk P w H h)(e:Rd H a (.dK kvs)):kvs.length<=bg/\(a==fS)=ai/\∃vs,KV kvs vs/\h.DictOf (dJ P w) a vs:=
 show mY P w H h a (.dK kvs) from aPz ok e
theorem VP(ok:HOk P w H h)(e:H a=ae (.dK kvs)):kvs.length<=bg/\(a==fS)=ai/\∃vs,KV kvs vs/\h.DictOf (dJ P w) a vs:=VN ok (.inl e)
theorem xV(ok:HOk P w H h)(e:H a=ae (.tup (ks.map kV))):(jv (dJ P w)).is h ks a:=by
 obtain⟨_,its,r,o,h1,h2,n,h3⟩:=(show mY P w H h a (.tup (ks.map kV)) from ok a _ e)
 exact⟨o,its.toArray,n,h1,h2,cz (·.1) h3,by simpa using QV r⟩
theorem VR(ok:HOk P w H h)(e:Rd H a (.dT kvs)):kvs.length<=bg/\(a==fS)=ai/\
  ∃xs,KT H kvs xs/\h.DictOfH (jv (dJ P w)) a xs:=by
 obtain⟨z,y,xs,r,o,es,ep,h1,h2,h3,h4,h5⟩:=(show mY P w H h a (.dT kvs) from aPz ok e)
 refine⟨z,y,xs,r,o,es,ep,h1,h2,h3,h4,λx hx=>?_,h5⟩;have all:∀{l:aa (aa Key×V)}{m:aa (aa Key×am×ak)},KT H l m->∀x∈m,(jv (dJ P w)).is h x.1 x.2.1:=by
  intro l m q;induction q with
  |nil=>intro x hx;exact nomatch hx
  |@cons p q ps qs hq t ih=>
   intro x hx;rcases bi.mp hx with e|hx
   .subst e;exact xV ok (by rw[<-hq.1];exact hq.2.1)
   .exact ih x hx
 exact all r x hx
theorem aDd(ok:HOk P w H h)(e:H a=ae (.dT kvs)):kvs.length<=bg/\(a==fS)=ai/\
  ∃xs,KT H kvs xs/\h.DictOfH (jv (dJ P w)) a xs:=VR ok (.inl e)
end
def Y9(H:Hp)(a:am)(y:V)(r:az V):Prop:=
 (∃kvs k,Rd H a (.dK kvs)/\y=kV k/\r=wN kvs k)\/∃kvs k b,Rd H a (.dT kvs)/\y=.ref b/\H b=ae (.tup (k.map kV))/\r=wN kvs k
def aDe(H:Hp)(a:am)(y v:V)(H':Hp):Prop:=
 (∃kvs k,H a=ae (.dK kvs)/\y=kV k/\kvs.length<bg/\H'=upd H a (.dK (putK kvs k v)))\/
 ∃kvs k b,H a=ae (.dT kvs)/\y=.ref b/\H b=ae (.tup (k.map kV))/\kvs.length<bg/\H'=upd H a (.dT (putK kvs k v))
theorem Y9.k{k:Key}(e:H a=ae (.dK kvs)):Y9 H a (kV k) (wN kvs k):=.inl ⟨kvs,k,.inl e,rfl,rfl⟩
theorem Y9.t{k:aa Key}(e:H a=ae (.dT kvs))(eb:H b=ae (.tup (k.map kV))):Y9 H a (.ref b) (wN kvs k):=.inr ⟨kvs,k,b,.inl e,rfl,eb,rfl⟩
theorem aDe.k{k:Key}{v:V}(e:H a=ae (.dK kvs))(hl:kvs.length<bg):aDe H a (kV k) v (upd H a (.dK (putK kvs k v))):=.inl ⟨kvs,k,e,rfl,hl,rfl⟩
theorem aDe.t{H:Hp}{a b:am}{kvs:aa (aa Key×V)}{k:aa Key}{v:V}(e:H a=ae (.dT kvs))(eb:H b=ae (.tup (k.map kV)))(hl:kvs.length<bg) :
  aDe H a (.ref b) v (upd H a (.dT (putK kvs k v))):=.inr ⟨kvs,k,b,e,rfl,eb,hl,rfl⟩
section
variable {a:am} {y v:V}
theorem Inv.big(I:Inv X Ψ σ H s):fS<s.heap.objs.size:=by
 have h:e9<s.heap.objs.size:=(I.mod.glob.keeps I.bk).lt;exact Nat.lt_trans 0x4 h
theorem aDf(hu:A.units+1<bw)(I:Inv X Ψ σ H s)(g:Y9 H a y (ae v))(ry:RelV y u)(h:∀w' s',Inv X Ψ σ H s'->RelV v w'->Q w' s') :
  ϑ (av X.prog X.w) A (lf (.ref a) u) Q E s:=by
 rcases g with ⟨kvs,k,e,ey,l⟩|⟨kvs,k,b,e,ey,eb,l⟩
 .subst ey;obtain⟨z,hd,vs,rel,dd⟩:=VN I.hok e;obtain⟨w',hw,rw'⟩:=aCn.some_of (by rw[l];exact rel.val k);exact wpAny_getItem_of (zT ry) dd.mapOf hw (h w' _ (I.tok _) rw')
 .subst ey;cases (show u=fR b from ry);obtain⟨z,hd,xs,rel,dd⟩:=VR I.hok e;obtain⟨w',hw,rw'⟩:=aCn.some_of (by rw[l];exact rel.val k);obtain⟨p,hp,hp2⟩:=nS.mp hw;refine wpAny_getItem_heap (mB hu) (xV I.hok eb) dd hp ?_;rw[hp2];exact h w' _ (I.tok _) rw'
theorem aVk(hu:A.units+1<bw)(I:Inv X Ψ σ H s)(g:Y9 H a y o)(ry:RelV y u)(h:∀s',Inv X Ψ σ H s'->Q (.bool o.isSome) s') :
  ϑ (av X.prog X.w) A (dq .In u (.ref a)) Q E s:=by
 rcases g with ⟨kvs,k,e,ey,l⟩|⟨kvs,k,b,e,ey,eb,l⟩
 .subst ey;obtain⟨z,hd,vs,rel,dd⟩:=VN I.hok e;refine wpAny_in_of (zT ry) hd dd.mapOf ?_;rw[<-(rel.val k).qZ,<-l];exact h _ (I.tok _)
 .subst ey;cases (show u=fR b from ry);obtain⟨z,hd,xs,rel,dd⟩:=VR I.hok e;refine wpAny_in_heap (mB hu) (xV I.hok eb) hd dd ?_;have q:=(rel.val k).qZ;rw[wl] at q;rw[<-q,<-l];exact h _ (I.tok _)
theorem aLm(hu:A.units+1<bw)(I:Inv X Ψ σ H s)(g:Y9 H a y o)(ry:RelV y u)(h:∀s',Inv X Ψ σ H s'->Q (.bool (!o.isSome)) s') :
  ϑ (av X.prog X.w) A (dq .NotIn u (.ref a)) Q E s:=by
 rcases g with ⟨kvs,k,e,ey,l⟩|⟨kvs,k,b,e,ey,eb,l⟩
 .subst ey;obtain⟨z,hd,vs,rel,dd⟩:=VN I.hok e;refine wpAny_notIn_of (zT ry) hd dd.mapOf ?_;rw[<-(rel.val k).qZ,<-l];exact h _ (I.tok _)
 .subst ey;cases (show u=fR b from ry);obtain⟨z,hd,xs,rel,dd⟩:=VR I.hok e;refine wpAny_notIn_heap (mB hu) (xV I.hok eb) hd dd ?_;have q:=(rel.val k).qZ;rw[wl] at q;rw[<-q,<-l];exact h _ (I.tok _)
theorem zU(I:Inv X Ψ σ H s)(mu:Mut (H a))(hs:l8 a s.heap h')(he:∃q,h'.get? a=ae q)(new:mY X.prog X.w (upd H a ob) h' a ob) :
  Inv X Ψ σ (upd H a ob) {s with heap:=h',toks:=t'}:=
 I.write mu (.inl rfl) (λb q hb z=>(hs.2 b hb).trans z) he new
theorem Y_(z:kvs.length<=bg)(hd:(a==fS)=ai)(rel:KV kvs vs)(dd:h'.DictOf (dJ P w) a vs) :
  mY P w H' h' a (.dK kvs):=⟨z,hd,vs,rel,dd⟩
theorem QW(hu:A.units+1<bw)(I:Inv X Ψ σ H s)(g:aDe H a y v H')(ry:RelV y u)(rv:RelV v r)(h:∀s',Inv X Ψ σ H' s'->Q () s') :
  ϑ (av X.prog X.w) A (setItem (.ref a) u r) Q E s:=by
 rcases g with ⟨kvs,k,e,ey,l,eH⟩|⟨kvs,k,b,e,ey,eb,l,eH⟩
 .subst ey eH;obtain⟨z,hd,vs,rel,dd⟩:=VP I.hok e;have hz:vs.length<=bg:=by rw[<-rel.length];exact z
  have hl:(putK kvs k v).length<=bg:=by have:=mD kvs k v;lia
  refine wpAny_setItem_pairs (zT ry) dd λh' dd' hs=>h _ ?_
  have he:∃q,h'.get? a=ae q:=let ⟨q,_,_,hq,_⟩:=dd';⟨q,hq⟩
  exact zU I (by rw[e];exact True.intro) hs he (Y_ hl hd (rel.put k rv) dd')
 .subst ey eH;cases (show u=fR b from ry);obtain⟨z,hd,xs,rel,dd⟩:=aDd I.hok e;have hz:xs.length<=bg:=by rw[<-kN rel];exact z
  have hl:(putK kvs k v).length<=bg:=by have:=mD kvs k v;lia
  refine wpAny_setItem_heap (mB hu) (xV I.hok eb) dd λh' dd' hs=>h _ ?_
  obtain⟨q,es,ep,hq,h2,h3,h4,_,h5⟩:=dd';refine zU I (by rw[e];exact True.intro) hs ⟨q,hq⟩ ⟨hl,hd,_,(rel.put k eb rv).keeps λc ys ec=>?_,q,es,ep,hq,h2,h3,h4,h5⟩;rw[bB (aHb ec e (λz=>nomatch z))];exact ec
end
theorem V0(I:Inv X Ψ σ H s)(g:Y9 H a y o):s.TypeIs (.ref a) "dict":=by
 rcases g with ⟨kvs,k,e,_,_⟩|⟨kvs,k,b,e,_,_,_⟩
 .obtain⟨_,_,vs,_,dd⟩:=VN I.hok e;exact dd.typeIs
 .obtain⟨_,_,xs,_,dd⟩:=VR I.hok e;exact dd.typeIs
noncomputable def aTg(td ty tv:TE):TS:=λD σ H=>tv σ H λv H1=>td σ H1 λx H2=>ty σ H2 λy H3=>∃a H4,x=.ref a/\aDe H3 a y v H4/\D.nx σ H4
section
theorem aLn(hu:X.A.units+1<bw)(ho:PE X o td)(hi:PE X i ty)(hv:PE X value tv)(hs:fq value (ae (.Subscript o i pos')) pos.line X.env=pure ai) :
  PS X (.Assign [.Subscript o i pos'] value pos) (aTg td ty tv):=by
 intro Ψ s σ H D I h;refine An (thn (hv Ψ s σ H _ I h) λr s1 ⟨v,H1,I1,rv,q1⟩=>thn (ho Ψ s1 σ H1 _ I1 q1) λu s2 ⟨x,H2,I2,rx,q2⟩=>thn (hi Ψ s2 σ H2 _ I2 q2) λiv s3 ⟨y,H3,I3,ry,a,H4,ex,g,q3⟩=>?_) hs;subst ex;obtain rfl:u=fR a:=rx;exact QW hu I3 g ry rv λs4 I4=>⟨σ,H4,I4,q3⟩
end
theorem J_(h:bm)(hb:fS<h.objs.size):mY P w H (h.push {cls:=.type "dict",data:=.dict #[]}) h.objs.size (.dK []):=
 ⟨eI _,je.mpr (Ne.symm (de hb)),[],.nil,Ao h⟩
def aQ0:TE:=λ_ H Q=>∀p,H p=aj->Q (.ref p) (upd H p (.dK []))
section
theorem aHm:PE X (.Dict [] [] pos) aQ0:=λΨ s σ H Q I h=>
 wpAny_Dict_empty ⟨.ref s.heap.objs.size,_,I.laid (λ_ _ q=>cg _ q) (bd _) (J_ s.heap I.big),rfl,h _ (I.hok.fresh (bd _))⟩
end
def aDg:aa (TE×TE)->St->Hp->(aa (V×V)->Hp->Prop)->Prop
 |[],_,H,Q=>Q [] H
 | (tk,tv)::r,σ,H,Q=>tk σ H λx H1=>tv σ H1 λy H2=>aDg r σ H2 λps H3=>Q ((x,y)::ps) H3
abbrev VV:aa (V×V)->aa (ak×ak)->Prop:=kM λp q=>RelV p.1 q.1/\RelV p.2 q.2
def PPs(X:Cx)(pos:c9)(keys:aa (az Expr))(values:aa Expr)(trs:aa (TE×TE)):Prop:=
 ∀(Ψ:aa (am×bP))(s:au)(σ:St)(H:Hp)(Q:aa (V×V)->Hp->Prop),Inv X Ψ σ H s->aDg trs σ H Q->
  ϑ (av X.prog X.w) X.A (evalPairs (pairTrees keys values X.env pos)) (λvs s'=>∃ps H',Inv X Ψ σ H' s'/\VV ps vs/\Q ps H') X.xe s
theorem V5:PPs X pos [] [] []:=λΨ s σ H Q I h=>pairTrees_nil_walk ⟨[],H,I,.nil,h⟩
theorem vO(hk:PE X k tk)(hv:PE X v tv)(hr:PPs X pos ks vs trs) :
  PPs X pos (ae k::ks) (v::vs) ((tk,tv)::trs):=λΨ s σ H Q I h=>
 pairTrees_cons_walk (thn (hk Ψ s σ H _ I h) λu s1 ⟨x,H1,I1,rx,q1⟩=>thn (hv Ψ s1 σ H1 _ I1 q1) λw2 s2 ⟨y,H2,I2,ry,q2⟩=>
  thn (hr Ψ s2 σ H2 _ I2 q2) λws s3 ⟨ps,H3,I3,rel,q3⟩=>⟨(x,y)::ps,H3,I3,.cons ⟨rx,ry⟩ rel,q3⟩)
def jC(kvs more:aa (Key×V)):aa (Key×V):=more.foldl (λacc kv=>putK acc kv.1 kv.2) kvs
theorem KV.merge:∀{more:aa (Key×V)}{rs:aa (Key×ak)}{kvs:aa (Key×V)}{vs:aa (Key×ak)},KV more rs->KV kvs vs->KV (jC kvs more) (sD vs rs):=by
 intro more rs kvs vs r;unfold KV at r;induction r generalizing kvs vs with
 |nil=>intro q;exact q
 |@cons p q ps qs h t ih=>
  intro r0;have e:KV (putK kvs p.1 p.2) (mz vs q.1 q.2):=by
   have:=r0.put p.1 h.2;rw[<-h.1];exact this
  exact ih e
theorem oX:∀(more kvs:aa (Key×V)),(jC kvs more).length<=kvs.length+more.length
 |[],kvs=>by show kvs.length<=kvs.length+0;lia
 |p::r,kvs=>by
  have h1:=oX r (putK kvs p.1 p.2);have h2:=mD kvs p.1 p.2;show(jC (putK kvs p.1 p.2) r).length<=_;rw[b9];lia
theorem JF:∀{kvs:aa (Key×V)}{ws:aa (ak×ak)},VV (kvs.map λkv=>(kV kv.1,kv.2)) ws->∃rs,Carries (dJ P w) ws rs/\KV kvs rs
 |[],_,r=>by rw[jk] at r;cases r;exact⟨[],True.intro,.nil⟩
 |p::kvs,_,r=>by
  rw[ba] at r;cases r with
  |@cons a b as bs h t=>
   obtain⟨rs,c,q⟩:=JF t;obtain⟨b1,b2⟩:=b;exact⟨(p.1,b2)::rs,⟨zT h.1,rfl,c⟩,.cons ⟨rfl,h.2⟩ q⟩
def aTh(trs:aa (TE×TE)):TE:=λσ H Q=>∀p,H p=aj->aDg trs σ (upd H p (.dK [])) λps H2=>H2 p=ae (.dK [])/\∃kvs:aa (Key×V),ps=kvs.map (λkv=>(kV kv.1,kv.2))/\kvs.length<=15/\Q (.ref p) (upd H2 p (.dK (jC [] kvs)))
theorem aDh(h:PPs X pos keys values trs)(hall:keys.all (·.isSome)=ag)(hl:keys.length=values.length)(h0:keys≠[])
 (h15:keys.length<=15):PE X (.Dict keys values pos) (aTh trs):=by
 intro Ψ s σ H Q I q;have hn:=I.hok.fresh (bd s.heap.objs.size);have I1:=I.laid (t':=s.toks) (λ_ _ q=>cg _ q) (bd _) (J_ s.heap I.big);refine wpAny_Dict_walk (knd:=dJ X.prog X.w) hall hl h0 h15 (thn (h Ψ _ σ _ _ I1 (q _ hn)) λws s2 ⟨ps,H2,I2,rel,e,kvs,ep,lk,q2⟩=>?_);subst ep;obtain⟨rs,c,rk⟩:=JF (P:=X.prog) (w:=X.w) rel;obtain⟨z,hd,vs0,r0,dd⟩:=VP I2.hok e;cases r0;refine⟨rs,c,dd,λh' dd' hs=>⟨.ref s.heap.objs.size,_,?_,rfl,q2⟩⟩;have hz:(jC [] kvs).length<=bg:=by
  have h1:=oX kvs [];rw[eW] at h1;rw[eS];lia
 have he:∃q,h'.get? s.heap.objs.size=ae q:=let ⟨q,_,_,hq,_⟩:=dd';⟨q,hq⟩
 exact zU I2 (by rw[e];exact True.intro) hs he (Y_ hz hd (rk.merge .nil) dd')
section
variable {y d:V}
theorem aQ1(hu:A.units+1<bw)(I:Inv X Ψ σ H s)(g:Y9 H a y o)(ry:RelV y u)(h:∀w' s',Inv X Ψ σ H s'->RelV (o.getD .non) w'->Q w' s') :
  ϑ (av X.prog X.w) A (call (.builtin "dict.get") [.ref a,u]) Q E s:=by
 rcases g with ⟨kvs,k,e,ey,l⟩|⟨kvs,k,b,e,ey,eb,l⟩
 .subst ey;obtain⟨z,hd,vs,rel,dd⟩:=VN I.hok e;refine sF nV dd.typeIs sK (Ap _ _) (meets_dict_get (dJ X.prog X.w) a (zT ry) hd) ⟨_,dd.mapOf,h _ _ (I.tok _) ?_⟩;rw[l];exact(rel.val k).getD rfl
 .subst ey;cases (show u=fR b from ry);obtain⟨z,hd,xs,rel,dd⟩:=VR I.hok e;refine sF nV dd.typeIs sK (Ap _ _) (meetsH_dict_get (jv (dJ X.prog X.w)) a b hd) ⟨mB hu,k,xs,xV I.hok eb,dd,h _ _ (I.tok _) ?_⟩;rw[l];exact(rel.val k).getD rfl
theorem aQ2(hu:A.units+1<bw)(I:Inv X Ψ σ H s)(g:Y9 H a y o)(ry:RelV y u)(rd:RelV d r)(h:∀w' s',Inv X Ψ σ H s'->RelV (o.getD d) w'->Q w' s') :
  ϑ (av X.prog X.w) A (call (.builtin "dict.get") [.ref a,u,r]) Q E s:=by
 rcases g with ⟨kvs,k,e,ey,l⟩|⟨kvs,k,b,e,ey,eb,l⟩
 .subst ey;obtain⟨z,hd,vs,rel,dd⟩:=VN I.hok e;refine sF nV dd.typeIs sK (Aq _ _ _) (meets_dict_get_default (dJ X.prog X.w) a (zT ry) hd r) ⟨_,dd.mapOf,h _ _ (I.tok _) ?_⟩;rw[l];exact(rel.val k).getD rd
 .subst ey;cases (show u=fR b from ry);obtain⟨z,hd,xs,rel,dd⟩:=VR I.hok e;refine sF nV dd.typeIs sK (Aq _ _ _) (meetsH_dict_get_default (jv (dJ X.prog X.w)) a b hd r) ⟨mB hu,k,xs,xV I.hok eb,dd,h _ _ (I.tok _) ?_⟩;rw[l];exact(rel.val k).getD rd
end
end L2
namespace Att
open PySem PySem.W PySem.Calls PyProof.Rows
theorem zV:∀(ns:aa af)(vs:aa ak),WellAll P h vs (ns.map Ar)->nX vs ns:=by
 intro ns;induction ns with
 |nil=>
  intro vs w;rw[jk] at w;cases w;exact .nil
 |cons n ns ih=>
  intro vs w;rw[ba] at w;cases w with
  |cons a b=>
   cases a;exact .cons _ _ (ih _ b)
theorem aDi{l:OpenLaw}(hn:l.most=ae n)
 (hpre:l.row.toRowW.claim.pre args=ag)(hwl:WellAll P h vals args) :
  ∃a vs ns,vals=[fR a]/\args=[WData.list (ns.map Ar)]/\h.get? a=ae {cls:=.type "list",data:=.seq vs.toArray}/\nX vs ns/\ns.length<=n:=by
 have hsh:WShape.hasAll [] args [.list .int]=ag:=(pre_splitW hpre).1;have hc:l.pre.holds [] {args:=args}=ag:=(pre_splitW hpre).2;obtain⟨d,r,rfl,h1,h2⟩:=hasAllW_cons hsh;obtain rfl:=hasAllW_nil h2;obtain⟨xs,rfl,h3⟩:=hasW_list h1;obtain⟨ns,rfl⟩:=items_int h3;have hlen:ns.length<=n:=by
  unfold OpenLaw.pre at hc;have h4:(WTm.not (.lt (.lit (.int (n:af))) (.len (.arg 0)))).holds [] {args:=[.list (ns.map .int)]}=ag:=by
   have h4:=(holds_andW hc).1;rw[hn] at h4;exact h4
  have h5:=condW_of h4 (w_not (w_lt w_lit (w_len_list (w_arg rfl))));rw[aS] at h5;refine Nat.le_of_not_lt λq=>?_
  have q':(n:af)<((ns.length:ah):af):=by lia
  first
   | (rw[bz q'] at h5;exact aT h5 0x4)
   | (simp at h5;lia)
 cases hwl with
 |cons w1 w2=>
  cases w2;cases w1 with
  |list ho hall=>exact⟨_,_,ns,rfl,rfl,ho,zV ns _ hall,hlen⟩
theorem aDj(l:OpenLaw)(args:aa WData):l.row.toRowW.claim.post args (.bool ag) args=ag:=
 postW_of
  (show As [] (.bool ag) .bool=ag by first|rfl|decide|simp[As,WShape.arms,WShape.armsAll])
  (show(WTm.eq .res (.lit (.bool ag))).value [] {args:=args,res:=ae (.bool ag),after:=args}=ae (.bool (ag==ag)) from w_eq_bool (w_res rfl) w_lit) rfl
theorem V6{l:OpenLaw}
 (hn:l.most=ae n)(hdf:d.params.defaults=[])
 (call:∀(w:br) (s₀ s₁:au) (mg mb:Str->az ak) (fa:am) (o:bP) (pm cd doc:ak) (a:am) (vs:aa ak) (ns:aa af),
   Ground q loose [] XP w s₀ mg mb s₁.heap->YP w s₁.heap->
   s₁.heap.get? fa=ae o->o.data=.func (docDef d.name d.params d.body d.scope pm cd doc)->s₁.heap.CodeRec cd d.name->mg d.name=ae (.ref fa)->
   s₁.heap.get? a=ae {cls:=.type "list",data:=.seq vs.toArray}->nX vs ns->ns.length<=n->s₁.gens=#[]->
   codeAny (av l.prog w) lp (.call (.ref fa) ⟨[.ref a],[]⟩) (λr s'=>r=.ok (.ret (.bool ag))/\OldK s₁.heap s'.heap/\s'.os=s₁.os/\jx s'.gens) s₁) :
  WalkO q loose XP YP l.row.toRowW d [] (λf vs=>wm f vs):=by
 intro w s₀ s₁ mg mb G Y fa o pm cd doc dV kV ho hd hcd hD hmg hg args vals as hpre hlay hrd hwl hlo;obtain rfl:dV=.none:=Dflts.none hD hdf;obtain rfl:kV=.none:=Dflts.noKw hD;obtain⟨a,vs,ns,rfl,rfl,hobj,hints,hlen⟩:=aDi hn hpre hwl;refine enter_call (mh (call w s₀ s₁ mg mb fa o pm cd doc a vs ns G Y ho (fd_plain hd) hcd hmg hobj hints hlen hg) λr s' hq=>?_);obtain⟨rfl,h2,h3,h4⟩:=hq;exact⟨.inl ⟨.bool ag,.bool ag,[],rfl,λ_=>rfl,.bool ag,aDj l _,λ_=>⟨Dy,λ_ hm=>(nomatch hm)⟩⟩,h2,h3,h4⟩
end Att
namespace L2
open PySem PySem.Spec PyProof.Rows
theorem QX:∀{vs:aa ak}{ns:aa af},nX vs ns->Vals (ns.map V.int) vs
 |_,_,.nil=>.nil
 |_,_,.cons n t h=>.cons ⟨t,rfl⟩ (QX h)
def Only(H:Hp):Prop:=∀b,H b=aj\/∃o xs,H b=ae (.frz o (.lst xs))
theorem aHn{K:cm}{mg mb:Str->az ak}{CX:CXT}{k:ah}{fa a:am}{fd:hX}{x:Str}{sp:Sp}{s₁:au}{vs:aa ak}{ns:aa af}
 (KX:K.In s₁.heap)(hns:s₁.heap.Ns e9 mg)(hb:s₁.heap.Ns vd mb)(hbb:∀x:Str,x ≠ "__name__"->mb x=eM x)(hlim:s₁.heap.NoLimit)(hg:s₁.gens=#[])
 (ha:s₁.heap.get? a=ae {cls:=.type "list",data:=.seq vs.toArray})(hi:nX vs ns)(hl:ns.length<=bg)(hr:GR k lp)
 (F:∀base:bm,K.In base->base.Ns e9 mg->aCp P w K mg base CX k fa fd [x] sp)(hbind:∀(s:au) (u:ak),mf s fd ⟨[u],[]⟩ [(x,u)])
 (hsp:∀H:Hp,Only H->SqL K H a (ns.map V.int)->sp [.ref a] H (λv _=>v=.bl ag) λ_ _ _=>c8)
 (hCX:∀H e s',CX [] H s₁ (λ_ _ _=>c8) e s'->c8) :
  codeAny (av P w) lp (.call (.ref fa) ⟨[.ref a],[]⟩) (λr s'=>r=.ok (.ret (.bool ag))/\OldK s₁.heap s'.heap/\s'.os=s₁.os/\jx s'.gens) s₁:=by
 have rv:=QX hi;have lenV:=hi.length
 -- from an abstract heap in which nothing but the script may be tracked
 have core:∀H:Hp,Only H->SqL K H a (ns.map V.int)->HOk P w H s₁.heap->(∀b,H b≠aj->b=a)->(H a≠aj->K.lookup a=aj)->
   codeAny (av P w) lp (.call (.ref fa) ⟨[.ref a],[]⟩) (λr s'=>r=.ok (.ret (.bool ag))/\OldK s₁.heap s'.heap/\s'.os=s₁.os/\jx s'.gens) s₁:=by
  intro H hO hS hok hA hK;have base_of:∀{b:am}{o:bP},s₁.heap.get? b=ae o->H b=aj->(aHc s₁.heap H).get? b=ae o:=λe n=>aHd e n
  have noA:∀{b:am}{o:bP}{es:ax oe}{ep:ah},s₁.heap.get? b=ae o->o.data=.dict es ep->H b=aj:=λ{b o es ep} e d=>by
   cases q:H b with
   |none=>rfl
   |some u=>
    have e':b=a:=hA b (by rw[q];simp);subst e';rw[ha] at e;cases e;have d':yY vs.toArray _=Data.dict es ep:=d;cases d'
  have nsK:∀{b:am}{m:Str->az ak},s₁.heap.Ns b m->(aHc s₁.heap H).Ns b m:=λ{b m} ⟨o,es,ep,e,d,r⟩=>⟨o,es,ep,base_of e (noA e d),d,r⟩
  have hKb:K.In (aHc s₁.heap H):=λb o e=>base_of (KX b o e) (by
   cases q:H b with
   |none=>rfl
   |some u=>
    have e':b=a:=hA b (by rw[q];simp);subst e';rw[hK (by rw[q];simp)] at e;cases e)
  have hM:Mod K mg (aHc s₁.heap H):=⟨hKb,nsK hns,⟨mb,nsK hb,hbb⟩,let ⟨mc,h1,h2⟩:=hlim;⟨mc,nsK h1,h2⟩⟩
  have e0:aSn P w K mg (aHc s₁.heap H) lp [] s₁ H:=⟨rfl,hM,λb o e=>aL3 e,sL (aCy _ _),trivial,λb hb=>aT (show b∈([]:aa am) from hb) 0x2,hok,.of_eq hg⟩
  refine mh ((F _ hKb (nsK hns)).run lp [] s₁ H ⟨[.ref a],[]⟩ [.ref a] [.ref a] _ _ hr e0 (hbind s₁ (.ref a)) (.cons rfl .nil) (hsp H hO hS)) λr s' h=>?_
  cases r with
  |error e=>exact(hCX H e s' h).elim
  |ok fl=>
   cases fl with
   |next=>exact f_ h
   |brk=>exact f_ h
   |cont=>exact f_ h
   |ret u=>
    obtain⟨v,H',os,bare,un,hok',r',q⟩:=h;have q':v=.bl ag:=q;subst q';obtain rfl:u=r_ ag:=r';refine⟨rfl,OldK.of_keep λb o e=>?_,os,bare⟩;cases q:H b with
    |none=>exact un.keep b o e q (by intro z;exact aT (show b∈([]:aa am) from z) 0x2) 0x2
    |some u=>
     rcases hO b with z|⟨ob,xs,z⟩
     .rw[q] at z;cases z
     .have z2:=un.frzs b ob _ z;obtain⟨e1,_⟩:=hok b _ z;obtain⟨e2,_⟩:=hok' b _ z2;rw[e] at e1;cases e1;exact e2
 cases hk:K.lookup a with
 |some o=>
  -- the script is one of the module's own objects
  have e:=KX a o hk;rw[ha] at e;cases e;refine core (λ_=>aj) (λ_=>.inl rfl) (.inr ⟨_,vs.toArray,_,hk,rfl,rfl,rfl,by rw[b6,lenV];exact hl,by simpa using rv⟩) (λb u z=>by have z':(aj:az HO)=ae u:=z;cases z') (λb z=>aT rfl z) λz=>aT rfl z
 |none=>
  refine core (λb=>if b=a then ae (.frz {cls:=.type "list",data:=.seq vs.toArray} (.lst (ns.map V.int))) else aj) (λb=>?_) (.inl (.inr ⟨{cls:=.type "list",data:=.seq vs.toArray},ao rfl⟩)) (λb u z=>?_) (λb z=>?_) λ_=>hk
  .by_cases hb:b=a
   .exact .inr ⟨_,_,ao hb⟩
   .exact .inl (ap hb)
  .by_cases hb:b=a
   .have z':=(ao hb).symm.trans z;cases z';subst hb;exact⟨ha,by rw[aS];exact hl,vs,_,rv,ha⟩
   .have z':=(ap hb).symm.trans z;cases z'
  .by_cases hb:b=a
   .exact hb
   .exact aT (ap hb) z
theorem aLo{l:PySem.W.OpenLaw}{YP:br->bm->Prop}{d:DefRec}{K:Params->cm}{CX:br->CXT}{sp:br->Sp}{x:Str}
 (hn:l.most=ae n)(hn2:n<=bg)(hdf:d.params.defaults=[])(hr:GR k lp)
 (hY:∀(w:br) (h:bm),YP w h->(K w.params).In h)
 (F:∀(w:br) (mg:Str->az ak) (fa:am) (h:bm),(K w.params).In h->h.Ns e9 mg->mg d.name=ae (.ref fa)->
   ∃fd:hX,(∀(s:au) (u:ak),mf s fd ⟨[u],[]⟩ [(x,u)])/\
    ∀base:bm,(K w.params).In base->base.Ns e9 mg->aCp l.prog w (K w.params) mg base (CX w) k fa fd [x] (sp w))
 (hsp:∀(w:br) (H:Hp) (a:am) (ns:aa af),ns.length<=n->Only H->SqL (K w.params) H a (ns.map V.int)->sp w [.ref a] H (λv _=>v=.bl ag) λ_ _ _=>c8)
 (hCX:∀(w:br) (H:Hp) (s:au) (e:ak) (s':au),CX w [] H s (λ_ _ _=>c8) e s'->c8) :
  PySem.W.WalkO q loose XP YP l.row.toRowW d [] (λf vs=>wm f vs):=by
 refine Att.V6 hn hdf λw s₀ s₁ mg mb fa o pm cd doc a vs ns G Y ho hd hcd hmg hobj hints hlen hg=>?_
 have KX:=hY w _ Y;obtain⟨fd,hb,hF⟩:=F w mg fa _ KX G.T.g hmg;exact aHn KX G.T.g G.T.b G.T.builtins G.T.nolimit hg hobj hints (dj hlen hn2) hr hF hb (λH hO hS=>hsp w H a ns hlen hO hS) λH e s'=>hCX w H s₁ e s'
noncomputable def uN(s:bq):Arguments:=match s with
 |.FunctionDef _ a _ _ _ _ _ _ _ _=>a
 |_=>{posonlyargs:=[],args:=[],vararg:=aj,kwonlyargs:=[],kw_defaults:=[],kwarg:=aj,defaults:=[]}
noncomputable def nP(s:bq):aa bq:=match s with
 |.FunctionDef _ _ b _ _ _ _ _ _ _=>b
 |_=>[]
noncomputable def aP(s:bq):gp:=match s with
 |.FunctionDef _ _ _ _ _ _ sc _ _ _=>sc
 |_=>{kind:=.function,names:=[],isGenerator:=ai,isCoroutine:=ai}
noncomputable abbrev CX0:CXT:=λ_ _ _ _ _ _=>c8
noncomputable abbrev E0:XK:=λ_ _ _=>c8
theorem aTi:aD8 CX0 X E0:=λ_ _ _ _ _ _ _ h=>h.elim
structure Fun(K:cm)(x qual:Str)(st:bq)(f:am)(fd:hX):Prop where
 ex:∃(oc:ak)(od:az am)(kV doc pm:ak)(an:az am)(cdv ct:ak)(osl:ax (az ak)),
  fd=mo x qual (uN st) (nP st) (aP st) .none kV doc pm an cdv ct/\K.lookup f=ae ⟨oc,od,.func fd,osl⟩/\vo K cdv qual=ag
 kp:nE K (.ref f)=ag
section
variable {P:cb} {w:br} {K:cm} {mg:Str->az ak} {base:bm}
theorem Fun.ok{st:bq}{fd:hX}{N ps:aa Str}{k:ah}{sp:Sp}(F:Fun K x qual st f fd)(S:b7 N ps (aP st))(len:∀vs H Q E,sp vs H Q E->vs.length=ps.length)
 (hbody:∀(cdv:ak) (A:cu) (outer:aa eD) (s:au) (H:Hp) (vs:aa V) (Q:VK) (E:XK),GR k (A.deeper (io qual (aP st) s.heap.objs.size f cdv))->sp vs H Q E->
   ∃t,PSs (aJw CX0 P w K mg base N qual (aP st) f cdv A outer s H E).nox (nP st) t/\t {nx:=λ_ H'=>Q .non H',rt:=Q} (start N vs) H):aCp P w K mg base CX0 (k+1) f fd ps sp:=by
 obtain⟨oc,od,kV,doc,pm,an,cdv,ct,osl,rfl,lk,hcd⟩:=F.ex;refine aTd lk hcd S len λA outer s H vs Q E hr hsp=>?_
 obtain⟨t,h,q⟩:=hbody cdv A outer s H vs Q E hr hsp;exact⟨t,h.nox,q⟩
theorem Fun.binds{st:bq}(F:Fun K x qual st f fd)
 (h:∀(kV doc pm:ak) (an:az am) (cdv ct:ak) (us:aa ak),us.length=ps.length->bindArgs (mo x qual (uN st) (nP st) (aP st) .none kV doc pm an cdv ct) ⟨us,[]⟩=pure (ps.zip us)):Binds K fd ps []:=by
 obtain⟨oc,od,kV,doc,pm,an,cdv,ct,osl,rfl,lk,hcd⟩:=F.ex;exact .all (h kV doc pm an cdv ct)
theorem aJy{st:bq}{oc:ak}{od an:az am}{osl:ax (az ak)}{kV doc pm cdv ct:ak}(l:K.lookup f=ae ⟨oc,od,.func (mo x qual (uN st) (nP st) (aP st) .none kV doc pm an cdv ct),osl⟩)
 (c:vo K cdv qual=ag)(k:nE K (.ref f)=ag):Fun K x qual st f (mo x qual (uN st) (nP st) (aP st) .none kV doc pm an cdv ct):=⟨⟨oc,od,kV,doc,pm,an,cdv,ct,osl,rfl,l,c⟩,k⟩
end
def dO(H H':Hp):Prop:=∀b o,H b=ae o->H' b=ae o
theorem dO.refl(H:Hp):dO H H:=λ_ _ h=>h
theorem dO.trans(a:dO H H1)(b:dO H1 H2):dO H H2:=λc o h=>b c o (a c o h)
theorem dO.free(e:dO H H')(h:H' l=aj):H l=aj:=by
 cases q:H l with
 |none=>rfl
 |some o=>
  rw[e l o q] at h;cases h
section
variable [fF κ]
theorem aHo{kvs:aa (κ×V)}{k:κ}(h:wN kvs k=aj):¬k∈kvs.map (·.1):=by
 intro m;obtain⟨p,hp,e⟩:=aE.mp m;have q:(kvs.any λkv=>ϒ (kv.1=k))=ag:=List.any_eq_true.mpr ⟨p,hp,bz e⟩;rw[vN,h] at q;exact aT q 0x2
theorem aDk:∀{l:aa κ}{k:κ},l.Nodup->¬k∈l->(l++[k]).Nodup
 |[],k,_,_=>by simp
 |a::r,k,h,hk=>by
  obtain⟨h1,h2⟩:=df.mp h;show(a::(r++[k])).Nodup;refine df.mpr ⟨λm=>?_,aDk h2 λm=>hk (bi.mpr (Or.inr m))⟩;rcases cj.mp m with q|q
  .exact h1 q
  .exact hk (bi.mpr (iN (em.mp q).symm))
theorem aLp{kvs:aa (κ×V)}{k:κ}(v:V)(hn:(kvs.map (·.1)).Nodup)(h:wN kvs k=aj):((putK kvs k v).map (·.1)).Nodup:=by
 rw[Y8 v h,bS];exact aDk hn (aHo h)
end
end L2
namespace TS
open PySem PyProof.Rows
noncomputable def aDl:aq->aI->ax aI->ah->ah->ah->iq cS eP (az ah):=sortPriv% PySem.Builtin.gallop
noncomputable def KC:ah->iq cS eP jl:=sortPriv% PySem.Builtin.setMinGallop
noncomputable def aHp:ax aI->ax aI->iq cS eP (ax aI):=sortPriv% PySem.Builtin.mergeLo
noncomputable def aHq:ax aI->ax aI->iq cS eP (ax aI):=sortPriv% PySem.Builtin.mergeHi
noncomputable def aDm(left:aq)(key:aI)(arr:ax aI)(base i:ah):iq cS eP (az aq):=
 elem' arr (base+i) >>= λx=>if left=ag then lt' x key else lt' key x >>= λr=>pure (Option.map (λb=>!b) r)
def tK{prog:cb}{w:br}{A:cu}{E:ak->au->Prop}{s:au}{g:ah}{st:cS}{Q:jl->cS->Prop}
 (h:Q () (og (kindOf st) (ay st) (bX st) g (gv st))):cK (av prog w) A E s (KC g) Q st:=oh h
section
variable {prog:cb} {w:br} {A:cu} {E:ak->au->Prop} {s:au} {st st' st₀:cS} {hi i j k n q x base hint z:ah} {left:aq} {key:aI} {arr:ax aI}
section
variable {M:mE}
def cV{p q:iq σ eP α}{st:σ}{Q:α->σ->Prop}{c:Prop}[lq c](h1:c->cK M A E s p Q st)(h2:¬c->cK M A E s q Q st):cK M A E s (if c then p else q) Q st:=if h:c then (ao h).symm▸h1 h else (ap h).symm▸h2 h
def fC{p q:iq σ eP α}{st:σ}{Q:α->σ->Prop}{x y:ah}(h1:x=y->cK M A E s p Q st)(h2:x≠y->cK M A E s q Q st):cK M A E s (if (x==y)=ag then p else q) Q st:=cV (λh=>h1 (eq_of_beq h)) λh=>h2 λe=>h (ir.mpr e)
theorem aBf{n:ah}(p:ah->aq)
 (hp:∀i (R:az aq->cS->Prop),i<n->R (ae (p i)) st->cK (av prog w) A E s (aDm left key arr base i) R st)
 (hm:∀i j,i<=j->j<n->p j=ag->p i=ag)(hh:hint<n)
 (h:∀k,k<=n->(∀i,i<k->p i=ag)->(∀i,k<=i->i<n->p i=ai)->Q (ae k) st) :
  cK (av prog w) A E s (aDl left key arr base n hint) Q st:=by
 have hm':∀i j,i<=j->j<n->p i≠ag->p j=ai:=λi j a b c=>eq_false_of_ne_true λz=>c (hm i j a b z)
 with_unfolding_all refine bb (hp _ _ hh ?_)
 dsimp -zeta only
 extract_lets -underBinder a b c
 have K:∀x y l r,l<=r->r<=n->(∀i,i<l->p i=ag)->(∀i,r<=i->i<n->p i=ai)->cK (av prog w) A E s (a () x y l r) Q st:=λx y l r a1 a2 a4 a5=>by
  refine bb (gh (gi
   (I:=λx c st'=>st'=st/\∃l r,c=(aj,l,r)/\l<=r/\r<=n/\r-l<=n-x/\(∀i,i<l->p i=ag)/\(∀i,r<=i->i<n->p i=ai))
   (Q:=λc st'=>st'=st/\∃l r,c=(aj,l,r)/\l=r/\r<=n/\(∀i,i<l->p i=ag)/\(∀i,r<=i->i<n->p i=ai)) ?_ ?_ ⟨rfl,_,_,rfl,a1,a2,by lia,a4,a5⟩) ?_)
  .rintro x c st' _ hx ⟨rfl,l,r,rfl,a1,a2,a3,a4,a5⟩;dsimp only;refine cV (λhge=>bh ⟨rfl,l,r,rfl,by lia,a2,a4,a5⟩) λhge=>bb (hp _ _ 0x1 ?_)
   exact cV (λhb=>bh ⟨rfl,_,_,rfl,by lia,a2,by lia,λi hi=>hm i _ 0x1 0x1 hb,a5⟩) λhb=>bh ⟨rfl,_,_,rfl,by lia,by lia,by lia,a4,λi i1 i2=>hm' _ i i1 i2 hb⟩
  .rintro c st' ⟨rfl,l,r,rfl,a1,a2,a3,a4,a5⟩;exact⟨rfl,l,r,rfl,by lia,a2,a4,a5⟩
  .rintro c st' ⟨rfl,l,r,rfl,rfl,a2,a4,a5⟩;exact bh (h l a2 a4 a5)
 refine cV (λhr=>?_) λhr=>?_
 .refine bb (gh (gi
   (I:=λx c st'=>st'=st/\∃l o,c=(aj,l,o)/\l<o/\x+1<=o/\hint+l<n/\p (hint+l)=ag)
   (Q:=λc st'=>st'=st/\∃l o,c=(aj,l,o)/\l<o/\hint+l<n/\p (hint+l)=ag/\(n-hint<=o\/(hint+o<n/\p (hint+o)≠ag))) ?_ ?_ ⟨rfl,0,1,rfl,by lia,by lia,hh,hr⟩) ?_)
  .rintro x c st' _ hx ⟨rfl,l,o,rfl,a1,a2,a3,a4⟩;dsimp only;refine cV (λhge=>bh ⟨rfl,l,o,rfl,a1,a3,a4,.inl hge⟩) λhge=>?_
   have:hint+o<n:=by lia
   refine bb (hp _ _ this ?_);refine cV (λhb=>bh ⟨rfl,l,o,rfl,a1,a3,a4,.inr ⟨this,by simpa using hb⟩⟩) λhb=>bh ⟨rfl,_,_,rfl,by lia,by lia,this,by simpa using hb⟩
  .rintro c st' ⟨rfl,l,o,rfl,a1,a2,a3,a4⟩;exact⟨rfl,l,o,rfl,a1,a3,a4,.inl 0x1⟩
  .rintro c st₀ ⟨rfl,l,o,rfl,a1,a3,a4,a5⟩;dsimp only;exact K l o _ _ 0x1 0x1 (λi hi=>hm i (hint+l) 0x1 a3 a4) λi i1 i2=>a5.elim (λ_=>by lia) λz=>hm' _ i 0x1 i2 z.2
 .refine bb (gh (gi
   (I:=λx c st'=>st'=st/\∃l o,c=(aj,l,o)/\l<o/\x+1<=o/\l<=hint/\p (hint-l)≠ag)
   (Q:=λc st'=>st'=st/\∃l o,c=(aj,l,o)/\l<o/\l<=hint/\p (hint-l)≠ag/\(hint+1<=o\/(o<=hint/\p (hint-o)=ag))) ?_ ?_ ⟨rfl,0,1,rfl,by lia,by lia,by lia,hr⟩) ?_)
  .rintro x c st' _ hx ⟨rfl,l,o,rfl,a1,a2,a3,a4⟩;dsimp only;refine cV (λhge=>bh ⟨rfl,l,o,rfl,a1,a3,a4,.inl hge⟩) λhge=>bb (hp _ _ 0x1 ?_)
   exact cV (λhb=>bh ⟨rfl,l,o,rfl,a1,a3,a4,.inr ⟨by lia,hb⟩⟩) λhb=>bh ⟨rfl,_,_,rfl,by lia,by lia,by lia,hb⟩
  .rintro c st' ⟨rfl,l,o,rfl,a1,a2,a3,a4⟩;exact⟨rfl,l,o,rfl,a1,a3,a4,.inl 0x1⟩
  .rintro c st₀ ⟨rfl,l,o,rfl,a1,a3,a4,a5⟩;dsimp only;exact K l o _ _ 0x1 0x1 (λi hi=>a5.elim (λ_=>by lia) λz=>hm i _ 0x1 0x1 z.2) λi i1 i2=>hm' _ i i1 i2 a4
end
end
section
variable {prog:cb} {w:br} {A:cu} {E:ak->au->Prop} {s:au} {kd:hG} {U:aI->Prop} {st:cS} {lo hi i j k n q x ia ib base hint hi' z:ah} {left:aq} {key:aI} {arr:ax aI}
noncomputable abbrev dk:aI:=(.none,.none)
def gt(a:ax aI)(i:ah):aI:=a.getD i dk
def KD{a:ax aI}(h:i<a.size):a[i]?=ae (gt a i):=by
 unfold gt;simp[kn,h]
def QD(U:aI->Prop)(a:ax aI):Prop:=∀i,i<a.size->U (gt a i)
def Srt(r:aI->ah)(a:ax aI)(lo hi:ah):Prop:=∀i j,lo<=i->i<=j->j<hi->r (gt a i)<=r (gt a j)
def aCq(prog:cb)(w:br)(A:cu)(E:ak->au->Prop)(s:au)(kd:hG)(U:aI->Prop)(r:aI->ah):Prop:=
 ∀(x y:aI)(st:cS)(Q:az aq->cS->Prop),U x->U y->kindOf st=kd->Q (ae (ϒ (r x<r y))) st->cK (av prog w) A E s (lt' x y) Q st
def gl:aq->ah->ah->Prop
 |true,a,b=>a<b
 |false,a,b=>a<=b
noncomputable instance {l:aq} {a b:ah}:lq (gl l a b):=match l with
 |true=>Nat.decLt a b
 |false=>Nat.decLe a b
section
variable {r:aI->ah}
def cY{arr:ax aI}(hi:i<arr.size)(h:Q (gt arr i) st):cK (av prog w) A E s (elem' arr i) Q st:=by
 rw[elem'_eq,KD hi];exact bh h
theorem wU(hL:aCq prog w A E s kd U r){arr:ax aI}(hk:kindOf st=kd)(hn:base+n<=arr.size)(hU:QD U arr)(hK:U key)(hs:Srt r arr base (base+n))(hh:hint<n)
 (h:∀k,k<=n->(∀i,i<k->gl left (r (gt arr (base+i))) (r key))->(∀i,k<=i->i<n->¬gl left (r (gt arr (base+i))) (r key))->Q (ae k) st):cK (av prog w) A E s (aDl left key arr base n hint) Q st:=by
 refine aBf (λi=>ϒ (gl left (r (gt arr (base+i))) (r key))) (λi R hi z=>?_) (λi j a b c=>?_) hh λk a b c=>h k a (λi hi=>d6 (b i hi)) λi i1 i2=>of_decide_eq_false (c i i1 i2)
 .unfold aDm;refine bb (cY 0x1 ?_);cases left with
  |true=>exact hL _ _ _ _ (hU _ 0x1) hK hk z
  |false=>
   refine bb (hL _ _ _ _ hK (hU _ 0x1) hk (bh ?_));rw[Au,show(!ϒ (r key<r (gt arr (base+i))))=ϒ (gl ai (r (gt arr (base+i))) (r key)) from (decide_not.symm.trans (lr.mpr oj))];exact z
 .have:=hs (base+i) (base+j) 0x1 0x1 0x1;have c:=d6 c;refine bz ?_;cases left
  .exact dj this c
  .exact wo this c
noncomputable def mrg(r:aI->ah)(xs ys:aa aI):aa aI:=xs.merge ys λx y=>ϒ (r x<=r y)
def zW{a:ax aI}{i:ah}:gt a i=a.toList.getD i dk:=by
 unfold gt;by_cases h:i<a.size<;>simp[kn,h]
def q_{a:ax aI}(h:i<a.size):a.toList.drop i=gt a i::a.toList.drop (i+1):=by
 rw[ie (by simpa using h)]
 congr 1
 unfold gt;simp[kn,h]
def KH{a:ax aI}(h:a.size<=i):a.toList.drop i=[]:=om (by simpa using h)
def uO(xs:aa aI):mrg r xs []=xs:=List.merge_right xs
def wV(ys:aa aI):mrg r [] ys=ys:=List.nil_merge ys
def lU(x y:aI)(xs ys:aa aI):mrg r (x::xs) (y::ys)=if r y<r x then y::mrg r (x::xs) ys else x::mrg r xs (y::ys):=by
 unfold mrg;rw[List.cons_merge_cons];by_cases h:r y<r x
 .rw[ao h,ap (by simpa using h)]
 .rw[ap h,ao (by simpa using h)]
def J(r:aI->ah)(a b:ax aI)(out:ax aI)(ia ib:ah):Prop:=
 out.toList++mrg r (a.toList.drop ia) (b.toList.drop ib)=mrg r a.toList b.toList
variable {a b out:ax aI}
def J.pb(h:J r a b out ia ib)(ha:ia<a.size)(hb:ib<b.size)(q:r (gt b ib)<r (gt a ia)):J r a b (out.push (gt b ib)) ia (ib+1):=by
 unfold J at h ⊢;rw[<-h,q_ ha,q_ hb,lU,ao q,<-q_ ha];simp
def J.pa(h:J r a b out ia ib)(ha:ia<a.size)(hb:ib<b.size)(q:¬r (gt b ib)<r (gt a ia)):J r a b (out.push (gt a ia)) (ia+1) ib:=by
 unfold J at h ⊢;rw[<-h,q_ ha,q_ hb,lU,ap q,<-q_ hb];simp
def tM(a:ax aI)(i:ah):(a.extract i a.size).toList=a.toList.drop i:=by
 simp[oq,ot,iO]
theorem ZC{a:ax aI}(h:i+k<a.size)(out:ax aI):out++a.extract i (i+(k+1))=(out++a.extract i (i+k)).push (gt a (i+k)):=by
 apply mI.mp;simp only[gw,oq,ot,wt];rw[show i+(k+1)-i=k+1 by lia,show i+k-i=k by lia,sN,c6,wu,kl,KD h];rfl
def ZD(a:ax aI)(i:ah)(out:ax aI):out++a.extract i (i+0)=out:=by
 apply mI.mp;simp
theorem J.ga(h:J r a b out ia ib)(hb:ib<b.size):∀k,ia+k<=a.size->(∀i,i<k->¬r (gt b ib)<r (gt a (ia+i)))->J r a b (out++a.extract ia (ia+k)) (ia+k) ib
 |0,_,_=>by rw[ZD];exact h
 |k+1,hk,q=>by
  rw[ZC 0x1];exact J.pa (J.ga h hb k 0x1 λi hi=>q i 0x1) 0x1 hb (q k 0x1)
theorem J.gb(h:J r a b out ia ib)(ha:ia<a.size):∀k,ib+k<=b.size->(∀i,i<k->r (gt b (ib+i))<r (gt a ia))->J r a b (out++b.extract ib (ib+k)) ia (ib+k)
 |0,_,_=>by rw[ZD];exact h
 |k+1,hk,q=>by
  rw[ZC 0x1];exact J.pb (J.gb h ha k 0x1 λi hi=>q i 0x1) ha 0x1 (q k 0x1)
def J.aBg(h:J r a b out ia ib)(hb:ib=b.size):(out++a.extract ia a.size++b.extract ib b.size).toList=mrg r a.toList b.toList:=by
 rw[<-h,gw,gw,tM,tM,KH (sL hb.symm),uO,d4]
def J.aBh(h:J r a b out ia ib)(ha:ia=a.size):(out++a.extract ia a.size++b.extract ib b.size).toList=mrg r a.toList b.toList:=by
 rw[<-h,gw,gw,tM,tM,KH (sL ha.symm),wV,d4]
theorem KJ(x:aI):∀ys:aa aI,(∀y∈ys,r y<r x)->mrg r [x] ys=ys++[x]
 |[],_=>uO _
 |y::ys,h=>by
  rw[lU,ao (h y (bu ..)),KJ x ys λz hz=>h z (bo _ hz)];rfl
def ZF{a:ax aI}{x:aI}(h:x∈a.toList):∃i,i<a.size/\x=gt a i:=by
 obtain⟨i,hi,e⟩:=sP h;have hi':i<a.size:=by simpa using hi
 refine⟨i,hi',?_⟩;rw[zW,<-e];simp[hi']
theorem J.last(h:J r a b out ia ib)(ha:ia+1=a.size)(q:∀i,i<b.size->r (gt b i)<r (gt a ia)):(out++b.extract ib b.size++a.extract ia a.size).toList=mrg r a.toList b.toList:=by
 rw[<-h,gw,gw,tM,tM,q_ (by lia:ia<a.size),KH (a:=a) (i:=ia+1) 0x1,KJ,c6];intro y hy;obtain⟨i,hi,rfl⟩:=ZF (Av hy);exact q i hi
end
end
section
variable {prog:cb} {w:br} {A:cu} {E:ak->au->Prop} {s:au} {kd:hG} {U:aI->Prop} {st st':cS} {hi i j k q x ia ib d z:ah}
structure Sim(st st':cS):Prop where
 kd:kindOf st'=kindOf st
 ar:ay st'=ay st
 pd:bX st'=bX st
 fl:gv st'=gv st
def vP{M:mE}{st:σ}{m:iq σ eP α}{Q:α->σ->Prop}(h:∀Q':α->σ->Prop,(∀c s',Q c s'->Q' c s')->cK M A E s m Q' st):cK M A E s m Q st:=h Q λ_ _ x=>x
def rA{M:mE}{st:σ}{p q:iq σ eP α}{Q:α->σ->Prop}{c:Prop}[lq c](h1:c->cK M A E s p Q st)(h2:¬c->cK M A E s q Q st):cK M A E s (if decide c=ag then p else q) Q st:=cV (λh=>h1 (d6 h)) λh=>h2 λz=>h (bz z)
section
variable {r:aI->ah}
theorem V7(hL:aCq prog w A E s kd U r){a b:ax aI}{Q:ax aI->cS->Prop}(hk:kindOf st=kd)(hUa:QD U a)(hUb:QD U b)(hsa:Srt r a 0 a.size)(hsb:Srt r b 0 b.size)
 (ha:0<a.size)(hb:0<b.size)(hf:r (gt b 0)<r (gt a 0))(hl:∀i,i<b.size->r (gt b i)<r (gt a (a.size-1)))
 (h:∀x st',Sim st st'->x.toList=mrg r a.toList b.toList->Q x st'):cK (av prog w) A E s (aHp a b) Q st:=by
 have lastAt:∀{j:ah},j+1=a.size->∀i,i<b.size->r (gt b i)<r (gt a j):=λ{j} hj i hi=>by
  have:=hl i hi;rwa [show a.size-1=j by lia] at this
 with_unfolding_all refine bb (lu (ko ⟨rfl,?_⟩))
 refine bb (cY hb ?_);have J0:J r a b #[gt b 0] 0 1:=J.pb (out:=#[]) (by unfold J;simp) ha hb hf;have sim0:Sim st st:=⟨rfl,rfl,rfl,rfl⟩
 refine fC (λe=>bh (h _ _ sim0 (J0.aBg e))) λe1=>fC (λe=>bh (h _ _ sim0 (J0.last e (lastAt e)))) λe2=>bb (iP (bb (gh (gi
  (I:=λx c st'=>Sim st st'/\∃out ia ib mg,c=(aj,out,ia,ib,mg)/\J r a b out ia ib/\ia+1<a.size/\ib<b.size/\x<=ia+ib)
  (Q:=λc st'=>Sim st st'/\∃x,c.1=ae x/\x.toList=mrg r a.toList b.toList) ?step ?fin ?init) ?post)))
 case init=>exact⟨sim0,_,_,_,_,rfl,J0,by lia,by lia,by lia⟩
 case fin=>
  rintro c st' ⟨_,out,ia,ib,mg,rfl,_,h1,h2,h3⟩;lia
 case post=>
  rintro⟨c1,c2⟩ st' ⟨sim,x,rfl,hr⟩;exact bh (h x st' sim hr)
 case step=>
  rintro x₀ c st1 _ hx0 ⟨sim,out,ia,ib,mg,rfl,j1,h1,h2,h3⟩;refine bb (gh (gi
   (I:=λx c st'=>Sim st st'/\∃out ia ib ac bc,c=(aj,out,ia,ib,ac,bc)/\J r a b out ia ib/\ia+1<a.size/\ib<b.size/\x₀<=ia+ib/\x<=ia+ib)
   (Q:=λc st'=>Sim st st'/\((∃x,c.1=ae x/\x.toList=mrg r a.toList b.toList)\/∃out ia ib ac bc,c=(aj,out,ia,ib,ac,bc)/\J r a b out ia ib/\ia+1<a.size/\ib<b.size/\x₀+1<=ia+ib)) ?step2 ?fin2 ?init2) ?post2)
  case init2=>exact⟨sim,out,ia,ib,_,_,rfl,j1,h1,h2,h3,by lia⟩
  case fin2=>
   rintro c st' ⟨_,out,ia,ib,ac,bc,rfl,_,h1,h2,_,h3⟩;lia
  case step2=>
   rintro x c st2 _ hx ⟨sim,out,ia,ib,ac,bc,rfl,j2,h1,h2,h3,h4⟩;refine vP λQ hQ=>?_
   have hd:∀y d,y.toList=mrg r a.toList b.toList->Q (.done (ae y,d)) st2:=λy d e=>hQ _ _ ⟨sim,.inl ⟨y,rfl,e⟩⟩
   have hb':∀out ia ib ac bc,J r a b out ia ib->ia+1<a.size/\ib<b.size/\x₀+1<=ia+ib->Q (.done (aj,out,ia,ib,ac,bc)) st2:=λ_ _ _ _ _ j q=>hQ _ _ ⟨sim,.inr ⟨_,_,_,_,_,rfl,j,q⟩⟩
   have hy:∀out ia ib ac bc,J r a b out ia ib->ia+1<a.size/\ib<b.size/\x₀<=ia+ib/\x+1<=ia+ib->Q (.yield (aj,out,ia,ib,ac,bc)) st2:=λ_ _ _ _ _ j q=>hQ _ _ ⟨sim,_,_,_,_,_,rfl,j,q⟩
   clear hQ;dsimp only;refine bb (cY h2 (bb (cY (i:=ia) 0x1 (bb (hL _ _ _ _ (hUb _ h2) (hUa _ 0x1) (sim.1.trans hk) ?_)))));refine rA (λq=>bb (cY h2 ?_)) λq=>bb (cY (i:=ia) 0x1 ?_)
   .have j3:=J.pb j2 0x1 h2 q;exact fC (λe=>bh (hd _ _ (j3.aBg e))) λe=>cV (λ_=>bh (hb' _ _ _ _ _ j3 0x1)) λ_=>bh (hy _ _ _ _ _ j3 0x1)
   .have j3:=J.pa j2 0x1 h2 (q);exact fC (λe=>bh (hd _ _ (j3.last e (lastAt e)))) λe=>cV (λ_=>bh (hb' _ _ _ _ _ j3 0x1)) λ_=>bh (hy _ _ _ _ _ j3 0x1)
  case post2=>
   rintro⟨c1,c2⟩ st2 ⟨sim,⟨y,e,hr⟩|⟨out,ia,ib,ac,bc,e,j2,h1,h2,h3⟩⟩
   .subst e;exact bh ⟨sim,y,rfl,hr⟩
   .cases e;refine bb (lu (ko ⟨rfl,bb (gh (gi
     (I:=λx c st'=>Sim st st'/\∃out ia ib mg ac bc,c=(aj,out,ia,ib,mg,ac,bc)/\J r a b out ia ib/\ia+1<a.size/\ib<b.size/\x₀+1<=ia+ib/\x<=ia+ib)
     (Q:=λc st'=>Sim st st'/\((∃x,c.1=ae x/\x.toList=mrg r a.toList b.toList)\/∃out ia ib mg ac bc,c=(aj,out,ia,ib,mg,ac,bc)/\J r a b out ia ib/\ia+1<a.size/\ib<b.size/\x₀+1<=ia+ib)) ?step3 ?fin3 ?init3) ?post3)⟩))
    case init3=>exact⟨sim,out,ia,ib,_,_,_,rfl,j2,h1,h2,h3,by lia⟩
    case fin3=>
     rintro c st' ⟨_,out,ia,ib,mg,ac,bc,rfl,_,h1,h2,_,h3⟩;lia
    case post3=>
     rintro⟨c1,c2⟩ st3 ⟨sim,⟨y,e,hr⟩|⟨out,ia,ib,mg,ac,bc,e,j3,h1,h2,h3⟩⟩
     .subst e;exact bh ⟨sim,y,rfl,hr⟩
     .cases e;refine bb (tK (bh ⟨⟨sim.1,sim.2,sim.3,sim.4⟩,_,_,_,_,rfl,j3,h1,h2,by lia⟩))
    case step3=>
     rintro x c st3 _ hx ⟨sim,out,ia,ib,mg,ac,bc,rfl,j3,h1,h2,h3,h4⟩;refine vP λQ hQ=>?_
     have hd:∀x d st',Sim st st'->x.toList=mrg r a.toList b.toList->Q (.done (ae x,d)) st':=λx d st' m e=>hQ _ _ ⟨m,.inl ⟨x,rfl,e⟩⟩
     have hb':∀out ia ib mg ac bc st',Sim st st'->J r a b out ia ib->ia+1<a.size/\ib<b.size/\x₀+1<=ia+ib->Q (.done (aj,out,ia,ib,mg,ac,bc)) st':=λ_ _ _ _ _ _ _ m j q=>hQ _ _ ⟨m,.inr ⟨_,_,_,_,_,_,rfl,j,q⟩⟩
     have hy:∀out ia ib mg ac bc st',Sim st st'->J r a b out ia ib->ia+1<a.size/\ib<b.size/\x₀+1<=ia+ib/\x+1<=ia+ib->Q (.yield (aj,out,ia,ib,mg,ac,bc)) st':=λ_ _ _ _ _ _ _ m j q=>hQ _ _ ⟨m,_,_,_,_,_,_,rfl,j,q⟩
     clear hQ
     extract_lets -underBinder s0 o1 s1 a1 s2 b1 s3 m1 s4 c1 d1 jp m2
     have K1:∀m,cK (av prog w) A E s (jp () m) Q st3:=λm=>by
      dsimp -zeta only [jp,s0,o1,s1,a1,s2,b1,s3,m1,s4,c1,d1];refine bb (tK ?_);have sim':Sim st (og (kindOf st3) (ay st3) (bX st3) m (gv st3)):=⟨sim.1,sim.2,sim.3,sim.4⟩
      generalize og (kindOf st3) (ay st3) (bX st3) m (gv st3)=st4 at sim' ⊢;have hk':=sim'.1.trans hk;refine bb (cY 0x1 (bb (wU hL hk' 0x1 hUa (hUb _ 0x1) (λi j i1 i2 i3=>hsa i j 0x1 i2 0x1) 0x1 λk hk1 y1 y2=>?_)));dsimp -zeta only
      extract_lets -underBinder n1 jp2 n2 n3
      have K2:∀out ia,J r a b out ia ib->ia+1<a.size->x₀+1<=ia+ib->x<=ia+ib->r (gt b ib)<r (gt a ia)->cK (av prog w) A E s (jp2 () out ia) Q st4:=λout ia j1 h1 h3 h4 hz=>by
       dsimp -zeta only [jp2];refine bb (cY h2 ?_);have j2:=J.pb j1 0x1 h2 hz;refine fC (λe=>bh (hd _ _ _ sim' (j2.aBg e))) λe=>bb (cY 0x1 (bb (wU hL hk' 0x1 hUb (hUa _ 0x1) (λi j i1 i2 i3=>hsb i j 0x1 i2 0x1) 0x1 λk1 hk1 y1 y2=>?_)))
       dsimp -zeta only
       extract_lets -underBinder n1 jp3 n2 n3
       have K3:∀out ib',J r a b out ia ib'->ib'<b.size->ib<=ib'->¬r (gt b ib')<r (gt a ia)->cK (av prog w) A E s (jp3 () out ib') Q st4:=λout ib' j3 h2 h5 hz=>by
        dsimp -zeta only [jp3];refine bb (cY 0x1 ?_);have j4:=J.pa j3 0x1 h2 hz;refine fC (λe=>bh (hd _ _ _ sim' (j4.last e (lastAt e)))) λe=>cV (λ_=>bh (hb' _ _ _ _ _ _ _ sim' j4 0x1)) λ_=>bh (hy _ _ _ _ _ _ _ sim' j4 0x1)
       refine cV (λkp=>fC (λe3=>bh (hd _ _ _ sim' ((J.gb j2 0x1 k1 0x1 y1).aBg e3))) λe3=>K3 _ _ (J.gb j2 0x1 k1 0x1 y1) 0x1 0x1 (y2 k1 (bd _) 0x1)) λkp=>K3 _ _ j2 0x1 0x1 (y2 0 0x1 0x1)
      have j5:∀i,i<k->¬r (gt b ib)<r (gt a (ia+i)):=λi hi=>oj.mpr (y1 i hi)
      refine cV (λkp=>?_) λkp=>K2 _ _ j3 h1 h3 h4 (sQ (y2 0 0x1 0x1))
      have j1:=J.ga j3 h2 k 0x1 j5;refine fC (λe=>bh (hd _ _ _ sim' (j1.last e (lastAt e)))) λe=>fC (λe=>bh (hd _ _ _ sim' (j1.aBh e))) λe'=>K2 _ _ j1 0x1 0x1 0x1 (sQ (y2 k (bd _) 0x1))
     exact cV (λ_=>K1 _) λ_=>K1 _
end
end
section
variable {prog:cb} {w:br} {A:cu} {E:ak->au->Prop} {s:au} {kd:hG} {U:aI->Prop} {st st':cS} {hi i j n q x d z:ah}
section
variable {r:aI->ah}
def V8{a:ax aI}{n:ah}(h:n<a.size):a.toList.take (n+1)=a.toList.take n++[gt a n]:=by
 rw[sN];have:a.toList[n]?=ae (gt a n):=by rw[kl];exact KD h
 rw[this];rfl
theorem zX{a:ax aI}{n:ah}{z:aI}(h:z∈a.toList.take n):∃i,i<n/\i<a.size/\z=gt a i:= by
  obtain⟨i,hi,e⟩:= sP h;rw[jh] at hi;have h2:i<a.size:= by simpa using (show i<a.toList.length by lia)
  refine⟨i,by lia,h2,?_⟩;rw[<-e,List.getElem_take];unfold gt;simp[kn,h2]
theorem zY(x:aI):∀(xs zs:aa aI),(∀z∈zs,r z<r x)->mrg r (xs++[x]) zs=mrg r xs zs++[x]
 |[],zs,h=>by rw[eJ,KJ x zs h,wV]
 |x0::xs,[],_=>by rw[uO,uO]
 |x0::xs,z::zs,h=>by
  rw[eu,lU,lU];by_cases q:r z<r x0
  .rw[ao q,ao q,<-eu,zY x (x0::xs) zs λy hy=>h y (bo _ hy)];rfl
  .rw[ap q,ap q,zY x xs (z::zs) h];rfl
 termination_by xs zs=>xs.length+zs.length
theorem QZ(y:aI):∀zs:aa aI,(∀z∈zs,¬r y<r z)->mrg r zs [y]=zs++[y]
 |[],_=>wV _
 |z::zs,h=>by
  rw[lU,ap (by simp[h z (bu ..)]),QZ y zs λu hu=>h u (bo _ hu)];rfl
theorem zZ(y:aI):∀(zs ys:aa aI),(∀z∈zs,¬r y<r z)->mrg r zs (ys++[y])=mrg r zs ys++[y]
 |zs,[],h=>by rw[eJ,QZ y zs h,uO]
 |[],y0::ys,_=>by rw[wV,wV]
 |z::zs,y0::ys,h=>by
  rw[eu,lU,lU];by_cases q:r y0<r z
  .rw[ao q,ao q,zZ y (z::zs) ys h];rfl
  .rw[ap q,ap q,<-eu,zZ y zs (y0::ys) λu hu=>h u (bo _ hu)];rfl
 termination_by zs ys=>zs.length+ys.length
def JH(r:aI->ah)(a b:ax aI)(out:ax aI)(na nb:ah):Prop:=
 mrg r (a.toList.take na) (b.toList.take nb)++out.toList.reverse=mrg r a.toList b.toList
variable {a b out:ax aI} {na nb:ah}
theorem JH.pa(h:JH r a b out na nb)(ha:0<na)(h1:na<=a.size)(h2:nb<=b.size)(q:∀i,i<nb->r (gt b i)<r (gt a (na-1))):JH r a b (out.push (gt a (na-1))) (na-1) nb:=by
 unfold JH at h ⊢;obtain⟨n,rfl⟩:∃n,na=n+1:=⟨na-1,by lia⟩
 rw[V8 0x1,zY _ _ _ (λz hz=>by obtain⟨i,i1,i2,rfl⟩:=zX hz;exact q i i1)] at h;rw[<-h];simp
def JH.pb(h:JH r a b out na nb)(hb:0<nb)(h1:na<=a.size)(h2:nb<=b.size)(q:∀i,i<na->¬r (gt b (nb-1))<r (gt a i)):JH r a b (out.push (gt b (nb-1))) na (nb-1):=by
 unfold JH at h ⊢;obtain⟨n,rfl⟩:∃n,nb=n+1:=⟨nb-1,by lia⟩
 rw[V8 0x1,zZ _ _ _ (λz hz=>by obtain⟨i,i1,i2,rfl⟩:=zX hz;exact q i i1)] at h;rw[<-h];simp
theorem aDn{a:ax aI}{i n:ah}(h:i<n)(hn:n<=a.size)(out:ax aI):out++(a.extract i n).reverse=(out.push (gt a (n-1)))++(a.extract i (n-1)).reverse:=by
 apply mI.mp;simp only[gw,sT,oq,ot,wt];obtain⟨m,rfl⟩:∃m,n=m+1:=⟨n-1,by lia⟩
 rw[show m+1-i=(m-i)+1 by lia,sN,wu,show i+(m-i)=m by lia];have:a.toList[m]?=ae (gt a m):=by rw[kl];exact KD 0x1
 rw[this];simp
def yQ{a:ax aI}{i:ah}(out:ax aI):out++(a.extract i i).reverse=out:=by
 apply mI.mp;simp
theorem JH.ga:∀{na:ah}{out:ax aI},JH r a b out na nb->na<=a.size->nb<=b.size->∀at_,at_<=na->(∀i,at_<=i->i<na->∀z,z<nb->r (gt b z)<r (gt a i))->JH r a b (out++(a.extract at_ na).reverse) at_ nb
 |0,out,h,_,_,at_,h0,_=>by
  obtain rfl:at_=0:=by lia
  rw[yQ];exact h
 |n+1,out,h,h1,h2,at_,h0,q=>by
  by_cases e:at_=n+1
  .subst e;rw[yQ];exact h
  .rw[aDn 0x1 h1];exact JH.ga (na:=n) (JH.pa h 0x1 h1 h2 (q n 0x1 0x1)) 0x1 h2 at_ 0x1 λi i1 i2=>q i i1 0x1
theorem JH.gb:∀{nb:ah}{out:ax aI},JH r a b out na nb->na<=a.size->nb<=b.size->∀at_,at_<=nb->(∀i,at_<=i->i<nb->∀z,z<na->¬r (gt b i)<r (gt a z))->JH r a b (out++(b.extract at_ nb).reverse) na at_
 |0,out,h,_,_,at_,h0,_=>by
  obtain rfl:at_=0:=by lia
  rw[yQ];exact h
 |n+1,out,h,h1,h2,at_,h0,q=>by
  by_cases e:at_=n+1
  .subst e;rw[yQ];exact h
  .rw[aDn 0x1 h2];exact JH.gb (nb:=n) (JH.pb h 0x1 h1 h2 (q n 0x1 0x1)) h1 0x1 at_ 0x1 λi i1 i2=>q i i1 0x1
def tO(a:ax aI)(n:ah):(a.extract 0 n).toList=a.toList.take n:=by
 simp[oq,ot]
def JH.aBh(h:JH r a b out na nb)(e:na=0):(a.extract 0 na++b.extract 0 nb++out.reverse).toList=mrg r a.toList b.toList:=by
 subst e;rw[<-h,gw,gw,tO,tO,sT,Aw,wV];rfl
def JH.aBg(h:JH r a b out na nb)(e:nb=0):(a.extract 0 na++b.extract 0 nb++out.reverse).toList=mrg r a.toList b.toList:=by
 subst e;rw[<-h,gw,gw,tO,tO,sT,Aw,uO,d4]
def JH.first(h:JH r a b out na nb)(e:nb=1)(ha:0<a.size)(hb:0<b.size)(hf:r (gt b 0)<r (gt a 0))(hn:0<na):(b.extract 0 nb++a.extract 0 na++out.reverse).toList=mrg r a.toList b.toList:=by
 subst e;rw[<-h,gw,gw,tO,tO,sT];have e1:b.toList.take 1=[gt b 0]:=by rw[V8 (a:=b) (n:=0) hb];rfl
 obtain⟨m,rfl⟩:∃m,na=m+1:=⟨na-1,by lia⟩
 have e2:a.toList.take (m+1)=gt a 0::(a.toList.drop 1).take m:=by
  have:=q_ (a:=a) (i:=0) ha;rw[List.drop_zero] at this;rw[this];rfl
 rw[e1,e2,lU,ao hf,uO];rfl
theorem leA(hsa:Srt r a 0 a.size)(hn:n<=a.size)(hz:z<n)(q:¬x<r (gt a (n-1))):¬x<r (gt a z):=by
 have:=hsa z (n-1) 0x1 0x1 0x1;lia
theorem aUn(hsb:Srt r b 0 b.size)(hn:n<=b.size)(hz:z<n)(q:r (gt b (n-1))<x):r (gt b z)<x:=by
 have:=hsb z (n-1) 0x1 0x1 0x1;lia
end
section
variable {r:aI->ah}
theorem V9(hL:aCq prog w A E s kd U r){a b:ax aI}{Q:ax aI->cS->Prop}(hk:kindOf st=kd)(hUa:QD U a)(hUb:QD U b)(hsa:Srt r a 0 a.size)(hsb:Srt r b 0 b.size)
 (ha:0<a.size)(hb:0<b.size)(hf:r (gt b 0)<r (gt a 0))(hl:∀i,i<b.size->r (gt b i)<r (gt a (a.size-1)))
 (h:∀x st',Sim st st'->x.toList=mrg r a.toList b.toList->Q x st'):cK (av prog w) A E s (aHq a b) Q st:=by
 with_unfolding_all refine bb (lu (ko ⟨rfl,?_⟩))
 refine bb (cY 0x1 ?_);have J0:JH r a b #[gt a (a.size-1)] (a.size-1) b.size:=JH.pa (out:=#[]) (na:=a.size) (by unfold JH;simp[iO]) ha (bd _) (bd _) hl;have sim0:Sim st st:=⟨rfl,rfl,rfl,rfl⟩
 refine fC (λe=>bh (h _ _ sim0 (J0.aBh e))) λe1=>fC (λe=>bh (h _ _ sim0 (J0.first e ha hb hf 0x1))) λe2=>bb (iP (bb (gh (gi
  (I:=λx c st'=>Sim st st'/\∃out na nb mg,c=(aj,na,nb,out,mg)/\JH r a b out na nb/\0<na/\1<nb/\na<a.size/\nb<=b.size/\x+na+nb<=a.size+b.size)
  (Q:=λc st'=>Sim st st'/\∃x,c.1=ae x/\x.toList=mrg r a.toList b.toList) ?step ?fin ?init) ?post)))
 case init=>exact⟨sim0,_,_,_,_,rfl,J0,by lia,by lia,by lia,by lia,by lia⟩
 case fin=>
  rintro c st' ⟨_,out,na,nb,mg,rfl,_,h1,h2,h3,h4,h5⟩;lia
 case post=>
  rintro⟨c1,c2⟩ st' ⟨sim,x,rfl,hr⟩;exact bh (h x st' sim hr)
 case step=>
  rintro x₀ c st1 _ hx0 ⟨sim,out,na,nb,mg,rfl,j1,h1,h2,h3,h4,h5⟩;dsimp -zeta only;refine bb (gh (gi
   (I:=λx c st'=>Sim st st'/\∃out na nb ac bc,c=(aj,na,nb,out,ac,bc)/\JH r a b out na nb/\0<na/\1<nb/\na<a.size/\nb<=b.size/\x₀+na+nb<=a.size+b.size/\x+na+nb<=a.size+b.size)
   (Q:=λc st'=>Sim st st'/\((∃x,c.1=ae x/\x.toList=mrg r a.toList b.toList)\/∃out na nb ac bc,c=(aj,na,nb,out,ac,bc)/\JH r a b out na nb/\0<na/\1<nb/\na<a.size/\nb<=b.size/\x₀+1+na+nb<=a.size+b.size)) ?step2 ?fin2 ?init2) ?post2)
  case init2=>exact⟨sim,out,na,nb,_,_,rfl,j1,h1,h2,h3,h4,h5,by lia⟩
  case fin2=>
   rintro c st' ⟨_,out,na,nb,ac,bc,rfl,_,h1,h2,h3,h4,_,h5⟩;lia
  case step2=>
   rintro x c st2 _ hx ⟨sim,out,na,nb,ac,bc,rfl,j2,h1,h2,h3,h4,h5,h6⟩;refine vP λQ hQ=>?_
   have hd:∀y d,y.toList=mrg r a.toList b.toList->Q (.done (ae y,d)) st2:=λy d e=>hQ _ _ ⟨sim,.inl ⟨y,rfl,e⟩⟩
   have hb':∀out na nb ac bc,JH r a b out na nb->0<na/\1<nb/\na<a.size/\nb<=b.size/\x₀+1+na+nb<=a.size+b.size->Q (.done (aj,na,nb,out,ac,bc)) st2:=λ_ _ _ _ _ j q=>hQ _ _ ⟨sim,.inr ⟨_,_,_,_,_,rfl,j,q⟩⟩
   have hy:∀out na nb ac bc,JH r a b out na nb->0<na/\1<nb/\na<a.size/\nb<=b.size/\x₀+na+nb<=a.size+b.size/\x+1+na+nb<=a.size+b.size->Q (.yield (aj,na,nb,out,ac,bc)) st2:=λ_ _ _ _ _ j q=>hQ _ _ ⟨sim,_,_,_,_,_,rfl,j,q⟩
   clear hQ;dsimp only;refine bb (cY (i:=nb-1) 0x1 (bb (cY (i:=na-1) 0x1 (bb (hL _ _ _ _ (hUb _ 0x1) (hUa _ 0x1) (sim.1.trans hk) ?_)))));refine rA (λq=>bb (cY (i:=na-1) 0x1 ?_)) λq=>bb (cY (i:=nb-1) 0x1 ?_)
   .have j3:=JH.pa j2 0x1 0x1 h4 (λi hi=>aUn hsb h4 hi q);exact fC (λe=>bh (hd _ _ (j3.aBh e))) λe=>cV (λ_=>bh (hb' _ _ _ _ _ j3 0x1)) λ_=>bh (hy _ _ _ _ _ j3 0x1)
   .have j3:=JH.pb j2 0x1 0x1 h4 (λi hi=>leA hsa 0x1 hi (q));exact fC (λe=>bh (hd _ _ (j3.first e ha hb hf 0x1))) λe=>cV (λ_=>bh (hb' _ _ _ _ _ j3 0x1)) λ_=>bh (hy _ _ _ _ _ j3 0x1)
  case post2=>
   rintro⟨c1,c2⟩ st2 ⟨sim,⟨y,rfl,hr⟩|⟨out,na,nb,ac,bc,e,j2,h1,h2,h3,h4,h5⟩⟩
   .exact bh ⟨sim,y,rfl,hr⟩
   .cases e;dsimp -zeta only;refine bb (lu (ko ⟨rfl,bb (gh (gi
     (I:=λx c st'=>Sim st st'/\∃out na nb mg ac bc,c=(aj,na,nb,out,mg,ac,bc)/\JH r a b out na nb/\0<na/\1<nb/\na<a.size/\nb<=b.size/\x₀+1+na+nb<=a.size+b.size/\x+na+nb<=a.size+b.size)
     (Q:=λc st'=>Sim st st'/\((∃x,c.1=ae x/\x.toList=mrg r a.toList b.toList)\/∃out na nb mg ac bc,c=(aj,na,nb,out,mg,ac,bc)/\JH r a b out na nb/\0<na/\1<nb/\na<a.size/\nb<=b.size/\x₀+1+na+nb<=a.size+b.size)) ?step3 ?fin3 ?init3) ?post3)⟩))
    case init3=>exact⟨sim,out,na,nb,_,_,_,rfl,j2,h1,h2,h3,h4,h5,by lia⟩
    case fin3=>
     rintro c st' ⟨_,out,na,nb,mg,ac,bc,rfl,_,h1,h2,h3,h4,_,h5⟩;lia
    case post3=>
     rintro⟨c1,c2⟩ st3 ⟨sim,⟨y,rfl,hr⟩|⟨out,na,nb,mg,ac,bc,e,j3,h1,h2,h3,h4,h5⟩⟩
     .exact bh ⟨sim,y,rfl,hr⟩
     .cases e;exact bb (tK (bh ⟨⟨sim.1,sim.2,sim.3,sim.4⟩,_,_,_,_,rfl,j3,h1,h2,h3,h4,by lia⟩))
    case step3=>
     rintro x c st3 _ hx ⟨sim,out,na,nb,mg,ac,bc,rfl,j3,h1,h2,h3,h4,h5,h6⟩;refine vP λQ hQ=>?_
     have hd:∀y d st',Sim st st'->y.toList=mrg r a.toList b.toList->Q (.done (ae y,d)) st':=λy d _ m e=>hQ _ _ ⟨m,.inl ⟨y,rfl,e⟩⟩
     have hb':∀out na nb mg ac bc st',Sim st st'->JH r a b out na nb->0<na/\1<nb/\na<a.size/\nb<=b.size/\x₀+1+na+nb<=a.size+b.size->Q (.done (aj,na,nb,out,mg,ac,bc)) st':=λ_ _ _ _ _ _ _ m j q=>hQ _ _ ⟨m,.inr ⟨_,_,_,_,_,_,rfl,j,q⟩⟩
     have hy:∀out na nb mg ac bc st',Sim st st'->JH r a b out na nb->0<na/\1<nb/\na<a.size/\nb<=b.size/\x₀+1+na+nb<=a.size+b.size/\x+1+na+nb<=a.size+b.size->Q (.yield (aj,na,nb,out,mg,ac,bc)) st':=λ_ _ _ _ _ _ _ m j q=>hQ _ _ ⟨m,_,_,_,_,_,_,rfl,j,q⟩
     clear hQ
     extract_lets -underBinder s0 o1 s1 a1 s2 b1 s3 m1 s4 c1 d1 jp m2
     have K1:∀m,cK (av prog w) A E s (jp () m) Q st3:=λm=>by
      dsimp -zeta only [jp,s0,o1,s1,a1,s2,b1,s3,m1,s4,c1,d1];refine bb (tK ?_);have sim':Sim st (og (kindOf st3) (ay st3) (bX st3) m (gv st3)):=⟨sim.1,sim.2,sim.3,sim.4⟩
      generalize og (kindOf st3) (ay st3) (bX st3) m (gv st3)=st4 at sim' ⊢;have hk':=sim'.1.trans hk;refine bb (cY 0x1 (bb (wU hL hk' 0x1 hUa (hUb _ 0x1) (λi j i1 i2 i3=>hsa i j 0x1 i2 0x1) 0x1 λat_ hk1 y1 y2=>?_)));dsimp -zeta only;have y1':∀i,i<at_->¬r (gt b (nb-1))<r (gt a i):=λi hi=>by simpa[gl] using y1 i hi
      have y2':∀i,at_<=i->i<na->r (gt b (nb-1))<r (gt a i):=λi i1 i2=>by simpa[gl] using y2 i i1 i2
      clear y1 y2
      extract_lets -underBinder n1 n2 jp2 n3
      have K2:∀na out,JH r a b out na nb->0<na->na<a.size->x₀+1+na+nb<=a.size+b.size->x+na+nb<=a.size+b.size->(∀z,z<na->¬r (gt b (nb-1))<r (gt a z))->cK (av prog w) A E s (jp2 () na out) Q st4:=λna out j1 h1 h3 h5 h6 hz=>by
       dsimp -zeta only [jp2];refine bb (cY 0x1 ?_);have j2:=JH.pb j1 0x1 0x1 0x1 hz;refine fC (λe=>bh (hd _ _ _ sim' (j2.first e ha hb hf 0x1))) λe=>bb (cY 0x1 (bb (wU hL hk' 0x1 hUb (hUa _ 0x1) (λi j i1 i2 i3=>hsb i j 0x1 i2 0x1) 0x1 λk1 hk1 y1 y2=>?_)))
       dsimp -zeta only;have y1':∀i,i<k1->r (gt b i)<r (gt a (na-1)):=λi hi=>by simpa[gl] using y1 i hi
       have y2':∀i,k1<=i->i<nb-1->¬r (gt b i)<r (gt a (na-1)):=λi i1 i2=>by simpa[gl] using y2 i i1 i2
       clear y1 y2
       extract_lets -underBinder n1 n2 jp3 n3
       have K3:∀nb' out,JH r a b out na nb'->1<nb'->nb'<nb->(∀z,z<nb'->r (gt b z)<r (gt a (na-1)))->cK (av prog w) A E s (jp3 () nb' out) Q st4:=λnb' out j3 q1 q2 hz=>by
        dsimp -zeta only [jp3];refine bb (cY 0x1 ?_);have j4:=JH.pa j3 0x1 0x1 0x1 hz;exact fC (λe=>bh (hd _ _ _ sim' (j4.aBh e))) λe=>cV (λ_=>bh (hb' _ _ _ _ _ _ _ sim' j4 0x1)) λ_=>bh (hy _ _ _ _ _ _ _ sim' j4 0x1)
       refine cV (λkp=>?_) λkp=>K3 _ _ j2 0x1 0x1 λz hz=>y1' z 0x1
       have j3:=JH.gb j2 0x1 0x1 k1 0x1 (λi i1 i2 z hz=>leA hsa 0x1 hz (y2' i i1 i2));exact fC (λe=>bh (hd _ _ _ sim' (j3.first e ha hb hf 0x1))) λe=>fC (λe=>bh (hd _ _ _ sim' (j3.aBg e))) λe'=>K3 _ _ j3 0x1 0x1 y1'
      refine cV (λkp=>?_) λkp=>K2 _ _ j3 h1 h3 h5 h6 λz hz=>y1' z 0x1
      have j1:=JH.ga j3 0x1 0x1 at_ 0x1 (λi i1 i2 z hz=>aUn hsb 0x1 hz (y2' i i1 i2));exact fC (λe=>bh (hd _ _ _ sim' (j1.aBh e))) λe=>K2 _ _ j1 0x1 0x1 0x1 0x1 y1'
     exact cV (λ_=>K1 _) λ_=>K1 _
end
end
section
variable {prog:cb} {w:br} {A:cu} {E:ak->au->Prop} {s:au} {kd:hG} {U:aI->Prop} {st st':cS} {lo hi i j k n q x off sb d pw pw2 lo' hi':ah} {arr:ax aI}
section
variable {r:aI->ah}
def aHr(xs ys:aa aI):(mrg r xs ys).Perm (xs++ys):=List.merge_perm_append _
def aBi{a:ax aI}(h:i<a.size):a.toList[i]'(by simpa using h)=gt a i:=by
 unfold gt;simp[kn,h]
theorem V_{a:ax aI}:Srt r a 0 a.size↔a.toList.Pairwise λu v=>ϒ (r u<=r v)=ag:=by
 rw[Ax];constructor
 .intro h i j hi hj hij;rw[fA] at hi hj;rw[aBi hi,aBi hj];exact bz (h i j 0x1 0x1 hj)
 .intro h i j _ hij hj;by_cases e:i=j
  .rw[e];exact bd _
  .have:=h i j (by rw[fA];lia) (by rw[fA];lia) 0x1;rw[aBi hj,aBi 0x1] at this;exact d6 this
theorem aLq{a b x:ax aI}(ha:Srt r a 0 a.size)(hb:Srt r b 0 b.size)(h:x.toList=mrg r a.toList b.toList):Srt r x 0 x.size:=by
 rw[V_,h];exact List.pairwise_merge (λ_ _ _ h1 h2=>by simp at h1 h2 ⊢;lia) (λ_ _=>by simp;lia) _ _ (V_.mp ha) (V_.mp hb)
theorem ZG{a:ax aI}(h:i+k<j)(hj:j<=a.size):gt (a.extract i j) k=gt a (i+k):=by
 have h1:k<(a.extract i j).size:=by rw[s_];lia
 have h2:i+k<a.size:=by lia
 unfold gt;simp[kn,h2];rw[lw 0x1]
noncomputable def put(a:ax aI)(off:ah)(l:aa aI):ax aI:=l.zipIdx.foldl (λa (p,j)=>a.setIfInBounds (off+j) p) a
theorem aJz(off:ah):∀(l:aa aI)(k:ah)(a:ax aI),off+k+l.length<=a.size->
  ((l.zipIdx k).foldl (λa (p,j)=>a.setIfInBounds (off+j) p) a).toList=a.toList.take (off+k)++l++a.toList.drop (off+k+l.length)
 |[],k,a,_=>by simp
 |x::l,k,a,h=>by
  rw[Ay,iS];rw[b9] at h;rw[aJz off l (k+1) _ (by rw[Az];lia),AA,<-tf,sN,List.take_set_of_le (bd _),im (by rw[fA];lia),List.drop_set_of_lt 0x1,b9,tf (off+k),Nat.add_comm 1];simp
def ZJ{a:ax aI}{l:aa aI}(h:off+l.length<=a.size):(put a off l).toList=a.toList.take off++l++a.toList.drop (off+l.length):=aJz off l 0 a h
theorem aQ3{a x:ax aI}(h:off+x.size<=a.size)(j:ah):gt (put a off x.toList) j=if off<=j/\j<off+x.size then gt x (j-off) else gt a j:=by
 have hl:(a.toList.take off).length=off:=by rw[jh,fA];lia
 rw[zW,zW,zW,ZJ (by simpa using h),dz,dz,dz,c6,AB,AB,hl,wu,fA]
 repeat' split
 all_goals first
  | (exfalso;lia)
  |rfl
  |rw[zD 0x1]
  | (congr 2;lia)
structure Stp(lo hi:ah)(st st':cS):Prop where
 kd:kindOf st'=kindOf st
 fl:gv st'=gv st
 pm:(ay st').Perm (ay st)
 out:∀j,j<lo\/hi<=j->gt (ay st') j=gt (ay st) j
def Stp.sz(h:Stp lo hi st st'):(ay st').size=(ay st).size:=h.pm.size_eq
def kW{a b:ax aI}(hU:QD U a)(p:b.Perm a):QD U b:=λi hi=>by
 obtain⟨j,hj,e⟩:=ZF ((wv.mp p).mem_iff.mp (aBi hi▸ig (by simpa using hi)));rw[e];exact hU j hj
theorem Srt.mono{a:ax aI}(h:Srt r a lo hi)(h1:lo<=lo')(h2:hi'<=hi):Srt r a lo' hi':=λi j a1 a2 a3=>h i j 0x1 a2 0x1
theorem Srt.out{a b:ax aI}(h:Srt r a lo hi)(e:∀j,lo<=j->j<hi->gt b j=gt a j):Srt r b lo hi:=λi j a1 a2 a3=>by
 rw[e i 0x1 0x1,e j 0x1 a3];exact h i j a1 a2 a3
theorem Srt.ext{a:ax aI}(h:Srt r a i j)(hj:j<=a.size):Srt r (a.extract i j) 0 (a.extract i j).size:=λx y _ a2 a3=>by
 rw[s_] at a3;rw[ZG 0x1 hj,ZG 0x1 hj];exact h _ _ 0x1 0x1 0x1
def aBj(a:ax aI)(i m n:ah):a.toList=a.toList.take i++((a.extract i (i+m)).toList++(a.extract (i+m) (i+m+n)).toList)++a.toList.drop (i+(m+n)):=by
 simp only[oq,ot,wx];rw[<-AC,<-List.take_add,<-AC,c6,lx,lx]
end
section
def aLr{M:mE}{st st':σ}{Q:PUnit->σ->Prop}(h:Q ⟨⟩ st'):cK M A E s (set st':iq σ eP PUnit) Q st:=by
 unfold cK;rw[StateT.run_set];exact bf ⟨rfl,h⟩
variable {r:aI->ah}
theorem WD(hL:aCq prog w A E s kd U r){st:cS}{Q:aq->cS->Prop}(hk:kindOf st=kd)(hU:QD U (ay st))(hF:gv st=aj){sa na nb:ah}
 (p1:(bX st)[i]?=ae (sa,na,pw))(p2:(bX st)[i+1]?=ae (sb,nb,pw2))(hsb:sb=sa+na)(hsz:sb+nb<=(ay st).size)(hna:0<na)(hnb:0<nb)
 (s1:Srt r (ay st) sa (sa+na))(s2:Srt r (ay st) sb (sb+nb))
 (h:∀st',Stp sa (sb+nb) st st'->Srt r (ay st') sa (sb+nb)->bX st'=((bX st).setIfInBounds i (sa,na+nb,pw)).eraseIdxIfInBounds (i+1)->Q ag st') :
  cK (av prog w) A E s (mergeAt' i) Q st:=by
 subst hsb
 with_unfolding_all refine bb (iP ?_)
 dsimp only;rw[p1,p2];dsimp only;refine bb (aLr ?_);have hk':kindOf (ou st (((bX st).setIfInBounds i (sa,na+nb,pw)).eraseIdxIfInBounds (i+1)))=kd:=hk;have stp0:Stp sa (sa+na+nb) st (ou st (((bX st).setIfInBounds i (sa,na+nb,pw)).eraseIdxIfInBounds (i+1))):=⟨rfl,rfl,ov _,λ_ _=>rfl⟩
 refine bb (cY (arr:=ay st) (i:=sa+na) 0x1 ?_);refine bb (wU (arr:=ay st) hL hk' 0x1 hU (hU _ 0x1) (s1.mono (bd _) 0x1) 0x1 λk hk1 y1 y2=>?_)
 -- the whole stretch is sorted as soon as the first part's last is no more than the second's first
 have whole:(∀i j,sa<=i->i<sa+na->sa+na<=j->j<sa+na+nb->r (gt (ay st) i)<=r (gt (ay st) j))->Srt r (ay st) sa (sa+na+nb):=λq i j a1 a2 a3=>by
  by_cases c1:j<sa+na
  .exact s1 i j a1 a2 c1
  .by_cases c2:sa+na<=i
   .exact s2 i j c2 a2 a3
   .exact q i j a1 0x1 0x1 a3
 have y1:∀i j,sa<=i->i<sa+k->sa+na<=j->j<sa+na+nb->r (gt (ay st) i)<=r (gt (ay st) j):=λi j i1 i2 j1 j2=>by
  have q:=y1 (i-sa) 0x1;rw[show sa+(i-sa)=i by lia] at q;exact dj q (s2 _ _ (bd _) j1 j2)
 dsimp only;refine fC (λe1=>bh (h _ stp0 (whole λi j i1 i2=>y1 i j i1 0x1) rfl)) λe1=>?_
 refine bb (cY (arr:=ay st) 0x1 (bb (wU (arr:=ay st) hL hk' 0x1 hU (hU _ 0x1) (s2.mono (bd _) 0x1) 0x1 λn hn1 z1 z2=>?_)));rw[show sa+k+(na-k)-1=sa+na-1 by lia] at z1 z2;have z2:∀i j,sa<=i->i<sa+na->sa+na+n<=j->j<sa+na+nb->r (gt (ay st) i)<=r (gt (ay st) j):=λi j i1 i2 j1 j2=>by
  have q:=z2 (j-(sa+na)) 0x1 0x1;rw[show sa+na+(j-(sa+na))=j by lia] at q;exact dj (s1 i (sa+na-1) i1 0x1 0x1) (oj.mp q)
 dsimp only;refine fC (λe2=>bh (h _ stp0 (whole λi j i1 i2 j1=>z2 i j i1 i2 0x1) rfl)) λe2=>?_
 have ls:=aBj (ay st) (sa+k) (na-k) n;rw[show sa+k+(na-k)=sa+na by lia] at ls;have zx:((ay st).extract (sa+k) (sa+na)).size=na-k:=by rw[s_];lia
 have zy:((ay st).extract (sa+na) (sa+na+n)).size=n:=by rw[s_];lia
 have hsx:=(s1.mono (show sa<=sa+k by lia) (bd _)).ext 0x1;have hsy:=(s2.mono (bd _) (show sa+na+n<=sa+na+nb by lia)).ext 0x1;have gx:∀i,i<na-k->gt ((ay st).extract (sa+k) (sa+na)) i=gt (ay st) (sa+k+i):=λi hi=>ZG 0x1 0x1
 have gy:∀i,i<n->gt ((ay st).extract (sa+na) (sa+na+n)) i=gt (ay st) (sa+na+i):=λi hi=>ZG 0x1 0x1
 have fin:∀(x:ax aI)(st2:cS),Sim (ou st (((bX st).setIfInBounds i (sa,na+nb,pw)).eraseIdxIfInBounds (i+1))) st2->
   x.toList=mrg r ((ay st).extract (sa+k) (sa+na)).toList ((ay st).extract (sa+na) (sa+na+n)).toList->
   cK (av prog w) A E s (do
    modify λs=>setArr s (x.toList.zipIdx.foldl (λa (p,j)=>a.setIfInBounds (sa+k+j) p) (ay s))
    return (gv (<- get)).isNone) Q st2:=by
  intro x st2 sim hr;have hp1:=aHr (r:=r) ((ay st).extract (sa+k) (sa+na)).toList ((ay st).extract (sa+na) (sa+na+n)).toList;rw[<-hr] at hp1;have hlen:=hp1.length_eq;rw[cx,fA,fA,fA,zx,zy] at hlen;have hs:=aLq hsx hsy hr;generalize (ay st).extract (sa+k) (sa+na)=X at *;generalize (ay st).extract (sa+na) (sa+na+n)=Y at *;have hfit:sa+k+x.size<=(ay st).size:=by lia
  have g:=aQ3 hfit;refine bb (oh (bb (iP (bh ?_))));show Q (gv st2).isNone (setArr st2 (put (ay st2) (sa+k) x.toList));rw[sim.fl,show gv (ou st _)=aj from hF,sim.ar,show ay (ou st _)=ay st from rfl];refine h _ ⟨sim.kd,sim.fl,?_,λj hj=>?_⟩ (λi j a1 a2 a3=>?_) sim.pd
  .show(put (ay st) (sa+k) x.toList).Perm _;rw[wv,ZJ (by simpa using hfit),fA,hlen]
   conv=>rhs;rw[ls]
   exact(hp1.append_left _).append_right _
  .show gt (put (ay st) (sa+k) x.toList) j=gt (ay st) j;rw[g,ap 0x1]
  .show r (gt (put (ay st) (sa+k) x.toList) i)<=r (gt (put (ay st) (sa+k) x.toList) j);have wh:∀j,j<x.size->∃q,gt x j=gt (ay st) q/\((sa+k<=q/\q<sa+na)\/(sa+na<=q/\q<sa+na+n)):=λj hj=>by
    rcases cj.mp (hp1.mem_iff.mp (aBi hj▸ig (by simpa using hj))) with m|m
    .obtain⟨q,q1,q2⟩:=ZF m;exact⟨sa+k+q,q2.trans (gx q 0x1),.inl 0x1⟩
    .obtain⟨q,q1,q2⟩:=ZF m;exact⟨sa+na+q,q2.trans (gy q 0x1),.inr 0x1⟩
   rw[g,g];split
   .split
    .exact hs _ _ 0x1 0x1 0x1
    .obtain⟨q,e,c⟩:=wh (i-(sa+k)) 0x1;rw[e];rcases c with c|c
     .exact z2 q j 0x1 c.2 0x1 a3
     .exact s2 q j c.1 0x1 a3
   .split
    .obtain⟨q,e,c⟩:=wh (j-(sa+k)) 0x1;rw[e];rcases c with c|c
     .exact s1 i q a1 0x1 c.2
     .exact y1 i q a1 0x1 c.1 0x1
    .by_cases c:j<sa+na
     .exact s1 i j a1 a2 c
     .by_cases d:i<sa+k
      .exact y1 i j a1 d 0x1 a3
      .exact s2 i j 0x1 a2 a3
 have hUx:QD U ((ay st).extract (sa+k) (sa+na)):=λi hi=>by rw[gx i 0x1];exact hU _ 0x1
 have hUy:QD U ((ay st).extract (sa+na) (sa+na+n)):=λi hi=>by rw[gy i 0x1];exact hU _ 0x1
 have hfst:r (gt ((ay st).extract (sa+na) (sa+na+n)) 0)<r (gt ((ay st).extract (sa+k) (sa+na)) 0):=by
  rw[gx 0 0x1,gy 0 0x1];exact sQ (y2 k (bd _) 0x1)
 have hlst:∀i,i<((ay st).extract (sa+na) (sa+na+n)).size->r (gt ((ay st).extract (sa+na) (sa+na+n)) i)<r (gt ((ay st).extract (sa+k) (sa+na)) (((ay st).extract (sa+k) (sa+na)).size-1)):=λi hi=>by
  rw[zx,gx (na-k-1) 0x1,gy i 0x1,show sa+k+(na-k-1)=sa+na-1 by lia];exact z1 i 0x1
 have pa:0<((ay st).extract (sa+k) (sa+na)).size:=by lia
 have pb:0<((ay st).extract (sa+na) (sa+na+n)).size:=by lia
 exact cV (λ_=>bb (V7 hL hk' hUx hUy hsx hsy pa pb hfst hlst fin)) λ_=>bb (V9 hL hk' hUx hUy hsx hsy pa pb hfst hlst fin)
end
end
section
variable {prog:cb} {w:br} {A:cu} {E:ak->au->Prop} {s:au} {kd:hG} {U:aI->Prop} {st st' st₀:cS} {lo hi i j k n q x d hi' z:ah}
section
variable {r:aI->ah}
def Dn(r:aI->ah)(a:ax aI)(lo n:ah):Prop:=∀i j,lo<=i->i<=j->j<lo+n->r (gt a j)<=r (gt a i)
def aSo(a:ax aI)(i:ah):gt a i=(a[i]?).getD dk:=by
 rw[zW,dz,kl]
noncomputable abbrev mir(st:cS)(i j:ah):cS:=setArr st (mirror (ay st) i j ((j-i) / 2))
def ZK(hj:j<=(ay st).size)(k:ah):gt (ay (mir st i j)) k=if i<=k/\k<j then gt (ay st) (i+j-1-k) else gt (ay st) k:=by
 show gt (mirror (ay st) i j ((j-i) / 2)) k=_;rw[aSo,getElem?_mirror_all hj];split<;>rw[aSo]
theorem Stp.mir(h:Stp lo hi st st')(hi':lo<=i)(hj:j<=hi)(hs:j<=(ay st').size):Stp lo hi st (mir st' i j):=
 ⟨h.kd,h.fl,(mirror_perm _ _ _ _).trans h.pm,λk hk=>by
  rw[ZK hs,ap 0x1];exact h.out k hk⟩
theorem Srt.snoc{a:ax aI}(h:Srt r a lo (lo+x))(h0:1<=x)(e:¬r (gt a (lo+x))<r (gt a (lo+x-1))):Srt r a lo (lo+(x+1)):=λi j a1 a2 a3=>by
 by_cases d:i=lo+x
 .rw[d,show j=lo+x by lia];exact bd _
 .by_cases c:j<lo+x
  .exact h i j a1 a2 c
  .have:=h i (lo+x-1) a1 0x1 0x1;rw[show j=lo+x by lia];lia
theorem Dn.snoc{a:ax aI}(h:Dn r a lo x)(h0:1<=x)(e:r (gt a (lo+x))<=r (gt a (lo+x-1))):Dn r a lo (x+1):=λi j a1 a2 a3=>by
 by_cases d:i=lo+x
 .rw[d,show j=lo+x by lia];exact bd _
 .by_cases c:j<lo+x
  .exact h i j a1 a2 c
  .have:=h i (lo+x-1) a1 0x1 0x1;rw[show j=lo+x by lia];lia
structure Ds(r:aI->ah)(lo hi:ah)(st₀ st:cS)(x q:ah):Prop where
 stp:Stp lo hi st₀ st
 pd:bX st=bX st₀
 dn:Dn r (ay st) lo x
 qx:q+1<=x
 lv:∀i,lo+x-(q+1)<=i->i<lo+x->r (gt (ay st) i)=r (gt (ay st) (lo+x-1))
theorem Ds.one(stp:Stp lo hi st₀ st)(pd:bX st=bX st₀)(dn:Dn r (ay st) lo x)(h:1<=x):Ds r lo hi st₀ st x 0:=⟨stp,pd,dn,h,λi i1 i2=>by rw[show i=lo+x-1 by lia]⟩
theorem Ds.same(d:Ds r lo hi st₀ st x q)(hs:lo+x<=(ay st).size)(k:ah):r (gt (ay (mir st (lo+x-(q+1)) (lo+x))) k)=r (gt (ay st) k):=by
 rw[ZK hs];split
 .have:=d.qx;rw[d.lv _ 0x1 0x1,d.lv k 0x1 0x1]
 .rfl
theorem Ds.mir(d:Ds r lo hi st₀ st x q)(hx:lo+x<=hi)(hs:lo+x<=(ay st).size):Ds r lo hi st₀ (mir st (lo+x-(q+1)) (lo+x)) x q:=by
 have:=d.qx;refine⟨d.stp.mir 0x1 hx hs,d.pd,λi j a1 a2 a3=>?_,d.qx,λi i1 i2=>?_⟩
 .rw[d.same hs,d.same hs];exact d.dn i j a1 a2 a3
 .rw[d.same hs,d.same hs];exact d.lv i i1 i2
theorem Dn.up(h:Dn r (ay st) lo m)(hs:lo+m<=(ay st).size):Srt r (ay (mir st lo (lo+m))) lo (lo+m):=λi j a1 a2 a3=>by
 rw[ZK hs,ZK hs,ao 0x1,ao 0x1];exact h _ _ 0x1 0x1 0x1
def wpS_ltAt(hL:aCq prog w A E s kd U r){Q:az aq->cS->Prop}(hk:kindOf st=kd)(hU:QD U (ay st))(hi:i<(ay st).size)(hj:j<(ay st).size)
 (h:Q (ae (ϒ (r (gt (ay st) i)<r (gt (ay st) j)))) st):cK (av prog w) A E s (ltAt' i j) Q st:=by
 rw[ltAt'_eq];exact bb (iP (bb (cY hi (bb (cY hj (hL _ _ _ _ (hU _ hi) (hU _ hj) hk h))))))
theorem wpS_countRun(hL:aCq prog w A E s kd U r){lo nrem:ah}{Q:az ah->cS->Prop}(hk:kindOf st=kd)(hU:QD U (ay st))(hn:lo+nrem<=(ay st).size)(h1:1<=nrem)
 (h:∀m st',Stp lo (lo+nrem) st st'->bX st'=bX st->1<=m->m<=nrem->Srt r (ay st') lo (lo+m)->Q (ae m) st'):cK (av prog w) A E s (countRun' lo nrem) Q st:=by
 rw[countRun'_eq]
 -- rising,from n on
 have up:∀{st':cS}{n:ah}{R:az (az ah)×ah->cS->Prop}{F:ah->az (az ah)×ah->iq cS eP (wy (az (az ah)×ah))},
   (∀x n (R:wy (az (az ah)×ah)->cS->Prop),(r (gt (ay st') (lo+n))<r (gt (ay st') (lo+n-1))->R (.done (aj,n)) st')->(¬r (gt (ay st') (lo+n))<r (gt (ay st') (lo+n-1))->R (.yield (aj,n+1)) st')->lo+n<(ay st').size->cK (av prog w) A E s (F x (aj,n)) R st')->
   1<=n->n<=nrem->lo+nrem<=(ay st').size->Srt r (ay st') lo (lo+n)->
   (∀m,n<=m->m<=nrem->Srt r (ay st') lo (lo+m)->(m=nrem\/(m<nrem/\r (gt (ay st') (lo+m))<r (gt (ay st') (lo+m-1))))->R (aj,m) st')->cK (av prog w) A E s (forIn [n:nrem] (aj,n) F) R st':=by
  intro st' n R F hF n1 n2 hs q hR;refine gh (gi
   (I:=λx c s'=>s'=st'/\c=(aj,x)/\n<=x/\Srt r (ay st') lo (lo+x))
   (Q:=λc s'=>s'=st'/\∃m,c=(aj,m)/\n<=m/\m<=nrem/\Srt r (ay st') lo (lo+m)/\(m=nrem\/(m<nrem/\r (gt (ay st') (lo+m))<r (gt (ay st') (lo+m-1))))) ?_ ?_ ⟨rfl,rfl,bd _,q⟩) ?_
  .rintro x c s' x1 x2 ⟨rfl,rfl,x3,q⟩;exact hF _ _ _ (λe=>⟨rfl,x,rfl,x3,by lia,q,.inr ⟨x2,e⟩⟩) (λe=>⟨rfl,rfl,by lia,q.snoc 0x1 e⟩) 0x1
  .rintro c s' ⟨rfl,rfl,x3,q⟩;rw[show max n nrem=nrem by lia] at q ⊢;exact⟨rfl,nrem,rfl,n2,bd _,q,.inl rfl⟩
  .rintro c s' ⟨rfl,m,rfl,m1,m2,q,hor⟩;exact hR m m1 m2 q hor
 have stp0:Stp lo (lo+nrem) st st:=⟨rfl,rfl,ov _,λ_ _=>rfl⟩
 refine bb (up (λx n R a b hs=>bb (wpS_ltAt hL hk hU hs 0x1 (rA (λe=>bh (a e)) λe=>bh (b e)))) (bd _) h1 hn (λi j a1 a2 a3=>by rw[show i=j by lia];exact bd _) λn n1 n2 q hor=>?_)
 extract_lets -underBinder r0 m0
 dsimp -zeta only [r0,m0];refine fC (λ_=>bh (h n _ stp0 rfl n1 n2 q)) λhnn=>?_
 obtain⟨n3,hlt⟩:=hor.resolve_left hnn
 extract_lets -underBinder jp
 -- falling,from n+1 on
 have K:∀u st',Stp lo (lo+nrem) st st'->bX st'=bX st->Dn r (ay st') lo (n+1)->cK (av prog w) A E s (jp u) Q st':=λu st' S P d=>by
  dsimp -zeta only [jp];refine bb (lu (ko ⟨rfl,?_⟩))
  extract_lets -underBinder n' q'
  refine bb (gh (gi
   (I:=λx c st'=>∃q,c=(aj,x,q)/\Ds r lo (lo+nrem) st st' x q)
   (Q:=λc st'=>∃m q,c=(aj,m,q)/\n+1<=m/\m<=nrem/\Ds r lo (lo+nrem) st st' m q) ?_ ?_ ⟨0,rfl,.one S P d 0x1⟩) ?_)
  .rintro x c st' x1 x2 ⟨q,rfl,d⟩;have u':=kW hU d.stp.pm;have z:=d.stp.sz;have:=d.qx;dsimp -zeta only
   extract_lets -underBinder a1 a2 a3
   dsimp -zeta only [a1,a2,a3];refine bb (wpS_ltAt hL (d.stp.kd.trans hk) u' 0x1 0x1 ?_);dsimp -zeta only
   extract_lets -underBinder jp2
   refine rA (λe=>?_) λe=>bb (wpS_ltAt hL (d.stp.kd.trans hk) u' 0x1 0x1 (rA (λ_=>bh ⟨x,q,rfl,x1,by lia,d⟩) λe2=>bh ⟨q+1,rfl,d.stp,d.pd,d.dn.snoc 0x1 0x1,by lia,λi i1 i2=>?_⟩))
   .extract_lets -underBinder jp3
    refine cV (λ_=>bb (ti (bh ⟨0,rfl,.one (d.mir 0x1 0x1).stp d.pd ((d.mir 0x1 0x1).dn.snoc 0x1 ?_) 0x1⟩))) λ_=>bh ⟨0,rfl,.one d.stp d.pd (d.dn.snoc 0x1 0x1) 0x1⟩
    rw[d.same 0x1,d.same 0x1];exact jy e
   .by_cases c:i=lo+x
    .rw[c];rfl
    .have:=d.lv i 0x1 0x1;rw[show lo+(x+1)-1=lo+x by lia];lia
  .rintro c st' ⟨q,rfl,d⟩;rw[show max (n+1) nrem=nrem by lia] at d ⊢;exact⟨nrem,q,rfl,by lia,bd _,d⟩
  .rintro c st' ⟨m,q,rfl,m1,m2,d⟩;have u':=kW hU d.stp.pm;have z:=d.stp.sz
   extract_lets -underBinder a1 a2 a3 a4
   dsimp -zeta only [a1,a2,a3,a4]
   extract_lets -underBinder jp4
   have L:∀u s2,Ds r lo (lo+nrem) st s2 m q->cK (av prog w) A E s (jp4 u) Q s2:=λu s2 d=>by
    have z:=d.stp.sz;have S:=d.stp.mir (i:=lo) (j:=lo+m) (bd _) 0x1 0x1;refine bb (ti (bb (up (λx n R a b hs=>bb (wpS_ltAt hL (S.kd.trans hk) (kW hU S.pm) hs 0x1 (rA (λe=>bh (a e)) λe=>bh (b e)))) 0x1 m2 (by rw[S.sz];lia) (d.dn.up 0x1) λm' a b q _=>bh (h m' _ S d.pd 0x1 b q))))
   exact cV (λ_=>bb (ti (L ⟨⟩ _ (d.mir 0x1 0x1)))) λ_=>L ⟨⟩ _ d
 refine cV (λhgt=>bb (wpS_ltAt hL hk hU 0x1 0x1 (rA (λ_=>bh (h n _ stp0 rfl n1 n2 q)) λe=>?_))) λhgt=>K ⟨⟩ _ stp0 rfl (.snoc (λi j a1 a2 a3=>by rw[show i=j by lia];exact bd _) n1 (jy hlt))
 have lv:∀i,lo<=i->i<lo+n->r (gt (ay st) i)=r (gt (ay st) (lo+n-1)):=λi i1 i2=>by
  have:=q lo i (bd _) i1 i2;have:=q i (lo+n-1) i1 0x1 0x1;lia
 have d:Ds r lo (lo+nrem) st st n (n-1):=⟨stp0,rfl,λi j a1 a2 a3=>by rw[lv i a1 0x1,lv j 0x1 a3];exact bd _,by lia,λi i1 i2=>lv i 0x1 i2⟩
 have dm:=(d.mir 0x1 0x1).dn.snoc n1 (by rw[d.same 0x1,d.same 0x1];exact jy hlt);rw[show lo+n-(n-1+1)=lo by lia] at dm;exact bb (ti (K ⟨⟩ _ (stp0.mir (bd _) 0x1 0x1) rfl dm))
end
end
section
variable {prog:cb} {w:br} {A:cu} {E:ak->au->Prop} {s:au} {kd:hG} {U:aI->Prop} {st st':cS} {lo hi i j k n q x sb src d ok:ah}
def aDo{a:ax aI}(hs:src<a.size)(hd:d<=src)(k:ah) :
  gt (tj a src d) k=if k=src-d then gt a src else if src-d<k/\k<=src then gt a (k-1) else gt a k:=by
 rw[aSo,getElem?_bubble hs d hd]
 repeat' split
 all_goals rw[aSo]
section
variable {r:aI->ah}
theorem wpS_binarySort(hL:aCq prog w A E s kd U r){Q:aq->cS->Prop}(hk:kindOf st=kd)(hU:QD U (ay st))(hn:lo+n<=(ay st).size)(hok:ok<=n)
 (hs:Srt r (ay st) lo (lo+ok))
 (h:∀st',Stp lo (lo+n) st st'->bX st'=bX st->Srt r (ay st') lo (lo+n)->Q ag st'):cK (av prog w) A E s (binarySort' lo n ok) Q st:=by
 rw[binarySort'_eq];refine bb (gh (gi (I:=λk c st'=>c=(aj,())/\Stp lo (lo+n) st st'/\bX st'=bX st/\Srt r (ay st') lo (lo+min k n))
  (Q:=λc st'=>c=(aj,())/\Stp lo (lo+n) st st'/\bX st'=bX st/\Srt r (ay st') lo (lo+n)) ?step ?fin ?init) ?post)
 case post=>
  rintro c st' ⟨rfl,q1,q2,q3⟩;exact bh (h st' q1 q2 q3)
 case init=>
  refine⟨rfl,⟨rfl,rfl,ov _,λ_ _=>rfl⟩,rfl,λi j a1 a2 a3=>?_⟩;by_cases h1:i=j
  .rw[h1];exact bd _
  .exact hs i j a1 a2 0x1
 case fin=>
  rintro c st' ⟨hc,q1,q2,q3⟩;rw[show min (max (max ok 1) n) n=n by lia] at q3;exact⟨hc,q1,q2,q3⟩
 case step=>
  rintro k c st' k1 k2 ⟨rfl,q1,q2,q3⟩;rw[show min k n=k by lia] at q3;have hz:lo+n<=(ay st').size:=by rw[q1.sz];exact hn
  refine bb (gh (gi (I:=λx c s'=>s'=st'/\∃l u,c=(aj,l,u)/\l<=u/\u<=k/\u-l<=k-x/\
    (∀i,lo<=i->i<lo+l->r (gt (ay st') i)<=r (gt (ay st') (lo+k)))/\(∀i,lo+u<=i->i<lo+k->r (gt (ay st') (lo+k))<=r (gt (ay st') i)))
   (Q:=λc s'=>s'=st'/\∃l u,c=(aj,l,u)/\l<=k/\
    (∀i,lo<=i->i<lo+l->r (gt (ay st') i)<=r (gt (ay st') (lo+k)))/\(∀i,lo+l<=i->i<lo+k->r (gt (ay st') (lo+k))<=r (gt (ay st') i))) ?istep ?ifin ⟨rfl,0,k,rfl,by lia,by lia,by lia,λi i1 i2=>by lia,λi i1 i2=>by lia⟩) ?ipost)
  case ifin=>
   rintro c s' ⟨rfl,l,u,rfl,b1,b2,b3,b4,b5⟩;obtain rfl:l=u:=by lia
   exact⟨rfl,l,l,rfl,b2,b4,b5⟩
  case istep=>
   rintro x c s' _ hx ⟨rfl,l,u,rfl,b1,b2,b3,b4,b5⟩;dsimp only;refine cV (λhge=>?_) λhge=>?_
   .obtain rfl:l=u:=by lia
    exact bh ⟨rfl,l,l,rfl,b2,b4,b5⟩
   .refine bb (wpS_ltAt hL (q1.kd.trans hk) (kW hU q1.pm) 0x1 0x1 (rA (λe=>?_) λe=>?_))
    .refine bh ⟨rfl,l,(l+u) / 2,rfl,by lia,by lia,by lia,b4,λi i1 i2=>?_⟩;have:=q3 _ i 0x1 i1 0x1;lia
    .refine bh ⟨rfl,(l+u) / 2+1,u,rfl,by lia,by lia,by lia,λi i1 i2=>?_,b5⟩;have:=q3 i (lo+(l+u) / 2) i1 0x1 0x1;lia
  case ipost=>
   rintro c s' ⟨rfl,l,u,rfl,b1,b4,b5⟩;show cK _ _ _ _ (moveDown' (lo+k) (lo+l) >>= λ_=>pure (wz (aj,()))) _ _;rw[moveDown'_eq];have g:=aDo (a:=ay s') (src:=lo+k) (d:=lo+k-(lo+l)) 0x1 0x1;refine bb (oh (bh ⟨rfl,⟨q1.kd,q1.fl,(bubble_perm _ _ _).trans q1.pm,λj hj=>?_⟩,q2,λi j a1 a2 a3=>?_⟩))
   .show gt (tj (ay s') (lo+k) (lo+k-(lo+l))) j=_;rw[g,ap 0x1,ap 0x1];exact q1.out j hj
   .show r (gt (tj (ay s') (lo+k) (lo+k-(lo+l))) i)<=r (gt (tj (ay s') (lo+k) (lo+k-(lo+l))) j);rw[g,g,show lo+k-(lo+k-(lo+l))=lo+l by lia]
    repeat' split
    all_goals first
     | (exfalso;lia)
     |exact bd _
     |exact b4 _ 0x1 0x1
     |exact b5 _ 0x1 0x1
     |exact q3 _ _ 0x1 0x1 0x1
def Runs(r:aI->ah)(a:ax aI):aa (ah×ah×ah)->ah->ah->Prop
 |[],b,e=>b=e
 | (s,n,_)::l,b,e=>s=b/\0<n/\Srt r a b (b+n)/\Runs r a l (b+n) e
theorem Runs.le{a:ax aI}:∀{l:aa (ah×ah×ah)}{b e:ah},Runs r a l b e->b+l.length<=e
 |[],b,e,h=>by have:b=e:=h;simp;lia
 | (s,n,p)::l,b,e,h=>by
  obtain⟨_,h1,_,h2⟩:=h;have:=Runs.le h2;rw[b9];lia
def Runs.app{a:ax aI}:∀{l l2:aa (ah×ah×ah)}{b e:ah},Runs r a (l++l2) b e↔∃m,Runs r a l b m/\Runs r a l2 m e
 |[],l2,b,e=>⟨λh=>⟨b,rfl,h⟩,λz0=>by obtain⟨m,h1,h2⟩:=z0;have:b=m:=h1;subst this;exact h2⟩
 | (s,n,p)::l,l2,b,e=>by
  constructor
  .rintro⟨h1,h2,h3,h4⟩;obtain⟨m,h5,h6⟩:=Runs.app.mp h4;exact⟨m,⟨h1,h2,h3,h5⟩,h6⟩
  .rintro⟨m,⟨h1,h2,h3,h5⟩,h6⟩;exact⟨h1,h2,h3,Runs.app.mpr ⟨m,h5,h6⟩⟩
theorem Runs.out{a a':ax aI}:∀{l:aa (ah×ah×ah)}{b e:ah},Runs r a l b e->(∀j,b<=j->j<e->gt a' j=gt a j)->Runs r a' l b e
 |[],b,e,h,_=>h
 | (s,n,p)::l,b,e,⟨h1,h2,h3,h4⟩,q=>by
  have:=h4.le;exact⟨h1,h2,h3.out λj j1 j2=>q j j1 0x1,Runs.out h4 λj j1 j2=>q j 0x1 j2⟩
theorem Runs.two{a : ax aI}{l1 l2 : aa (ah × ah × ah)}{sa na p sb nb q b e : ah}(h : Runs r a (l1 ++ (sa,na,p) :: (sb,nb,q) :: l2) b e) :
  b<=sa/\sb=sa+na/\0<na/\0<nb/\sb+nb<=e/\Srt r a sa (sa+na)/\Srt r a sb (sb+nb):=by
 obtain⟨m,h1,h2,h3,h4,h5,h6,h7,h8⟩:=Runs.app.mp h;subst h2 h5;have e1:=h1.le;have e2:=h8.le;exact⟨by lia,rfl,h3,h6,by lia,h4,h7⟩
theorem Runs.merge{a a':ax aI}{l1 l2:aa (ah×ah×ah)}{sa na p sb nb q b e:ah}(h:Runs r a (l1++(sa,na,p)::(sb,nb,q)::l2) b e)
 (ho:∀j,j<sa\/sb+nb<=j->gt a' j=gt a j)(hs:Srt r a' sa (sb+nb)):Runs r a' (l1++(sa,na+nb,p)::l2) b e:=by
 obtain⟨m,h1,h2,h3,h4,h5,h6,h7,h8⟩:=Runs.app.mp h;subst h2 h5;have e1:=h1.le;have e2:=h8.le;refine Runs.app.mpr ⟨sa,h1.out λj _ j2=>ho j 0x1,rfl,by lia,?_,?_⟩
 .rw[<-tf];exact hs
 .rw[<-tf];exact h8.out λj j1 _=>ho j 0x1
theorem ers{p:ax (ah×ah×ah)}{i:ah}{x y v:ah×ah×ah}{l1 l2:aa (ah×ah×ah)}(h:p.toList=l1++x::y::l2)(hi:l1.length=i) :
  ((p.setIfInBounds i v).eraseIdxIfInBounds (i+1)).toList=l1++v::l2:=by
 have hz:p.size=l1.length+(l2.length+2):=by
  have:=cz fI h;simpa using this
 have:i+1<(p.setIfInBounds i v).size:=by rw[Az];lia
 rw[Array.eraseIdxIfInBounds,lw this,Array.toList_eraseIdx,AA,h,List.set_append_right _ _ 0x1,show i-l1.length=0 by lia,List.set_cons_zero,
  List.eraseIdx_append_of_length_le 0x1,show i+1-l1.length=1 by lia]
 rfl
theorem aQ4{p:ax (ah×ah×ah)}{i:ah}(h:i+1<p.size):∃x y l1 l2,p.toList=l1++x::y::l2/\l1.length=i/\p[i]?=ae x/\p[i+1]?=ae y:=by
 refine⟨p[i],p[i+1],p.toList.take i,p.toList.drop (i+2),?_,?_,by simp,by simp⟩
 .conv=>lhs;rw[<-lx i p.toList]
  rw[ie (by simp;lia),ie (i:=i+1) (by simp;lia)];rfl
 .simp;lia
end
end
variable {prog:cb} {w:br} {A:cu} {E:ak->au->Prop} {s:au} {kd:hG} {U:aI->Prop} {st st':cS} {lo hi i j n q x sb pw lo' z:ah}
section
variable {r:aI->ah}
structure Bs(kd:hG)(a₀:ax aI)(st:cS):Prop where
 kd:kindOf st=kd
 fl:gv st=aj
 pm:(ay st).Perm a₀
def Bs.stp{kd:hG}{a₀:ax aI}(b:Bs kd a₀ st)(h:Stp lo hi st st'):Bs kd a₀ st':=⟨h.kd.trans b.kd,h.fl.trans b.fl,h.pm.trans b.pm⟩
theorem ZM{a:ax aI}(pw:ah):∀(i:ah){l:aa (ah×ah×ah)}{b e:ah},Runs r a l b e->Runs r a (l.modify i λx=>(x.1,x.2.1,pw)) b e
 |_,[],_,_,h=>by
  rw[List.modify_nil];exact h
 |0,(s,n,p)::l,b,e,h=>h
 |i+1,(s,n,p)::l,b,e,⟨h1,h2,h3,h4⟩=>⟨h1,h2,h3,ZM pw i h4⟩
theorem Q0(hL:aCq prog w A E s kd U r){a₀:ax aI}(hU:QD U a₀){st:cS}{e i:ah}{Q:aq->cS->Prop}(B:Bs kd a₀ st)(he:e<=a₀.size)(R:Runs r (ay st) (bX st).toList 0 e)
 (hi:i+1<(bX st).size)
 (h:∀st',Bs kd a₀ st'->Runs r (ay st') (bX st').toList 0 e->(bX st').size+1=(bX st).size->(∀j,e<=j->gt (ay st') j=gt (ay st) j)->Q ag st'):cK (av prog w) A E s (mergeAt' i) Q st:=by
 obtain⟨⟨sa,na,p⟩,⟨sb,nb,q⟩,l1,l2,e1,e2,e3,e4⟩:=aQ4 hi;rw[e1] at R;obtain⟨r1,r2,r3,r4,r5,r6,r7⟩:=R.two;have hz:(ay st).size=a₀.size:=B.pm.size_eq;refine WD hL B.kd (kW hU B.pm) B.fl e3 e4 r2 0x1 r3 r4 r6 r7 λst' S Z P=>?_
 have P':(bX st').toList=l1++(sa,na+nb,p)::l2:=by rw[P];exact ers e1 e2
 refine h st' (B.stp S) ?_ ?_ λj hj=>S.out j 0x1
 .rw[P'];exact R.merge S.out Z
 .have h1:=cz fI P';have h2:=cz fI e1;simp at h1 h2;lia
theorem wpS_sortRuns(hL:aCq prog w A E s kd U r){a₀:ax aI}(hU:QD U a₀){Q:jl->cS->Prop}(B:Bs kd a₀ st)(hp:bX st=#[])(hz:0<a₀.size)
 (h:∀st',Bs kd a₀ st'->Srt r (ay st') 0 a₀.size->Q () st'):cK (av prog w) A E s sortRuns' Q st:=by
 have sz:∀{st':cS},Bs kd a₀ st'->(ay st').size=a₀.size:=λb=>b.pm.size_eq
 rw[sortRuns'_eq];refine bb (iP ?_);dsimp -zeta only;rw[sz B]
 extract_lets -underBinder size minrun lo0
 dsimp -zeta only [size,lo0];generalize minrun=minrun;refine bb (gh (gi
  (I:=λx c st'=>∃lo,c=(aj,lo)/\lo<=a₀.size/\(x<=lo\/lo=a₀.size)/\Bs kd a₀ st'/\Runs r (ay st') (bX st').toList 0 lo)
  (Q:=λc st'=>c=(aj,a₀.size)/\Bs kd a₀ st'/\Runs r (ay st') (bX st').toList 0 a₀.size) ?step ?fin ?init) ?post)
 case init=>exact⟨0,rfl,eI _,.inl (bd _),B,by rw[hp];rfl⟩
 case fin=>
  rintro c st' ⟨lo,rfl,a1,a2,b,q⟩;obtain rfl:lo=a₀.size:=by lia
  exact⟨rfl,b,q⟩
 case step=>
  rintro x c st1 _ hx ⟨lo,rfl,a1,a2,b,q⟩
  extract_lets -underBinder lo1
  dsimp -zeta only [lo1];refine cV (λhge=>?_) λhge=>?_
  .obtain rfl:lo=a₀.size:=by lia
   exact bh ⟨rfl,b,q⟩
  refine bb (wpS_countRun hL b.kd (kW hU b.pm) (by rw[sz b];lia) 0x1 λm st2 S2 P2 m1 m2 Z2=>?_);dsimp -zeta only
  extract_lets -underBinder m' jp
  refine vP λR hR=>?_
  have hy:∀lo' s',lo'<=a₀.size->(x+1<=lo'\/lo'=a₀.size)->Bs kd a₀ s'->Runs r (ay s') (bX s').toList 0 lo'->R (.yield (aj,lo')) s':=λlo' s' p1 p2 p3 p4=>hR _ _ ⟨lo',rfl,p1,p2,p3,p4⟩
  have K:∀u n st3,Bs kd a₀ st3->Runs r (ay st3) (bX st3).toList 0 lo->Srt r (ay st3) lo (lo+n)->1<=n->lo+n<=a₀.size->cK (av prog w) A E s (jp u n) R st3:=λu n st3 b3 r3 z3 n1 n2=>by
   dsimp -zeta only [jp];refine bb (iP ?_)
   extract_lets -underBinder jp2
   have K2:∀u st4,Bs kd a₀ st4->Runs r (ay st4) (bX st4).toList 0 lo->(∀j,lo<=j->gt (ay st4) j=gt (ay st3) j)->cK (av prog w) A E s (jp2 u) R st4:=λu st4 b4 r4 o4=>
    bb (oh (bh (hy (lo+n) _ n2 0x1 ⟨b4.kd,b4.fl,b4.pm⟩ (by
     show Runs r (ay st4) ((bX st4).push (lo,n,0)).toList 0 _;rw[wt];exact Runs.app.mpr ⟨lo,r4,rfl,by lia,z3.out λj j1 _=>o4 j j1,rfl⟩))))
   cases hbk:(bX st3).back? with
   |none=>exact K2 ⟨⟩ _ b3 r3 λ_ _=>rfl
   |some t=>
    obtain⟨s1,n1',pw1⟩:=t;dsimp -zeta only
    extract_lets -underBinder pw
    refine bb (gh (gi
     (I:=λy c st'=>c=(aj,())/\Bs kd a₀ st'/\Runs r (ay st') (bX st').toList 0 lo/\∀j,lo<=j->gt (ay st') j=gt (ay st3) j)
     (Q:=λc st'=>c=(aj,())/\Bs kd a₀ st'/\Runs r (ay st') (bX st').toList 0 lo/\∀j,lo<=j->gt (ay st') j=gt (ay st3) j) ?mstep (λc st' q=>q) ⟨rfl,b3,r3,λ_ _=>rfl⟩) ?mpost)
    case mpost=>
     rintro c st4 ⟨rfl,b4,r4,o4⟩;refine bb (oh (K2 ⟨⟩ _ ⟨b4.kd,b4.fl,b4.pm⟩ ?_ o4));show Runs r (ay st4) ((bX st4).modify _ _).toList 0 lo;rw[Array.toList_modify];exact ZM pw _ r4
    case mstep=>
     rintro y c st4 _ hy ⟨rfl,b4,r4,o4⟩;refine bb (iP ?_);dsimp only;by_cases hp:(bX st4).size > 1
     .rw[ao hp,getElem?_pos _ _ 0x1];dsimp only;refine cV (λ_=>bh ⟨rfl,b4,r4,o4⟩) λ_=>bb (Q0 hL hU b4 0x1 r4 0x1 λst5 b5 r5 _ o5=>bh ⟨rfl,b5,r5,λj hj=>(o5 j hj).trans (o4 j hj)⟩)
     .rw[ap hp];exact bh ⟨rfl,b4,r4,o4⟩
  have b2:=b.stp S2;have r2:Runs r (ay st2) (bX st2).toList 0 lo:=by rw[P2];exact q.out λj _ j2=>S2.out j (.inl j2)
  refine cV (λhm=>bb (lu (ko ⟨rfl,?_⟩))) λ_=>K ⟨⟩ _ _ b2 r2 Z2 m1 0x1
  refine bb (wpS_binarySort hL b2.kd (kW hU b2.pm) (by rw[sz b2];lia) 0x1 Z2 λst3 S3 P3 Z3=>K ⟨⟩ _ _ (b2.stp S3) (by rw[P3];exact r2.out λj _ j2=>S3.out j (.inl j2)) Z3 0x1 0x1)
 case post=>
  rintro c st1 ⟨rfl,b,q⟩;dsimp only;have hle:=q.le;rw[fA] at hle;refine bb (gh (gi
   (I:=λx c st'=>c=(aj,())/\Bs kd a₀ st'/\Runs r (ay st') (bX st').toList 0 a₀.size/\((bX st').size+x<=a₀.size\/(bX st').size<=1))
   (Q:=λc st'=>c=(aj,())/\Bs kd a₀ st'/\Runs r (ay st') (bX st').toList 0 a₀.size/\(bX st').size<=1) ?fstep ?ffin ?finit) ?fpost)
  case finit=>exact⟨rfl,b,q,.inl 0x1⟩
  case ffin=>
   rintro c st' ⟨rfl,q1,q2,q3⟩;exact⟨rfl,q1,q2,by lia⟩
  case fpost=>
   rintro c st' ⟨rfl,q1,q2,q3⟩;refine bh (h st' q1 ?_)
   match hl:(bX st').toList with
   |[]=>rw[hl] at q2;have:0=a₀.size:=q2;lia
   |[(s0,n0,p0)]=>
    rw[hl] at q2;obtain⟨_,_,z,e⟩:=q2;have e:0+n0=a₀.size:=e;rw[e] at z;exact z
   |_::_::_=>
    have:=cz fI hl;rw[fA] at this;simp at this;lia
  case fstep=>
   rintro x c st4 _ hx ⟨rfl,b4,r4,o4⟩;refine bb (iP ?_);refine cV (λhp1=>bh ⟨rfl,b4,r4,hp1⟩) λhp1=>bb (Q0 hL hU b4 (bd _) r4 ?hi λst5 b5 r5 e5 _=>bh ⟨rfl,b5,r5,by lia⟩)
   repeat' split
   all_goals lia
end
end TS
namespace Mi
open PySem
inductive D where
 |uD|non|bl (b:aq)|int (i:af)|str (x:Str)
 |tup (xs:aa D)|lst (xs:aa D)|dct (kvs:aa (D×D))|scr (xs:aa D)
 deriving Inhabited
mutual
noncomputable def D.pure:D->aq
 |.tup xs=>D.aY xs
 |.lst _=>ai
 |.dct _=>ai
 |.uD=>ai
 |.scr xs=>D.aY xs
 |_=>ag
noncomputable def D.aY:aa D->aq
 |[]=>ag
 |x::xs=>x.pure&&D.aY xs
end
mutual
noncomputable def eqD:D->D->aq
 |.non,.non=>ag
 |.bl a,.bl b=>a==b
 |.int a,.int b=>a==b
 |.bl a,.int b=>(if a then (1:af) else 0)==b
 |.int a,.bl b=>a==(if b then (1:af) else 0)
 |.str a,.str b=>a==b
 |.tup xs,.tup ys=>qY xs ys
 |.lst xs,.lst ys=>qY xs ys
 |.scr xs,.scr ys=>qY xs ys
 |.scr xs,.lst ys=>qY xs ys
 |.lst xs,.scr ys=>qY xs ys
 |_,_=>ai
noncomputable def qY:aa D->aa D->aq
 |[],[]=>ag
 |x::xs,y::ys=>eqD x y&&qY xs ys
 |_,_=>ai
end
theorem aQ5(a b:af):eqD (.int a) (.int b)=(a==b):=id rfl
theorem aK0(a b:Str):eqD (.str a) (.str b)=(a==b):=id rfl
theorem aQ6(a:af)(b:Str):eqD (.int a) (.str b)=ai:=id rfl
theorem aQ7(a:Str)(b:af):eqD (.str a) (.int b)=ai:=id rfl
theorem aQ8(a b:aa D):eqD (.tup a) (.tup b)=qY a b:=id rfl
mutual
noncomputable def D.fV:ah->D->aq
 |n+1,.tup xs=>D.cH n xs
 |n+1,.lst xs=>D.cH n xs
 |n+1,.scr xs=>D.cH n xs
 |0,.tup _=>ai
 |0,.lst _=>ai
 |0,.scr _=>ai
 |_,.dct _=>ai
 |_,.uD=>ai
 |_,_=>ag
noncomputable def D.cH:ah->aa D->aq
 |_,[]=>ag
 |n,x::xs=>D.fV n x&&D.cH n xs
end
inductive jG where|lt|le|gt|ge
 deriving fF
def jG.int:jG->af->af->aq
 |.lt,a,b=>ϒ (a<b)|.le,a,b=>ϒ (a<=b)|.gt,a,b=>ϒ (b<a)|.ge,a,b=>ϒ (b<=a)
def jG.nat:jG->ah->ah->aq
 |.lt,a,b=>ϒ (a<b)|.le,a,b=>ϒ (a<=b)|.gt,a,b=>ϒ (b<a)|.ge,a,b=>ϒ (b<=a)
noncomputable def WF(a b:Str):aq:=ϒ (a.cps.toList<b.cps.toList)
def jG.str:jG->Str->Str->aq
 |.lt,a,b=>WF a b|.le,a,b=>!WF b a|.gt,a,b=>WF b a|.ge,a,b=>!WF a b
mutual
noncomputable def jY(o:jG):D->D->az aq
 |.int a,.int b=>ae (o.int a b)
 |.str a,.str b=>ae (o.str a b)
 |.tup xs,.tup ys=>dY o xs ys
 |.scr xs,.scr ys=>dY o xs ys
 |.lst xs,.scr ys=>dY o xs ys
 |_,_=>aj
noncomputable def dY(o:jG):aa D->aa D->az aq
 |[],ys=>ae (o.nat 0 ys.length)
 |x::xs,[]=>ae (o.nat (x::xs).length 0)
 |x::xs,y::ys=>if eqD x y then dY o xs ys else jY o x y
end
inductive Res(α:Type) where
 |ok (a:α)|err (c:Str) (as:aa D)|bad
noncomputable def Res.bind{α β:Type}:Res α->(α->Res β)->Res β
 |.ok a,f=>f a
 |.err c as,_=>.err c as
 |.bad,_=>.bad
noncomputable instance:Monad Res where
 pure:=.ok
 bind:=Res.bind
@[simp] theorem Res.aW(a:α)(f:α->Res β):((Res.ok a) >>= f)=f a:=rfl
@[simp] theorem Res.aSp(c:Str)(as:aa D)(f:α->Res β):((Res.err c as:Res α) >>= f)=.err c as:=rfl
@[simp] theorem Res.aSq(f:α->Res β):((Res.bad:Res α) >>= f)=.bad:=rfl
@[simp] theorem Res.pure_eq(a:α):(pure a:Res α)=.ok a:=rfl
def Res.aLs{f:α->Res β}(h:(m >>= f)=.ok b):∃a,m=.ok a/\f a=.ok b:=by
 cases m with
 |ok a=>exact⟨a,rfl,h⟩
 |err c as=>cases h
 |bad=>cases h
def bx{P:Prop}(h:(Res.bad:Res α)=.ok d):P:=by cases h
def fx0{P:Prop}(h:ai=ag):P:=by cases h
def nx0{P:Prop}(h:(aj:az α)=ae d):P:=by cases h
noncomputable def Res.ofOpt{α:Type}:az α->Res α
 |some a=>.ok a
 |none=>.bad
@[simp] theorem Res.aOs(a:α):Res.ofOpt (ae a)=.ok a:=rfl
def Res.oY(h:Res.ofOpt o=.ok a):o=ae a:=by
 cases o with
 |none=>cases h
 |some b=>cases h;rfl
noncomputable def lim:ah:=1000000
inductive Bop where|add|sub|mul|fdiv|mod|pow
 deriving fF
inductive Cop where|eq|ne|ord (o:jG)|isin|uF|isN|notN
 deriving fF
noncomputable def nZ(i:af):aq:=ϒ (-(2 ^ 64)<i)&&ϒ (i<2 ^ 64)
def bQ:Bop->D->D->Res D
 |.add,.int a,.int b=>.ok (.int (a+b))
 |.sub,.int a,.int b=>.ok (.int (a-b))
 |.mul,.int a,.int b=>if nZ a||nZ b then .ok (.int (a*b)) else .bad
 |.fdiv,.int a,.int b=>if ϒ (0<b)&&ϒ (b<1073741824) then .ok (.int (a / b)) else .bad
 |.mod,.int a,.int b=>if ϒ (0<b) then .ok (.int (a % b)) else .bad
 |.pow,.int a,.int b=>if ϒ (0<=b)&&ϒ (b<=1000000)&&ϒ (a.natAbs<2 ^ 64) then .ok (.int (a ^ b.toNat)) else .bad
 |.add,.str a,.str b=>if ϒ (a.length+b.length<=lim) then .ok (.str (a++b)) else .bad
 |.add,.lst a,.lst b=>if ϒ (a.length+b.length<=lim)&&D.aY a&&D.aY b then .ok (.lst (a++b)) else .bad
 |_,_,_=>.bad
def aUo:D->Res aq
 |.non=>.ok ai
 |.bl b=>.ok b
 |.int i=>.ok (i !=0)
 |.str x=>if ϒ (x.length<=lim) then .ok ((x.length:af)!=0) else .bad
 |.tup xs=>.ok (!xs.isEmpty)
 |.lst xs=>.ok (!xs.isEmpty)
 |.dct kvs=>.ok (!kvs.isEmpty)
 |.uD=>.bad
 |.scr xs=>.ok (!xs.isEmpty)
noncomputable def oZ:D->aq
 |.int _=>ag
 |.str _=>ag
 |_=>ai
def keyOk:D->aq
 |.int _=>ag
 |.str _=>ag
 |.tup xs=>xs.all oZ
 |_=>ai
noncomputable def isTup:D->aq
 |.tup _=>ag
 |_=>ai
def bL:aa (D×D)->D->az D
 |[],_=>aj
 | (k,v)::r,q=>if eqD k q then ae v else bL r q
def putD:aa (D×D)->D->D->aa (D×D)
 |[],q,w=>[(q,w)]
 | (k,v)::r,q,w=>if eqD k q then (k,w)::r else (k,v)::putD r q w
def o7(kvs:aa (D×D))(k:D):aq:=keyOk k&&kvs.all (λp=>isTup p.1==isTup k)
noncomputable def aR:ah:=12
def bY:Cop->D->D->Res D
 |.eq,a,b=>if a.fV aR&&b.fV aR then .ok (.bl (eqD a b)) else .bad
 |.ne,a,b=>if a.fV aR&&b.fV aR then .ok (.bl (!eqD a b)) else .bad
 |.ord o,a,b=>if a.fV aR&&b.fV aR then (match jY o a b with|some k=>.ok (.bl k)|none=>.bad) else .bad
 |.isin,a,.tup ys=>if a.fV aR&&D.cH aR ys then .ok (.bl (ys.any λy=>eqD y a)) else .bad
 |.isin,a,.lst ys=>if a.fV aR&&D.cH aR ys then .ok (.bl (ys.any λy=>eqD y a)) else .bad
 |.isin,a,.dct kvs=>if o7 kvs a then .ok (.bl (bL kvs a).isSome) else .bad
 |.uF,a,.tup ys=>if a.fV aR&&D.cH aR ys then .ok (.bl (!(ys.any λy=>eqD y a))) else .bad
 |.uF,a,.lst ys=>if a.fV aR&&D.cH aR ys then .ok (.bl (!(ys.any λy=>eqD y a))) else .bad
 |.uF,a,.dct kvs=>if o7 kvs a then .ok (.bl (!(bL kvs a).isSome)) else .bad
 |.isN,.scr _,.non=>.bad
 |.notN,.scr _,.non=>.bad
 |.isN,.non,.non=>.ok (.bl ag)
 |.isN,a,.non=>.ok (.bl ai)
 |.notN,.non,.non=>.ok (.bl ai)
 |.notN,a,.non=>.ok (.bl ag)
 |_,_,_=>.bad
noncomputable def ixD(n:ah)(i:af):az ah:=if 0<=i then (if i<n then ae i.toNat else aj) else if -(n:af)<=i then ae (i+n).toNat else aj
def getD(d i:D):Res D:=
 match d,i with
 |.tup xs,.int i=>Res.ofOpt ((ixD xs.length i).bind λj=>xs[j]?)
 |.lst xs,.int i=>Res.ofOpt ((ixD xs.length i).bind λj=>xs[j]?)
 |.scr xs,.int i=>Res.ofOpt ((ixD xs.length i).bind λj=>xs[j]?)
 |.str x,.int i=>if ϒ (x.length<=lim) then Res.ofOpt (((ixD x.cps.toList.length i).bind λj=>x.cps.toList[j]?).map λc=>D.str ⟨#[c]⟩) else .bad
 |.dct kvs,k=>if keyOk k then Res.ofOpt (bL kvs k) else .bad
 |_,_=>.bad
noncomputable def xW(n d:ah):az af->ah
 |none=>d
 |some v=>if v<0 then (max (v+(n:af)) 0).toNat else (min v (n:af)).toNat
def cutD{α:Type}(xs:aa α)(lo hi:az af):aa α:=(xs.drop (xW xs.length 0 lo)).take (xW xs.length xs.length hi-xW xs.length 0 lo)
inductive Ty where|int|str|bool|list|tuple|dict
 deriving fF
noncomputable def aTj:Ty->D->Res aq
 |_,.uD=>.bad
 |_,.scr _=>.bad
 |.int,.int _=>.ok ag
 |.int,.bl _=>.ok ag
 |.bool,.bl _=>.ok ag
 |.str,.str _=>.ok ag
 |.tuple,.tup _=>.ok ag
 |.list,.lst _=>.ok ag
 |.dict,.dct _=>.ok ag
 |_,_=>.ok ai
mutual
noncomputable def D.plain:D->aq
 |.int _=>ag
 |.str _=>ag
 |.tup xs=>D.dZ xs
 |.scr xs=>D.dZ xs
 |_=>ai
noncomputable def D.dZ:aa D->aq
 |[]=>ag
 |x::xs=>x.plain&&D.dZ xs
end
mutual
noncomputable def enc:D->aa af
 |.int i=>[0,i]
 |.str x=>1::(x.cps.toList.map (λ(c:ah)=>(c:af)+1)++[0])
 |.tup xs=>2::jX xs
 |.scr xs=>3::jX xs
 |_=>[]
noncomputable def jX:aa D->aa af
 |[]=>[0]
 |x::xs=>1::(enc x++jX xs)
end
noncomputable def fY:D->ah
 |.int _=>1
 |.str _=>2
 |.tup (.int _::_)=>3
 |.tup (.str _::_)=>4
 |.tup (.tup _::_)=>5
 |.tup (.scr _::_)=>6
 |_=>0
def bF(xs:aa D):aq:=xs.all λa=>a.plain&&a.fV aR&&fY a !=0&&fY a==fY (xs.headD .non)&&xs.all λb=>(jY .lt a b).isSome
def leE(a b:D):aq:=!ϒ (enc b<enc a)
def iK(xs:aa D):aa D:=xs.mergeSort leE
noncomputable def z_(i:af):aq:=ϒ (-(2 ^ 62)<=i)&&ϒ (i<2 ^ 62)
noncomputable def asB:D->Res aq
 |.bl b=>.ok b
 |_=>.bad
noncomputable def asI:D->Res af
 |.int i=>.ok i
 |_=>.bad
inductive Fl where
 |nx (ρ:aa D)|rt (d:D)|bk (ρ:aa D)|ct (ρ:aa D)
noncomputable def aDp:Fl->Res D
 |.rt d=>.ok d
 |.nx _=>.ok .non
 |_=>.bad
noncomputable abbrev FE:=aa D->Res D
noncomputable abbrev FT:=aa D->Res aq
noncomputable abbrev FA:=aa D->Res (aa D)
noncomputable def fZ(i:ah):FE:=λρ=>match ρ.getD i .uD with|.uD=>.bad|d=>.ok d
noncomputable def bC(d:D):FE:=λ_=>.ok d
abbrev gD:FE:= fZ 1
abbrev cQ:FE:= fZ 0
abbrev wO:FE:= fZ 8
abbrev fW:FE:= fZ 4
abbrev o8:FE:= fZ 7
abbrev gK:FE:= fZ 2
abbrev lH:FE:= fZ 6
abbrev xX:FE:= fZ 9
abbrev j6:FE:= fZ 3
abbrev gH:FE:= fZ 5
abbrev iH:FE:= fZ 10
abbrev Q5:FE:= fZ 12
abbrev uA:FE:= fZ 13
abbrev Q6:FE:= fZ 11
abbrev dM:FE:= bC (.int 0)
abbrev rB:FE:= bC (.int 2)
abbrev fJ:FE:= bC (.int 1)
abbrev aDq:FE:= bC (.int 128)
abbrev aLt:FE:= bC (.int 26)
abbrev aBk:FE:= bC (.int 4)
abbrev aH8:FE:= bC (.int 5)
abbrev WK:FE:= bC (.int 8)
abbrev aQ9:FE:= bC (.int 3)
abbrev aHs:FE:= bC (.int 6)
abbrev aSr:FE:= bC (.int 7)
noncomputable def b2(f:D->D->Res D)(a b:FE):FE:=λρ=>do let x <- a ρ;let y <- b ρ;f x y
noncomputable def b1(f:D->Res D)(a:FE):FE:=λρ=>do let x <- a ρ;f x
def bTB(a:FE):FT:=λρ=>do let x <- a ρ;asB x
noncomputable def aCr(a:FT):FT:=λρ=>do let x <- a ρ;pure (!x)
noncomputable def A_(a b:FT):FT:=λρ=>do let x <- a ρ;if x then b ρ else pure ai
noncomputable def bOr(a b:FT):FT:=λρ=>do let x <- a ρ;if x then pure ag else b ρ
def aQa(a:FE):FE:=λρ=>do let x <- a ρ;let k <- asB x;pure (.bl (!k))
def KN(a b:FE):FE:=λρ=>do let x <- a ρ;let k <- asB x;if k then b ρ else pure (.bl ai)
noncomputable def bIf(c:FT)(a b:FE):FE:=λρ=>do let k <- c ρ;if k then a ρ else b ρ
def bCh(f g:D->D->Res D)(a b c:FE):FE:=λρ=>do let x <- a ρ;let y <- b ρ;let z <- f x y;let k <- asB z;if k then (do let u <- c ρ;g y u) else pure (.bl ai)
noncomputable def aV:FA:=λ_=>.ok []
noncomputable def aD(a:FE)(b:FA):FA:=λρ=>do let x <- a ρ;let xs <- b ρ;pure (x::xs)
def fP(a:FA):FE:=λρ=>do let xs <- a ρ;if ϒ (xs.length<=lim) then pure (.tup xs) else .bad
def QF(a:FA):FE:=λρ=>do let xs <- a ρ;if ϒ (xs.length<=lim) then pure (.lst xs) else .bad
noncomputable def aN(f:aa D->Res D)(a:FA):FE:=λρ=>do let xs <- a ρ;f xs
noncomputable def bM(f:D->aa D->Res D)(o:FE)(a:FA):FE:=λρ=>do let x <- o ρ;let xs <- a ρ;f x xs
def wW(a:FE):aa D->Res (az af):=λρ=>do let x <- a ρ;let i <- asI x;pure (ae i)
noncomputable def aDr:aa D->Res (az af):=λ_=>.ok aj
def aTk:D->Res aq
 |.dct _=>.bad
 |.scr _=>.bad
 |d=>aUo d
def bTr(a:FE):FT:=λρ=>do let x <- a ρ;aTk x
noncomputable def aTl:D->Res D
 |.int i=>.ok (.int (-i))
 |_=>.bad
def aBl:D->az af->az af->Res D
 |.lst xs,lo,hi=>if D.aY xs then .ok (.lst (cutD xs lo hi)) else .bad
 |.scr xs,lo,hi=>if D.aY xs then .ok (.lst (cutD xs lo hi)) else .bad
 |.tup xs,lo,hi=>if !D.aY xs||ϒ (xW xs.length 0 lo=0/\xW xs.length xs.length hi=xs.length) then .bad else .ok (.tup (cutD xs lo hi))
 |_,_,_=>.bad
def aCs(a:FE)(lo hi:aa D->Res (az af)):FE:=λρ=>do let x <- a ρ;let l <- lo ρ;let h <- hi ρ;aBl x l h
def uP(o:jG):aa D->Res D
 |[]=>.bad
 |x::xs=>if ((x::xs).all λa=>a.fV aR&&(x::xs).all λb=>(jY o a b).isSome) then .ok (xs.foldl (λm y=>if (jY o y m).getD ai then y else m) x) else .bad
def btD(o:jG)(ds:aa D)(i j:ah):aq:=(jY o (ds.getD i .non) (ds.getD j .non)).getD ai
def cZ(o:jG):aa D->Res D
 |[.lst xs]=>uP o xs
 |[.tup xs]=>uP o xs
 |[a,b]=>uP o [a,b]
 |_=>.bad
def gV:aa D->Res D
 |[.tup xs]=>.ok (.int xs.length)
 |[.lst xs]=>.ok (.int xs.length)
 |[.scr xs]=>.ok (.int xs.length)
 |[.str x]=>if ϒ (x.length<=lim) then .ok (.int x.length) else .bad
 |_=>.bad
noncomputable def nQ(kvs:aa (D×D)):aa D:=kvs.map (·.1)
def KQ:aa D->Res D
 |[.tup xs]=>if D.aY xs then .ok (.lst xs) else .bad
 |[.lst xs]=>if D.aY xs then .ok (.lst xs) else .bad
 |[.dct kvs]=>if kvs.all (λp=>!isTup p.1) then .ok (.lst (nQ kvs)) else .bad
 |_=>.bad
noncomputable def nA:aa D->Res D
 |[.tup xs]=>.ok (.tup xs)
 |[.lst xs]=>.ok (.tup xs)
 |_=>.bad
def fD:aa D->Res D
 |[.lst xs]=>if bF xs then .ok (.lst (iK xs)) else .bad
 |_=>.bad
noncomputable def Ty.nm:Ty->en
 |.int=>"int" | .str=>"str" | .bool=>"bool" | .list=>"list" | .tuple=>"tuple" | .dict=>"dict"
def aDs(t:Ty)(d:D):Res D:=do let k <- aTj t d;pure (.bl k)
def aLu:D->aa D->Res D
 |.dct kvs,[k]=>if o7 kvs k then .ok ((bL kvs k).getD .non) else .bad
 |.dct kvs,[k,e]=>if o7 kvs k then .ok ((bL kvs k).getD e) else .bad
 |_,_=>.bad
noncomputable def bV(n:ah)(f:aa D->Res D):aa D->Res D:=λds=>if ϒ (ds.length=n) then f ds else .bad
noncomputable abbrev FI:=aa D->Res (aa D×aq)
noncomputable def vQ:D->Res (aa D)
 |.lst xs=>.ok xs
 |.tup xs=>.ok xs
 |_=>.bad
def b_(a:FE)(fr:aq):FI:=λρ=>do let x <- a ρ;let xs <- vQ x;pure (xs,fr||x.pure)
def rC:aa D->Res (aa D×aq)
 |[.int n]=>if z_ n then .ok ((bn n.toNat).map λ(k:ah)=>D.int (0+(k:af)),ag) else .bad
 |_=>.bad
noncomputable def uB(f:FA)(g:aa D->Res (aa D×aq)):FI:=λρ=>do let xs <- f ρ;g xs
noncomputable def ZP(n:ah)(ρ:aa D):aa D:=(bn n).map λi=>ρ.getD i .uD
noncomputable def uQ:D->Res (aa D):=λd=>.ok [d]
noncomputable def JG(m:ah):D->Res (aa D)
 |.tup ds=>if ϒ (ds.length=m) then .ok ds else .bad
 |_=>.bad
def rD(n:ah)(t:D->Res (aa D))(c:FT)(f:FE)(k:aq)(ρ:aa D)(acc:aa D)(x:D):Res (aa D):=do
 let bs <- t x
 let ok <- c (ZP n ρ++bs)
 if ok then (do
  let y <- f (ZP n ρ++bs)
  if k||y.pure then pure (acc++[y]) else .bad)
 else pure acc
noncomputable def o9(g:aa D->D->Res (aa D)):aa D->aa D->Res (aa D)
 |acc,[]=>.ok acc
 |acc,x::xs=>do let a <- g acc x;o9 g a xs
def dR(n:ah)(it:FI)(t:D->Res (aa D))(c:FT)(f:FE)(k:aq):FE:=λρ=>do
 let xs <- it ρ
 if ϒ (xs.1.length<=lim) then (do
  let ys <- o9 (rD n t c f k ρ) [] xs.1
  pure (.lst ys)) else .bad
noncomputable def gB:FT:=λ_=>.ok ag
noncomputable abbrev FS:=aa D->Res Fl
def inner:D->aq
 |.lst xs=>D.aY xs
 |.dct kvs=>D.aY (kvs.map (·.2))
 |_=>ai
noncomputable def o_:FS:=λρ=>.ok (.nx ρ)
noncomputable def bO(f g:FS):FS:=λρ=>do
 let r <- f ρ
 match r with
 |.nx ρ'=>g ρ'
 |r=>.ok r
def cR(o:aq)(i:ah)(f:FE)(k:aq):FS:=λρ=>do
 let d <- f ρ
 if (if o then k&&inner d else k||d.pure) then .ok (.nx (ρ.set i d)) else .bad
def sAl(i j:ah):FS:=λρ=>do
 let d <- fZ j ρ
 .ok (.nx (ρ.set i d))
noncomputable def sIf(c:FT)(f g:FS):FS:=λρ=>do
 let k <- c ρ
 if k then f ρ else g ρ
noncomputable def lJ(f:FE)(k:aq):FS:=λρ=>do
 let d <- f ρ
 if k||d.pure then .ok (.rt d) else .bad
def WL(i:ah):FS:=λρ=>do
 let d <- fZ i ρ
 .ok (.rt d)
noncomputable def rtX:ah:=1000000
def BJ(i:ah)(f:FE):FS:=λρ=>do
 let d <- f ρ
 match ρ.getD i .uD with
 |.lst xs=>if ϒ (xs.length<lim)&&d.pure then .ok (.nx (ρ.set i (.lst (xs++[d])))) else .bad
 |_=>.bad
def aSs(i:ah)(f:FE)(g:FE):FS:=λρ=>do
 let j <- f ρ
 let d <- g ρ
 match ρ.getD i .uD,j with
 |.lst xs,.int j=>if ϒ (xs.length<lim)&&d.pure&&ϒ (0<=j)&&ϒ (j<=xs.length) then .ok (.nx (ρ.set i (.lst (xs.take j.toNat++d::xs.drop j.toNat)))) else .bad
 |_,_=>.bad
def QG(i:ah)(f:FE)(g:FE):FS:=λρ=>do
 let d <- g ρ
 let k <- f ρ
 match ρ.getD i .uD with
 |.dct kvs=>if ϒ (kvs.length<lim)&&o7 kvs k&&d.pure then .ok (.nx (ρ.set i (.dct (putD kvs k d)))) else .bad
 |_=>.bad
noncomputable def tg1(i:ah):D->aa D->Res (aa D):=λd ρ=>.ok (ρ.set i d)
noncomputable def aBm:aa ah->aa D->aa D->aa D
 |i::is,d::ds,ρ=>aBm is ds (ρ.set i d)
 |_,_,ρ=>ρ
def tgN(is:aa ah):D->aa D->Res (aa D)
 |.tup ds,ρ=>if ϒ (ds.length=is.length) then .ok (aBm is ds ρ) else .bad
 |_,_=>.bad
noncomputable def vR(t:D->aa D->Res (aa D))(body:FS):aa D->aa D->Res Fl
 |[],ρ=>.ok (.nx ρ)
 |x::xs,ρ=>do
  let ρ1 <- t x ρ
  let r <- body ρ1
  match r with
  |.nx ρ'=>vR t body xs ρ'
  |.ct ρ'=>vR t body xs ρ'
  |.bk ρ'=>.ok (.nx ρ')
  |.rt d=>.ok (.rt d)
def BK(it:FI)(t:D->aa D->Res (aa D))(body:FS):FS:=λρ=>do
 let xs <- it ρ
 if xs.2 then vR t body xs.1 ρ else .bad
def aBn(i:ah)(t:D->aa D->Res (aa D))(body:FS):FS:=λρ=>do
 let d <- fZ i ρ
 let xs <- vQ d
 vR t body xs ρ
def fnS(n m:ah)(f:FS):aa D->Res D:=λds=>do
 let r <- f (ds++dg (m-n) .uD)
 aDp r
mutual
theorem aDt(a b:D)(h1:a.plain=ag)(h2:b.plain=ag)(h:eqD a b=ag):a=b:=by
 cases a with
 |int i=>
  cases b with
  |int j=>rw[eq_of_beq (show(i==j)=ag from h)]
  |str _=>exact fx0 h
  |tup _=>exact fx0 h
  |scr _=>exact fx0 h
  |_=>exact fx0 h2
 |str i=>
  cases b with
  |str j=>rw[eq_of_beq (show(i==j)=ag from h)]
  |int _=>exact fx0 h
  |tup _=>exact fx0 h
  |scr _=>exact fx0 h
  |_=>exact fx0 h2
 |tup xs=>
  cases b with
  |tup ys=>rw[KR xs ys h1 h2 h]
  |int _=>exact fx0 h
  |str _=>exact fx0 h
  |scr _=>exact fx0 h
  |_=>exact fx0 h2
 |scr xs=>
  cases b with
  |scr ys=>rw[KR xs ys h1 h2 h]
  |int _=>exact fx0 h
  |str _=>exact fx0 h
  |tup _=>exact fx0 h
  |_=>exact fx0 h2
 |_=>exact fx0 h1
theorem KR:∀(a b:aa D),D.dZ a=ag->D.dZ b=ag->qY a b=ag->a=b
 |[],[],_,_,_=>rfl
 |x::xs,y::ys,h1,h2,h=>by
  rw[D.dZ,bj] at h1 h2;rw[qY,bj] at h;rw[aDt x y h1.1 h2.1 h.1,KR xs ys h1.2 h2.2 h.2]
 |[],_::_,_,_,h=>by exact fx0 h
 |_::_,[],_,_,h=>by exact fx0 h
end
mutual
theorem yR(a:D)(h:a.plain=ag):eqD a a=ag:=by
 cases a with
 |int i=>exact ow i
 |str i=>exact ow i
 |tup xs=>exact rE xs h
 |scr xs=>exact rE xs h
 |_=>exact fx0 h
theorem rE:∀(a:aa D),D.dZ a=ag->qY a a=ag
 |[],_=>rfl
 |x::xs,h=>by
  rw[D.dZ,bj] at h;rw[qY,yR x h.1,rE xs h.2];rfl
end
theorem aDu:∀(a b:aa ah)(r t:aa af),(a.map (λ(c:ah)=>(c:af)+1)++[0])++r=(b.map (λ(c:ah)=>(c:af)+1)++[0])++t->a=b/\r=t
 |[],[],r,t,h=>by simpa using h
 |[],c::b,r,t,h=>by
  simp only[jk,eJ,eu,ba,iu] at h;lia
 |c::a,[],r,t,h=>by
  simp only[jk,eJ,eu,ba,iu] at h;lia
 |c::a,d::b,r,t,h=>by
  simp only[eu,ba,iu] at h;obtain⟨e1,e2⟩:=aDu a b r t h.2;exact⟨by rw[e1,show c=d by lia],e2⟩
mutual
theorem rF:∀(a b:D)(r t:aa af),a.plain=ag->b.plain=ag->enc a++r=enc b++t->a=b/\r=t
 |.int i,b,r,t,_,h2,h=>by
  cases b<;>simp only[enc,D.plain,iv,eu,iu,eJ] at h h2<;>try omega
  .exact⟨by rw[h.2.1],h.2.2⟩
 |.str x,b,r,t,_,h2,h=>by
  cases b with
  |str y=>
   simp only[enc,eu,iu,true_and] at h;obtain⟨e1,e2⟩:=aDu _ _ _ _ h;refine⟨?_,e2⟩;cases x;cases y;simp only[] at e1
   congr 2
   exact mI.mp e1
  |_=>simp[enc,D.plain] at h h2
 |.tup xs,b,r,t,h1,h2,h=>by
  cases b with
  |tup ys=>
   rw[D.plain] at h1 h2;simp only[enc,eu,iu,true_and] at h;obtain⟨e1,e2⟩:=vU xs ys r t h1 h2 h;exact⟨by rw[e1],e2⟩
  |_=>simp[enc,D.plain] at h h2
 |.scr xs,b,r,t,h1,h2,h=>by
  cases b with
  |scr ys=>
   rw[D.plain] at h1 h2;simp only[enc,eu,iu,true_and] at h;obtain⟨e1,e2⟩:=vU xs ys r t h1 h2 h;exact⟨by rw[e1],e2⟩
  |_=>simp[enc,D.plain] at h h2
 |.uD,_,_,_,h,_,_=>by simp[D.plain] at h
 |.non,_,_,_,h,_,_=>by simp[D.plain] at h
 |.bl _,_,_,_,h,_,_=>by simp[D.plain] at h
 |.lst _,_,_,_,h,_,_=>by simp[D.plain] at h
 |.dct _,_,_,_,h,_,_=>by simp[D.plain] at h
theorem vU:∀(a b:aa D)(r t:aa af),D.dZ a=ag->D.dZ b=ag->jX a++r=jX b++t->a=b/\r=t
 |[],[],r,t,_,_,h=>by simpa[jX] using h
 |[],_::_,r,t,_,_,h=>by simp[jX] at h
 |_::_,[],r,t,_,_,h=>by simp[jX] at h
 |x::xs,y::ys,r,t,h1,h2,h=>by
  rw[D.dZ,bj] at h1 h2;simp only[jX,eu,iu,true_and,c6] at h;obtain⟨e1,e2⟩:=rF x y _ _ h1.1 h2.1 h;obtain⟨e3,e4⟩:=vU xs ys r t h1.2 h2.2 e2;exact⟨by rw[e1,e3],e4⟩
end
def aLv(h1:a.plain=ag)(h2:b.plain=ag)(h:enc a=enc b):a=b:=(rF a b [] [] h1 h2 (by rw[h])).1
def uR(p:aa af)(r t:aa af):p++r<p++t↔r<t:=by
 induction p with
 |nil=>rfl
 |cons x p ih=>rw[eu,eu,eL];simp[ih]
theorem ZQ:∀(u v r t:aa af),(∀z,u++z≠v)->(∀z,v++z≠u)->(u++r<v++t↔u<v)
 |[],v,_,_,h,_=>aT rfl (h v)
 |u,[],_,_,_,h=>aT rfl (h u)
 |x::u,y::v,r,t,h1,h2=>by
  rw[eu,eu,eL,eL];by_cases e:x=y
  .subst e;have:=ZQ u v r t (λz hz=>h1 z (by rw[eu,hz])) (λz hz=>h2 z (by rw[eu,hz]));simp[this]
  .simp[e]
theorem aDv:∀(a b:aa ah),(a.map (λ(c:ah)=>(c:af)+1)++[0]<b.map (λ(c:ah)=>(c:af)+1)++[0])↔a<b
 |[],[]=>by simp
 |[],c::b=>by
  simp only[jk,eJ,ba,eu,eL,List.nil_lt_cons,iff_true]
  left;lia
 |c::a,[]=>by
  simp only[jk,eJ,ba,eu,eL,List.not_lt_nil,iff_false,gz,not_and];exact⟨by lia,λh=>by lia⟩
 |c::a,d::b=>by
  simp only[ba,eu,eL,aDv a b];constructor
  .rintro(h|⟨h,k⟩)
   .left;lia
   .right;exact⟨by lia,k⟩
  .rintro(h|⟨h,k⟩)
   .left;lia
   .right;exact⟨by lia,k⟩
mutual
theorem BL:∀(a b:D)(k:aq),a.plain=ag->b.plain=ag->jY .lt a b=ae k->k=ϒ (enc a<enc b)
 |.int i,.int j,k,_,_,h=>by
  rw[jY] at h;rw[<-di h];simp[enc,jG.int,eL]
 |.str x,.str y,k,_,_,h=>by
  rw[jY] at h;rw[<-di h];have:=aDv x.cps.toList y.cps.toList;simp only[enc,jG.str,WF,eL,true_and];simp[this]
 |.tup xs,.tup ys,k,h1,h2,h=>by
  rw[D.plain] at h1 h2;rw[jY] at h;rw[yS xs ys k h1 h2 h];simp[enc,eL]
 |.int _,.str _,_,_,_,h=>by exact nx0 h
 |.int _,.tup _,_,_,_,h=>by exact nx0 h
 |.int _,.uD,_,_,_,h=>by exact nx0 h
 |.int _,.scr _,_,_,_,h=>by exact nx0 h
 |.int _,.non,_,_,_,h=>by exact nx0 h
 |.int _,.bl _,_,_,_,h=>by exact nx0 h
 |.int _,.lst _,_,_,_,h=>by exact nx0 h
 |.int _,.dct _,_,_,_,h=>by exact nx0 h
 |.str _,.int _,_,_,_,h=>by exact nx0 h
 |.str _,.tup _,_,_,_,h=>by exact nx0 h
 |.str _,.uD,_,_,_,h=>by exact nx0 h
 |.str _,.scr _,_,_,_,h=>by exact nx0 h
 |.str _,.non,_,_,_,h=>by exact nx0 h
 |.str _,.bl _,_,_,_,h=>by exact nx0 h
 |.str _,.lst _,_,_,_,h=>by exact nx0 h
 |.str _,.dct _,_,_,_,h=>by exact nx0 h
 |.tup _,.int _,_,_,_,h=>by exact nx0 h
 |.tup _,.str _,_,_,_,h=>by exact nx0 h
 |.tup _,.uD,_,_,_,h=>by exact nx0 h
 |.tup _,.scr _,_,_,_,h=>by exact nx0 h
 |.tup _,.non,_,_,_,h=>by exact nx0 h
 |.tup _,.bl _,_,_,_,h=>by exact nx0 h
 |.tup _,.lst _,_,_,_,h=>by exact nx0 h
 |.tup _,.dct _,_,_,_,h=>by exact nx0 h
 |.scr xs,.scr ys,k,h1,h2,h=>by
  rw[D.plain] at h1 h2;rw[jY] at h;rw[yS xs ys k h1 h2 h];simp[enc,eL]
 |.scr _,.int _,_,_,_,h=>by exact nx0 h
 |.scr _,.str _,_,_,_,h=>by exact nx0 h
 |.scr _,.tup _,_,_,_,h=>by exact nx0 h
 |.scr _,.uD,_,_,_,h=>by exact nx0 h
 |.scr _,.non,_,_,_,h=>by exact nx0 h
 |.scr _,.bl _,_,_,_,h=>by exact nx0 h
 |.scr _,.lst _,_,_,_,h=>by exact nx0 h
 |.scr _,.dct _,_,_,_,h=>by exact nx0 h
 |.uD,_,_,h,_,_=>by simp[D.plain] at h
 |.non,_,_,h,_,_=>by simp[D.plain] at h
 |.bl _,_,_,h,_,_=>by simp[D.plain] at h
 |.lst _,_,_,h,_,_=>by simp[D.plain] at h
 |.dct _,_,_,h,_,_=>by simp[D.plain] at h
theorem yS:∀(a b:aa D)(k:aq),D.dZ a=ag->D.dZ b=ag->dY .lt a b=ae k->k=ϒ (jX a<jX b)
 |[],[],k,_,_,h=>by rw[dY] at h;rw[<-di h];simp[jX,jG.nat]
 |[],y::ys,k,_,_,h=>by rw[dY] at h;rw[<-di h];simp[jX,jG.nat,eL]
 |x::xs,[],k,_,_,h=>by rw[dY] at h;rw[<-di h];simp[jX,jG.nat,eL]
 |x::xs,y::ys,k,h1,h2,h=>by
  rw[D.dZ,bj] at h1 h2;rw[dY] at h;simp only[jX,eL,true_and,ox,false_or];cases e:eqD x y with
  |true=>
   rw[e,ao rfl] at h;have:=aDt x y h1.1 h2.1 e;subst this;rw[yS xs ys k h1.2 h2.2 h];simp[uR]
  |false=>
   rw[e,ap 0x2] at h;rw[BL x y k h1.1 h2.1 h];have hne:x≠y:=λz=>by subst z;rw[yR x h1.1] at e;cases e
   have:=ZQ (enc x) (enc y) (jX xs) (jX ys) (λz hz=>hne (rF x y z [] h1.1 h2.1 (by simpa using hz)).1) (λz hz=>hne (rF y x z [] h2.1 h1.1 (by simpa using hz)).1.symm);simp[this]
end
def aDw(a b c:D)(h1:leE a b=ag)(h2:leE b c=ag):leE a c=ag:=by
 simp only[leE,jm,ly] at *;exact λh=>by
  rcases(inferInstance:Std.Trichotomous (α:=aa af) (·<·)) with _
  exact h1 (w8 (lI.mp h2) h)
def aDx(a b:D):(leE a b||leE b a)=ag:=by
 simp only[leE,jn,jm,ly];by_cases h:enc b<enc a
 .right;exact w_ h
 .left;exact h
def cA(ds:aa D):(iK ds).Perm ds:=List.mergeSort_perm ds leE
def dU(ds:aa D):(iK ds).Pairwise λa b=>leE a b=ag:=List.pairwise_mergeSort (λa b c=>aDw a b c) (λa b=>aDx a b) ds
def n_{ds es:aa D}(hp:∀d∈ds,d.plain=ag)(h:ds.Perm es)(h1:ds.Pairwise λa b=>leE a b=ag)(h2:es.Pairwise λa b=>leE a b=ag):ds=es:=by
 refine Dz (λa b ha hb h1 h2=>?_) h1 h2 h;simp only[leE,jm,ly] at h1 h2;exact aLv (hp a ha) (hp b (h.mem_iff.mpr hb)) (xg h1 h2)
open L2
class KFrag where
 K:cm
variable [KFrag]
def aDy(H:Hp)(a:am)(xs:aa V):Prop:=(∃o,H a=ae (.frz o (.lst xs)))\/
 ∃(o:bP)(its:ax ak)(n:ah),KFrag.K.lookup a=ae o/\o.cls=.type "list"/\o.dict=aj/\o.data=.seq its n/\its.size<=bg/\Vals xs its.toList
def aDy.sq(h:aDy H a xs)(hK:KFrag.K=K):SqL K H a xs:=by
 subst hK;rcases h with ⟨o,h⟩|h
 .exact .inl (.inr ⟨o,h⟩)
 .exact .inr h
noncomputable def kD:Key->D
 |.inl i=>.int i
 |.inr x=>.str x
noncomputable def aDz:HO->aq
 |.lst _=>ag
 |.dK _=>ag
 |.dT _=>ag
 |_=>ai
mutual
inductive Rep(P:am->Prop)(H:Hp):V->D->Prop
 |non:Rep P H .non .non
 |bl (b:aq):Rep P H (.bl b) (.bl b)
 |int (i:af):Rep P H (.int i) (.int i)
 |str (x:Str):Rep P H (.str x) (.str x)
 |tup {a:am} {xs:aa V} {ds:aa D}:H a=ae (.tup xs)->cL P H xs ds->Rep P H (.ref a) (.tup ds)
 |lst {a:am} {xs:aa V} {ds:aa D}:H a=ae (.lst xs)->P a->cL P H xs ds->Rep P H (.ref a) (.lst ds)
 |frz {a:am} {xs:aa V} {ds:aa D}:aDy H a xs->cL P H xs ds->Rep P H (.ref a) (.scr ds)
 |dK {a:am} {kvs:aa (Key×V)} {ds:aa (D×D)}:H a=ae (.dK kvs)->P a->oV P H kvs ds->(kvs.map (·.1)).Nodup->Rep P H (.ref a) (.dct ds)
 |dT {a:am} {kvs:aa (aa Key×V)} {ds:aa (D×D)}:H a=ae (.dT kvs)->P a->xY P H kvs ds->(kvs.map (·.1)).Nodup->Rep P H (.ref a) (.dct ds)
inductive cL(P:am->Prop)(H:Hp):aa V->aa D->Prop
 |nil:cL P H [] []
 |cons {v:V} {d:D} {vs:aa V} {ds:aa D}:Rep P H v d->cL P H vs ds->cL P H (v::vs) (d::ds)
inductive oV(P:am->Prop)(H:Hp):aa (Key×V)->aa (D×D)->Prop
 |nil:oV P H [] []
 |cons {k:Key} {v:V} {d:D} {r:aa (Key×V)} {ds:aa (D×D)}:Rep P H v d->oV P H r ds->oV P H ((k,v)::r) ((kD k,d)::ds)
inductive xY(P:am->Prop)(H:Hp):aa (aa Key×V)->aa (D×D)->Prop
 |nil:xY P H [] []
 |cons {k:aa Key} {v:V} {d:D} {r:aa (aa Key×V)} {ds:aa (D×D)}:Rep P H v d->xY P H r ds->xY P H ((k,v)::r) ((.tup (k.map kD),d)::ds)
end
def GX(P:am->Prop)(H H':Hp):Prop:=∀a o,H a=ae o->(P a\/aDz o=ai)->H' a=ae o
def GX.same(h:dO H H'):GX P H H':=λa o e _=>h a o e
mutual
theorem Rep.jH{P P':am->Prop}{H H':Hp}(k:GX P H H')(m:∀a o,H a=ae o->P a->P' a){v:V}{d:D}(q:Rep P H v d):Rep P' H' v d:=by
 cases q with
 |non=>exact .non
 |bl b=>exact .bl b
 |int i=>exact .int i
 |str x=>exact .str x
 |tup e r=>exact .tup (k _ _ e (.inr rfl)) (cL.jH k m r)
 |lst e p r=>exact .lst (k _ _ e (.inl p)) (m _ _ e p) (cL.jH k m r)
 |frz e r=>exact .frz (e.imp (λz=>z.imp λo e=>k _ _ e (.inr rfl)) id) (cL.jH k m r)
 |dK e p r n=>exact .dK (k _ _ e (.inl p)) (m _ _ e p) (oV.jH k m r) n
 |dT e p r n=>exact .dT (k _ _ e (.inl p)) (m _ _ e p) (xY.jH k m r) n
theorem cL.jH{P P':am->Prop}{H H':Hp}(k:GX P H H')(m:∀a o,H a=ae o->P a->P' a){v:aa V}{d:aa D}(q:cL P H v d):cL P' H' v d:=by
 cases q with
 |nil=>exact .nil
 |cons r t=>exact .cons (Rep.jH k m r) (cL.jH k m t)
theorem oV.jH{P P':am->Prop}{H H':Hp}(k:GX P H H')(m:∀a o,H a=ae o->P a->P' a){v:aa (Key×V)}{d:aa (D×D)}(q:oV P H v d):oV P' H' v d:=by
 cases q with
 |nil=>exact .nil
 |cons r t=>exact .cons (Rep.jH k m r) (oV.jH k m t)
theorem xY.jH{P P':am->Prop}{H H':Hp}(k:GX P H H')(m:∀a o,H a=ae o->P a->P' a){v:aa (aa Key×V)}{d:aa (D×D)}(q:xY P H v d):xY P' H' v d:=by
 cases q with
 |nil=>exact .nil
 |cons r t=>exact .cons (Rep.jH k m r) (xY.jH k m t)
end
def Rep.keep(k:GX P H H')(m:∀a,P a->P' a)(q:Rep P H v d):Rep P' H' v d:=q.jH k λa _ _=>m a
def cL.keep(k:GX P H H')(m:∀a,P a->P' a)(q:cL P H v d):cL P' H' v d:=q.jH k λa _ _=>m a
def oV.keep(k:GX P H H')(m:∀a,P a->P' a)(q:oV P H v d):oV P' H' v d:=q.jH k λa _ _=>m a
def xY.keep(k:GX P H H')(m:∀a,P a->P' a)(q:xY P H v d):xY P' H' v d:=q.jH k λa _ _=>m a
def Rep.mono(r:Rep P H v d)(m:∀a,P a->P' a):Rep P' H v d:=r.keep (λ_ _ e _=>e) m
def cL.mono(r:cL P H v d)(m:∀a,P a->P' a):cL P' H v d:=r.keep (λ_ _ e _=>e) m
def Rep.same(r:Rep P H v d)(s:dO H H'):Rep P H' v d:=r.keep (.same s) λ_ h=>h
def cL.same(r:cL P H v d)(s:dO H H'):cL P H' v d:=r.keep (.same s) λ_ h=>h
noncomputable def aLw:HO->aq
 |.tup _=>ai
 |.frz _ (.lst _)=>ai
 |_=>ag
mutual
theorem Rep.Q7{P P':am->Prop}{H H':Hp}(k:∀a o,H a=ae o->aLw o=ai->H' a=ae o){v:V}{d:D}(q:Rep P H v d)(h:d.pure=ag):Rep P' H' v d:=by
 cases q with
 |non=>exact .non
 |bl b=>exact .bl b
 |int i=>exact .int i
 |str x=>exact .str x
 |tup e r=>exact .tup (k _ _ e rfl) (cL.Q7 k r h)
 |frz e r=>exact .frz (e.imp (λz=>z.imp λo e=>k _ _ e rfl) id) (cL.Q7 k r h)
 |_=>exact fx0 h
theorem cL.Q7{P P':am->Prop}{H H':Hp}(k:∀a o,H a=ae o->aLw o=ai->H' a=ae o){v:aa V}{d:aa D}(q:cL P H v d)(h:D.aY d=ag):cL P' H' v d:=by
 cases q with
 |nil=>exact .nil
 |cons r t=>
  rw[D.aY,bj] at h;exact .cons (Rep.Q7 k r h.1) (cL.Q7 k t h.2)
end
def Rep.cU(r:Rep P H v d)(h:d.pure=ag):Rep P' H v d:=r.Q7 (λ_ _ e _=>e) h
def cL.cU(r:cL P H v d)(h:D.aY d=ag):cL P' H v d:=r.Q7 (λ_ _ e _=>e) h
theorem cL.length:∀{v:aa V}{d:aa D},cL P H v d->v.length=d.length
 |_,_,.nil=>rfl
 |_,_,.cons _ t=>by rw[b9,b9,cL.length t]
theorem cL.get:∀{vs:aa V}{ds:aa D}{i:ah}{d:D},cL P H vs ds->ds[i]?=ae d->∃v,vs[i]?=ae v/\Rep P H v d
 |_,_,_,_,.nil,e=>by simp at e
 |_,_,0,_,.cons r _,e=>by simp at e;subst e;exact⟨_,rfl,r⟩
 |_,_,i+1,d,.cons _ t,e=>by
  obtain⟨v,h1,h2⟩:=cL.get t (by simpa using e);exact⟨v,by simpa using h1,h2⟩
theorem cL.append:∀{vs ws:aa V}{ds es:aa D},cL P H vs ds->cL P H ws es->cL P H (vs++ws) (ds++es)
 |_,_,_,_,.nil,s=>s
 |_,_,_,_,.cons r t,s=>.cons r (cL.append t s)
theorem cL.take:∀{vs:aa V}{ds:aa D}(n:ah),cL P H vs ds->cL P H (vs.take n) (ds.take n)
 |_,_,0,_=>.nil
 |_,_,_+1,.nil=>.nil
 |_,_,n+1,.cons r t=>.cons r (cL.take n t)
theorem cL.drop:∀{vs:aa V}{ds:aa D}(n:ah),cL P H vs ds->cL P H (vs.drop n) (ds.drop n)
 |_,_,0,r=>r
 |_,_,_+1,.nil=>.nil
 |_,_,n+1,.cons _ t=>cL.drop n t
def cL.snoc(t:cL P H vs ds)(r:Rep P H v d):cL P H (vs++[v]) (ds++[d]):=t.append (.cons r .nil)
def Rep.uD:¬Rep P H v .uD:=λh=>by cases h
abbrev All:am->Prop:=λ_=>ij
abbrev New(H:Hp):am->Prop:=λa=>H a=aj
def Rep.all(r:Rep P H v d):Rep All H v d:=r.mono λ_ _=>trivial
def cL.all(r:cL P H v d):cL All H v d:=r.mono λ_ _=>trivial
def dO.new(s:dO H H'):∀a,New H' a->New H a:=λa h=>s.free h
def dO.upd(h:H a=aj):dO H (upd H a o):=λb u e=>by rw[bB (eY e h)];exact e
def ER(H:Hp)(σ:St)(ρ:aa D):Prop:=∀i,ρ.getD i .uD≠.uD->∃v,σ[i]?=ae (ae v)/\Rep All H v (ρ.getD i .uD)
def ER.same(e:ER H σ ρ)(s:dO H H'):ER H' σ ρ:=λi h=>by
 obtain⟨v,h1,h2⟩:=e i h;exact⟨v,h1,h2.same s⟩
def PE.imp(h:PE X e t)(i:∀σ H Q,t' σ H Q->t σ H Q):PE X e t':=λΨ s σ H Q I q=>h Ψ s σ H Q I (i σ H Q q)
def PT.imp(h:PT X e t)(i:∀σ H Q,t' σ H Q->t σ H Q):PT X e t':=λΨ s σ H Q I q=>h Ψ s σ H Q I (i σ H Q q)
def PA.imp(h:PA X e t)(i:∀σ H Q,t' σ H Q->t σ H Q):PA X e t':=λpos Ψ s σ H Q I q=>h pos Ψ s σ H Q I (i σ H Q q)
def Rep.dom(r:Rep P H v d):Rep (λa=>P a/\H a≠aj) H v d:=r.jH (λ_ _ e _=>e) λa o e p=>⟨p,by rw[e];simp⟩
def Rep.aBo(r:Rep P H v d)(k:GX P H H')(m:∀a o,H a=ae o->P a->P' a):Rep P' H' v d:=r.jH k m
def aVl(P:am->Prop)(H:Hp)(v:V):D->Prop
 |.non=>v=.non
 |.bl b=>v=.bl b
 |.int i=>v=.int i
 |.str x=>v=.str x
 |.tup ds=>∃a xs,v=.ref a/\H a=ae (.tup xs)/\cL P H xs ds
 |.lst ds=>∃a xs,v=.ref a/\H a=ae (.lst xs)/\P a/\cL P H xs ds
 |.scr ds=>∃a xs,v=.ref a/\aDy H a xs/\cL P H xs ds
 |.uD=>c8
 |_=>ij
def Rep.inv(r:Rep P H v d):aVl P H v d:=by
 cases r with
 |non=>rfl
 |bl=>rfl
 |int=>rfl
 |str=>rfl
 |tup e r=>exact⟨_,_,rfl,e,r⟩
 |lst e p r=>exact⟨_,_,rfl,e,p,r⟩
 |frz e r=>exact⟨_,_,rfl,e,r⟩
 |_=>trivial
end Mi
open Mi.D renaming int->δ,aY->θ,str->μ,cH->ν,lst->ξ,scr->ο,plain->π,bl->υ,dZ->χ
open Mi.Res renaming aW->ε,ok->τ,ofOpt->ι
namespace L2
open PySem PySem.Spec PyProof.Rows
noncomputable def fQ(own:aa Str)(x:Str):Str:=if own.contains x then x++(" " : Str) else x
def clF(env:eD):aa (Str×iA)->aa (Str×am)->aa (Str×am)
 |[],acc=>acc
 | (n,k)::r,acc=>clF env r (if k==.free then (n,(env.cells.lookup n).getD 0)::acc else acc)
theorem wX:∀(names:aa (Str×iA))(acc:aa (Str×am)),(∀y∈names,y.2=.free->∃c,env.cells.lookup y.1=ae c)->
  (forIn names acc λx cs=>(match x with
   | (name,kind)=>if (kind==.free)=ag then cellOf env name >>= λc=>pure (wz ((name,c)::cs)) else pure (wz cs):eP (wy (aa (Str×am)))))=(pure (clF env names acc):eP _)
 |[],acc,_=>by rw[xh];rfl
 | (n,k)::r,acc,h=>by
  rw[xi];by_cases hk:(k==.free)=ag
  .have hk':k=.free:=by simpa using hk
   obtain⟨c,e⟩:=h (n,k) (bu ..) hk';have e':cellOf env n=pure c:=by
    unfold cellOf;have e2:env.cells.lookup n=ae c:=e;rw[e2]
   dsimp only;rw[ao hk,e',pure_bind,pure_bind];dsimp only;rw[wX r _ λy hy=>h y (bo _ hy)];have e2:env.cells.lookup n=ae c:=e;simp only[clF,hk,eT,e2,tq]
  .dsimp only;rw[ap hk,pure_bind];dsimp only;rw[wX r _ λy hy=>h y (bo _ hy)];simp only[clF,hk,iv,gd]
theorem aBp(h:∀y∈scope.names,y.2=.free->∃c,env.cells.lookup y.1=ae c):closureFor scope env=pure (clF env scope.names []):=by
 unfold closureFor;have:=wX scope.names [] h;simp only[bind_pure] at *;exact this
theorem WM:∀{names:aa (Str×iA)}{acc:aa (Str×am)}{x:Str}{c:am},(∀y∈names,y.2=.free->∃c,env.cells.lookup y.1=ae c)->(∀x c,acc.lookup x=ae c->env.cells.lookup x=ae c)->
  (clF env names acc).lookup x=ae c->env.cells.lookup x=ae c
 |[],acc,x,c,_,h,e=>h x c e
 | (n,k)::r,acc,x,c,q,h,e=>by
  unfold clF at e;refine WM (λy hy=>q y (bo _ hy)) (λy d hy=>?_) e;by_cases hk:(k==.free)=ag
  .rw[ao hk,jo] at hy;obtain⟨c',e'⟩:=q (n,k) (bu ..) (by simpa using hk);have e2:env.cells.lookup n=ae c':=e';cases hyn:y==n with
   |true=>
    rw[hyn] at hy;have:y=n:=by simpa using hyn
    subst this;rw[e2] at hy;simp only[tq] at hy;rw[e2];exact hy
   |false=>rw[hyn] at hy;exact h y d hy
  .rw[ap hk] at hy;exact h y d hy
theorem aE0:∀{names:aa (Str×iA)}{acc:aa (Str×am)}{x:Str},(∃c,acc.lookup x=ae c)->∃c,(clF env names acc).lookup x=ae c
 |[],_,_,h=>h
 | (n,k)::r,acc,x,⟨c,h⟩=>by
  unfold clF;refine aE0 ?_;by_cases hk:(k==.free)=ag
  .rw[ao hk,jo];cases x==n with
   |true=>exact⟨_,rfl⟩
   |false=>exact⟨c,h⟩
  .rw[ap hk];exact⟨c,h⟩
theorem WN:∀{names:aa (Str×iA)}{acc:aa (Str×am)}{x:Str},(x,kq)∈names->∃c,(clF env names acc).lookup x=ae c
 | (n,k)::r,acc,x,h=>by
  unfold clF;rcases bi.mp h with e|h
  .cases e;refine aE0 ?_;rw[ao 0x4,jo];simp
  .exact WN h
structure dH(N:aa Str)(sc scope:gp)(own:aa Str):Prop where
 kind:scope.kind=.function
 nocell:∀y∈scope.names,y.2≠.cell
 names:∀y∈scope.names,y.2=.local->scope.names.lookup y.1=ae .local
 free:∀y∈scope.names,y.2=.free->sc.names.lookup y.1=ae .cell\/sc.names.lookup y.1=ae .free
 ownl:∀x∈own,scope.names.lookup x=ae .local
 hid:∀x∈own,scope.names.lookup (x++(" " : Str))=aj
 loc:∀y∈scope.names,y.2=.local->y.1∈own\/y.1∉N
structure eZ(X X':Cx)(scope:gp)(own:aa Str):Prop where
 prog:X'.prog=X.prog
 w:X'.w=X.w
 K:X'.K=X.K
 mg:X'.mg=X.mg
 base:X'.base=X.base
 A:X'.A=X.A
 N:X'.N=X.N.map (fQ own)++own
 scope:X'.env.scope=iX scope X.env
 calm:X'.calm=X.calm
 xe:X'.xe=λ_ _=>c8
def ZR(X:Cx)(scope:gp)(cl:aa (Str×am))(C:am)(own:aa Str)(s₂:au)(H₂:Hp)(fp:aa am):Cx:=
 {X with N:=X.N.map (fQ own)++own,s₀:=s₂,H₀:=H₂,env:=compEnvC scope cl C X.env,outer:=X.stack,stack:=X.stack,ex:=fp,fn:=λ_=>ai,pn:=[],xe:=λ_ _=>c8}
theorem aE1:eZ X (ZR X scope cl C own s₂ H₂ fp) scope own:=
 ⟨rfl,rfl,rfl,rfl,rfl,rfl,rfl,rfl,rfl,rfl⟩
def Ext(σ σ2:St):Prop:=σ2.length=σ.length/\∀(i:ah) v,σ[i]?=ae (ae v)->σ2[i]?=ae (ae v)
def WP(wi:TI)(g:TG)(tc:TT)(te:TE)(m:ah):TE:=λσ H Q=>wi σ H λJ H1=>∀p,H1 p=aj->
 ∃W:ah->ah->aa V->Hp->Prop,(∃n,W 0 n [] (upd H1 p (.lst [])))/\∀i n ys H,W i n ys H->H p=ae (.lst ys)/\((J.stop i H/\Q (.ref p) H)\/(J.go i H/\ys.length<bg/\
  ∀x H2,J.yld i H x H2->g x (σ++dg m aj) H2 λσ2 H3=>Ext (σ++dg m aj) σ2/\tc σ2 H3 λb H4=>if b=ag then te σ2 H4 λy H5=>H5 p=ae (.lst ys)/\∃n',n'<n/\W (i+1) n' (ys++[y]) (upd H5 p (.lst (ys++[y])))
   else ∃n',n'<n/\W (i+1) n' ys H4))
section
theorem Inv.comp(I:Inv X Ψ σ H2 s2)(S:dH X.N X.env.scope scope own)(hf:∀b∈fp,aCo X Ψ H2 b)
 (hfx:∀b∈fp,b<s2.heap.objs.size)(hns:h1.Ns (s2.heap.objs.size+1) (λ_=>aj))
 (hk:∀b o,s2.heap.get? b=ae o->h1.get? b=ae o)(hacc:h1.get? s2.heap.objs.size=ae {cls:=.type "list",data:=.seq #[]}) :
  Inv (ZR X scope (clF X.env scope.names []) (s2.heap.objs.size+1) own s2 H2 fp) [] (σ++dg own.length aj) (upd H2 s2.heap.objs.size (.lst [])) {s2 with heap:=h1,toks:=t1}:=by
 have hD:H2 s2.heap.objs.size=aj:=I.hok.fresh (bd _);have hC:H2 (s2.heap.objs.size+1)=aj:=I.hok.fresh (i0 _);have cells:∀y∈scope.names,y.2=.free->∃c,X.env.cells.lookup y.1=ae c:=λy hy hk=>I.ok.has y.1 (S.free y hy hk)
 have sub:∀x c,(clF X.env scope.names []).lookup x=ae c->X.env.cells.lookup x=ae c:=λx c e=>WM cells (λ_ _ h=>by simp at h) e
 have relk:∀x,(iX scope X.env).names.lookup x=ae .cell\/(iX scope X.env).names.lookup x=ae .free->(x,kq)∈scope.names:=by
  intro x hx;have go:∀(l:aa (Str×iA)),(∀y∈l,y.2≠.cell)->((l.map λ(n,k)=>if (k==kq&&X.env.scope.kind==.function&&X.env.kindOf n==ae .cell) then (n,xj) else (n,k)).lookup x=ae .cell\/(l.map λ(n,k)=>if (k==kq&&X.env.scope.kind==.function&&X.env.kindOf n==ae .cell) then (n,xj) else (n,k)).lookup x=ae .free)->(x,kq)∈l:=by
   intro l;induction l with
   |nil=>intro _ h;rcases h with h|h<;>simp at h
   |cons p l ih=>
    obtain⟨n,k⟩:=p;intro nc h;rw[ba] at h;dsimp only at h;by_cases hc:(k==kq&&X.env.scope.kind==.function&&X.env.kindOf n==ae .cell)=ag
    .rw[ao hc] at h;rw[jo] at h;cases e:x==n with
     |true=>
      have:x=n:=by simpa using e
      subst this;simp only[bj] at hc;have:k=.free:=by simpa using hc.1.1
      subst this;exact bu ..
     |false=>
      rw[e] at h;exact bo _ (ih (λy hy=>nc y (bo _ hy)) h)
    .rw[ap hc] at h;rw[jo] at h;cases e:x==n with
     |true=>
      have:x=n:=by simpa using e
      subst this;rw[e] at h;dsimp only at h;rcases h with h|h
      .exact aT (di h) (nc (x,k) (bu ..))
      .have:=di h;subst this;exact bu ..
     |false=>
      rw[e] at h;exact bo _ (ih (λy hy=>nc y (bo _ hy)) h)
  exact go scope.names S.nocell hx
 have hne:s2.heap.objs.size≠s2.heap.objs.size+1:=de (kr _);have hlt:∀b o,s2.heap.get? b=ae o->b<s2.heap.objs.size:=λb o e=>bE e
 have hstk:∀b∈frs X.stack,b<s2.heap.objs.size:=λb hb=>by
  obtain⟨_,o,ho,_⟩:=I.stack.mem hb;exact hlt b o ho
 refine⟨⟨I.mod,?_,I.ok.glob,I.ok.blt,i0 _,λx y c e1 e2=>I.ok.inj x y c (sub x c e1) (sub y c e2),λx hx=>?_,λ_ _ h=>(by cases h),I.ok.hd,I.ok.frames,.inl rfl,λb hb=>?_,λb o e=>I.bs b o e,?_,λb o e hb=>?_,λb hb hz=>?_,I.stack,I.aD0⟩,
  rfl,I.bare,Un.laid hk (bd _) hD,?_,λx c e=>?_,?_,λx c e=>?_,λp hp=>(by simp[ZR] at hp),?_,?_⟩
 .exact S.kind
 .have hx':(iX scope X.env).names.lookup x=ae .cell\/(iX scope X.env).names.lookup x=ae .free:=hx;exact WN (relk x hx')
 .refine⟨de (iw (hfx b hb)),λx c e z=>?_⟩;exact(hf b hb).2.2.2.2.1 x c (sub x c e) z
 .exact dj I.ok.bsz I.sz
 .rcases(hf b hb).2.2.2.1 with z|z
  .exact I.ok.noex b o e z
  .exact aT (eC (bE e) (dj I.ok.bsz z)) (fT _)
 .rcases bi.mp (I.YX b hz) with z'|z'
  .exact(hf b hb).2.1 z'
  .exact(hf b hb).2.2.1 z'
 .refine⟨_,hns,λi x v e1 e2 e3=>?_⟩;have hi:i<σ.length:=by
   rcases oy i σ.length with h|h
   .exact h
   .rw[kf h,mj] at e2;split at e2<;>cases e2
  rw[lc hi] at e2;have hiN:i<X.N.length:=by rw[<-I.len];exact hi
  have e1':(X.N.map (fQ own))[i]?=ae x:=by
   have:(X.N.map (fQ own)++own)[i]?=ae x:=e1;rwa [lc (by rw[aS];exact hiN)] at this
  rw[iE] at e1';obtain⟨y,hy,ey⟩:=nS.mp e1';have hyN:y∈X.N:=nI hy;have e3':(iX scope X.env).names.lookup x=ae .local\/(iX scope X.env).names.lookup x=ae .cell\/(iX scope X.env).names.lookup x=ae .free:=e3;have keys:∀z k,(iX scope X.env).names.lookup z=ae k->∃k',scope.names.lookup z=ae k'/\(k=.local->k'=.local):=by
   intro z k;show(scope.names.map λ(n,k)=>if (k==kq&&X.env.scope.kind==.function&&X.env.kindOf n==ae .cell) then (n,xj) else (n,k)).lookup z=ae k->_;generalize scope.names=l;induction l with
   |nil=>intro h;simp at h
   |cons p l ih=>
    obtain⟨n,k0⟩:=p;intro h;rw[ba] at h;dsimp only at h;by_cases hc:(k0==kq&&X.env.scope.kind==.function&&X.env.kindOf n==ae .cell)=ag
    .rw[ao hc,jo] at h;rw[jo];cases e:z==n with
     |true=>
      rw[e] at h;dsimp only at h;cases h;exact⟨k0,rfl,λq=>by cases q⟩
     |false=>rw[e] at h;exact ih h
    .rw[ap hc,jo] at h;rw[jo];cases e:z==n with
     |true=>
      rw[e] at h;dsimp only at h;cases h;exact⟨_,rfl,λq=>q⟩
     |false=>rw[e] at h;exact ih h
  by_cases hown:own.contains y=ag
  .exfalso;have ex:x=y++(" " : Str):=by rw[<-ey];unfold fQ;rw[ao hown]
   have hn:=S.hid y (by simpa using hown);rw[<-ex] at hn;rcases e3' with q|q|q
   all_goals
    obtain⟨k',hk',_⟩:=keys _ _ q;rw[hn] at hk';cases hk'
  .have ex:x=y:=by rw[<-ey];unfold fQ;rw[ap hown]
   subst ex;rcases e3' with q|q
   .exfalso;obtain⟨k',hk',hl⟩:=keys _ _ q;have:=hl rfl;subst this;rcases S.loc _ (mi hk') rfl with z|z
    .exact hown (by simpa using z)
    .exact z hyN
   .have hfr:=relk x q;have hv:=S.free _ hfr rfl;obtain⟨m,_,hl⟩:=I.loc;obtain⟨u,ru,lk⟩:=hl i x v hy e2 (.inr hv);refine⟨u,ru,.inr ⟨q,?_⟩⟩;rcases lk with ⟨z,_⟩|⟨_,c,hc,o,ho,hd⟩
    .have z':X.env.scope.names.lookup x=ae .local:=z;rcases hv with hv|hv<;>(rw[z'] at hv;cases hv)
    .obtain⟨c',hc'⟩:=WN hfr;have:=sub x c' hc';rw[hc] at this;cases this;exact⟨c,hc',o,hk c o ho,hd⟩
 .obtain⟨v,z⟩:=I.cell x c (sub x c e);obtain⟨o,ho,hd⟩:=z;exact⟨v,o,hk c o ho,hd⟩
 .show upd H2 _ _ (s2.heap.objs.size+1)=aj;rw[bB (Ne.symm hne)];exact hC
 .obtain⟨v,o,ho,_⟩:=I.cell x c (sub x c e);show upd H2 _ _ c=aj;rw[bB (de (hlt c o ho))];exact I.freeC x c (sub x c e)
 .exact I.hok.laid hk (bd _) ⟨eI _,[],0,.nil,hacc⟩
 .show(σ++dg own.length aj).length=(X.N.map (fQ own)++own).length;rw[cx,cx,zI,aS,I.len]
end
section
variable {X:Cx} {scope:gp} {own:aa Str}
def cI(X':Cx)(σ:St)(fp:aa am)(tn:ah->bm->Prop)(W:ah->ah->aa V->Hp->Prop)(n:ah)(s:au):Prop:=∃i ys H',Inv X' [] σ H' s/\tn i s.heap/\(∀b∈fp,H' b=aj)/\W i n ys H'
abbrev cE(X X':Cx)(use:az (ak->eP jl))(QQ:ak->au->Prop)(p:am):ak->au->Prop:=notedBy (av X.prog X.w) X.A X'.env λe s'=>mM (av X.prog X.w) X.A X.xe use QQ (.ref p) (p+1) (.error e) s'
def cB(X':Cx)(σ:St)(fp:aa am)(tn:ah->bm->Prop)(W:ah->ah->aa V->Hp->Prop)(n i:ah)(h:bm):Prop:=∀{ys':aa V}{H9:Hp}{s9:au}{σ9:St},Ext σ σ9->Inv X' ([]++zO fp h) σ9 H9 s9->(∃n',n'<n/\W (i+1) n' ys' H9)->∃m,m<n/\cI X' σ fp tn W m s9
theorem WQ(S:dH X.N X.env.scope scope own)(hcalm:X.calm=ag)(hi:PI X tg iter wi)
 (hg:∀X',eZ X X' scope own->PG X' tg g)(hc:(ifs=[]/\tc=λ_ H Q=>Q ag H)\/∃c,ifs=[c]/\∀X',eZ X X' scope own->PT X' c tc)(he:∀X',eZ X X' scope own->PE X' elt te)
 (hs:∀x,fg iter X.env x=pure x)(I:Inv X Ψ σ H s)(h:WP wi g tc te own.length σ H R)
 (last:∀{p C:am} {H5:Hp} {s6:au} {m6:Str->az ak},Inv X Ψ σ H5 s6->aCo X Ψ H5 C->s6.heap.Ns C m6->R (.ref p) H5->mM (av X.prog X.w) X.A X.xe use QQ (.ref p) C (.ok .next) s6) :
  ϑ (av X.prog X.w) X.A (AD (.ListComp elt [⟨tg,iter,ifs,0⟩] scope pos) scope X.env ps (xk []) ai (cw iter X.env) use) QQ X.xe s:=by
 have cells:∀y∈scope.names,y.2=.free->∃c,X.env.cells.lookup y.1=ae c:=λy hy hk=>I.ok.has y.1 (S.free y hy hk)
 refine wpAny_comprehension_free rfl hs (aBp cells) S.kind S.names (thn (hi Ψ s σ H _ I h) λxv s1 h1=>thn h1 λitv s2 h2=>?_);obtain⟨it,fp,tn,J,H2,e,I2,T,st2,f2,hW⟩:=h2;subst e;have hD:H2 s2.heap.objs.size=aj:=I2.hok.fresh (bd _);obtain⟨W,⟨n0,w0⟩,turn⟩:=hW _ hD;have hfx:∀b∈fp,b<s2.heap.objs.size:=λb hb=>by
  obtain⟨o,ho,_⟩:=T.obj 0 _ st2 b hb;exact bE ho
 refine gu (wpAny_newFunctionEnv S.nocell (by intro y hy;simp at hy) (λh₁ hns₁ hsb₁=>?_) S.kind);dsimp only at hns₁ hsb₁ ⊢;have hC:(s2.heap.push {cls:=.type "list",dict:=aj,data:=.seq ([]:aa ak).toArray}).objs.size=s2.heap.objs.size+1:=ix ..;have hne:s2.heap.objs.size≠s2.heap.objs.size+1:=de (kr _);rw[hC] at hns₁ hsb₁ ⊢;have old:∀b o,s2.heap.get? b=ae o->h₁.get? b=ae o:=λb o e=>hsb₁.extBut b o (de (iw (bE e))) (cg _ (cg _ e))
 have hacc:h₁.get? s2.heap.objs.size=ae {cls:=.type "list",data:=.seq #[]}:=hsb₁.extBut _ _ hne (cg _ (dt _ rfl));have I4:=Inv.comp (t1:=s2.toks+([]:aa (Str×ak)).length) I2 S f2 hfx hns₁ old hacc;generalize hX':ZR X scope (clF X.env scope.names []) (s2.heap.objs.size+1) own s2 H2 fp=X' at I4;have cc:eZ X X' scope own:=by rw[<-hX'];exact aE1
 have eenv:X'.env=compEnvC scope (clF X.env scope.names []) (s2.heap.objs.size+1) X.env:=by rw[<-hX'];rfl
 have eA:X'.A=X.A:=cc.A;have ep:X'.prog=X.prog:=cc.prog;have ew:X'.w=X.w:=cc.w;have efs:X'.fs=frs X.stack:=by rw[<-hX'];rfl
 have eex:X'.ex=fp:=by rw[<-hX'];rfl
 have es0:X'.s₀=s2:=by rw[<-hX'];rfl
 have eH0:X'.H₀=H2:=by rw[<-hX'];rfl
 have epn:X'.pn=[]:=by rw[<-hX'];rfl
 have eK:X'.K=X.K:=cc.K;have exe:=cc.xe;have ecalm:X'.calm=ag:=cc.calm.trans hcalm
 -- the iterator's records within the block
 have fpok:∀{H':Hp},(∀b∈fp,H' b=aj)->∀b∈fp,aCo X' [] H' b:=λ{H'} hn b hb=>by
  obtain⟨_,f1,f3,_,f5,_⟩:=f2 b hb;refine⟨hn b hb,?_,?_,.inl (by rw[eex];exact hb),λx c e=>?_,λp hp=>by rw[epn] at hp;simp at hp⟩
  .rw[eenv];exact de (iw (hfx b hb))
  .rw[efs];intro z;rcases bi.mp (I2.YX b z) with z|z
   .exact f1 z
   .exact f3 z
  .rw[eenv] at e;exact f5 x c (WM cells (λ_ _ h=>by simp at h) e)
 have st4:tn 0 h₁:=T.keep _ _ _ st2 λb _ o e=>old b o e
 have fr4:∀b∈fp,(upd H2 s2.heap.objs.size (.lst [])) b=aj:=λb hb=>by rw[bB (de (hfx b hb))];exact(f2 b hb).1
 have loop:∀s4:au,s4={s2 with heap:=h₁,toks:=s2.toks+([]:aa (Str×ak)).length}->
   codeAny (av X.prog X.w) X.A (.compLoop (.ListComp elt [⟨tg,iter,ifs,0⟩] scope pos) 0 (.ref it) (.ref s2.heap.objs.size) X'.env)
    (mM (av X.prog X.w) X.A X.xe use QQ (.ref s2.heap.objs.size) (s2.heap.objs.size+1)) s4:=by
  rintro s4 rfl;have put:∀(n i:ah)(ys:aa V)(s7:au)(σ8:St)(H8:Hp)(s8:au),cB X' (σ++dg own.length aj) fp tn W n i s7.heap->Inv X' ([]++zO fp s7.heap) σ8 H8 s8->Ext (σ++dg own.length aj) σ8->ys.length<bg->(te σ8 H8 λy H5=>H5 s2.heap.objs.size=ae (.lst ys)/\∃n',n'<n/\W (i+1) n' (ys++[y]) (upd H5 s2.heap.objs.size (.lst (ys++[y]))))->
    ϑ (av X.prog X.w) X.A (cw elt X'.env) (λx s₄=>ϑ (av X.prog X.w) X.A (call (.builtin "list.append") [.ref s2.heap.objs.size,x]) (λ_ s₅=>∃m,m<n/\cI X' (σ++dg own.length aj) fp tn W m s₅) (cE X X' use QQ s2.heap.objs.size) s₄) (cE X X' use QQ s2.heap.objs.size) s8:=by
   intro n i ys s7 σ8 H8 s8 back I8 ext8 hlen q8;have he':=he X' cc _ s8 _ H8 _ I8 q8;rw[ep,ew,eA,exe] at he';refine fu he' (λyv s10 ⟨y,H10,I10,r10,p10,q10⟩=>?_) λ_ _ z=>f_ z
   have hm:=zR _ s10 σ8 H10 (.ref s2.heap.objs.size) [y] (.ref s2.heap.objs.size) [yv] (λ_ H11=>∃n',n'<n/\W (i+1) n' (ys++[y]) H11) I10 rfl (.cons r10 .nil) ⟨s2.heap.objs.size,ys,y,rfl,rfl,p10,hlen,q10⟩;rw[ep,ew,eA,exe] at hm;exact fu hm (λ_ s11 ⟨_,H11,I11,_,q11⟩=>back ext8 I11 q11) λ_ _ z=>f_ z
  have key:∀(PO:ah->au->Prop),(∀(n i:ah)(ys:aa V)(s7:au)(σ8:St)(H8:Hp)(s8:au),cB X' (σ++dg own.length aj) fp tn W n i s7.heap->Inv X' ([]++zO fp s7.heap) σ8 H8 s8->Ext (σ++dg own.length aj) σ8->ys.length<bg->(tc σ8 H8 λb H4=>if b=ag then te σ8 H4 λy H5=>H5 s2.heap.objs.size=ae (.lst ys)/\∃n',n'<n/\W (i+1) n' (ys++[y]) (upd H5 s2.heap.objs.size (.lst (ys++[y]))) else ∃n',n'<n/\W (i+1) n' ys H4)->PO n s8)->
    ∀n s5,(cI X' (σ++dg own.length aj) fp tn W n s5)->ϑ (av X.prog X.w) X.A (gr (.ref it)) (λr s₁=>match r with
     |none=>mM (av X.prog X.w) X.A X.xe use QQ (.ref s2.heap.objs.size) (s2.heap.objs.size+1) (.ok .next) s₁
     |some v=>ϑ (av X.prog X.w) X.A (sj tg (.ref it) v) (λ_ s₀=>ϑ (av X.prog X.w) X.A (kQ tg X'.env v) (λ_ s₂=>PO n s₂) (cE X X' use QQ s2.heap.objs.size) s₀) (cE X X' use QQ s2.heap.objs.size) s₁) (cE X X' use QQ s2.heap.objs.size) s5:=by
   intro PO hPO;rintro n s5 ⟨i,ys,H5,I5,st5,fr5,w5⟩;obtain⟨hacc5,tr⟩:=turn i n ys H5 w5;rcases tr with ⟨stop,q⟩|⟨go,hlen,step⟩
   .have done:=T.done X' ep ew eK ecalm i [] s5 _ H5 (cE X X' use QQ s2.heap.objs.size) I5 (fpok fr5) st5 stop;rw[eA] at done;refine thn done λr s6 ⟨hr,I6⟩=>?_
    subst hr;obtain⟨m6,hn6,_⟩:=id I6.loc;rw[eenv] at hn6;have u6:Un (frs X.stack) fp H2 H5 s2.heap s6.heap:=by
     have:=I6.base;rw[efs,eex,eH0,es0] at this;exact this
    have hCn:H5 (s2.heap.objs.size+1)=aj:=by
     have:=I6.free;rw[eenv] at this;exact this
    have hok6:HOk X.prog X.w H5 s6.heap:=by
     have:=I6.hok;rw[ep,ew] at this;exact this
    have hos:s6.os=s2.os:=by have:=I6.os;rw[es0] at this;exact this
    obtain⟨hh,gg,dd,tt,oo⟩:=s6;obtain rfl:oo=s2.os:=hos;have fin:=Inv.call (d':=dd) (t':=tt) (ch:=fp) I2 u6 hok6 I6.bare λb hb=>⟨(f2 b hb).2.2.2.1,(f2 b hb).2.1,(f2 b hb).2.2.2.2.1,(f2 b hb).2.2.2.2.2⟩
    refine last fin ⟨hCn,jz (iw I2.lt),I2.aUj (i0 _),.inr (dj I2.sz (i0 _)),λx c e z=>?_,λp hp z=>?_⟩ hn6 q
    .obtain⟨v,qq⟩:=I2.cell x c e;exact aT (iw qq.lt) (by rw[z];exact fT _)
    .exact aT (iw (bE (I2.pin p hp).1)) (by rw[z];exact fT _)
   .have item:=T.item X' ep ew eK ecalm i [] s5 _ H5 (cE X X' use QQ s2.heap.objs.size) I5 (fpok fr5) st5 go;rw[eA] at item;refine thn item λr s6 ⟨u,hr,h6⟩=>?_
    subst hr;refine thn h6 λ_ s7 ⟨x,H7,I7,r7,y7,st7,fr7⟩=>?_
    have I7':=I7.pinned (fpok fr7) (T.obj _ _ st7);have hg':=hg X' cc _ s7 _ H7 x u _ I7' r7 (step x H7 y7);rw[ep,ew,eA,exe] at hg';refine fu hg' (λ_ s8 ⟨σ8,H8,I8,ext8,q8⟩=>?_) λ_ _ z=>f_ z
    have back:cB X' (σ++dg own.length aj) fp tn W n i s7.heap:=by
     rintro ys' H9 s9 σ9 ex9 I9 ⟨n',hn',w9⟩;refine⟨n',hn',i+1,ys',H9,(I9.weak ex9.1.symm ex9.2).vK,T.keep _ _ _ st7 λb hb o e=>(I9.pin (b,o) (dS _ (dS _ (tE hb e)))).1,λb hb=>?_,w9⟩;obtain⟨o,e,d⟩:=T.obj _ _ st7 b hb;exact(I9.pin (b,o) (dS _ (dS _ (tE hb e)))).2.1
    exact hPO n i ys s7 σ8 H8 s8 back I8 ext8 hlen q8
  rcases hc with ⟨rfl,rfl⟩|⟨c,rfl,hc⟩
  .refine PySem.W.kcp_loop _ (key _ λn i ys s7 σ8 H8 s8 back I8 ext8 hlen q8=>?_) n0 ⟨0,[],_,I4,st4,fr4,w0⟩;simp only[eT] at q8;exact put n i ys s7 σ8 H8 s8 back I8 ext8 hlen q8
  .refine PySem.W.kct_loop _ (key _ λn i ys s7 σ8 H8 s8 back I8 ext8 hlen q8=>?_) n0 ⟨0,[],_,I4,st4,fr4,w0⟩;have hc':=hc X' cc _ s8 _ H8 _ I8 q8;rw[ep,ew,eA,exe] at hc';refine fu hc' (λb s9 ⟨H9,I9,q9⟩=>?_) λ_ _ z=>f_ z
   cases b with
   |false=>
    simp only[iv,gd] at q9 ⊢;exact back ext8 I9 q9
   |true=>
    simp only[eT] at q9 ⊢;exact put n i ys s7 σ8 H9 s9 back I9 ext8 hlen q9
 have l4:=loop _ rfl;rw[eenv] at l4;exact codeAny_compStart_list l4 (T.self X.A 0 _ _ _ st4 l4)
theorem ZS(f:Inv X Ψ σ H5 s6)(k:aCo X Ψ H5 C)(n:s6.heap.Ns C m6)(q:Q (.ref p) H5):mM (av X.prog X.w) X.A X.xe aj (EP X Ψ σ Q) (.ref p) C (.ok .next) s6:=
 ⟨m6,n,λh' sb=>⟨.ref p,H5,Inv.turned f (λb o hb e=>sb.extBut b o hb e) k.1 k.2.1 k.2.2.2.1 k.2.2.2.2.1 k.2.2.2.2.2,rfl,q⟩⟩
theorem aE2(S:dH X.N X.env.scope scope own)(hcalm:X.calm=ag)(hi:PI X tg iter wi)
 (hg:∀X',eZ X X' scope own->PG X' tg g)(hc:∀X',eZ X X' scope own->PT X' c tc)(he:∀X',eZ X X' scope own->PE X' elt te)
 (hs:∀x,fg iter X.env x=pure x):PE X (.ListComp elt [⟨tg,iter,[c],0⟩] scope pos) (WP wi g tc te own.length):=by
 intro Ψ s σ H Q I h;rw[AE];exact WQ S hcalm hi hg (.inr ⟨c,rfl,hc⟩) he hs I h ZS
theorem aHt(S:dH X.N X.env.scope scope own)(hcalm:X.calm=ag)(hi:PI X tg iter wi)
 (hg:∀X',eZ X X' scope own->PG X' tg g)(he:∀X',eZ X X' scope own->PE X' elt te)
 (hs:∀x,fg iter X.env x=pure x):PE X (.ListComp elt [⟨tg,iter,[],0⟩] scope pos) (WP wi g (λ_ H Q=>Q ag H) te own.length):=by
 intro Ψ s σ H Q I h;rw[AE];exact WQ S hcalm hi hg (.inl ⟨rfl,rfl⟩) he hs I h ZS
end
end L2
namespace Mi
open PySem L2 PySem.SeqAt
section
variable [KFrag]
def jJ(I:Inv X Ψ σ H s)(e:H a=ae (.tup xs)):∃its:aa ak,Vals xs its/\s.heap.IsTuple a its.toArray:=by
 obtain⟨_,its,r,p⟩:xs.length<=bg/\∃its:aa ak,Vals xs its/\mZ s.heap a its.toArray:=I.hok a _ e;exact⟨its,r,p.tup⟩
def e_(I:Inv X Ψ σ H s)(e:SqL X.K H a xs):∃its:aa ak,Vals xs its/\s.heap.IsList a its.toArray:=by
 obtain⟨its,r,p,_⟩:=I.list e;exact⟨its,r,p.isList⟩
def Rep.lW(r:Rep P H v (.lst ds)):∃a xs,v=.ref a/\SqL K H a xs/\cL P H xs ds:=by
 obtain⟨_,_,rfl,e,p,r⟩:=r.inv;exact⟨_,_,rfl,.inl (.inl e),r⟩
def Rep.iZ(r:Rep P H v (.tup ds)):∃a xs,v=.ref a/\H a=ae (.tup xs)/\cL P H xs ds:=by
 obtain⟨_,_,rfl,e,r⟩:=r.inv;exact⟨_,_,rfl,e,r⟩
mutual
theorem yU:∀(n:ah)(d:D),d.fV n=ag->eqD d d=ag
 |_,.non,_=>rfl
 |_,.bl b,_=>by exact ow b
 |_,.int i,_=>by exact ow i
 |_,.str x,_=>by exact ow x
 |n+1,.tup xs,h=>by exact vV n xs h
 |n+1,.lst xs,h=>by exact vV n xs h
 |n+1,.scr xs,h=>by exact vV n xs h
 |0,.scr xs,h=>by exact fx0 h
 |0,.tup xs,h=>by exact fx0 h
 |0,.lst xs,h=>by exact fx0 h
 |n,.dct _,h=>by cases n<;>exact fx0 h
 |n,.uD,h=>by cases n<;>exact fx0 h
theorem vV:∀(n:ah)(ds:aa D),ν n ds=ag->qY ds ds=ag
 |_,[],_=>rfl
 |n,d::ds,h=>by
  rw[ν,bj] at h;rw[qY,yU n d h.1,vV n ds h.2];rfl
end
def nC{X:Cx}(hK:KFrag.K=X.K)(r:Rep P H v (.scr ds)):∃a xs,v=.ref a/\SqL X.K H a xs/\cL P H xs ds:=by
 obtain⟨a,xs,rfl,e,rr⟩:=r.inv;exact⟨a,xs,rfl,e.sq hK,rr⟩
theorem ZV:∀{xs ys:aa V}{us:aa ak},Vals xs us->Vals ys us->xs=ys
 |_,_,_,.nil,h=>by cases h;rfl
 |_,_,_,.cons a t,h=>by
  cases h with
  |cons b t'=>rw[RelV.inj a b,ZV t t']
def yP(I:Inv X Ψ σ H s)(e1:SqL X.K H a xs)(e2:SqL X.K H a ys):xs=ys:=by
 obtain⟨i1,r1,o,ho,hc,n,hd⟩:=e_ I e1;obtain⟨i2,r2,o',ho',hc',n',hd'⟩:=e_ I e2;rw[ho] at ho';cases ho';rw[hd] at hd';have:i1=i2:=by
  injection hd' with e
  simpa using e
 subst this;exact ZV r1 r2
def aHu(I:Inv X Ψ σ H s)(hK:KFrag.K=X.K)(e:aDy H a xs)(h:H a=ae ob):∃p,ob=.frz p (.lst xs):=by
 rcases e with ⟨o,e⟩|⟨o,its,n,e,_⟩
 .rw[e] at h;cases h;exact⟨o,rfl⟩
 .rw[hK] at e;have:=(I.bs a o (I.mod.kin a o e)).2;rw[h] at this;cases this
def cL.aTm(ih:∀{v:V} {d e:D},d.fV n=ag->e.fV n=ag->Rep P H v d->Rep P' H v e->d=e):∀{ds es:aa D},ν n ds=ag->ν n es=ag->cL P H vs ds->cL P' H vs es->ds=es:=by
 induction vs with
 |nil=>intro ds es h h' r q;cases r;cases q;rfl
 |cons v vs ih2=>
  intro ds es h h' r q;cases r with
  |cons r t=>
   cases q with
   |cons r' t'=>
    rw[ν,bj] at h h';rw[ih h.1 h'.1 r r',ih2 h.2 h'.2 t t']
def Rep.inj(I:Inv X Ψ σ H s)(hK:KFrag.K=X.K)(n:ah):∀{v:V}{d e:D},d.fV n=ag->e.fV n=ag->Rep P H v d->Rep P' H v e->d=e:=by
 induction n with
 |zero=>
  intro v d e h h' r q;cases d with
  |non=>obtain rfl:=r.inv;cases q;rfl
  |bl b=>obtain rfl:=r.inv;cases q;rfl
  |int i=>obtain rfl:=r.inv;cases q;rfl
  |str x=>obtain rfl:=r.inv;cases q;rfl
  |_=>exact fx0 h
 |succ n ih=>
  intro v d e h h' r q;cases d with
  |non=>obtain rfl:=r.inv;cases q;rfl
  |bl b=>obtain rfl:=r.inv;cases q;rfl
  |int i=>obtain rfl:=r.inv;cases q;rfl
  |str x=>obtain rfl:=r.inv;cases q;rfl
  |tup ds=>
   obtain⟨a,xs,rfl,e1,r1⟩:=r.inv;cases q with
   |tup e2 r2=>
    rw[e1] at e2;cases e2;rw[cL.aTm ih h h' r1 r2]
   |lst e2 _ _=>rw[e1] at e2;cases e2
   |frz e2 _=>obtain⟨_,z⟩:=aHu I hK e2 e1;cases z
   |dK e2 _ _ _=>rw[e1] at e2;cases e2
   |dT e2 _ _ _=>rw[e1] at e2;cases e2
   |_=>exact fx0 h'
  |lst ds=>
   obtain⟨a,xs,rfl,e1,_,r1⟩:=r.inv;cases q with
   |tup e2 r2=>rw[e1] at e2;cases e2
   |lst e2 _ r2=>
    rw[e1] at e2;cases e2;rw[cL.aTm ih h h' r1 r2]
   |dK e2 _ _ _=>rw[e1] at e2;cases e2
   |dT e2 _ _ _=>rw[e1] at e2;cases e2
   |frz e2 _=>obtain⟨_,z⟩:=aHu I hK e2 e1;cases z
   |_=>exact fx0 h'
  |scr ds=>
   obtain⟨a,xs,rfl,e1,r1⟩:=r.inv;cases q with
   |tup e2 r2=>obtain⟨_,z⟩:=aHu I hK e1 e2;cases z
   |lst e2 _ r2=>obtain⟨_,z⟩:=aHu I hK e1 e2;cases z
   |frz e2 r2=>
    cases yP I (e1.sq hK) (e2.sq hK);rw[cL.aTm ih h h' r1 r2]
   |_=>exact fx0 h'
  |_=>exact fx0 h
theorem lZ:∀(xs ys:aa D),qY xs ys=((bn (min xs.length ys.length)).all (λj=>eqD (xs.getD j .non) (ys.getD j .non))&&xs.length==ys.length)
 |[],[]=>by simp[qY]
 |[],y::ys=>by simp[qY]
 |x::xs,[]=>by simp[qY]
 |x::xs,y::ys=>by
  have e:min (x::xs).length (y::ys).length=min xs.length ys.length+1:=by simp only[b9];lia
  rw[qY,lZ xs ys,e,xl,ik,List.all_map,AF]
  congr 1
  simp[DA]
theorem kY:∀{ds:aa D}{j:ah},ν n ds=ag->j<ds.length->(ds.getD j .non).fV n=ag
 |[],j,_,h=>by simp at h
 |d::ds,0,h,_=>by rw[ν,bj] at h;exact h.1
 |d::ds,j+1,h,hj=>by
  rw[ν,bj] at h;simpa using kY h.2 (by simpa using hj)
def cL.getD(r:cL P H vs ds)(hj:j<ds.length):∃v,vs[j]?=ae v/\Rep P H v (ds.getD j .non):=by
 obtain⟨v,h1,h2⟩:=r.get (i:=j) (d:=ds.getD j .non) (by simp[hj]);exact⟨v,h1,h2⟩
section
def BP(ha:a.fV 0=ag)(hb:b.fV 0=ag)(rx:Rep All H x a)(ry:Rep All H y b)(ru:RelV x u)(rv:RelV y v):i6 A s u v (eqD a b)/\i7 A s u v (!eqD a b)/\EqAt A s u v (eqD a b):=by
 cases rx with
 |non=>
  cases ru;cases ry with
  |non=>cases rv;exact⟨RcAt.none_none,RcNeAt.none_none,tu _⟩
  |bl _=>cases rv;exact⟨RcAt.none_bool _,RcNeAt.none_bool _,EqAt.none_bool _⟩
  |int _=>obtain⟨t,rfl⟩:=rv;exact⟨RcAt.none_int _ _,RcNeAt.none_int _ _,EqAt.none_int _ _⟩
  |str _=>obtain⟨t,rfl⟩:=rv;exact⟨RcAt.none_str _ _,RcNeAt.none_str _ _,EqAt.none_str _ _⟩
  |_=>exact fx0 hb
 |bl _=>
  cases ru;cases ry with
  |non=>cases rv;exact⟨RcAt.bool_none _,RcNeAt.bool_none _,EqAt.bool_none _⟩
  |bl _=>cases rv;exact⟨RcAt.bool_bool _ _,RcNeAt.bool_bool _ _,EqAt.bool_bool _ _⟩
  |int _=>obtain⟨t,rfl⟩:=rv;exact⟨RcAt.bool_int _ _ _,RcNeAt.bool_int _ _ _,EqAt.bool_int _ _ _⟩
  |str _=>obtain⟨t,rfl⟩:=rv;exact⟨RcAt.bool_str _ _ _,RcNeAt.bool_str _ _ _,EqAt.bool_str _ _ _⟩
  |_=>exact fx0 hb
 |int _=>
  obtain⟨t,rfl⟩:=ru;cases ry with
  |non=>cases rv;exact⟨RcAt.int_none _ _,RcNeAt.int_none _ _,EqAt.int_none _ _⟩
  |bl _=>cases rv;exact⟨RcAt.int_bool _ _ _,RcNeAt.int_bool _ _ _,EqAt.int_bool _ _ _⟩
  |int _=>obtain⟨t',rfl⟩:=rv;exact⟨RcAt.int_int _ _ _ _,RcNeAt.int_int _ _ _ _,EqAt.int_int _ _ _ _⟩
  |str _=>obtain⟨t',rfl⟩:=rv;exact⟨RcAt.int_str _ _ _ _,RcNeAt.int_str _ _ _ _,yB _ _ _ _⟩
  |_=>exact fx0 hb
 |str _=>
  obtain⟨t,rfl⟩:=ru;cases ry with
  |non=>cases rv;exact⟨RcAt.str_none _ _,RcNeAt.str_none _ _,EqAt.str_none _ _⟩
  |bl _=>cases rv;exact⟨RcAt.str_bool _ _ _,RcNeAt.str_bool _ _ _,EqAt.str_bool _ _ _⟩
  |int _=>obtain⟨t',rfl⟩:=rv;exact⟨RcAt.str_int _ _ _ _,RcNeAt.str_int _ _ _ _,yT _ _ _ _⟩
  |str _=>obtain⟨t',rfl⟩:=rv;exact⟨RcAt.str_str _ _ _ _,RcNeAt.str_str _ _ _ _,EqAt.str_str _ _ _ _⟩
  |_=>exact fx0 hb
 |_=>exact fx0 ha
theorem Q8(hK:KFrag.K=X.K)(I:Inv X Ψ σ H s):∀(n:ah)(A:cu){x y:V}{a b:D}{u v:ak},A.units+n<bw->a.fV n=ag->b.fV n=ag->Rep All H x a->Rep All H y b->RelV x u->RelV y v->
  i6 A s u v (eqD a b)/\i7 A s u v (!eqD a b)/\EqAt A s u v (eqD a b):=by
 intro n;induction n with
 |zero=>exact λA=>λ_ ha hb rx ry ru rv=>BP ha hb rx ry ru rv
 |succ n ih=>
  intro A x y a b u v hu ha hb rx ry ru rv;have hu0:A.units<bw:=by lia
  have hu1:A.in1.units+n<bw:=by show A.units+1+n<bw;lia
  have itm:∀{xs ys:aa V}{ds es:aa D}{i1 i2:aa ak},ν n ds=ag->ν n es=ag->cL All H xs ds->cL All H ys es->Vals xs i1->Vals ys i2->∀j (g1:j<i1.toArray.size) (g2:j<i2.toArray.size),EqAt A.in1 s i1.toArray[j] i2.toArray[j] (eqD (ds.getD j .non) (es.getD j .non)):=by
   intro xs ys ds es i1 i2 ha hb r1 r2 vr1 vr2 j g1 g2;have z1:i1.toArray.size=ds.length:=by rw[b6,<-vr1.length,r1.length]
   have z2:i2.toArray.size=es.length:=by rw[b6,<-vr2.length,r2.length]
   obtain⟨v1,w1,rr1⟩:=r1.getD (j:=j) 0x1;obtain⟨v2,w2,rr2⟩:=r2.getD (j:=j) 0x1;obtain⟨u1,k1,l1⟩:=vr1.get w1;obtain⟨u2,k2,l2⟩:=vr2.get w2;have m1:i1.toArray[j]=u1:=by
    rw[eg (by simpa using g1)] at k1;simpa using di k1
   have m2:i2.toArray[j]=u2:=by
    rw[eg (by simpa using g2)] at k2;simpa using di k2
   rw[m1,m2];exact(ih A.in1 hu1 (kY ha 0x1) (kY hb 0x1) rr1 rr2 l1 l2).2.2
  cases a with
  |non=>
   cases b with
   |tup es=>
    cases rx.inv;cases ru;obtain⟨q,ys,rfl,e2,r2⟩:=ry.iZ;cases rv;obtain⟨its2,vr2,h2⟩:=jJ I e2;exact⟨RcAt.none_tuple h2 hu0,RcNeAt.none_tuple h2 hu0,EqAt.none_tuple h2 hu0⟩
   |lst es=>
    cases rx.inv;cases ru;obtain⟨q,ys,rfl,e2,r2⟩:=ry.lW (K:=X.K);cases rv;obtain⟨its2,vr2,h2⟩:=e_ I e2;exact⟨AG h2 hu0,AH h2 hu0,AI h2 hu0⟩
   |scr es=>
    cases rx.inv;cases ru;obtain⟨q,ys,rfl,e2,r2⟩:=nC hK ry;cases rv;obtain⟨its2,vr2,h2⟩:=e_ I e2;exact⟨AG h2 hu0,AH h2 hu0,AI h2 hu0⟩
   |_=>first|exact BP rfl rfl rx ry ru rv|exact aT ry Rep.uD|exact fx0 hb
  |bl _=>
   cases b with
   |tup es=>
    cases rx.inv;cases ru;obtain⟨q,ys,rfl,e2,r2⟩:=ry.iZ;cases rv;obtain⟨its2,vr2,h2⟩:=jJ I e2;exact⟨RcAt.bool_tuple _ h2 hu0,RcNeAt.bool_tuple _ h2 hu0,EqAt.bool_tuple _ h2 hu0⟩
   |lst es=>
    cases rx.inv;cases ru;obtain⟨q,ys,rfl,e2,r2⟩:=ry.lW (K:=X.K);cases rv;obtain⟨its2,vr2,h2⟩:=e_ I e2;exact⟨AJ _ h2 hu0,AK _ h2 hu0,AL _ h2 hu0⟩
   |scr es=>
    cases rx.inv;cases ru;obtain⟨q,ys,rfl,e2,r2⟩:=nC hK ry;cases rv;obtain⟨its2,vr2,h2⟩:=e_ I e2;exact⟨AJ _ h2 hu0,AK _ h2 hu0,AL _ h2 hu0⟩
   |_=>first|exact BP rfl rfl rx ry ru rv|exact aT ry Rep.uD|exact fx0 hb
  |int _=>
   cases b with
   |tup es=>
    cases rx.inv;obtain⟨t1,rfl⟩:=ru;obtain⟨q,ys,rfl,e2,r2⟩:=ry.iZ;cases rv;obtain⟨its2,vr2,h2⟩:=jJ I e2;exact⟨RcAt.int_tuple _ _ h2 hu0,RcNeAt.int_tuple _ _ h2 hu0,EqAt.int_tuple _ _ h2 hu0⟩
   |lst es=>
    cases rx.inv;obtain⟨t1,rfl⟩:=ru;obtain⟨q,ys,rfl,e2,r2⟩:=ry.lW (K:=X.K);cases rv;obtain⟨its2,vr2,h2⟩:=e_ I e2;exact⟨AM _ _ h2 hu0,AN _ _ h2 hu0,AO _ _ h2 hu0⟩
   |scr es=>
    cases rx.inv;obtain⟨t1,rfl⟩:=ru;obtain⟨q,ys,rfl,e2,r2⟩:=nC hK ry;cases rv;obtain⟨its2,vr2,h2⟩:=e_ I e2;exact⟨AM _ _ h2 hu0,AN _ _ h2 hu0,AO _ _ h2 hu0⟩
   |_=>first|exact BP rfl rfl rx ry ru rv|exact aT ry Rep.uD|exact fx0 hb
  |str _=>
   cases b with
   |tup es=>
    cases rx.inv;obtain⟨t1,rfl⟩:=ru;obtain⟨q,ys,rfl,e2,r2⟩:=ry.iZ;cases rv;obtain⟨its2,vr2,h2⟩:=jJ I e2;exact⟨RcAt.str_tuple _ _ h2 hu0,RcNeAt.str_tuple _ _ h2 hu0,EqAt.str_tuple _ _ h2 hu0⟩
   |lst es=>
    cases rx.inv;obtain⟨t1,rfl⟩:=ru;obtain⟨q,ys,rfl,e2,r2⟩:=ry.lW (K:=X.K);cases rv;obtain⟨its2,vr2,h2⟩:=e_ I e2;exact⟨AQ _ _ h2 hu0,AR _ _ h2 hu0,AS _ _ h2 hu0⟩
   |scr es=>
    cases rx.inv;obtain⟨t1,rfl⟩:=ru;obtain⟨q,ys,rfl,e2,r2⟩:=nC hK ry;cases rv;obtain⟨its2,vr2,h2⟩:=e_ I e2;exact⟨AQ _ _ h2 hu0,AR _ _ h2 hu0,AS _ _ h2 hu0⟩
   |_=>first|exact BP rfl rfl rx ry ru rv|exact aT ry Rep.uD|exact fx0 hb
  |tup ds=>
   obtain⟨p,xs,rfl,e1,r1⟩:=rx.iZ;cases ru;obtain⟨its1,vr1,h1⟩:=jJ I e1;replace ha:ν _ _=ag:=ha;cases b with
   |non=>cases ry.inv;cases rv;exact⟨RcAt.tuple_none h1 hu0,RcNeAt.tuple_none h1 hu0,EqAt.tuple_none h1 hu0⟩
   |bl _=>cases ry.inv;cases rv;exact⟨RcAt.tuple_bool _ h1 hu0,RcNeAt.tuple_bool _ h1 hu0,EqAt.tuple_bool _ h1 hu0⟩
   |int _=>cases ry.inv;obtain⟨t2,rfl⟩:=rv;exact⟨RcAt.tuple_int _ _ h1 hu0,RcNeAt.tuple_int _ _ h1 hu0,EqAt.tuple_int _ _ h1 hu0⟩
   |str _=>cases ry.inv;obtain⟨t2,rfl⟩:=rv;exact⟨RcAt.tuple_str _ _ h1 hu0,RcNeAt.tuple_str _ _ h1 hu0,EqAt.tuple_str _ _ h1 hu0⟩
   |tup es=>
    obtain⟨q,ys,rfl,e2,r2⟩:=ry.iZ;cases rv;obtain⟨its2,vr2,h2⟩:=jJ I e2;replace hb:ν _ _=ag:=hb;have z1:its1.toArray.size=ds.length:=by rw[b6,<-vr1.length,r1.length]
    have z2:its2.toArray.size=es.length:=by rw[b6,<-vr2.length,r2.length]
    have he:=itm ha hb r1 r2 vr1 vr2;have ee:eqD (.tup ds) (.tup es)=((bn (min its1.toArray.size its2.toArray.size)).all (λj=>eqD (ds.getD j .non) (es.getD j .non))&&its1.toArray.size==its2.toArray.size):=by
     rw[show eqD (.tup _) (.tup _)=qY _ _ from rfl,lZ,z1,z2]
    have r0:=RcAt.tuples h1 h2 hu0 he;have r0':=RcNeAt.tuples h1 h2 hu0 he;rw[<-ee] at r0 r0';refine⟨r0,r0',?_⟩;by_cases hpq:p=q
    .subst hpq;have hab:(D.tup ds)=(.tup es):=Rep.inj I hK (n+1) ha hb rx ry;rw[<-hab,yU (n+1) (.tup ds) ha];exact tu _
    .exact oz hpq r0
   |lst es=>
    obtain⟨q,ys,rfl,e2,r2⟩:=ry.lW (K:=X.K);cases rv;obtain⟨its2,vr2,h2⟩:=e_ I e2;exact⟨AT h1 h2 hu0,AU h1 h2 hu0,AV h1 h2 hu0⟩
   |scr es=>
    obtain⟨q,ys,rfl,e2,r2⟩:=nC hK ry;cases rv;obtain⟨its2,vr2,h2⟩:=e_ I e2;exact⟨AT h1 h2 hu0,AU h1 h2 hu0,AV h1 h2 hu0⟩
   |_=>first|exact aT ry Rep.uD|exact fx0 hb
  |lst ds=>
   obtain⟨p,xs,rfl,e1,r1⟩:=rx.lW (K:=X.K);cases ru;obtain⟨its1,vr1,h1⟩:=e_ I e1;replace ha:ν _ _=ag:=ha;cases b with
   |non=>cases ry.inv;cases rv;exact⟨AW h1 hu0,AX h1 hu0,AY h1 hu0⟩
   |bl _=>cases ry.inv;cases rv;exact⟨AZ _ h1 hu0,A0 _ h1 hu0,A1 _ h1 hu0⟩
   |int _=>cases ry.inv;obtain⟨t2,rfl⟩:=rv;exact⟨A2 _ _ h1 hu0,A3 _ _ h1 hu0,A4 _ _ h1 hu0⟩
   |str _=>cases ry.inv;obtain⟨t2,rfl⟩:=rv;exact⟨A5 _ _ h1 hu0,A6 _ _ h1 hu0,A7 _ _ h1 hu0⟩
   |tup es=>
    obtain⟨q,ys,rfl,e2,r2⟩:=ry.iZ;cases rv;obtain⟨its2,vr2,h2⟩:=jJ I e2;exact⟨A8 h1 h2 hu0,A9 h1 h2 hu0,Ba h1 h2 hu0⟩
   |lst es=>
    obtain⟨q,ys,rfl,e2,r2⟩:=ry.lW (K:=X.K);cases rv;obtain⟨its2,vr2,h2⟩:=e_ I e2;replace hb:ν _ _=ag:=hb;have z1:its1.toArray.size=ds.length:=by rw[b6,<-vr1.length,r1.length]
    have z2:its2.toArray.size=es.length:=by rw[b6,<-vr2.length,r2.length]
    have he:=itm ha hb r1 r2 vr1 vr2;have r00:i6 A s (.ref p) (.ref q) (eqD (.lst ds) (.lst es))/\i7 A s (.ref p) (.ref q) (!eqD (.lst ds) (.lst es)):=by
     show i6 A s (.ref p) (.ref q) (qY ds es)/\i7 A s (.ref p) (.ref q) (!qY ds es);rw[lZ];by_cases hz:ds.length=es.length
     .have r0:=tx h1 h2 0x1 hu0 he;have r0':=tF h1 h2 0x1 hu0 he;rw[z1] at r0 r0';rw[show min ds.length es.length=ds.length by lia,show(ds.length==es.length)=ag by simpa using hz,i8];exact⟨r0,r0'⟩
     .have hz':(its1.toArray.size !=its2.toArray.size)=ag:=by rw[z1,z2];simpa using hz
      rw[show(ds.length==es.length)=ai by simpa using hz,li];exact⟨tI h1 h2 hz' hu0,tJ h1 h2 hz' hu0⟩
    obtain⟨r0,r0'⟩:=r00;refine⟨r0,r0',?_⟩;by_cases hpq:p=q
    .subst hpq;have hab:(ξ ds)=(.lst es):=Rep.inj I hK (n+1) ha hb rx ry;rw[<-hab,yU (n+1) (.lst ds) ha];exact tu _
    .exact oz hpq r0
   |scr es=>
    obtain⟨q,ys,rfl,e2,r2⟩:=nC hK ry;cases rv;obtain⟨its2,vr2,h2⟩:=e_ I e2;replace hb:ν _ _=ag:=hb;have z1:its1.toArray.size=ds.length:=by rw[b6,<-vr1.length,r1.length]
    have z2:its2.toArray.size=es.length:=by rw[b6,<-vr2.length,r2.length]
    have he:=itm ha hb r1 r2 vr1 vr2;have r00:i6 A s (.ref p) (.ref q) (eqD (.lst ds) (.scr es))/\i7 A s (.ref p) (.ref q) (!eqD (.lst ds) (.scr es)):=by
     show i6 A s (.ref p) (.ref q) (qY ds es)/\i7 A s (.ref p) (.ref q) (!qY ds es);rw[lZ];by_cases hz:ds.length=es.length
     .have r0:=tx h1 h2 0x1 hu0 he;have r0':=tF h1 h2 0x1 hu0 he;rw[z1] at r0 r0';rw[show min ds.length es.length=ds.length by lia,show(ds.length==es.length)=ag by simpa using hz,i8];exact⟨r0,r0'⟩
     .have hz':(its1.toArray.size !=its2.toArray.size)=ag:=by rw[z1,z2];simpa using hz
      rw[show(ds.length==es.length)=ai by simpa using hz,li];exact⟨tI h1 h2 hz' hu0,tJ h1 h2 hz' hu0⟩
    obtain⟨r0,r0'⟩:=r00;refine⟨r0,r0',?_⟩;by_cases hpq:p=q
    .subst hpq;have hab:(ξ ds)=(.scr es):=Rep.inj I hK (n+1) ha hb rx ry;cases hab
    .exact oz hpq r0
   |_=>first|exact aT ry Rep.uD|exact fx0 hb
  |scr ds=>
   obtain⟨p,xs,rfl,e1,r1⟩:=nC hK rx;cases ru;obtain⟨its1,vr1,h1⟩:=e_ I e1;replace ha:ν _ _=ag:=ha;cases b with
   |non=>cases ry.inv;cases rv;exact⟨AW h1 hu0,AX h1 hu0,AY h1 hu0⟩
   |bl _=>cases ry.inv;cases rv;exact⟨AZ _ h1 hu0,A0 _ h1 hu0,A1 _ h1 hu0⟩
   |int _=>cases ry.inv;obtain⟨t2,rfl⟩:=rv;exact⟨A2 _ _ h1 hu0,A3 _ _ h1 hu0,A4 _ _ h1 hu0⟩
   |str _=>cases ry.inv;obtain⟨t2,rfl⟩:=rv;exact⟨A5 _ _ h1 hu0,A6 _ _ h1 hu0,A7 _ _ h1 hu0⟩
   |tup es=>
    obtain⟨q,ys,rfl,e2,r2⟩:=ry.iZ;cases rv;obtain⟨its2,vr2,h2⟩:=jJ I e2;exact⟨A8 h1 h2 hu0,A9 h1 h2 hu0,Ba h1 h2 hu0⟩
   |lst es=>
    obtain⟨q,ys,rfl,e2,r2⟩:=ry.lW (K:=X.K);cases rv;obtain⟨its2,vr2,h2⟩:=e_ I e2;replace hb:ν _ _=ag:=hb;have z1:its1.toArray.size=ds.length:=by rw[b6,<-vr1.length,r1.length]
    have z2:its2.toArray.size=es.length:=by rw[b6,<-vr2.length,r2.length]
    have he:=itm ha hb r1 r2 vr1 vr2;have r00:i6 A s (.ref p) (.ref q) (eqD (.scr ds) (.lst es))/\i7 A s (.ref p) (.ref q) (!eqD (.scr ds) (.lst es)):=by
     show i6 A s (.ref p) (.ref q) (qY ds es)/\i7 A s (.ref p) (.ref q) (!qY ds es);rw[lZ];by_cases hz:ds.length=es.length
     .have r0:=tx h1 h2 0x1 hu0 he;have r0':=tF h1 h2 0x1 hu0 he;rw[z1] at r0 r0';rw[show min ds.length es.length=ds.length by lia,show(ds.length==es.length)=ag by simpa using hz,i8];exact⟨r0,r0'⟩
     .have hz':(its1.toArray.size !=its2.toArray.size)=ag:=by rw[z1,z2];simpa using hz
      rw[show(ds.length==es.length)=ai by simpa using hz,li];exact⟨tI h1 h2 hz' hu0,tJ h1 h2 hz' hu0⟩
    obtain⟨r0,r0'⟩:=r00;refine⟨r0,r0',?_⟩;by_cases hpq:p=q
    .subst hpq;have hab:(ο ds)=(.lst es):=Rep.inj I hK (n+1) ha hb rx ry;cases hab
    .exact oz hpq r0
   |scr es=>
    obtain⟨q,ys,rfl,e2,r2⟩:=nC hK ry;cases rv;obtain⟨its2,vr2,h2⟩:=e_ I e2;replace hb:ν _ _=ag:=hb;have z1:its1.toArray.size=ds.length:=by rw[b6,<-vr1.length,r1.length]
    have z2:its2.toArray.size=es.length:=by rw[b6,<-vr2.length,r2.length]
    have he:=itm ha hb r1 r2 vr1 vr2;have r00:i6 A s (.ref p) (.ref q) (eqD (.scr ds) (.scr es))/\i7 A s (.ref p) (.ref q) (!eqD (.scr ds) (.scr es)):=by
     show i6 A s (.ref p) (.ref q) (qY ds es)/\i7 A s (.ref p) (.ref q) (!qY ds es);rw[lZ];by_cases hz:ds.length=es.length
     .have r0:=tx h1 h2 0x1 hu0 he;have r0':=tF h1 h2 0x1 hu0 he;rw[z1] at r0 r0';rw[show min ds.length es.length=ds.length by lia,show(ds.length==es.length)=ag by simpa using hz,i8];exact⟨r0,r0'⟩
     .have hz':(its1.toArray.size !=its2.toArray.size)=ag:=by rw[z1,z2];simpa using hz
      rw[show(ds.length==es.length)=ai by simpa using hz,li];exact⟨tI h1 h2 hz' hu0,tJ h1 h2 hz' hu0⟩
    obtain⟨r0,r0'⟩:=r00;refine⟨r0,r0',?_⟩;by_cases hpq:p=q
    .subst hpq;have hab:(ο ds)=(.scr es):=Rep.inj I hK (n+1) ha hb rx ry;rw[<-hab,yU (n+1) (.scr ds) ha];exact tu _
    .exact oz hpq r0
   |_=>first|exact aT ry Rep.uD|exact fx0 hb
  |_=>first|exact aT rx Rep.uD|exact fx0 ha
end
end
open PySem.AutoSeq1 (wpAny_loadPart')
open PySem.MeetsSeq PySem.MeetsSeq2 PySem.MeetsSeq3
variable [KFrag]
def jG.op:jG->kt
 |.lt=>.Lt|.le=>.LtE|.gt=>.Gt|.ge=>.GtE
def aHa(op:kt)(A:cu)(s:au)(u v:ak)(b:aq):Prop:=
 ∀(prog:cb)(w:br)(E:ak->au->Prop)(Q:ak->au->Prop),Q (.bool b) s->ϑ (av prog w) A (mN op u v) Q E s
def C2(o:jG)(A:cu)(s:au)(vs ws:aa ak)(xs ys:aa D):Prop:=
 vs.length=xs.length/\ws.length=ys.length/\∀(j:ah)(v w:ak)(x y:D),vs[j]?=ae v->ws[j]?=ae w->xs[j]?=ae x->ys[j]?=ae y->
  EqAt A s v w (eqD x y)/\(eqD x y=ai->∀k,jY o x y=ae k->aHa o.op A s v w k)
def C2.tail(h:C2 o A s (v::vs) (w::ws) (x::xs) (y::ys)):C2 o A s vs ws xs ys:=
 ⟨by simpa using h.1,by simpa using h.2.1,λj a b c d e1 e2 e3 e4=>h.2.2 (j+1) a b c d (by simpa using e1) (by simpa using e2) (by simpa using e3) (by simpa using e4)⟩
def jG.bt:jG->Builtin
 |.lt=>Builtin.«tuple.__lt__»|.le=>Builtin.«tuple.__le__»|.gt=>Builtin.«tuple.__gt__»|.ge=>Builtin.«tuple.__ge__»
theorem WR(o q:jG)(eq:q=o)(l b:am)(items items2:ax ak)(n n2:ah)(dd dd2:az am)(sl sl2:ax (az ak))(xs ys:aa D)(res:aq)(hr:dY q xs ys=ae res) :
  lP (o.bt ⟨[.ref l,.ref b],[]⟩)
   (λA R s=>s.heap.get? l=ae {cls:=.type "tuple",dict:=dd,data:=.seq items n,slots:=sl}/\s.heap.get? b=ae {cls:=.type "tuple",dict:=dd2,data:=.seq items2 n2,slots:=sl2}/\
    C2 q A.in1 s items.toList items2.toList xs ys/\R (.ok (.ret (.bool res))) s):=by
 cases o<;>exact .of_wp λprog w A R s h=>by
  obtain⟨hp,g,d,tk,os⟩:=s;obtain⟨hl,hb,hC,h⟩:=h;have f2:=DB;have z1:items.size=xs.length:=by rw[<-hC.1];simp
  have z2:items2.size=ys.length:=by rw[<-hC.2.1];simp
  wp_walk using wpAny_loadPart' hl,wpAny_loadPart' hb,wpAny_forIn_list _ (λrest b s'=>b.1=aj/\s'=⟨hp,g,d,tk,os⟩/\∃(vs ws:aa ak)(xs' ys':aa D),rest=vs.zip ws/\
   C2 q A.in1 ⟨hp,g,d,tk,os⟩ vs ws xs' ys'/\xs'.length+items2.size=ys'.length+items.size/\dY q xs' ys'=ae res) _
  case turn=>
   subst eq;rintro⟨y,x⟩ rest b s' ⟨hb',rfl,vs,ws,xs',ys',hz,hC',hlen,hR⟩;cases vs with
   |nil=>rw[Bb] at hz;cases hz
   |cons v vs=>
    cases ws with
    |nil=>rw[Bc] at hz;cases hz
    |cons w' ws=>
     rw[tN] at hz;injection hz with hyx hrest
     injection hyx with hy hx
     subst hy hx;cases xs' with
     |nil=>exact aT hC'.1 0x2
     |cons x0 xs'=>
      cases ys' with
      |nil=>exact aT hC'.2.1 0x2
      |cons y0 ys'=>
       rw[dY] at hR;simp only[b9] at hlen;obtain⟨he,hlt⟩:=hC'.2.2 0 _ _ _ _ rfl rfl rfl rfl;refine aw (he prog w _ _ ?_);cases e:eqD x0 y0 with
       |true=>
        rw[e] at hR;simp only[eT] at hR
        wp_walk
        exact⟨rfl,rfl,_,_,_,_,hrest,hC'.tail,by lia,hR⟩
       |false=>
        rw[e] at hR;simp only[iv,gd] at hR;have hri:=hlt e res hR prog w;dsimp only[jG.op] at hri
        wp_walk using hri
        exact⟨_,rfl,by simpa using h⟩
  case fin=>
   rintro⟨b1,b2⟩ s' ⟨hb',rfl,vs,ws,xs',ys',hz,hC',hlen,hR⟩;simp only at hb';subst hb';have hv:res=jG.nat q items.size items2.size:=by
    subst eq;cases xs' with
    |nil=>
     rw[dY] at hR;have:=di hR;rw[<-this];simp only[eW] at hlen;simp only[jG.nat]
     congr 1
     simp only[eq_iff_iff];lia
    |cons x0 xs'=>
     cases ys' with
     |nil=>
      rw[dY] at hR;have:=di hR;rw[<-this];simp only[eW,b9] at hlen;simp only[jG.nat,b9]
      congr 1
      simp only[eq_iff_iff];lia
     |cons y0 ys'=>
      exfalso;cases vs with
      |nil=>exact aT hC'.1 0x2
      |cons v vs=>
       cases ws with
       |nil=>exact aT hC'.2.1 0x2
       |cons w' ws=>rw[tN] at hz;cases hz
   rw[hv] at h;subst eq
   wp_walk
   exact⟨_,rfl,by simpa[DC,jG.nat] using h⟩
  case h=>
   exact⟨rfl,rfl,items.toList,items2.toList,xs,ys,rfl,hC,by lia,hr⟩
theorem aHa.tup(o:jG)(hl:s.heap.IsTuple l items)(hb:s.heap.IsTuple b items2)(hC:C2 o A.in1 s items.toList items2.toList xs ys)(hr:dY o xs ys=ae res)(hu:A.units<bw) :
  aHa o.op A s (.ref l) (.ref b) res:=λprog w E Q h=>by
 obtain⟨⟨cls,dd,data,sl⟩,ho,hc,n,hd⟩:=id hl;obtain⟨⟨cls2,dd2,nK,sl2⟩,ho2,hc2,n2,hd2⟩:=id hb;simp only at hc hd hc2 hd2;subst hc hd hc2 hd2;have M:=WR o o rfl l b items items2 n n2 dd dd2 sl sl2 xs ys res hr;have G:_/\_/\C2 o A.in1 s items.toList items2.toList xs ys/\(r_ res≠Bd/\Q (.bool res) s):=⟨ho,ho2,hC,(λx=>nomatch x),h⟩
 cases o
 .exact kx ⟨_,ho,rfl⟩ ⟨_,ho2,rfl⟩ PySem.F.slot_tuple_lt PySem.F.entry_tuple_lt (PySem.F.args_tuple_lt_2 _ _) M G hu
 .exact kx ⟨_,ho,rfl⟩ ⟨_,ho2,rfl⟩ PySem.F.slot_tuple_le PySem.F.entry_tuple_le (PySem.F.args_tuple_le_2 _ _) M G hu
 .exact kx ⟨_,ho,rfl⟩ ⟨_,ho2,rfl⟩ PySem.F.slot_tuple_gt PySem.F.entry_tuple_gt (PySem.F.args_tuple_gt_2 _ _) M G hu
 .exact kx ⟨_,ho,rfl⟩ ⟨_,ho2,rfl⟩ PySem.F.slot_tuple_ge PySem.F.entry_tuple_ge (PySem.F.args_tuple_ge_2 _ _) M G hu
def jG.code:jG->af
 |.lt=>0|.le=>1|.gt=>4|.ge=>5
def jG.btL:jG->Builtin
 |.lt=>Builtin.«list.__lt__»|.le=>Builtin.«list.__le__»|.gt=>Builtin.«list.__gt__»|.ge=>Builtin.«list.__ge__»
def aE3{xs:aa α}(h:xs[i]?=ae x):xs.drop i=x::xs.drop (i+1):=by
 obtain⟨hi,rfl⟩:=ej.mp h;exact ie hi
theorem aE4(o:jG){xs ys:aa D}(h:xs.length<=i\/ys.length<=i)(hi:i<=xs.length/\i<=ys.length)(hr:dY o (xs.drop i) (ys.drop i)=ae res):res=o.nat xs.length ys.length:=by
 rcases h with h|h
 .rw[om h,dY] at hr;have:=di hr;rw[<-this,kh];cases o<;>simp only[jG.nat]<;>congr 1<;>simp only[eq_iff_iff]<;>lia
 .rw[om h] at hr;cases hx:xs.drop i with
  |nil=>
   rw[hx,dY] at hr;have:=di hr;have hl:=cz fI hx;rw[kh] at hl;simp only[eW] at hl this;rw[<-this];cases o<;>simp only[jG.nat]<;>congr 1<;>simp only[eq_iff_iff]<;>lia
  |cons x r=>
   rw[hx,dY] at hr;have:=di hr;have hl:=cz fI hx;rw[kh] at hl;rw[<-hl] at this;rw[<-this];cases o<;>simp only[jG.nat]<;>congr 1<;>simp only[eq_iff_iff]<;>lia
theorem aHv(o q:jG)(eq:q=o)(l b:am)(items items2:ax ak)(n n2:ah)(dd dd2:az am)(sl sl2:ax (az ak))(xs ys:aa D)(res:aq)(k:ah) :
  ∀i:ah,items.size-i=k->i<=items.size/\i<=items2.size->dY q (xs.drop i) (ys.drop i)=ae res->lP (Builtin.«list.__eq__.loop» ⟨[.ref l,.ref b,iz i,iz o.code],[]⟩)
   (λA R s=>s.heap.get? l=ae {cls:=.type "list",dict:=dd,data:=.seq items n,slots:=sl}/\s.heap.get? b=ae {cls:=.type "list",dict:=dd2,data:=.seq items2 n2,slots:=sl2}/\
    C2 q A.in1 s items.toList items2.toList xs ys/\R (.ok (.ret (.bool res))) s):=by
 induction k with
 |zero=>
  intro i hk hi hr;cases o<;>exact λprog w A R s h=>by
   obtain⟨hp,g,d,tk,os⟩:=s;obtain⟨hl,hb,hC,h⟩:=h;have z1:items.size=xs.length:=by rw[<-hC.1];simp
   have z2:items2.size=ys.length:=by rw[<-hC.2.1];simp
   have hv:=aE4 q (.inl 0x1) 0x1 hr;subst eq;have e1:items[((i:ah):af).toNat]?=aj:=by simp;lia
   wp_walk using wpAny_loadPart' hl,wpAny_loadPart' hb
   rw[e1]
   wp_walk using wpAny_loadPart' hl,wpAny_loadPart' hb
   rw[hv,<-z1,<-z2] at h;exact h
 |succ k ih=>
  intro i hk hi hr;cases o<;>exact λprog w A R s h=>by
   obtain⟨hp,g,d,tk,os⟩:=s;obtain⟨hl,hb,hC,h⟩:=h;have z1:items.size=xs.length:=by rw[<-hC.1];simp
   have z2:items2.size=ys.length:=by rw[<-hC.2.1];simp
   have l1:i<items.size:=by lia
   have e1:items[((i:ah):af).toNat]?=ae items[i]:=by simp[l1]
   by_cases l2:i<items2.size
   .have e2:items2[((i:ah):af).toNat]?=ae items2[i]:=by simp[l2]
    have x1:xs[i]?=ae (xs[i]' 0x1):=by simp
    have y1:ys[i]?=ae (ys[i]' 0x1):=by simp
    rw[aE3 x1,aE3 y1,dY] at hr;obtain⟨he,hlt⟩:=hC.2.2 i items[i] items2[i] _ _ (by simp[l1]) (by simp[l2]) x1 y1
    wp_walk using wpAny_loadPart' hl,wpAny_loadPart' hb
    rw[e1,e2];refine aw (he prog w _ _ ?_);cases ee:eqD (xs[i]' 0x1) (ys[i]' 0x1) with
    |true=>
     rw[ee,ao rfl] at hr
     wp_walk
     rw[show((i:af)+1)=((i+1:ah):af) by lia];refine⟨gL tP _,ii Be ?_⟩;rw[il tP _];exact ih (i+1) 0x1 0x1 hr prog w A R _ ⟨hl,hb,hC,h⟩
    |false=>
     rw[ee,ap 0x2] at hr;subst eq;have hri:=hlt ee res hr prog w;dsimp only[jG.op] at hri
     wp_walk using wpAny_loadPart' hl,wpAny_loadPart' hb
     rw[e1,e2]
     wp_walk using hri
     exact h
   .have hv:=aE4 q (.inr 0x1) 0x1 hr;subst eq;have e2:items2[((i:ah):af).toNat]?=aj:=by simp;lia
    wp_walk using wpAny_loadPart' hl,wpAny_loadPart' hb
    rw[e1,e2]
    wp_walk using wpAny_loadPart' hl,wpAny_loadPart' hb
    rw[hv,<-z1,<-z2] at h;exact h
theorem JK(o:jG)(l b:am)(items items2:ax ak)(n n2:ah)(dd dd2:az am)(sl sl2:ax (az ak))(xs ys:aa D)(res:aq)(hr:dY o xs ys=ae res) :
  lP (o.btL ⟨[.ref l,.ref b],[]⟩)
   (λA R s=>s.heap.get? l=ae {cls:=.type "list",dict:=dd,data:=.seq items n,slots:=sl}/\s.heap.get? b=ae {cls:=.type "list",dict:=dd2,data:=.seq items2 n2,slots:=sl2}/\
    C2 o A.in1 s items.toList items2.toList xs ys/\R (.ok (.ret (.bool res))) s):=by
 have key:=aHv o o rfl l b items items2 n n2 dd dd2 sl sl2 xs ys res items.size 0 0x1 0x1 hr;cases o<;>exact λprog w A R s h=>by
  have f2:=Bf;obtain⟨hp,g,d,tk,os⟩:=s;obtain⟨hl,hb,hC,h⟩:=h
  wp_walk using wpAny_loadPart' hl,wpAny_loadPart' hb
  refine⟨gL tP _,ii Be ?_⟩;rw[il tP _];exact key prog w A R _ ⟨hl,hb,hC,h⟩
theorem aHa.lst(o:jG)(hl:s.heap.IsList l items)(hb:s.heap.IsList b items2)(hC:C2 o A.in1 s items.toList items2.toList xs ys)(hr:dY o xs ys=ae res)(hu:A.units<bw) :
  aHa o.op A s (.ref l) (.ref b) res:=λprog w E Q h=>by
 obtain⟨⟨cls,dd,data,sl⟩,ho,hc,n,hd⟩:=id hl;obtain⟨⟨cls2,dd2,nK,sl2⟩,ho2,hc2,n2,hd2⟩:=id hb;simp only at hc hd hc2 hd2;subst hc hd hc2 hd2;have M:=JK o l b items items2 n n2 dd dd2 sl sl2 xs ys res hr;have G:_/\_/\C2 o A.in1 s items.toList items2.toList xs ys/\(r_ res≠Bd/\Q (.bool res) s):=⟨ho,ho2,hC,(λx=>nomatch x),h⟩
 cases o
 .exact kx ⟨_,ho,rfl⟩ ⟨_,ho2,rfl⟩ xm Bg (Bh _ _) M G hu
 .exact kx ⟨_,ho,rfl⟩ ⟨_,ho2,rfl⟩ PySem.F.slot_list_le PySem.F.entry_list_le (PySem.F.args_list_le_2 _ _) M G hu
 .exact kx ⟨_,ho,rfl⟩ ⟨_,ho2,rfl⟩ PySem.F.slot_list_gt PySem.F.entry_list_gt (PySem.F.args_list_gt_2 _ _) M G hu
 .exact kx ⟨_,ho,rfl⟩ ⟨_,ho2,rfl⟩ PySem.F.slot_list_ge PySem.F.entry_list_ge (PySem.F.args_list_ge_2 _ _) M G hu
section
def ZW(o:jG)(na:∀ds,a≠.tup ds)(nb:∀ds,a≠.scr ds)(nc:∀ds,a≠.lst ds)(rx:Rep All H x a)(ry:Rep All H y b)(ru:RelV x u)(rv:RelV y v)(hk:jY o a b=ae k):aHa o.op A s u v k:=by
 cases a with
 |int i=>
  cases b with
  |int j=>
   cases rx;cases ry;obtain⟨t,rfl⟩:=ru;obtain⟨t',rfl⟩:=rv;rw[jY] at hk;have:=di hk;subst this;cases o with
   |lt=>exact λprog w E Q h=>(DD h:ϑ (av prog w) A (dq .Lt (.int i t) (.int j t')) Q E s)
   |le=>exact λprog w E Q h=>(DE h:ϑ (av prog w) A (dq .LtE (.int i t) (.int j t')) Q E s)
   |gt=>exact λprog w E Q h=>(DF h:ϑ (av prog w) A (dq .Gt (.int i t) (.int j t')) Q E s)
   |ge=>exact λprog w E Q h=>(DH h:ϑ (av prog w) A (dq .GtE (.int i t) (.int j t')) Q E s)
  |_=>exact nx0 hk
 |str i=>
  cases b with
  |str j=>
   cases rx;cases ry;obtain⟨t,rfl⟩:=ru;obtain⟨t',rfl⟩:=rv;rw[jY] at hk;have:=di hk;subst this;cases o with
   |lt=>exact λprog w E Q h=>(DI h:ϑ (av prog w) A (dq .Lt (.str i t) (.str j t')) Q E s)
   |le=>exact λprog w E Q h=>(PySem.P.le_str h:ϑ (av prog w) A (dq .LtE (.str i t) (.str j t')) Q E s)
   |gt=>exact λprog w E Q h=>(PySem.P.gt_str h:ϑ (av prog w) A (dq .Gt (.str i t) (.str j t')) Q E s)
   |ge=>exact λprog w E Q h=>(PySem.P.ge_str h:ϑ (av prog w) A (dq .GtE (.str i t) (.str j t')) Q E s)
  |_=>exact nx0 hk
 |tup ds=>exact aT rfl (na ds)
 |scr ds=>exact aT rfl (nb ds)
 |lst ds=>exact aT rfl (nc ds)
 |_=>cases b<;>exact nx0 hk
def WT{X:Cx}(hK:KFrag.K=X.K)(I:Inv X Ψ σ H s)(o:jG):∀(n:ah)(A:cu){x y:V}{a b:D}{u v:ak}{k:aq},A.units+n<bw->a.fV n=ag->b.fV n=ag->Rep All H x a->Rep All H y b->RelV x u->RelV y v->
  jY o a b=ae k->aHa o.op A s u v k:=by
 intro n;induction n with
 |zero=>
  intro A x y a b u v k hu ha hb rx ry ru rv hk;cases a with
  |tup _=>exact fx0 ha
  |scr _=>exact fx0 ha
  |lst _=>exact fx0 ha
  |_=>exact ZW o (by intro ds z;cases z) (by intro ds z;cases z) (by intro ds z;cases z) rx ry ru rv hk
 |succ n ih=>
  intro A x y a b u v k hu ha hb rx ry ru rv hk;have hu0:A.units<bw:=by lia
  have hu1:A.in1.units+n<bw:=by show A.units+1+n<bw;lia
  have hC:∀{xs ys:aa V}{ds es:aa D}{its1 its2:aa ak},ν n ds=ag->ν n es=ag->cL All H xs ds->cL All H ys es->Vals xs its1->Vals ys its2->C2 o A.in1 s its1.toArray.toList its2.toArray.toList ds es:=by
   intro xs ys ds es its1 its2 ha hb r1 r2 vr1 vr2;refine⟨by rw[lS,<-vr1.length,r1.length],by rw[lS,<-vr2.length,r2.length],λj v w x y a1 a2 a3 a4=>?_⟩;rw[lS] at a1 a2;obtain⟨v1,w1,rr1⟩:=r1.get a3;obtain⟨v2,w2,rr2⟩:=r2.get a4;obtain⟨u1,k1,l1⟩:=vr1.get w1;obtain⟨u2,k2,l2⟩:=vr2.get w2;rw[a1] at k1;cases k1;rw[a2] at k2;cases k2;have g1:x.fV n=ag:=by
    have:=kY ha (ej.mp a3).1;rwa [dz,a3] at this
   have g2:y.fV n=ag:=by
    have:=kY hb (ej.mp a4).1;rwa [dz,a4] at this
   exact⟨(Q8 hK I n A.in1 hu1 g1 g2 rr1 rr2 l1 l2).2.2,λ_ k hk=>ih A.in1 hu1 g1 g2 rr1 rr2 l1 l2 hk⟩
  cases a with
  |tup ds=>
   cases b with
   |tup es=>
    obtain⟨p,xs,rfl,e1,r1⟩:=rx.iZ;cases ru;obtain⟨its1,vr1,h1⟩:=jJ I e1;obtain⟨q,ys,rfl,e2,r2⟩:=ry.iZ;cases rv;obtain⟨its2,vr2,h2⟩:=jJ I e2;rw[D.fV] at ha hb;rw[jY] at hk;exact aHa.tup o h1 h2 (hC ha hb r1 r2 vr1 vr2) hk hu0
   |_=>exact nx0 hk
  |scr ds=>
   cases b with
   |scr es=>
    obtain⟨p,xs,rfl,e1,r1⟩:=nC hK rx;cases ru;obtain⟨its1,vr1,h1⟩:=e_ I e1;obtain⟨q,ys,rfl,e2,r2⟩:=nC hK ry;cases rv;obtain⟨its2,vr2,h2⟩:=e_ I e2;rw[D.fV] at ha hb;rw[jY] at hk;exact aHa.lst o h1 h2 (hC ha hb r1 r2 vr1 vr2) hk hu0
   |_=>exact nx0 hk
  |lst ds=>
   cases b with
   |scr es=>
    obtain⟨p,xs,rfl,e1,r1⟩:=rx.lW (K:=X.K);cases ru;obtain⟨its1,vr1,h1⟩:=e_ I e1;obtain⟨q,ys,rfl,e2,r2⟩:=nC hK ry;cases rv;obtain⟨its2,vr2,h2⟩:=e_ I e2;replace ha:ν n ds=ag:=ha;replace hb:ν n es=ag:=hb;replace hk:dY o ds es=ae k:=hk;exact aHa.lst o h1 h2 (hC ha hb r1 r2 vr1 vr2) hk hu0
   |_=>exact nx0 hk
  |_=>exact ZW o (by intro ds z;cases z) (by intro ds z;cases z) (by intro ds z;cases z) rx ry ru rv hk
end
end Mi
namespace TS
open PySem PyProof.Rows
theorem KY(ho:s.heap.get? a=ae (e8 "list" vs.toArray n))(hn:vs.length<=bg)
 (hk:2<=vs.length->∃κ U r,QD U (gN vs)/\
   (∀Q:hG->au->Prop,Q κ {s with heap:=((s.heap.update a (fx λ_=>(#[]:ax ak))).push (e8 "tuple" vs.toArray 0)).push (e8 "list" #[] 0)}->ϑ (av prog w) A (xn vs.toArray) Q E {s with heap:=((s.heap.update a (fx λ_=>(#[]:ax ak))).push (e8 "tuple" vs.toArray 0)).push (e8 "list" #[] 0)})/\
   aCq prog w A E {s with heap:=((s.heap.update a (fx λ_=>(#[]:ax ak))).push (e8 "tuple" vs.toArray 0)).push (e8 "list" #[] 0)} κ U r/\
   ∀arr:ax aI,arr.Perm (gN vs)->Srt r arr 0 (gN vs).size->P (.done (.ret .none)) {s with heap:=xo s.heap a vs (arr.map (·.2))})
 (h1:vs.length<2->P (.done (.ret .none)) {s with heap:=xo s.heap a vs ((gN vs).map (·.2))}) :
  ϑ (av prog w) A (Builtin.«list.sort» ⟨[.ref a],[]⟩) P E s:=by
 rw[list_sort_plain];have ha:a<s.heap.objs.size:=bE ho;refine aw (listItems_at ho rfl ?_);refine aw (xp ho rfl ?_ (by rw[b6];exact hn) (eI _));obtain⟨e1,ho1⟩:∃e1,(s.heap.update a (fx λ_=>(#[]:ax ak))).get? a=ae (e8 "list" #[] e1):=⟨_,get?_update_seq ho (λ_=>#[])⟩
 refine aw (xq ho1 rfl ?_);refine aw (wpAny_newTuple ?_ (by show vs.length<=_;exact hn));refine aw (Bi ?_ (eI _));refine ic ?_;have ho6:(((s.heap.update a (fx λ_=>(#[]:ax ak))).push (e8 "tuple" vs.toArray 0)).push (e8 "list" #[] 0)).get? a=ae (e8 "list" #[] e1):=by
  rw[Bj _ _ _ (by rw[size_push',xr];exact de (iw ha)),Bj _ _ _ (by rw[xr];exact de ha)];exact ho1
 show ϑ (av prog w) A _ P E {s with heap:=((s.heap.update a (fx λ_=>(#[]:ax ak))).push (e8 "tuple" vs.toArray 0)).push (e8 "list" #[] 0)};dsimp only;have hsz:vs.toArray.size=vs.length:=by simp
 by_cases h2:vs.toArray.size<2
 .rw[ao h2,ao h2];refine aw (bf ?_);rw[StateT.run_pure];refine aw (bf ?_);dsimp only;refine aw (xq ho6 rfl ?_);refine aw (xp ho6 rfl ?_ (eI _) (hsz2:=by rw[Bk];show(gN vs).size<=_;rw[pairsOf_size];exact Bl hn));simp only[Bm,iv,gd];exact bf (h1 0x1)
 .rw[ap h2,ap h2];obtain⟨κ,U,r,hU,hkk,hL,fin⟩:=hk 0x1;refine aw (hkk _ ?_);refine aw (fu (wpS_sortRuns
   (Q:=λ_ st'=>(ay st').Perm (gN vs)/\gv st'=aj/\Srt r (ay st') 0 (gN vs).size) hL hU ⟨rfl,rfl,ov _⟩ rfl (by rw[pairsOf_size];lia) λst' b z=>⟨b.pm,b.fl,z⟩) ?_ λ_ _ e=>e)
  rintro⟨⟨⟩,st'⟩ s' ⟨rfl,hp,hf,hs⟩;dsimp only;refine aw (xq ho6 rfl ?_);refine aw (xp ho6 rfl ?_ (eI _) (hsz2:=by refine dj (sL ((Bk ..).trans (hp.size_eq.trans (pairsOf_size _)))) ?_;exact Bl hn));rw[hf];simp only[Bm,iv,gd];exact bf (fin (ay st') hp hs)
noncomputable def aOt(h:bm)(vs:aa ak):bm:=
 (((h.push (e8 "list" vs.toArray 0)).update h.objs.size (fx λ_=>(#[]:ax ak))).push (e8 "tuple" vs.toArray 0)).push (e8 "list" #[] 0)
def aHw(hb:h.get? b=ae o):(aOt h vs).get? b=ae o:=by
 have hlt:b<h.objs.size:=bE hb;unfold aOt;refine cg _ (cg _ ?_);rw[Bn _ _ _ _ (de hlt)];exact cg _ hb
noncomputable def aOu(h:bm)(vs:aa ak)(out:ax ak):bm:=xo (h.push (e8 "list" vs.toArray 0)) h.objs.size vs out
def aHx(hb:h.get? b=ae o):(aOu h vs out).get? b=ae o:=by
 have hlt:b<h.objs.size:=bE hb;unfold aOu;rw[sortedHeap_old (de hlt) (by rw[size_push'];exact iw hlt)];exact cg _ hb
def aLx(h:bm)(vs:aa ak)(out:ax ak):∃e,(aOu h vs out).get? h.objs.size=ae (e8 "list" out e):=sortedHeap_at (dt _ rfl)
def aBq(hn:vs.length<=bg)
 (hcol:∀(Q':aa ak->au->Prop) (E':ak->au->Prop),(∀h1 tk,(∀b o,s.heap.get? b=ae o->h1.get? b=ae o)->s.heap.objs.size<=h1.objs.size->Q' vs {s with heap:=h1,toks:=tk})->ϑ (av prog w) A.in1 (oB v) Q' E' s)
 (hk:∀h1 tk,(∀b o,s.heap.get? b=ae o->h1.get? b=ae o)->s.heap.objs.size<=h1.objs.size->2<=vs.length->∃κ U r,QD U (gN vs)/\
   (∀Q:hG->au->Prop,Q κ {s with heap:=aOt h1 vs,toks:=tk}->ϑ (av prog w) A.in1.in1 (xn vs.toArray) Q (λ_ _=>c8) {s with heap:=aOt h1 vs,toks:=tk})/\
   aCq prog w A.in1.in1 (λ_ _=>c8) {s with heap:=aOt h1 vs,toks:=tk} κ U r/\
   ∀arr:ax aI,arr.Perm (gN vs)->Srt r arr 0 (gN vs).size->Q (.ref h1.objs.size) {s with heap:=aOu h1 vs (arr.map (·.2)),toks:=tk})
 (h1:∀h1 tk,(∀b o,s.heap.get? b=ae o->h1.get? b=ae o)->s.heap.objs.size<=h1.objs.size->vs.length<2->Q (.ref h1.objs.size) {s with heap:=aOu h1 vs ((gN vs).map (·.2)),toks:=tk}) :
  ϑ (av prog w) A (call (.builtin "sorted") [v]) Q E s:=by
 refine Calls.call_function_entry kind_sorted plain_sorted entry_sorted (args_sorted1 _) ?_;unfold Builtin.«sorted»;refine aw (bf ?_);refine aw (hcol _ _ λhh tk kp hle=>?_);refine aw (Bi ?_ hn);have hoL:(hh.push (e8 "list" vs.toArray 0)).get? hh.objs.size=ae (e8 "list" vs.toArray 0):=dt _ rfl;show ϑ _ _ _ _ _ {s with heap:=hh.push (e8 "list" vs.toArray 0),toks:=tk};refine aw (ic (nL slot_list_sort ⟨_,hoL,rfl⟩ entry_list_sort ?body (args_list_sort _)))
 case body=>
  refine fu (KY (E:=λ_ _=>c8) (P:=λf s'=>∃v,f=.done (.ret v)/\v=kK/\Q (.ref hh.objs.size) s') hoL hn (λh2=>?_) (λh2=>⟨_,rfl,rfl,h1 hh tk kp hle h2⟩)) (λf s' h=>?_) λ_ _ z=>f_ z
  .obtain⟨κ,U,r,hU,hkk,hL,fin⟩:=hk hh tk kp hle h2;exact⟨κ,U,r,hU,hkk,hL,λarr p z=>⟨_,rfl,rfl,fin arr p z⟩⟩
  .obtain⟨v,rfl,rfl,q⟩:=h;exact⟨_,rfl,bf ⟨_,rfl,q⟩⟩
end TS
namespace Mi
open PySem L2 PySem.SeqAt
open PyProof.Rows (Keyed lt' keyLt' oneLt' SortKind SortSt kindOf tuples' oneType' pairsOf wpS wpS_bind wpS_pure wpS_get wpS_lift keyKind')
section
variable [KFrag]
def mF(H:Hp)(u:ak):D:=by
 classical
 exact if h:∃d,d.plain=ag/\d.fV aR=ag/\∃v,RelV v u/\Rep All H v d then Bo h else .non
def vW(hK:KFrag.K=X.K)(I:Inv X Ψ σ H s)(hp:d.plain=ag)(hq:d.fV aR=ag)(rv:RelV v u)(r:Rep All H v d):mF H u=d:=by
 unfold mF;have h:∃d,d.plain=ag/\d.fV aR=ag/\∃v,RelV v u/\Rep All H v d:=⟨d,hp,hq,v,rv,r⟩
 rw[lw h];obtain⟨h1,h2,v',rv',r'⟩:=Bp h;have:=rv'.inj rv;subst this;exact Rep.inj I hK aR h2 hq r' r
def fK(h:bF ds=ag)(ha:a∈ds):a.plain=ag/\a.fV aR=ag/\fY a≠0/\fY a=fY (ds.headD .non)/\∀b∈ds,∃k,jY .lt a b=ae k:=by
 unfold bF at h;have:=dy.mp h a ha;simp only[bj,bne_iff_ne,ir] at this;obtain⟨⟨⟨⟨h1,h2⟩,h3⟩,h4⟩,h5⟩:=this;refine⟨h1,h2,h3,h4,λb hb=>vn.mp (dy.mp h5 b hb)⟩
def aQb(h:bF ds=ag)(ha:a∈ds)(hb:b∈ds):jY .lt a b=ae (ϒ (enc a<enc b)):=by
 obtain⟨p1,_,_,_,q⟩:=fK h ha;obtain⟨p2,_⟩:=fK h hb;obtain⟨k,hk⟩:=q b hb;rw[hk,BL a b k p1 p2 hk]
def sU(H:Hp)(ds:aa D)(k:aI):Prop:=∃v d,RelV v k.1/\Rep All H v d/\d∈ds
def sLt(H:Hp)(x y:aI):aq:=ϒ (enc (mF H x.1)<enc (mF H y.1))
theorem aK1{p q:D->aq}:∀{l:aa D},(∀x,p x=ag->q x=ag)->a∈l->q a=ag->p a=ai->l.countP p<l.countP q
 |[],_,h,_,_=>by cases h
 |b::l,h,m,h1,h2=>by
  have le:l.countP p<=l.countP q:=Bq λx _=>h x
  rw[Br,Br];rcases bi.mp m with rfl|m
  .rw[h1,h2,ao rfl,ap 0x2];lia
  .have:=aK1 h m h1 h2;have:=h b;split<;>split<;>first|lia|(rename_i x y;exact aT (this x) y)
def sR(H:Hp)(ds:aa D)(x:aI):ah:=ds.countP λe=>ϒ (enc e<enc (mF H x.1))
def aQc(hd:mF H x.1∈ds):ϒ (sR H ds x<sR H ds y)=sLt H x y:=by
 unfold sR sLt;by_cases c:enc (mF H x.1)<enc (mF H y.1)
 .rw[bz c];exact bz (aK1 (λe h=>bz (List.lt_trans (d6 h) c)) hd (bz c) (cy (mP _)))
 .rw[cy c];exact cy (oj.mpr (Bq λe _ h=>bz (DJ λg=>c (w8 (lI.mp g) (d6 h)))))
section
variable {X:Cx} {Ψ:aa (am×bP)} {σ:L2.St} {H:Hp} {s:au}
open PySem.W in
theorem KZ:∀(vs ws:aa ak)(xs ys:aa D)(i:ah),(b&&i==0)=ai->C2 .lt A s vs ws xs ys->dY .lt xs ys=ae k->xs.length+n2=ys.length+n1->Q k s->
  KatLex prog w A b (ϒ (n1<n2)) Q (vs.zip ws) i s
 |[],ws,xs,ys,i,_,hC,hk,hf,q=>by
  have:xs=[]:=xt hC.1.symm;subst this;rw[Bb];rw[dY] at hk;have e:k=ϒ (n1<n2):=by
   rw[<-di hk];simp only[jG.nat,eW] at hf ⊢
   congr 1
   simp only[eq_iff_iff];lia
  rw[<-e];exact q
 |v::vs,[],xs,ys,i,_,hC,hk,hf,q=>by
  have:ys=[]:=xt hC.2.1.symm;subst this;rw[Bc];cases xs with
  |nil=>exact aT hC.1 0x2
  |cons x xs=>
   rw[dY] at hk;have e:k=ϒ (n1<n2):=by
    rw[<-di hk];simp only[jG.nat,eW,b9] at hf ⊢
    congr 1
    simp only[eq_iff_iff];lia
   rw[<-e];exact q
 |v::vs,w'::ws,[],ys,i,_,hC,hk,hf,q=>aT hC.1 0x2
 |v::vs,w'::ws,x::xs,[],i,_,hC,hk,hf,q=>aT hC.2.1 0x2
 |v::vs,w'::ws,x::xs,y::ys,i,hi,hC,hk,hf,q=>by
  rw[tN];obtain⟨he,hlt⟩:=hC.2.2 0 _ _ _ _ rfl rfl rfl rfl;rw[dY] at hk;refine kat_cons (he prog w _ _ ?_);cases e:eqD x y with
  |true=>
   rw[e,ao rfl] at hk;exact kat_yes (KZ vs ws xs ys (i+1) 0x2 hC.tail hk (by simp only[b9] at hf;lia) q)
  |false=>
   rw[e,ap 0x2] at hk;refine kat_no ?_;rw[hi];exact kat_one _ _ (hlt e k hk prog w _ _ q)
def aQd(hK:KFrag.K=X.K)(I:Inv X Ψ σ H s)(hu:A.units+n<bw)(ha:ν n ds=ag)(hb:ν n es=ag)(r1:cL All H xs ds)(r2:cL All H ys es)(vr1:Vals xs its1)(vr2:Vals ys its2) :
  C2 .lt A s its1 its2 ds es:=by
 refine⟨by rw[<-vr1.length,r1.length],by rw[<-vr2.length,r2.length],λj v w x y a1 a2 a3 a4=>?_⟩;obtain⟨v1,w1,rr1⟩:=r1.get a3;obtain⟨v2,w2,rr2⟩:=r2.get a4;obtain⟨u1,k1,l1⟩:=vr1.get w1;obtain⟨u2,k2,l2⟩:=vr2.get w2;rw[a1] at k1;cases k1;rw[a2] at k2;cases k2;have g1:x.fV n=ag:=by
  have:=kY ha (ej.mp a3).1;rwa [dz,a3] at this
 have g2:y.fV n=ag:=by
  have:=kY hb (ej.mp a4).1;rwa [dz,a4] at this
 exact⟨(Q8 hK I n A hu g1 g2 rr1 rr2 l1 l2).2.2,λ_ k hk=>WT hK I .lt n A hu g1 g2 rr1 rr2 l1 l2 hk⟩
theorem kind_le(d:D):fY d<=6:=by
 unfold fY;split<;>lia
theorem aLy(h:fY d=1):∃i,d=.int i:=by
 unfold fY at h;split at h<;>first|lia|exact⟨_,rfl⟩
theorem aLz(h:fY d=2):∃i,d=.str i:=by
 unfold fY at h;split at h<;>first|lia|exact⟨_,rfl⟩
theorem aHy(h:fY d=3):∃i r,d=.tup (.int i::r):=by
 unfold fY at h;split at h<;>first|lia|exact⟨_,_,rfl⟩
theorem aHz(h:fY d=4):∃i r,d=.tup (.str i::r):=by
 unfold fY at h;split at h<;>first|lia|exact⟨_,_,rfl⟩
theorem aQe(h:fY d=5):∃i r,d=.tup (.tup i::r):=by
 unfold fY at h;split at h<;>first|lia|exact⟨_,_,rfl⟩
theorem aI0(h:fY d=6):∃i r,d=.tup (.scr i::r):=by
 unfold fY at h;split at h<;>first|lia|exact⟨_,_,rfl⟩
def ZX(r:cL All H xs ds)(vr:Vals xs its)(hu:u∈its):∃v d,RelV v u/\Rep All H v d/\d∈ds:=by
 obtain⟨j,hj,e⟩:=sP hu;have hj':j<ds.length:=by rw[<-r.length,vr.length];exact hj
 obtain⟨v,h1,h2⟩:=r.get (i:=j) (d:=ds[j]) (by simp[hj']);obtain⟨u',h3,h4⟩:=vr.get h1;rw[eg hj,e] at h3;cases h3;exact⟨v,_,h4,h2,ig _⟩
open PySem.W in
theorem BR(I:Inv X Ψ σ H s){F:D->Prop}(hF:∀(d:D) (v:V) (u:ak),F d->RelV v u->Rep All H v d->tT (av X.prog X.w) s.heap (lh u) T) :
  ∀{xs:aa V}{ds:aa D}{its:aa ak},cL All H xs ds->Vals xs its->(∀d∈ds,∃f r,d=.tup (f::r)/\F f)->∃fs,KatTups s.heap its fs/\fs.length=its.length/\∀f∈fs,tT (av X.prog X.w) s.heap (lh f) T
 |_,_,_,.nil,.nil,_=>⟨[],.nil,rfl,λ_ h=>by simp at h⟩
 |_,_,_,.cons r t,.cons v vt,h=>by
  obtain⟨fs,h1,h2,h3⟩:=BR I hF t vt λd hd=>h d (bo _ hd)
  obtain⟨f,rr,rfl,hf⟩:=h _ (bu ..);obtain⟨a,ys,rfl,e,rs⟩:=r.iZ;cases v;obtain⟨its2,vr2,o,ho,hc,n,hd⟩:=jJ I e;cases rs with
  |cons r0 rs=>
   cases vr2 with
   |cons v0 vr2=>
    refine⟨_::fs,.cons ho hc hd rfl h1,by simp[h2],λg hg=>?_⟩;rcases bi.mp hg with rfl|hg
    .exact hF _ _ _ hf v0 r0
    .exact h3 g hg
theorem aBr{E:ak->au->Prop}(hl:s.heap.IsList l items)(hb:s.heap.IsList b items2)(hC:C2 .lt A.in1 s items.toList items2.toList xs ys)(hr:dY .lt xs ys=ae res)(hu:A.units<bw)(q:Q res s):ϑ (av X.prog X.w) A (oneLt' ag (.ref l) (.ref b)) Q E s:=by
 obtain⟨⟨cls,dd,data,sl⟩,ho,hc,n,hd⟩:=id hl;obtain⟨⟨cls2,dd2,nK,sl2⟩,ho2,hc2,n2,hd2⟩:=id hb;simp only at hc hd hc2 hd2;subst hc hd hc2 hd2;have M:=JK .lt l b items items2 n n2 dd dd2 sl sl2 xs ys res hr;rw[DL];simp only[eT];refine aw (wpAny_cRoomFor hu ?_);refine aw (wpAny_callSpecialIfBound?_slot ⟨_,ho,rfl⟩ xm (kj xm ⟨_,ho,rfl⟩ Bg (Bh _ _) M ⟨ho,ho2,hC,?_⟩));exact jg q
open PySem.W in
theorem aE5(hK:KFrag.K=X.K)(I:Inv X Ψ σ H s)(hu:A.units+aR<bw)(hc:bF ds=ag)(r:cL All H xs ds)(vr:Vals xs its)(h2:2<=its.length) :
  ∃κ:hG,(∀Q:hG->au->Prop,Q κ s->ϑ (av X.prog X.w) A (xn its.toArray) Q (λ_ _=>c8) s)/\
   ∀(x y:aI)(Q:aq->au->Prop),sU H ds x->sU H ds y->Q (sLt H x y) s->ϑ (av X.prog X.w) A (keyLt' κ x.1 y.1) Q (λ_ _=>c8) s:=by
 have hlen:ds.length=its.length:=by rw[<-r.length,vr.length]
 have hkind:∀d∈ds,fY d=fY (ds.headD .non):=λd hd=>(fK hc hd).2.2.2.1
 have hne:fY (ds.headD .non)≠0:=by
  have hd:ds.headD .non∈ds:=by
   cases ds with
   |nil=>simp at hlen;lia
   |cons d ds=>simp
  exact(fK hc hd).2.2.1
 have lty:∀{x y:aI}{v v':V}{d d':D},RelV v x.1->Rep All H v d->d∈ds->RelV v' y.1->Rep All H v' d'->d'∈ds->jY .lt d d'=ae (sLt H x y):=λ{x y v v' d d'} rv rp hd rv' rp' hd'=>by
  have e1:=vW hK I (fK hc hd).1 (fK hc hd).2.1 rv rp;have e2:=vW hK I (fK hc hd').1 (fK hc hd').2.1 rv' rp';rw[aQb hc hd hd'];unfold sLt;rw[e1,e2]
 -- two tuples whose first items are told by a la of their own,or by the common one
 have tupl:∀(b:aq)(x y:aI)(Q:aq->au->Prop),sU H ds x->sU H ds y->(∀d∈ds,∃f r,d=.tup (f::r))->
   (b=ag->∀(f g:D)(v v':V)(u u':ak)(k:aq)(Q:aq->au->Prop),(∃r,D.tup (f::r)∈ds)->(∃r,D.tup (g::r)∈ds)->RelV v u->Rep All H v f->RelV v' u'->Rep All H v' g->jY .lt f g=ae k->Q k s->ϑ (av X.prog X.w) A (oneLt' ag u u') Q (λ_ _=>c8) s)->
   Q (sLt H x y) s->ϑ (av X.prog X.w) A (keyLt' (oD b) x.1 y.1) Q (λ_ _=>c8) s:=by
  rintro b ⟨x1,x2⟩ ⟨y1,y2⟩ Q ⟨v,d,rv,rp,hd⟩ ⟨v',d',rv',rp',hd'⟩ htup hone q;have hk:=lty rv rp hd rv' rp' hd';have q1:=(fK hc hd).2.1;have q2:=(fK hc hd').2.1;obtain⟨f,rr,rfl⟩:=htup d hd;obtain⟨g,rr',rfl⟩:=htup d' hd';obtain⟨a,ys,rfl,e,rs⟩:=rp.iZ;obtain⟨a',ys',rfl,e',rs'⟩:=rp'.iZ;cases rv;cases rv';obtain⟨i1,vr1,o1,ho1,hc1,n1,hd1⟩:=jJ I e;obtain⟨i2,vr2,o2,ho2,hc2,n2,hd2⟩:=jJ I e';rw[jY] at hk;have q1':ν 11 (f::rr)=ag:=q1;have q2':ν 11 (g::rr')=ag:=q2;have hu':A.units+11<bw:=by have:A.units+12<bw:=hu;lia
  have C:=aQd hK I hu' q1' q2' rs rs' vr1 vr2;refine kat_lt ho1 hd1 ho2 hd2 ?_;have z1:i1.toArray.size=(f::rr).length:=by rw[b6,<-vr1.length,rs.length]
  have z2:i2.toArray.size=(g::rr').length:=by rw[b6,<-vr2.length,rs'.length]
  rw[lS,lS,z1,z2];cases b with
  |false=>exact KZ i1 i2 (f::rr) (g::rr') 0 rfl C hk 0x1 q
  |true=>
   cases rs with
   |cons r0 rs=>
    cases rs' with
    |cons r0' rs'=>
     cases vr1 with
     |cons v0 vr1=>
      cases vr2 with
      |cons v0' vr2=>
       rw[tN];obtain⟨he,_⟩:=C.2.2 0 _ _ _ _ rfl rfl rfl rfl;rw[dY] at hk;refine kat_cons (he X.prog X.w _ _ ?_);cases e0:eqD f g with
       |true=>
        rw[e0,ao rfl] at hk;exact kat_yes (KZ _ _ rr rr' 1 0x2 C.tail hk (by simp only[b9];lia) q)
       |false=>
        rw[e0,ap 0x2] at hk;refine kat_no ?_;exact hone rfl f g _ _ _ _ _ Q ⟨_,hd⟩ ⟨_,hd'⟩ v0 r0 v0' r0' hk q
 have h5:=kind_le (ds.headD .non);have cases5:fY (ds.headD .non)=1\/fY (ds.headD .non)=2\/fY (ds.headD .non)=3\/fY (ds.headD .non)=4\/fY (ds.headD .non)=5\/fY (ds.headD .non)=6:=by lia
 rcases cases5 with c|c|c|c|c|c
 .refine⟨oneType',λQ q=>kas_kind (T:=.type "int") h2 (λu hm=>?_) 0x4 0x4 q,λx y Q hx hy q=>?_⟩
  .obtain⟨v,d,rv,rp,hd⟩:=ZX r vr hm;obtain⟨i,rfl⟩:=aLy ((hkind d hd).trans c);cases rp.inv;obtain⟨t,rfl⟩:=rv;exact t0 rfl
  .obtain⟨v,d,rv,rp,hd⟩:=hx;obtain⟨v',d',rv',rp',hd'⟩:=hy;have hk:=lty rv rp hd rv' rp' hd';obtain⟨i,rfl⟩:=aLy ((hkind d hd).trans c);obtain⟨j,rfl⟩:=aLy ((hkind d' hd').trans c);cases rp.inv;cases rp'.inv;obtain⟨t,e1⟩:=rv;obtain⟨t',e2⟩:=rv';rw[jY] at hk;rw[<-di hk] at q;rw[e1,e2,Bu];exact Bw q
 .refine⟨oneType',λQ q=>kas_kind (T:=.type "str") h2 (λu hm=>?_) 0x4 0x4 q,λx y Q hx hy q=>?_⟩
  .obtain⟨v,d,rv,rp,hd⟩:=ZX r vr hm;obtain⟨i,rfl⟩:=aLz ((hkind d hd).trans c);cases rp.inv;obtain⟨t,rfl⟩:=rv;exact t0 rfl
  .obtain⟨v,d,rv,rp,hd⟩:=hx;obtain⟨v',d',rv',rp',hd'⟩:=hy;have hk:=lty rv rp hd rv' rp' hd';obtain⟨i,rfl⟩:=aLz ((hkind d hd).trans c);obtain⟨j,rfl⟩:=aLz ((hkind d' hd').trans c);cases rp.inv;cases rp'.inv;obtain⟨t,e1⟩:=rv;obtain⟨t',e2⟩:=rv';rw[jY] at hk;rw[<-di hk] at q;rw[e1,e2,Bu];exact Bx q
 .obtain⟨fs,t1,t2,t3⟩:=BR I (T:=.type "int") (F:=λf=>∃i,f=.int i) (λd v u hf rv rp=>by
   obtain⟨i,rfl⟩:=hf;cases rp.inv;obtain⟨t,rfl⟩:=rv;exact t0 rfl) r vr (λd hd=>by
   obtain⟨i,rr,rfl⟩:=aHy ((hkind d hd).trans c);exact⟨_,_,rfl,i,rfl⟩)
  refine⟨oD ag,λQ q=>t5 (T:=.type "int") t1 0x1 t3 0x4 q,λx y Q hx hy q=>tupl ag x y Q hx hy (λd hd=>?_) (λ_ f g v v' u u' k Q hf hg rv rp rv' rp' hk q=>?_) q⟩
  .obtain⟨i,rr,rfl⟩:=aHy ((hkind d hd).trans c);exact⟨_,_,rfl⟩
  .obtain⟨r1,hf⟩:=hf;obtain⟨r2,hg⟩:=hg;obtain⟨i,rr,e1⟩:=aHy ((hkind _ hf).trans c);obtain⟨j,rr',e2⟩:=aHy ((hkind _ hg).trans c);cases e1;cases e2;cases rp.inv;cases rp'.inv;obtain⟨t,rfl⟩:=rv;obtain⟨t',rfl⟩:=rv';rw[jY] at hk;rw[<-di hk] at q;exact Bw q
 .obtain⟨fs,t1,t2,t3⟩:=BR I (T:=.type "str") (F:=λf=>∃i,f=.str i) (λd v u hf rv rp=>by
   obtain⟨i,rfl⟩:=hf;cases rp.inv;obtain⟨t,rfl⟩:=rv;exact t0 rfl) r vr (λd hd=>by
   obtain⟨i,rr,rfl⟩:=aHz ((hkind d hd).trans c);exact⟨_,_,rfl,i,rfl⟩)
  refine⟨oD ag,λQ q=>t5 (T:=.type "str") t1 0x1 t3 0x4 q,λx y Q hx hy q=>tupl ag x y Q hx hy (λd hd=>?_) (λ_ f g v v' u u' k Q hf hg rv rp rv' rp' hk q=>?_) q⟩
  .obtain⟨i,rr,rfl⟩:=aHz ((hkind d hd).trans c);exact⟨_,_,rfl⟩
  .obtain⟨r1,hf⟩:=hf;obtain⟨r2,hg⟩:=hg;obtain⟨i,rr,e1⟩:=aHz ((hkind _ hf).trans c);obtain⟨j,rr',e2⟩:=aHz ((hkind _ hg).trans c);cases e1;cases e2;cases rp.inv;cases rp'.inv;obtain⟨t,rfl⟩:=rv;obtain⟨t',rfl⟩:=rv';rw[jY] at hk;rw[<-di hk] at q;exact Bx q
 .obtain⟨fs,t1,t2,t3⟩:=BR I (T:=.type "tuple") (F:=λf=>∃i,f=.tup i) (λd v u hf rv rp=>by
   obtain⟨i,rfl⟩:=hf;obtain⟨a,ys,rfl,e,rs⟩:=rp.iZ;cases rv;obtain⟨i1,vr1,o1,ho1,hc1,n1,hd1⟩:=jJ I e;have:=(show tT (av X.prog X.w) s.heap (lh (.ref a)) o1.cls from (By ho1).andThen .now)
   rwa [hc1] at this) r vr (λd hd=>by
   obtain⟨i,rr,rfl⟩:=aQe ((hkind d hd).trans c);exact⟨_,_,rfl,i,rfl⟩)
  refine⟨oD ai,λQ q=>t5 (T:=.type "tuple") t1 0x1 t3 0x4 q,λx y Q hx hy q=>tupl ai x y Q hx hy (λd hd=>?_) (λh=>by cases h) q⟩;obtain⟨i,rr,rfl⟩:=aQe ((hkind d hd).trans c);exact⟨_,_,rfl⟩
 .obtain⟨fs,t1,t2,t3⟩:=BR I (T:=.type "list") (F:=λf=>∃i,f=.scr i) (λd v u hf rv rp=>by
   obtain⟨i,rfl⟩:=hf;obtain⟨a,ys,rfl,e,rs⟩:=nC hK rp;cases rv;obtain⟨i1,vr1,o1,ho1,hc1,n1,hd1⟩:=e_ I e;have:=(show tT (av X.prog X.w) s.heap (lh (.ref a)) o1.cls from (By ho1).andThen .now)
   rwa [hc1] at this) r vr (λd hd=>by
   obtain⟨i,rr,rfl⟩:=aI0 ((hkind d hd).trans c);exact⟨_,_,rfl,i,rfl⟩)
  refine⟨oD ag,λQ q=>t5 (T:=.type "list") t1 0x1 t3 0x4 q,λx y Q hx hy q=>tupl ag x y Q hx hy (λd hd=>?_) (λ_ f g v v' u u' k Q hf hg rv rp rv' rp' hk q=>?_) q⟩
  .obtain⟨i,rr,rfl⟩:=aI0 ((hkind d hd).trans c);exact⟨_,_,rfl⟩
  .obtain⟨r1,hf⟩:=hf;obtain⟨r2,hg⟩:=hg;have q1:ν 11 (f::r1)=ag:=(fK hc hf).2.1;have q2:ν 11 (g::r2)=ag:=(fK hc hg).2.1;obtain⟨i,rr,e1⟩:=aI0 ((hkind _ hf).trans c);obtain⟨j,rr',e2⟩:=aI0 ((hkind _ hg).trans c);cases e1;cases e2;rw[ν,bj] at q1 q2;have p1:ν 10 i=ag:=q1.1;have p2:ν 10 j=ag:=q2.1;obtain⟨p,xs1,rfl,e1,s1⟩:=nC hK rp;cases rv;obtain⟨its1,vr1,h1⟩:=e_ I e1;obtain⟨p',ys1,rfl,e2,s2⟩:=nC hK rp';cases rv';obtain⟨its2,vr2,h2'⟩:=e_ I e2;have hu12:A.units+12<bw:=hu;rw[jY] at hk;exact aBr h1 h2' (by rw[lS,lS];exact aQd hK I (by show A.units+1+10<bw;lia) p1 p2 s1 s2 vr1 vr2) hk 0x1 q
def aK2(hK:KFrag.K=X.K)(I:Inv X Ψ σ H s)(hc:bF ds=ag)(h:sU H ds x):mF H x.1∈ds:=by
 obtain⟨v,d,rv,r,hd⟩:=h;rw[vW hK I (fK hc hd).1 (fK hc hd).2.1 rv r];exact hd
def aM0(hK:KFrag.K=X.K)(I:Inv X Ψ σ H s)(hc:bF ds=ag)(h:∀(x y:aI) (Q:aq->au->Prop),sU H ds x->sU H ds y->Q (sLt H x y) s->ϑ (av X.prog X.w) A (keyLt' κ x.1 y.1) Q (λ_ _=>c8) s) :
  TS.aCq X.prog X.w A (λ_ _=>c8) s κ (sU H ds) (sR H ds):=by
 intro x y st Q hx hy hk q;rw[aQc (aK2 hK I hc hx)] at q;rw[DM];refine bb (iP ?_);rw[hk];refine bb (lu (xu (fu (h x y (λb s'=>s'=s/\b=sLt H x y) hx hy ⟨rfl,rfl⟩) (λb s' ⟨e1,e2⟩=>⟨e1,?_⟩) λ_ _ z=>f_ z)));subst e2;exact bh q
theorem uT(hK:KFrag.K=X.K)(I:Inv X Ψ σ H s)(hu:X.A.units+20<bw)(vr:Vals xs its)(hn:its.length<=bg)(r:cL All H xs ds)(hc:bF ds=ag)
 (hcol:∀(Q':aa ak->au->Prop) (E':ak->au->Prop),(∀h1 tk,(∀b o,s.heap.get? b=ae o->h1.get? b=ae o)->s.heap.objs.size<=h1.objs.size->Q' its {s with heap:=h1,toks:=tk})->ϑ (av X.prog X.w) X.A.in1 (oB v) Q' E' s)
 (q:∀p xs',H p=aj->cL All H xs' (iK ds)->Q (.ref p) (upd H p (.lst xs'))):ϑ (av X.prog X.w) X.A (call (.builtin "sorted") [v]) (EP X Ψ σ Q) X.xe s:=by
 have hz:xs.length<=bg:=by rw[vr.length];exact hn
 -- what comes,told by its data
 have fin:∀(h1:bm)(tk:ah),(∀b o,s.heap.get? b=ae o->h1.get? b=ae o)->s.heap.objs.size<=h1.objs.size->∀arr:ax aI,arr.Perm (gN its)->(∀i j,i<=j->j<arr.size->leE (mF H (TS.gt arr i).1) (mF H (TS.gt arr j).1)=ag)->EP X Ψ σ Q (.ref h1.objs.size) {s with heap:=TS.aOu h1 its (arr.map (·.2)),toks:=tk}:=by
  intro h1' tk kp hle arr hp hs;have hpl:arr.toList.Perm (its.zip its):=by rw[<-DO];exact wv.mp hp
  have hmem:∀p∈arr.toList,p.1=p.2/\p.1∈its:=λp hp'=>DS (hpl.mem_iff.mp hp')
  have e1:(arr.map (·.2)).toList=arr.toList.map (·.1):=by
   rw[Array.toList_map];exact c_ λp hp'=>(hmem p hp').1.symm
  -- the values and their data
  have all:∀l:aa aI,(∀p∈l,p∈arr.toList)->∃ys,Vals ys (l.map (·.1))/\cL All H ys (l.map λp=>mF H p.1):=by
   intro l;induction l with
   |nil=>intro _;exact⟨[],.nil,.nil⟩
   |cons p l ih=>
    intro h;obtain⟨ys,h1,h2⟩:=ih λp hp'=>h p (bo _ hp')
    obtain⟨v,d,rv,rp,hd⟩:=ZX r vr (hmem p (h p (bu ..))).2;refine⟨v::ys,.cons rv h1,?_⟩;rw[ba,vW hK I (fK hc hd).1 (fK hc hd).2.1 rv rp];exact .cons rp h2
  obtain⟨ys,h1,h2⟩:=all arr.toList λ_ h=>h
  have dats:its.map (mF H)=ds:=by
   clear all h1 h2 hp hs hpl hmem e1;have:∀{xs:aa V}{es:aa D}{us:aa ak},cL All H xs es->Vals xs us->(∀d∈es,d∈ds)->us.map (mF H)=es:=by
    intro xs es us r;induction us generalizing xs es with
    |nil=>intro v _;cases v;cases r;rfl
    |cons u us ih=>
     intro v hsub;cases v with
     |cons v0 vt=>
      cases r with
      |cons r0 rt=>
       have hd:=hsub _ (bu ..);rw[ba,ih rt vt λd hd=>hsub d (bo _ hd),vW hK I (fK hc hd).1 (fK hc hd).2.1 v0 r0]
   exact this r vr λ_ h=>h
  have hperm:(arr.toList.map λp=>mF H p.1).Perm ds:=by
   have:=hpl.map λp=>mF H p.1
   have e2:(its.zip its).map (λp=>mF H p.1)=ds:=by
    have:(its.zip its).map (λp=>mF H p.1)=((its.zip its).map oI).map (mF H):=by rw[bp];rfl
    rw[this,Bz (bd _),dats]
   rwa [e2] at this
  have hsorted:(arr.toList.map λp=>mF H p.1).Pairwise λa b=>leE a b=ag:=by
   rw[eh,Ax];intro i j hi hj hij;have:=hs i j (jy hij) (by simpa using hj);have g:∀k (hk:k<arr.toList.length),TS.gt arr k=arr.toList[k]:=λk hk=>by
    unfold TS.gt;have hk':k<arr.size:=by simpa using hk
    simp[kn,hk']
   rwa [g i hi,g j hj] at this
  have eq:(arr.toList.map λp=>mF H p.1)=iK ds:=by
   refine n_ (λd hd=>?_) (hperm.trans (cA ds).symm) hsorted (dU ds);exact(fK hc (hperm.mem_iff.mp hd)).1
  rw[eq] at h2;rw[<-e1] at h1;have hfr:H h1'.objs.size=aj:=I.hok.fresh hle;obtain⟨ee,he⟩:=TS.aLx h1' its (arr.map (·.2));refine⟨.ref h1'.objs.size,_,I.laid (λb o e=>TS.aHx (kp b o e)) hle ?_,rfl,q _ ys hfr h2⟩;refine⟨?_,(arr.map (·.2)).toList,ee,h1,by rw[he]⟩;rw[h2.length,(cA ds).length_eq,<-r.length];exact hz
 refine TS.aBq hn hcol (λhh tk kp hle h2=>?_) (λhh tk kp hle h2=>?_)
 .have I':Inv X Ψ σ H {s with heap:=TS.aOt hh its,toks:=tk}:=I.kept λb o e=>TS.aHw (kp b o e)
  have hu2:X.A.in1.in1.units+aR<bw:=by show X.A.units+1+1+12<bw;lia
  obtain⟨κ,k1,k2⟩:=aE5 hK I' hu2 hc r vr h2;have hU:TS.QD (sU H ds) (gN its):=λi hi=>by
   rw[BA] at hi;have e:TS.gt (gN its) i=(its[i],its[i]):=by
    unfold TS.gt gN;simp[kn,hi]
   rw[e];exact ZX r vr (ig hi)
  refine⟨κ,sU H ds,sR H ds,hU,k1,aM0 hK I' hc k2,λarr p z=>fin hh tk kp hle arr p λi j a1 a2=>?_⟩;have:=z i j (eI _) a1 (by rw[<-p.size_eq];exact a2);unfold leE;rw[show ϒ (enc (mF H (TS.gt arr j).1)<enc (mF H (TS.gt arr i).1))=ai from (aQc (y:=TS.gt arr i) (aK2 hK I hc (TS.kW hU p j a2))).symm.trans (cy 0x1)];rfl
 .refine fin hh tk kp hle _ (ov _) λi j a1 a2=>?_
  rw[BA] at a2;rw[show i=j by lia];simp[leE,mP]
def aBs(hK:KFrag.K=X.K)(I:Inv X Ψ σ H s)(hu:X.A.units+20<bw)(hl:SqL X.K H l xs)(r:cL All H xs ds)(hc:bF ds=ag)
 (q:∀p xs',H p=aj->cL All H xs' (iK ds)->Q (.ref p) (upd H p (.lst xs'))):ϑ (av X.prog X.w) X.A (call (.builtin "sorted") [.ref l]) (EP X Ψ σ Q) X.xe s:=by
 obtain⟨its,vr,pl,hz⟩:=I.list hl;have hn:its.length<=bg:=by rw[<-vr.length];exact hz
 refine uT hK I hu vr hn r hc (λQ' E' h=>DT pl.isList (h _ s.toks (λb o e=>?_) ?_) hn) q
 .rw[Bn _ _ _ _ (de (bE e))];exact cg _ e
 .rw[xr,DU];exact i0 _
end
end
open PySem.Spec PyProof.Rows
section
variable [KFrag]
def kR(H:Hp)(d:D)(fr:aq)(Q:VK):Prop:=∀v H',dO H H'->Rep All H' v d->(fr=ag->Rep (New H) H' v d)->Q v H'
noncomputable def gE(f:FE)(fr:aq):TE:=λσ H Q=>∃ρ d,ER H σ ρ/\f ρ=.ok d/\kR H d fr Q
noncomputable def gT(f:FT):TT:=λσ H Q=>∃ρ b,ER H σ ρ/\f ρ=.ok b/\∀H',dO H H'->Q b H'
noncomputable def gA(f:FA)(fr:aq):TA:=λσ H Q=>∃ρ ds,ER H σ ρ/\f ρ=.ok ds/\∀vs H',dO H H'->cL All H' vs ds->(fr=ag->cL (New H) H' vs ds)->Q vs H'
def kR.self{fr:aq}(q:kR H d fr Q)(r:Rep All H v d)(r2:fr=ag->Rep (New H) H v d):Q v H:=q v H (dO.refl H) r r2
def kR.imp{fr fr':aq}(q:kR H d fr Q)(s:dO H H')(h:fr=ag->fr'=ag):kR H' d fr' Q:=λv H2 s2 r n=>q v H2 (s.trans s2) r λhf=>(n (h hf)).mono (dO.new s)
def kR.int{fr:aq}{Q:VK}(q:kR H (.int i) fr Q):Q (.int i) H:=q.self (.int i) λ_=>.int i
def kR.bl{fr:aq}{Q:VK}(q:kR H (.bl i) fr Q):Q (.bl i) H:=q.self (.bl i) λ_=>.bl i
def kR.str{fr:aq}{Q:VK}(q:kR H (.str i) fr Q):Q (.str i) H:=q.self (.str i) λ_=>.str i
def kR.non{fr:aq}{Q:VK}(q:kR H .non fr Q):Q .non H:=q.self .non λ_=>.non
noncomputable def r2(f:D->D->Res D)(fr:aq):R2:=λx y H Q=>∃a b d,Rep All H x a/\Rep All H y b/\f a b=.ok d/\kR H d fr Q
def r1(f:D->Res D)(fr:aq):V->Hp->VK->Prop:=λx H Q=>∃a d,Rep All H x a/\f a=.ok d/\kR H d fr Q
def rs(f:aa D->Res D)(fr:aq):aa V->Hp->VK->Prop:=λxs H Q=>∃ds d,cL All H xs ds/\f ds=.ok d/\kR H d fr Q
def rm(f:D->aa D->Res D)(fr:aq):V->aa V->Hp->VK->Prop:=λx xs H Q=>∃a ds d,Rep All H x a/\cL All H xs ds/\f a ds=.ok d/\kR H d fr Q
def bJ{f:α->Res β}(h:(do let x <- m;f x)=.ok b):∃a,m=.ok a/\f a=.ok b:=Res.aLs h
section
variable {X:Cx} {a b c e:Expr} {pos:c9} {fa fb fe:FE} {ra rb re:aq} {ga gc:FT}
def ER.var(E:ER H σ ρ)(h:fZ i ρ=.ok d):∃v,σ[i]?=ae (ae v)/\Rep All H v d/\ρ.getD i .uD=d:=by
 have:ρ.getD i .uD=d/\d≠.uD:=by
  unfold fZ at h;split at h
  .exact bx h
  .cases h;refine⟨rfl,λz=>?_⟩;rename_i q;exact q z
 obtain⟨e1,e2⟩:=this;obtain⟨v,h1,h2⟩:=E i (by rw[e1];exact e2);exact⟨v,h1,by rw[e1] at h2;exact h2,e1⟩
def aA(hN:X.N[i]?=ae x:=by exact rfl)(hv:Vis X.env.scope x:=by trivial)(hd:nDb x:=by decide)(hcd:nCd x:=by decide):PE X (.Name x pos) (gE (fZ i) ai):=
 PE.imp (m9 hN hv hd hcd) λσ H Q z0=>by
  obtain⟨ρ,d,E,h,q⟩:=z0;obtain⟨v,h1,h2,_⟩:=E.var h;exact⟨v,h1,q.self h2 (λz=>by cases z)⟩
def aH{i j}:PE X (.Constant (.int i) j pos) (gE (bC (.int i)) ag):=PE.imp aP2 λσ H Q z0=>by obtain⟨ρ,d,E,h,q⟩:=z0;cases h;exact q.int
def yI{i j}:PE X (.Constant (.bool i) j pos) (gE (bC (.bl i)) ag):=PE.imp aSz λσ H Q z0=>by obtain⟨ρ,d,E,h,q⟩:=z0;cases h;exact q.bl
def aK3{i j}:PE X (.Constant (.str i) j pos) (gE (bC (.str i)) ag):=PE.imp aP4 λσ H Q z0=>by obtain⟨ρ,d,E,h,q⟩:=z0;cases h;exact q.str
def BV{j}:PE X (.Constant .none j pos) (gE (bC .non) ag):=PE.imp aP3 λσ H Q z0=>by obtain⟨ρ,d,E,h,q⟩:=z0;cases h;exact q.non
theorem two{fr:aq}{σ:L2.St}{H:Hp}{Q:VK}(h:gE (b2 f fa fb) fr σ H Q):tOp (r2 f fr) (gE fa ra) (gE fb rb) σ H Q:=by
 obtain⟨ρ,d,E,h,q⟩:=h;obtain⟨x,h1,h⟩:=bJ h;obtain⟨y,h2,h⟩:=bJ h;refine⟨ρ,x,E,h1,λv H1 s1 rp1 _=>⟨ρ,y,E.same s1,h2,λu H2 s2 rp2 _=>⟨x,y,d,rp1.same s2,rp2,h,q.imp (s1.trans s2) id⟩⟩⟩
def bH{o:Operator}{f:D->D->Res D}{fr:aq}(ho:OpR X (fE o) (r2 f fr))(ha:PE X a (gE fa ra))(hb:PE X b (gE fb rb)):PE X (.BinOp a o b pos) (gE (b2 f fa fb) fr):=PE.imp (aT7 ho ha hb) λ_ _ _=>two
def qW{o:kt}{f:D->D->Res D}{fr:aq}(ho:OpR X (dq o) (r2 f fr))(ha:PE X a (gE fa ra))(hb:PE X b (gE fb rb))(hm:ma o b=ai):PE X (.Compare a [o] [b] pos) (gE (b2 f fa fb) fr):=PE.imp (aLb ho ha hb hm) λ_ _ _=>two
def bR{o:kt}{f:D->D->Res D}{fr:aq}(ho:OpR X (dq o) (r2 f fr))(ha:PE X a (gE fa ra))(hb:PE X b (gE fb rb))(hm:ma o b=ai):PT X (.Compare a [o] [b] pos) (gT (bTB (b2 f fa fb))):=
 PT.imp (aLc ho ha hb hm) λσ H Q z0=>by
  obtain⟨ρ,k,E,h,q⟩:=z0;obtain⟨d,h1,h2⟩:=bJ h;refine two ⟨ρ,d,E,h1,λv H' s r _=>?_⟩;cases d<;>simp only[asB] at h2<;>cases h2
  cases r.inv;exact⟨_,rfl,q H' s⟩
theorem aTn{f:D->Res D}{fr:aq}(ho:UnR X (so o) (r1 f fr))(ha:PE X a (gE fa ra)):PE X (.UnaryOp o a pos) (gE (b1 f fa) fr):=
 PE.imp (aT8 ho ha) λσ H Q z0=>by
  obtain⟨ρ,d,E,h,q⟩:=z0;obtain⟨x,h1,h⟩:=bJ h;exact⟨ρ,x,E,h1,λv H1 s1 rp1 _=>⟨x,d,rp1,h,q.imp s1 id⟩⟩
def aTo{f:D->D->Res D}{fr:aq}(ho:IxR X (r2 f fr))(ha:PE X a (gE fa ra))(hb:PE X b (gE fb rb))(hs:J8 b):PE X (.Subscript a b pos) (gE (b2 f fa fb) fr):=PE.imp (aPt ho ha hb hs) λ_ _ _=>two
def aVm(r:Rep All H v d)(h:aUo d=.ok k)(hd:∀kvs,d≠.dct kvs)(hs:∀xs,d≠.scr xs):aTa X.K v H k:=by
 cases r with
 |non=>cases h;rfl
 |bl b=>cases h;rfl
 |int i=>cases h;rfl
 |str x=>
  replace h:(if ϒ (x.length<=lim) then τ ((x.length:af)!=0) else .bad)=.ok k:=h;split at h
  .rename_i hl;cases h;exact⟨dj (d6 hl) (by rw[eS];decide),rfl⟩
  .exact bx h
 |tup e rr=>cases h;exact .inr (.inl ⟨_,.of e,by cases rr<;>rfl⟩)
 |lst e p rr=>cases h;exact .inl ⟨_,.of e,by cases rr<;>rfl⟩
 |frz e rr=>exact aT rfl (hs _)
 |dK e p rr n=>exact aT rfl (hd _)
 |dT e p rr n=>exact aT rfl (hd _)
def nD(ha:PE X a (gE fa ra))(he:∀whole,sg a X.env whole=(do let v <- whole;standAt a.pos;vh [v] (truthy v)):=by intro _;rfl):PT X a (gT (bTr fa)):=
 PT.imp (aHi ha he) λσ H Q z0=>by
  obtain⟨ρ,k,E,h,q⟩:=z0;obtain⟨d,h1,h2⟩:=bJ h;refine⟨ρ,d,E,h1,λv H' s r _=>⟨k,aVm r ?_ ?_ ?_,q H' s⟩⟩
  .cases d<;>first|exact h2|exact bx h2
  .rintro kvs rfl;exact bx h2
  .rintro kvs rfl;exact bx h2
def vX(ha:PT X a (gT ga)):PT X (.UnaryOp .Not a pos) (gT (aCr ga)):=PT.imp (aP7 ha) λσ H Q z0=>by
  obtain⟨ρ,k,E,h,q⟩:=z0;obtain⟨d,h1,h2⟩:=bJ h;cases h2;exact⟨ρ,d,E,h1,λH' s=>q H' s⟩
def ZZ{op}(ha:PE X a (gE fa ra)):PE X (.BoolOp op [a] pos) (gE fa ra):=aP8 ha
def Z0(h:asB d=.ok k):d=.bl k:=by cases d<;>simp only[asB] at h<;>cases h;rfl
def aQf(h:asI d=.ok k):d=.int k:=by cases d<;>simp only[asI] at h<;>cases h;rfl
theorem aQg(ha:PE X a (gE fa ra)):PE X (.UnaryOp .Not a pos) (gE (aQa fa) ag):=PE.imp (aPa ha) λσ H Q z0=>by
  obtain⟨ρ,k,E,h,q⟩:=z0;obtain⟨d,h1,h⟩:=bJ h;obtain⟨z,h2,h⟩:=bJ h;cases h;cases Z0 h2;exact⟨ρ,_,E,h1,λv H' s r _=>by cases r.inv;exact⟨_,rfl,(q.imp s id).bl⟩⟩
theorem JL{rest:aa Expr}(ha:PE X a (gE fa ra))(hb:PE X (.BoolOp .And (b::rest) pos) (gE fb rb)):PE X (.BoolOp .And (a::b::rest) pos) (gE (KN fa fb) rb):=PE.imp (aP9 ha hb) λσ H Q z0=>by
  obtain⟨ρ,k,E,h,q⟩:=z0;obtain⟨d,h1,h⟩:=bJ h;obtain⟨z,h2,h3⟩:=bJ h;cases Z0 h2;refine⟨ρ,_,E,h1,λv H' s r _=>?_⟩;cases r.inv;refine⟨_,rfl,?_⟩;cases z with
  |true=>rw[ao rfl];rw[ao rfl] at h3;exact⟨ρ,k,E.same s,h3,q.imp s id⟩
  |false=>rw[ap 0x2];rw[ap 0x2] at h3;cases h3;exact(q.imp s id).bl
def aQh(hc:PT X c (gT gc))(ha:PE X a (gE fa ra))(hb:PE X b (gE fb rb)):PE X (.IfExp c a b pos) (gE (bIf gc fa fb) (ra&&rb)):=PE.imp (aHe hc ha hb) λσ H Q z0=>by
  obtain⟨ρ,k,E,h,q⟩:=z0;obtain⟨z,h1,h⟩:=bJ h;refine⟨ρ,_,E,h1,λH' s=>?_⟩;cases z with
  |true=>rw[ao rfl];rw[ao rfl] at h;exact⟨ρ,k,E.same s,h,q.imp s λz=>(bj _ _▸z).1⟩
  |false=>rw[ap 0x2];rw[ap 0x2] at h;exact⟨ρ,k,E.same s,h,q.imp s λz=>(bj _ _▸z).2⟩
def aG:PA X [] (gA aV ag):=PA.imp vL λσ H Q z0=>by obtain⟨ρ,ds,E,h,q⟩:=z0;cases h;exact q [] H (dO.refl H) .nil λ_=>.nil
def aB(he:PE X e (gE fe re))(hes:PA X es (gA f r))(hs:zSE X e es:=by rfl):PA X (e::es) (gA (aD fe f) (re&&r)):=PA.imp (nO he hes hs) λσ H Q z0=>by
  obtain⟨ρ,ds,E,h,q⟩:=z0;obtain⟨x,h1,h⟩:=bJ h;obtain⟨xs,h2,h⟩:=bJ h;cases h;refine⟨ρ,x,E,h1,λv H1 s1 r1 n1=>⟨ρ,xs,E.same s1,h2,λvs H2 s2 r2 n2=>q _ _ (s1.trans s2) (.cons (r1.same s2) r2) λhf=>?_⟩⟩;obtain⟨f1,f2⟩:=(bj _ _▸hf:re=ag/\r=ag)
  exact .cons ((n1 f1).same s2) ((n2 f2).mono (dO.new s1))
def bW{x1}(h:PA X es (gA f r)):PE X (.Tuple es x1 pos) (gE (fP f) r):=PE.imp (aPp h) λσ H Q z0=>by
  obtain⟨ρ,d,E,h,q⟩:=z0;obtain⟨xs,h1,h⟩:=bJ h;split at h
  .rename_i hl;cases h;refine⟨ρ,xs,E,h1,λvs H1 s1 r1 n1=>⟨?_,λp hp=>?_⟩⟩
   .rw[r1.length];exact dj (d6 hl) (by rw[eS];decide)
   .have sp:dO H1 (upd H1 p (.tup vs)):=dO.upd hp;exact q _ _ (s1.trans sp) (.tup aM (r1.same sp)) λhf=>.tup aM ((n1 hf).same sp)
  .exact bx h
def mG(h:PA X es (gA f r)):PE X (.List es pos) (gE (QF f) r):=PE.imp (aD7 h) λσ H Q z0=>by
  obtain⟨ρ,d,E,h,q⟩:=z0;obtain⟨xs,h1,h⟩:=bJ h;split at h
  .rename_i hl;cases h;refine⟨ρ,xs,E,h1,λvs H1 s1 r1 n1=>⟨?_,λp hp=>?_⟩⟩
   .rw[r1.length];exact dj (d6 hl) (by rw[eS];decide)
   .have sp:dO H1 (upd H1 p (.lst vs)):=dO.upd hp;exact q _ _ (s1.trans sp) (.lst aM trivial (r1.same sp)) λhf=>.lst aM (s1.free hp) ((n1 hf).same sp)
  .exact bx h
def tQ:PE X (.Dict [] [] pos) (gE (bC (.dct [])) ag):=PE.imp aHm λσ H Q z0=>by
  obtain⟨ρ,d,E,h,q⟩:=z0;cases h;exact λp hp=>q _ _ (dO.upd hp) (.dK aM trivial .nil gS) λ_=>.dK aM hp .nil gS
end
section
variable {a b c e:Expr}
def vY(h:ϒ (n<=lim)=ag):n<=bg:=dj (d6 h) (by rw[eS];decide)
def Z4(h:ϒ (n<lim)=ag):n<bg:=eC (d6 h) (by rw[eS];decide)
def Rep.aQi(r:Rep P H v (.lst ds)):∃a xs,v=.ref a/\Rd H a (.lst xs)/\cL P H xs ds:=by
 cases r with
 |lst e p rr=>exact⟨_,_,rfl,.inl e,rr⟩
def PW.imp(h:PW X e t)(i:∀σ H Q,t' σ H Q->t σ H Q):PW X e t':=λwh Ψ s σ H Q I q=>h wh Ψ s σ H Q I (i σ H Q q)
def mH(ha:PT X a (gT ga)):PW X (.BoolOp .And [a] pos) (gT ga):=aL6 ha
def Q9(ha:PT X a (gT ga)):PW X (.BoolOp .Or [a] pos) (gT ga):=aP5 ha
def rG{rest:aa Expr}(ha:PT X a (gT ga))(hb:PW X (.BoolOp .And (b::rest) pos) (gT gb)):PW X (.BoolOp .And (a::b::rest) pos) (gT (A_ ga gb)):=PW.imp (aP6 ha hb) λσ H Q z0=>by
 obtain⟨ρ,k,E,h,q⟩:=z0;obtain⟨z,h1,h3⟩:=bJ h;refine⟨ρ,z,E,h1,λH' s=>?_⟩;cases z with
 |true=>rw[ao rfl];rw[ao rfl] at h3;exact⟨ρ,k,E.same s,h3,λH2 s2=>q H2 (s.trans s2)⟩
 |false=>rw[ap 0x2];rw[ap 0x2] at h3;cases h3;exact q H' s
def WW{rest:aa Expr}(ha:PT X a (gT ga))(hb:PW X (.BoolOp .Or (b::rest) pos) (gT gb)):PW X (.BoolOp .Or (a::b::rest) pos) (gT (bOr ga gb)):=PW.imp (aT0 ha hb) λσ H Q z0=>by
 obtain⟨ρ,k,E,h,q⟩:=z0;obtain⟨z,h1,h3⟩:=bJ h;refine⟨ρ,z,E,h1,λH' s=>?_⟩;cases z with
 |true=>rw[ao rfl];rw[ao rfl] at h3;cases h3;exact q H' s
 |false=>rw[ap 0x2];rw[ap 0x2] at h3;exact⟨ρ,k,E.same s,h3,λH2 s2=>q H2 (s.trans s2)⟩
theorem aQj(h:gE (bCh f g fa fb fc) r' σ H Q):aJv (r2 f r) (r2 g r') (gE fa ra) (gE fb rb) (gE fc rc) σ H Q:=by
 obtain⟨ρ,d,E,h,q⟩:=h;obtain⟨x,h1,h⟩:=bJ h;obtain⟨y,h2,h⟩:=bJ h;obtain⟨z,h3,h⟩:=bJ h;obtain⟨k,h4,h7⟩:=bJ h;refine⟨ρ,x,E,h1,λv H1 s1 rp1 _=>⟨ρ,y,E.same s1,h2,λu H2 s2 rp2 _=>⟨x,y,z,rp1.same s2,rp2,h3,λt H3 s3 rp3 _=>?_⟩⟩⟩;have e:=Z0 h4;subst e;cases rp3.inv;refine⟨k,rfl,?_⟩;have s13:=(s1.trans s2).trans s3;cases k with
 |true=>
  rw[ao rfl];rw[ao rfl] at h7;obtain⟨w,h5,h6⟩:=bJ h7;exact⟨ρ,w,E.same s13,h5,λt H4 s4 rp4 _=>⟨y,w,d,(rp2.same s3).same s4,rp4,h6,q.imp (s13.trans s4) id⟩⟩
 |false=>
  rw[ap 0x2];rw[ap 0x2] at h7;cases h7;exact(q.imp s13 id).bl
def aI1(ho:OpR X (dq o) (r2 f r))(ho':OpR X (dq o') (r2 g r'))(ha:PE X a (gE fa ra))(hb:PE X b (gE fb rb))(hc:PE X c (gE fc rc))
 (hm:lastMarks [o,o'] [b,c]=ai:=by with_unfolding_all rfl):PT X (.Compare a [o,o'] [b,c] pos) (gT (bTB (bCh f g fa fb fc))):=PT.imp (aHh ho ho' ha hb hc hm) λσ H Q z0=>by
  obtain⟨ρ,k,E,h,q⟩:=z0;obtain⟨d,h1,h2⟩:=bJ h;refine aQj ⟨ρ,d,E,h1,λv H' s r _=>?_⟩;have e:=Z0 h2;subst e;cases r.inv;exact⟨_,rfl,q H' s⟩
theorem dI:OpR X (fE .Add) (r2 (bQ .add) ag):=by
 intro Ψ s σ H x y v u Q I rx ry h;obtain⟨a,b,d,p,q,e,k⟩:=h;cases p with
 |int i=>
  cases q with
  |int j=>cases e;exact aPg Ψ s σ H _ _ v u Q I rx ry ⟨i,j,rfl,rfl,k.int⟩
  |_=>exact bx e
 |str i=>
  cases q with
  |str j=>
   replace e:(if ϒ (i.length+j.length<=lim) then τ (μ (i++j)) else .bad)=.ok d:=e;split at e
   .rename_i hl;cases e;exact aBa Ψ s σ H _ _ v u Q I rx ry ⟨i,j,rfl,rfl,vY hl,k.str⟩
   .exact bx e
  |_=>exact bx e
 |non=>exact bx e
 |bl _=>exact bx e
 |tup _ _=>exact bx e
 |dK _ _ _ _=>exact bx e
 |dT _ _ _ _=>exact bx e
 |@lst a1 xs ds e1 p1 r1=>
  have hR:Rep All H (.ref a1) (.lst ds):=.lst e1 p1 r1;cases b with
  |lst es=>
   replace e:(if ϒ (ds.length+es.length<=lim)&&θ ds&&θ es then τ (ξ (ds++es)) else .bad)=.ok d:=e;split at e
   .rename_i hl;cases e;rw[bj,bj] at hl;obtain⟨⟨hl,hp1⟩,hp2⟩:=hl;obtain⟨l1,xs1,e1',rd1,rr1⟩:=hR.aQi;obtain⟨l2,xs2,rfl,rd2,rr2⟩:=q.aQi;cases e1';cases rx;cases ry;obtain⟨z,its,n,vr1,ee1⟩:=rd1.ok I.hok;obtain⟨z2,its2,n2,vr2,ee2⟩:=rd2.ok I.hok;have hz:xs1.length+xs2.length<=bg:=by rw[rr1.length,rr2.length];exact vY hl
    have t1:=vr1.length;have t2:=vr2.length;refine PySem.P.add_list ee1 ee2 ?_ (by rw[b6,b6];lia);have ea:its.toArray++its2.toArray=(its++its2).toArray:=by simp
    rw[ea];refine⟨.ref _,_,I.aVi (vr1.append vr2) (by rw[cx];lia),rfl,?_⟩;have sp:dO H (upd H s.heap.objs.size (.lst (xs1++xs2))):=dO.upd I.fresh;exact k _ _ sp (.lst aM trivial ((rr1.append rr2).same sp)) λ_=>.lst aM I.fresh (((rr1.cU hp1).append (rr2.cU hp2)).same sp)
   .exact bx e
  |_=>exact bx e
 |frz _ _=>exact bx e
def K4(h:OpR X f (rI C g))
 (hi:∀i j d,op (.int i) (.int j)=.ok d->C i j/\∃k,d=.int k/\g i j=.int k)(hn:∀a b d,op a b=.ok d->(∃i,a=.int i)/\∃j,b=.int j):OpR X f (r2 op ag):=by
 rintro Ψ s σ H x y v u Q I rx ry ⟨a,b,d,p,q,e,k⟩;obtain⟨⟨i,rfl⟩,⟨j,rfl⟩⟩:=hn a b d e;cases p.inv;cases q.inv;obtain⟨hc,m,rfl,hm⟩:=hi i j d e;exact h Ψ s σ H _ _ v u Q I rx ry ⟨i,j,rfl,rfl,hc,by rw[hm];exact k.int⟩
def vZ(ho:o≠.add){a b d:D}(e:bQ o a b=.ok d):(∃i,a=.int i)/\∃j,b=.int j:=by
 cases a with
 |int i=>
  cases b with
  |int j=>exact⟨⟨i,rfl⟩,j,rfl⟩
  |_=>cases o<;>first|exact bx e|exact aT rfl ho
 |_=>cases o<;>first|exact bx e|exact aT rfl ho
def Z5:OpR X (fE .Sub) (r2 (bQ .sub) ag):=by
 rintro Ψ s σ H x y v u Q I rx ry ⟨a,b,d,p,q,e,k⟩;obtain⟨⟨i,rfl⟩,j,rfl⟩:=vZ 0x4 e;cases p.inv;cases q.inv;cases e;exact aPh Ψ s σ H _ _ v u Q I rx ry ⟨_,_,rfl,rfl,k.int⟩
def xZ:OpR X (fE .Mult) (r2 (bQ .mul) ag):=by
 refine K4 aPi (λi j d e=>?_) λa b d e=>vZ 0x4 e
 .replace e:(if nZ i||nZ j then τ (δ (i*j)) else .bad)=.ok d:=e;split at e
  .rename_i hl;cases e;refine⟨?_,_,rfl,rfl⟩;simp only[nZ,jn,bj,eB] at hl;exact hl
  .exact bx e
def gY:OpR X (fE .FloorDiv) (r2 (bQ .fdiv) ag):=by
 refine K4 aL9 (λi j d e=>?_) λa b d e=>vZ 0x4 e
 .replace e:(if ϒ (0<j)&&ϒ (j<1073741824) then τ (δ (i / j)) else .bad)=.ok d:=e;split at e
  .rename_i hl;cases e;refine⟨?_,_,rfl,rfl⟩;simp only[bj,eB] at hl;exact hl
  .exact bx e
def eU:OpR X (fE .Mod) (r2 (bQ .mod) ag):=by
 refine K4 aPj (λi j d e=>?_) λa b d e=>vZ 0x4 e
 .replace e:(if ϒ (0<j) then τ (δ (i % j)) else .bad)=.ok d:=e;split at e
  .rename_i hl;cases e;refine⟨?_,_,rfl,rfl⟩;simp only[bj,eB] at hl;exact hl
  .exact bx e
def aK4:OpR X (fE .Pow) (r2 (bQ .pow) ag):=by
 refine K4 aPk (λi j d e=>?_) λa b d e=>vZ 0x4 e
 .replace e:(if ϒ (0<=j)&&ϒ (j<=1000000)&&ϒ (i.natAbs<2 ^ 64) then τ (δ (i ^ j.toNat)) else .bad)=.ok d:=e;split at e
  .rename_i hl;cases e;refine⟨?_,_,rfl,rfl⟩;simp only[bj,eB] at hl;exact⟨hl.1.1,hl.1.2,hl.2⟩
  .exact bx e
def aQk:UnR X (so .USub) (r1 aTl ag):=by
 rintro Ψ s σ H x v Q I rx ⟨a,d,p,e,k⟩;cases a<;>try exact bx e
 cases e;cases p.inv;exact aPl Ψ s σ H _ v Q I rx ⟨_,rfl,k.int⟩
theorem jK(hK:KFrag.K=X.K)(hu:X.A.units+20<bw):OpR X (dq .Eq) (r2 (bY .eq) ag):=by
 rintro Ψ s σ H x y v u Q I rx ry ⟨a,b,d,p,q,e,k⟩;replace e:(if a.fV aR&&b.fV aR then τ (υ (eqD a b)) else .bad)=.ok d:=e;split at e
 .rename_i hl;cases e;rw[bj] at hl;exact(Q8 hK I aR X.A (by have:aR=12:=rfl;lia) hl.1 hl.2 p q rx ry).1 X.prog X.w X.xe _ ⟨.bl _,H,I,rfl,k.bl⟩
 .exact bx e
def v4(hK:KFrag.K=X.K)(hu:X.A.units+20<bw):OpR X (dq .NotEq) (r2 (bY .ne) ag):=by
 rintro Ψ s σ H x y v u Q I rx ry ⟨a,b,d,p,q,e,k⟩;replace e:(if a.fV aR&&b.fV aR then τ (υ (!eqD a b)) else .bad)=.ok d:=e;split at e
 .rename_i hl;cases e;rw[bj] at hl;exact(Q8 hK I aR X.A (by have:aR=12:=rfl;lia) hl.1 hl.2 p q rx ry).2.1 X.prog X.w X.xe _ ⟨.bl _,H,I,rfl,k.bl⟩
 .exact bx e
def aE6(hK:KFrag.K=X.K)(o:jG)(hu:X.A.units+20<bw):OpR X (dq o.op) (r2 (bY (.ord o)) ag):=by
 rintro Ψ s σ H x y v u Q I rx ry ⟨a,b,d,p,q,e,k⟩;replace e:(if a.fV aR&&b.fV aR then (match jY o a b with|some k=>τ (υ k)|none=>.bad) else .bad)=.ok d:=e;split at e
 .rename_i hl;rw[bj] at hl;split at e
  .rename_i m hm;cases e;have:=WT hK I o aR X.A (by have:aR=12:=rfl;lia) hl.1 hl.2 p q rx ry hm X.prog X.w X.xe _ (show EP X Ψ σ Q (.bool m) s from ⟨.bl _,H,I,rfl,k.bl⟩);cases o<;>exact this
  .exact bx e
 .exact bx e
def WX(hK:KFrag.K=X.K)(hu:X.A.units+20<bw):OpR X (dq .Lt) (r2 (bY (.ord .lt)) ag):=aE6 hK .lt hu
def aTp(hK:KFrag.K=X.K)(hu:X.A.units+20<bw):OpR X (dq .LtE) (r2 (bY (.ord .le)) ag):=aE6 hK .le hu
def aBt(hK:KFrag.K=X.K)(hu:X.A.units+20<bw):OpR X (dq .Gt) (r2 (bY (.ord .gt)) ag):=aE6 hK .gt hu
def aK5:OpR X (dq .Is) (r2 (bY .isN) ag):=by
 rintro Ψ s σ H x y v u Q I rx ry ⟨a,b,d,p,q,e,k⟩;have hb:b=.non:=by
  cases b with
  |non=>rfl
  |_=>cases a<;>exact bx e
 subst hb;cases q.inv;refine aPm Ψ s σ H x .non v u Q I rx ry ⟨rfl,?_⟩;cases p<;>cases e<;>exact k.bl
def aE7:OpR X (dq .IsNot) (r2 (bY .notN) ag):=by
 rintro Ψ s σ H x y v u Q I rx ry ⟨a,b,d,p,q,e,k⟩;have hb:b=.non:=by
  cases b with
  |non=>rfl
  |_=>cases a<;>exact bx e
 subst hb;cases q.inv;refine aLa Ψ s σ H x .non v u Q I rx ry ⟨rfl,?_⟩;cases p<;>cases e<;>exact k.bl
end
end
variable [KFrag]
def aE8(k q:Key):eqD (kD k) (kD q)=ϒ (k=q):=by
 cases k<;>cases q<;>simp[kD,aQ5,aK0,aQ6,aQ7,Bool.beq_eq_decide_eq]
theorem aK6:∀(k q:aa Key),qY (k.map kD) (q.map kD)=ϒ (k=q)
 |[],[]=>by simp[qY]
 |[],_::_=>by simp[qY]
 |_::_,[]=>by simp[qY]
 |a::k,b::q=>by
  rw[ba,ba,qY,aE8,aK6 k q];by_cases h:a=b<;>by_cases h':k=q<;>simp[h,h']
def aM1(k q:aa Key):eqD (.tup (k.map kD)) (.tup (q.map kD))=ϒ (k=q):=by rw[aQ8,aK6]
theorem aM2:∀{kvs:aa (Key×V)}{ds:aa (D×D)},oV P H kvs ds->(∃v d,wN kvs k=ae v/\bL ds (kD k)=ae d/\Rep P H v d)\/(wN kvs k=aj/\bL ds (kD k)=aj)
 |_,_,.nil=>.inr ⟨rfl,rfl⟩
 |_,_,.cons (k:=k') r t=>by
  by_cases h:k'=k
  .subst h;exact .inl ⟨_,_,tG rfl,by rw[bL,aE8,ao 0x2],r⟩
  .rw[bL,aE8,ap (by simpa using h),tH h];exact aM2 t
theorem aM3:∀{kvs:aa (aa Key×V)}{ds:aa (D×D)},xY P H kvs ds->(∃v d,wN kvs k=ae v/\bL ds (.tup (k.map kD))=ae d/\Rep P H v d)\/(wN kvs k=aj/\bL ds (.tup (k.map kD))=aj)
 |_,_,.nil=>.inr ⟨rfl,rfl⟩
 |_,_,.cons (k:=k') r t=>by
  by_cases h:k'=k
  .subst h;exact .inl ⟨_,_,tG rfl,by rw[bL,aM1,ao 0x2],r⟩
  .rw[bL,aM1,ap (by simpa using h),tH h];exact aM3 t
def K5(h:oZ d=ag)(r:Rep All H v d):∃k,v=kV k/\d=kD k:=by
 cases r<;>simp[oZ] at h
 .exact⟨.inl _,rfl,rfl⟩
 .exact⟨.inr _,rfl,rfl⟩
theorem flat_keys:∀{vs:aa V}{ds:aa D},ds.all oZ=ag->cL All H vs ds->∃ks:aa Key,vs=ks.map kV/\ds=ks.map kD
 |_,_,_,.nil=>⟨[],rfl,rfl⟩
 |_,_,h,.cons r t=>by
  rw[ik,bj] at h;obtain⟨k,rfl,rfl⟩:=K5 h.1 r;obtain⟨ks,rfl,rfl⟩:=flat_keys h.2 t;exact⟨k::ks,rfl,rfl⟩
def oA(h:keyOk k=ag)(r:Rep All H y k):(∃q,y=kV q/\k=kD q)\/∃(b:am)(ks:aa Key),y=.ref b/\H b=ae (.tup (ks.map kV))/\k=.tup (ks.map kD):=by
 cases k<;>simp[keyOk] at h
 .exact .inl (K5 rfl r)
 .exact .inl (K5 rfl r)
 .obtain⟨a,xs,rfl,e,rr⟩:=r.iZ;obtain⟨ks,rfl,rfl⟩:=flat_keys (dy.mpr h) rr;exact .inr ⟨a,ks,rfl,e,rfl⟩
def tR(k:Key):isTup (kD k)=ai:=by cases k<;>rfl
section
variable {a:am}
def K6(e:H a=ae o):upd (upd H a o') a o=H:=by
 rw[zK]
 funext b
 by_cases h:b=a
 .subst h;rw[aM,e]
 .rw[bB h]
def tU(I:Inv X Ψ σ H s)(e:H a=ae (.dK [])):Inv X Ψ σ (upd H a (.dT [])) s:=by
 obtain⟨z,hd,vs,rel,o,es,ep,h1,h2,h3,h4,h5,h6⟩:=VP I.hok e;cases rel;refine I.write (by rw[e];trivial) (.inl rfl) (λ_ _ _ q=>q) ⟨o,h1⟩ ?_;refine⟨eI _,hd,[],.nil,o,es,ep,h1,h2,h3,?_,gS⟩;cases h5':es.toList with
 |nil=>rfl
 |cons _ _=>rw[h5'] at h5;cases h5
def oE(I:Inv X Ψ σ H s)(e:H a=ae (.dT [])):Inv X Ψ σ (upd H a (.dK [])) s:=by
 obtain⟨z,hd,vs,rel,o,es,ep,h1,h2,h3,h4,h5,h6⟩:=aDd I.hok e;cases rel;refine I.write (by rw[e];trivial) (.inl rfl) (λ_ _ _ q=>q) ⟨o,h1⟩ ?_;have h0:es.toList=[]:=h4;refine⟨eI _,hd,[],.nil,o,es,ep,h1,h2,h3,?_,?_,gS⟩
 .intro x hx;have:x∈es.toList:=by simpa using hx
  rw[h0] at this;cases this
 .rw[h0];exact .nil
theorem Z6:∀{kvs:aa (Key×V)}{ds:aa (D×D)},oV P H kvs ds->∀p∈ds,isTup p.1=ai
 |_,_,.nil,_,h=>by cases h
 |_,_,.cons r t,p,h=>by
  rcases bi.mp h with rfl|h
  .exact tR _
  .exact Z6 t p h
theorem Z7:∀{kvs:aa (aa Key×V)}{ds:aa (D×D)},xY P H kvs ds->∀p∈ds,isTup p.1=ag
 |_,_,.nil,_,h=>by cases h
 |_,_,.cons r t,p,h=>by
  rcases bi.mp h with rfl|h
  .rfl
  .exact Z7 t p h
def aE9(I:Inv X Ψ σ H s)(rd:Rep All H x (.dct ds))(rk:Rep All H y k)(hk:o7 ds k=ag) :
  ∃H1 a o,x=.ref a/\Inv X Ψ σ H1 s/\(∀s',Inv X Ψ σ H1 s'->Inv X Ψ σ H s')/\Y9 H1 a y o/\((o=aj/\bL ds k=aj)\/∃v d,o=ae v/\bL ds k=ae d/\Rep All H v d):=by
 unfold o7 at hk;rw[bj] at hk;obtain⟨h1,h2⟩:=hk;cases rd with
 |@dK a kvs ds e _ r n=>
  rcases oA h1 rk with ⟨q,rfl,rfl⟩|⟨b,ks,rfl,eb,rfl⟩
  .refine⟨H,a,_,rfl,I,λ_ h=>h,.k e,?_⟩;rcases aM2 r with ⟨v,d,g1,g2,g3⟩|⟨g1,g2⟩
   .exact .inr ⟨v,d,g1,g2,g3⟩
   .exact .inl ⟨g1,g2⟩
  .cases r with
   |nil=>
    have e2:=K6 (o':=.dT []) e;refine⟨upd H a (.dT []),a,aj,rfl,tU I e,λs' I'=>?_,.t aM (by rw[bB (aHb eb e 0x7)];exact eb),.inl ⟨rfl,rfl⟩⟩;have:=oE I' aM;rwa [e2] at this
   |cons r t=>
    rw[ik,tR] at h2;simp[isTup] at h2
 |@dT a kvs ds e _ r n=>
  rcases oA h1 rk with ⟨q,rfl,rfl⟩|⟨b,ks,rfl,eb,rfl⟩
  .cases r with
   |nil=>
    have e2:=K6 (o':=.dK []) e;refine⟨upd H a (.dK []),a,aj,rfl,oE I e,λs' I'=>?_,.k (k:=q) aM,.inl ⟨rfl,rfl⟩⟩;have:=tU I' aM;rwa [e2] at this
   |cons r t=>
    rw[ik,tR] at h2;simp[isTup] at h2
  .refine⟨H,a,_,rfl,I,λ_ h=>h,.t e eb,?_⟩;rcases aM3 (k:=ks) r with ⟨v,d,g1,g2,g3⟩|⟨g1,g2⟩
   .exact .inr ⟨v,d,g1,g2,g3⟩
   .exact .inl ⟨g1,g2⟩
def aI2(rd:Rep All H x (.dct ds))(hk:keyOk k=ag)(h:bL ds k=ae d):o7 ds k=ag:=by
 have one:∀{ds:aa (D×D)},bL ds k=ae d->∃p∈ds,eqD p.1 k=ag:=by
  intro ds;induction ds with
  |nil=>intro h;cases h
  |cons p ds ih=>
   intro h;obtain⟨p1,p2⟩:=p;rw[bL] at h;by_cases hq:eqD p1 k=ag
   .exact⟨_,bu ..,hq⟩
   .rw[ap hq] at h;obtain⟨p,hp,e⟩:=ih h;exact⟨p,bo _ hp,e⟩
 obtain⟨p,hp,he⟩:=one h;unfold o7;rw[hk,oP,dy];intro q hq;have same:isTup p.1=isTup k:=by
  obtain⟨p1,p2⟩:=p;cases k with
  |int _=>cases p1<;>first|rfl|exact fx0 he
  |str _=>cases p1<;>first|rfl|exact fx0 he
  |tup _=>cases p1<;>first|rfl|exact fx0 he
  |_=>exact fx0 hk
 cases rd with
 |dK e _ r n=>rw[Z6 r q hq,<-same,Z6 r p hp];rfl
 |dT e _ r n=>rw[Z7 r q hq,<-same,Z7 r p hp];rfl
end
section
variable {X:Cx} {a b c e:Expr} {pos:c9} {fa fb fe:FE} {ra rb re:aq}
def VD(H:Hp)(u:ak):D:=by
 classical
 exact if h:∃d,d.fV aR=ag/\∃v,RelV v u/\Rep All H v d then Bo h else .non
def aEa(hK:KFrag.K=X.K)(I:Inv X Ψ σ H s)(hq:d.fV aR=ag)(rv:RelV v u)(r:Rep All H v d):VD H u=d:=by
 unfold VD;have h:∃d,d.fV aR=ag/\∃v,RelV v u/\Rep All H v d:=⟨d,hq,v,rv,r⟩
 rw[lw h];obtain⟨h2,v',rv',r'⟩:=Bp h;have:=rv'.inj rv;subst this;exact Rep.inj I hK aR h2 hq r' r
theorem BW(hK:KFrag.K=X.K)(I:Inv X Ψ σ H s){a:D}:∀{xs:aa V}{ds:aa D}{its:aa ak},ν aR ds=ag->cL All H xs ds->Vals xs its->(its.any λu=>eqD (VD H u) a)=ds.any λy=>eqD y a
 |_,_,_,_,.nil,.nil=>rfl
 |_,_,_,h,.cons r t,.cons v vt=>by
  rw[ν,bj] at h;rw[lj,lj,aEa hK I h.1 v r,BW hK I h.2 t vt]
theorem K7(hK:KFrag.K=X.K)(I:Inv X Ψ σ H s)(hu:X.A.units+20<bw){a:D}{v:ak}(ha:a.fV aR=ag)(rx:Rep All H x a)(rv:RelV x v)
 {xs:aa V}{ds:aa D}{its:aa ak}(h:ν aR ds=ag)(r:cL All H xs ds)(vr:Vals xs its)(u:ak)(hm:u∈its):EqAt X.A.in1 s u v (eqD (VD H u) a):=by
 obtain⟨j,hj,e⟩:=sP hm;have hj':j<ds.length:=by rw[<-r.length,vr.length];exact hj
 obtain⟨w,h1,h2⟩:=r.get (i:=j) (d:=ds[j]) (by simp[hj']);obtain⟨u',h3,h4⟩:=vr.get h1;rw[eg hj,e] at h3;cases h3;have hd:ds[j].fV aR=ag:=by
  have:=kY h hj';rwa [dz,eg hj'] at this
 rw[aEa hK I hd h4 h2];exact(Q8 hK I aR X.A.in1 (by show X.A.units+1+12<bw;lia) hd ha h2 rx h4 rv).2.2
theorem aQl(hK:KFrag.K=X.K)(hu:X.A.units+20<bw):OpR X (dq .In) (r2 (bY .isin) ag):=by
 rintro Ψ s σ H x y v u Q I rx ry ⟨a,b,d,p,q,e,k⟩;cases b with
 |tup ys=>
  replace e:(if a.fV aR&&ν aR ys then τ (υ (ys.any λy=>eqD y a)) else .bad)=.ok d:=e;split at e
  .rename_i hl;cases e;rw[bj] at hl;obtain⟨l,xs,rfl,ee,rr⟩:=q.iZ;cases ry;obtain⟨its,vr,pl⟩:=jJ I ee;refine in_tupleAt (λu=>eqD (VD H u) a) pl (λw hw=>K7 hK I hu hl.1 p rx hl.2 rr vr w (by simpa using hw)) ⟨.bl _,H,I,rfl,?_⟩;rw[show its.toArray.any (λu=>eqD (VD H u) a)=its.any (λu=>eqD (VD H u) a) by simp,BW hK I hl.2 rr vr];exact k.bl
  .cases e
 |lst ys=>
  replace e:(if a.fV aR&&ν aR ys then τ (υ (ys.any λy=>eqD y a)) else .bad)=.ok d:=e;split at e
  .rename_i hl;cases e;rw[bj] at hl;obtain⟨l,xs,rfl,ee,rr⟩:=q.lW;cases ry;obtain⟨its,vr,pl⟩:=e_ I ee;refine in_listAt (λu=>eqD (VD H u) a) pl (λw hw=>K7 hK I hu hl.1 p rx hl.2 rr vr w (by simpa using hw)) ⟨.bl _,H,I,rfl,?_⟩;rw[show its.toArray.any (λu=>eqD (VD H u) a)=its.any (λu=>eqD (VD H u) a) by simp,BW hK I hl.2 rr vr];exact k.bl
  .cases e
 |dct kvs=>
  replace e:(if o7 kvs a then τ (υ ((bL kvs a).isSome)) else .bad)=.ok d:=e;split at e
  .rename_i hl;cases e;obtain⟨H1,a1,o,rfl,I1,bk,g,hc⟩:=aE9 I q p hl;cases ry;refine aVk 0x1 I1 g rx λs' I'=>⟨.bl _,H,bk s' I',rfl,?_⟩
   rcases hc with ⟨rfl,h2⟩|⟨w,dd,rfl,h2,_⟩
   .rw[h2] at k;exact k.bl
   .rw[h2] at k;exact k.bl
  .cases e
 |_=>exact bx e
def yV(hK:KFrag.K=X.K)(hu:X.A.units+20<bw):OpR X (dq .NotIn) (r2 (bY .uF) ag):=by
 rintro Ψ s σ H x y v u Q I rx ry ⟨a,b,d,p,q,e,k⟩;cases b with
 |tup ys=>
  replace e:(if a.fV aR&&ν aR ys then τ (υ (!(ys.any λy=>eqD y a))) else .bad)=.ok d:=e;split at e
  .rename_i hl;cases e;rw[bj] at hl;obtain⟨l,xs,rfl,ee,rr⟩:=q.iZ;cases ry;obtain⟨its,vr,pl⟩:=jJ I ee;refine notIn_tupleAt (λu=>eqD (VD H u) a) pl (λw hw=>K7 hK I hu hl.1 p rx hl.2 rr vr w (by simpa using hw)) ⟨.bl _,H,I,rfl,?_⟩;rw[show its.toArray.any (λu=>eqD (VD H u) a)=its.any (λu=>eqD (VD H u) a) by simp,BW hK I hl.2 rr vr];exact k.bl
  .cases e
 |lst ys=>
  replace e:(if a.fV aR&&ν aR ys then τ (υ (!(ys.any λy=>eqD y a))) else .bad)=.ok d:=e;split at e
  .rename_i hl;cases e;rw[bj] at hl;obtain⟨l,xs,rfl,ee,rr⟩:=q.lW;cases ry;obtain⟨its,vr,pl⟩:=e_ I ee;refine notIn_listAt (λu=>eqD (VD H u) a) pl (λw hw=>K7 hK I hu hl.1 p rx hl.2 rr vr w (by simpa using hw)) ⟨.bl _,H,I,rfl,?_⟩;rw[show its.toArray.any (λu=>eqD (VD H u) a)=its.any (λu=>eqD (VD H u) a) by simp,BW hK I hl.2 rr vr];exact k.bl
  .cases e
 |dct kvs=>
  replace e:(if o7 kvs a then τ (υ (!((bL kvs a).isSome))) else .bad)=.ok d:=e;split at e
  .rename_i hl;cases e;obtain⟨H1,a1,o,rfl,I1,bk,g,hc⟩:=aE9 I q p hl;cases ry;refine aLm 0x1 I1 g rx λs' I'=>⟨.bl _,H,bk s' I',rfl,?_⟩
   rcases hc with ⟨rfl,h2⟩|⟨w,dd,rfl,h2,_⟩
   .rw[h2] at k;exact k.bl
   .rw[h2] at k;exact k.bl
  .cases e
 |_=>exact bx e
def aQm(xs:aa α)(i:af):L2.atI xs i=(ixD xs.length i).bind λj=>xs[j]?:=rfl
def cL.atI(r:cL P H xs ds)(h:((ixD ds.length i).bind λj=>ds[j]?)=ae d):∃v,L2.atI xs i=ae v/\Rep P H v d:=by
 rw[aQm,r.length];cases hi:ixD ds.length i with
 |none=>rw[hi] at h;cases h
 |some j=>
  rw[hi] at h;obtain⟨v,h1,h2⟩:=r.get h;exact⟨v,h1,h2⟩
def BX{a:am}(hu:X.A.units+20<bw)(I:Inv X Ψ σ H s)(g:Y9 H a y (ae v'))(ry:RelV y u)
 (hs:sB slice ai (.ref a) u=wb [.ref a,u] (lf (.ref a) u))(bk:∀s',Inv X Ψ σ H s'->Inv X Ψ σ H' s')(q:Q v' H') :
  ϑ (av X.prog X.w) X.A (sA value slice (.ref a) u) (EP X Ψ σ Q) X.xe s:=by
 have hT:=V0 I g;unfold sA;refine aw ?_;rw[getitemInPython_of_ne hT.not_modules];refine aw (xv hT PySem.F.slot_dict_getitem.lookup ?_);have fin:ϑ (av X.prog X.w) X.A (sB slice ai (.ref a) u) (λr s₃=>ϑ (av X.prog X.w) X.A (letTemporaryGo value (.ref a) r >>= λ_=>pure r) (EP X Ψ σ Q) X.xe s₃) X.xe s:=by
  rw[hs];exact wpAny_operating (aDf 0x1 I g ry λw' s3 I3 rw'=>aw (wpAny_letTemporaryGo (bf ⟨v',H',bk s3 I3,rw',q⟩)))
 first
  |exact bf (aw fin)
  |exact aw (bf (aw fin))
  |exact aw fin
theorem Z8:∀{ds:aa (D×D)},keyOk k=ag->bL ds k=ae d->∃p∈ds,isTup p.1=isTup k
 |[],_,h=>by cases h
 | (p1,p2)::ds,hk,h=>by
  rw[bL] at h;by_cases hq:eqD p1 k=ag
  .refine⟨_,bu ..,?_⟩;cases k with
   |int _=>cases p1<;>first|rfl|exact fx0 hq
   |str _=>cases p1<;>first|rfl|exact fx0 hq
   |tup _=>cases p1<;>first|rfl|exact fx0 hq
   |_=>exact fx0 hk
  .rw[ap hq] at h;obtain⟨p,hp,e⟩:=Z8 hk h;exact⟨p,bo _ hp,e⟩
def aTr(hK:KFrag.K=X.K)(hu:X.A.units+20<bw):IxR X (r2 getD ai):=by
 rintro value slice Ψ s σ H x y v u Q I rx ry ⟨a,b,d,p,q,e,k⟩ hs;cases a with
 |tup ys=>
  cases b<;>try exact bx e
  have e':=Res.oY e;obtain⟨l,xs,rfl,ee,rr⟩:=p.iZ;cases q;obtain⟨w,h1,h2⟩:=rr.atI e';exact aPu value slice Ψ s σ H _ _ v u Q I rx ry ⟨l,xs,_,w,rfl,rfl,.of ee,h1,k.self h2 λz=>by cases z⟩ hs
 |lst ys=>
  cases b<;>try exact bx e
  have e':=Res.oY e;obtain⟨l,xs,rfl,ee,rr⟩:=p.lW;cases q;obtain⟨w,h1,h2⟩:=rr.atI e';exact VM value slice Ψ s σ H _ _ v u Q I rx ry ⟨l,xs,_,w,rfl,rfl,ee,h1,k.self h2 λz=>by cases z⟩ hs
 |scr ys=>
  cases b<;>try exact bx e
  have e':=Res.oY e;obtain⟨_,_,rfl,ee,rr⟩:=p.inv;cases q;obtain⟨w,h1,h2⟩:=rr.atI e';exact VM value slice Ψ s σ H _ _ v u Q I rx ry ⟨_,_,_,w,rfl,rfl,ee.sq hK,h1,k.self h2 λz=>by cases z⟩ hs
 |str z=>
  cases b<;>try exact bx e
  rename_i i;replace e:(if ϒ (z.length<=lim) then ι (((ixD z.cps.toList.length i).bind λj=>z.cps.toList[j]?).map λc=>μ ⟨#[c]⟩) else .bad)=.ok d:=e;split at e
  .rename_i hl;have e':=Res.oY e;obtain⟨cc,h1,h2⟩:=nS.mp e';subst h2;cases p;cases q;exact aPv value slice Ψ s σ H _ _ v u Q I rx ry ⟨z,_,cc,rfl,rfl,vY hl,h1,k.str⟩ hs
  .cases e
 |dct kvs=>
  have e':keyOk b=ag/\bL kvs b=ae d:=by
   replace e:(if keyOk b then ι (bL kvs b) else .bad)=.ok d:=by cases b<;>exact e
   split at e
   .rename_i hl;exact⟨hl,Res.oY e⟩
   .exact bx e
  obtain⟨H1,a1,o,rfl,I1,bk,g,hc⟩:=aE9 I p q (aI2 p e'.1 e'.2);cases rx;rcases hc with ⟨rfl,h2⟩|⟨w,dd,rfl,h2,h3⟩
  .rw[h2] at e';cases e'.2
  .rw[h2] at e';cases e'.2;exact BX hu I1 g ry hs bk (k.self h3 λz=>by cases z)
 |_=>cases b<;>exact bx e
def a_{X:Cx}{a b:Expr}{pos:c9}{fa fb:FE}{ra rb:aq}(ha:PE X a (gE fa ra))(hb:PE X b (gE fb rb))(hK:KFrag.K=X.K:=by assumption)(hu:X.A.units+20<bw:=by assumption)(hs:J8 b:=by exact λ_ _=>rfl):PE X (.Subscript a b pos) (gE (b2 getD fa fb) ai):=aTo (aTr hK hu) ha hb hs
noncomputable def gO(f:aa D->Res (az af)):TO:=λσ H Q=>∃ρ i,ER H σ ρ/\f ρ=.ok i/\∀H',dO H H'->Q i H'
def PO.imp{X:Cx}{e:az PySem.Expr}{t t':TO}(h:PO X e t)(i:∀σ H Q,t' σ H Q->t σ H Q):PO X e t':=λΨ s σ H Q I q=>h Ψ s σ H Q I (i σ H Q q)
def K8:PO X aj (gO aDr):=PO.imp aLg λσ H Q z0=>by obtain⟨ρ,i,E,h,q⟩:=z0;cases h;exact q H (dO.refl H)
def nR(ha:PE X a (gE fa ra)):PO X (ae a) (gO (wW fa)):=PO.imp (aLh ha) λσ H Q z0=>by
 obtain⟨ρ,i,E,h,q⟩:=z0;obtain⟨x,h1,h⟩:=bJ h;obtain⟨j,h2,h⟩:=bJ h;cases h;have e:=aQf h2;subst e;exact⟨ρ,_,E,h1,λv H' s r _=>by cases r;exact⟨j,rfl,q H' s⟩⟩
theorem aK7(n d:ah)(o:az af):HT.sIx n d o=xW n d o:=by
 cases o with
 |none=>rfl
 |some v=>
  show(if v<0 then (v+(n:af)).toNat else min v.toNat n)=(if v<0 then (max (v+(n:af)) 0).toNat else (min v (n:af)).toNat);split<;>lia
def cL.cut(r:cL P H xs ds)(lo hi:az af):cL P H (aHl xs lo hi) (cutD ds lo hi):=by
 unfold aHl cutD;rw[r.length];simp only[aK7];exact(r.drop _).take _
def kZ:θ ds=ag↔∀d∈ds,d.pure=ag:=by
 induction ds with
 |nil=>simp[θ]
 |cons d ds ih=>rw[θ,bj,ih];simp
def rSl:V->az af->az af->Hp->VK->Prop:=λx lo hi H Q=>∃a d,Rep All H x a/\aBl a lo hi=.ok d/\kR H d ag Q
def aTs(hK:KFrag.K=X.K):SlR X rSl:=by
 rintro Ψ s σ H x v vl vu lo hi sl Q I rx hs pl pu ⟨a,d,p,e,k⟩;cases a<;>simp only[aBl] at e<;>(try (cases e;done))
 .split at e
  .cases e
  .rename_i hw;cases e;obtain⟨l,xs,rfl,ee,rr⟩:=p.iZ;refine aPs Ψ s σ H _ v vl vu lo hi sl Q I rx hs pl pu ⟨l,xs,rfl,.of ee,?_,λp hp=>?_⟩
   .simp only[aK7,rr.length];simp only[jm,jn,gz,Bool.not_eq_false',eB] at hw;exact hw.2
   .have sp:dO H (upd H p (.tup (aHl xs lo hi))):=dO.upd hp;have hp2:θ ‹aa D›=ag:=by
     simp only[jn,gz,jm] at hw;simpa using hw.1
    exact k _ _ sp (.tup aM ((rr.cut lo hi).same sp)) λz=>.tup aM (((rr.cU hp2).cut lo hi).same sp)
 .split at e
  .rename_i hl;cases e;obtain⟨l,xs,rfl,ee,rr⟩:=p.lW;refine aDb Ψ s σ H _ v vl vu lo hi sl Q I rx hs pl pu ⟨l,xs,rfl,ee,λp hp=>?_⟩;have sp:dO H (upd H p (.lst (aHl xs lo hi))):=dO.upd hp;exact k _ _ sp (.lst aM trivial ((rr.cut lo hi).same sp)) λz=>.lst aM hp (((rr.cU hl).cut lo hi).same sp)
  .cases e
 .split at e
  .rename_i hl;cases e;cases p with
   |@frz l xs ds ee rr=>
    refine aDb Ψ s σ H _ v vl vu lo hi sl Q I rx hs pl pu ⟨l,xs,rfl,ee.sq hK,λp hp=>?_⟩;have sp:dO H (upd H p (.lst (aHl xs lo hi))):=dO.upd hp;exact k _ _ sp (.lst aM trivial ((rr.cut lo hi).same sp)) λz=>.lst aM hp (((rr.cU hl).cut lo hi).same sp)
  .cases e
theorem WY{lo hi:az Expr}(hK:KFrag.K=X.K)(he:PE X e (gE fe re))(hl:PO X lo (gO fl))(hh:PO X hi (gO fh)):PE X (.Subscript e (.Slice lo hi aj p2) pos) (gE (aCs fe fl fh) ag):=
 PE.imp (aHk (aTs hK) he hl hh) λσ H Q z0=>by
  obtain⟨ρ,d,E,h,q⟩:=z0;obtain⟨x,h1,h⟩:=bJ h;obtain⟨l,h2,h⟩:=bJ h;obtain⟨u,h3,h⟩:=bJ h;exact⟨ρ,x,E,h1,λv H1 s1 r1 _=>⟨ρ,l,E.same s1,h2,λH2 s2=>⟨ρ,u,E.same (s1.trans s2),h3,λH3 s3=>⟨x,d,r1.same (s2.trans s3),h,q.imp ((s1.trans s2).trans s3) id⟩⟩⟩⟩
end
end Mi
namespace PySem.Mm
open PySem
noncomputable def wdL:aq->en
 |false=>"min.loop"
 |true=>"max.loop"
noncomputable def wdO:aq->kt
 |false=>.Lt
 |true=>.Gt
section
variable {prog:cb} {w:br} {A:cu} {R:lb->au->Prop} {I S:am} {fp wr:aa am} {n:ah} {P:ah->ak->Prop} {St:ah->bm->Prop} {bt:ah->ah->aq} {Gd:au->Prop} {op:kt}
structure aQn(prog:cb)(w:br)(A:cu)(op:kt)(P:ah->ak->Prop)(bt:ah->ah->aq)(wr:aa am)(top:ah)(Gd:au->Prop):Prop where
 keep:∀s h' tk,Gd s->(∀b o,b∉wr->b<top->s.heap.get? b=ae o->h'.get? b=ae o)->Gd {s with heap:=h',toks:=tk}
 says:∀i j vi vj s Q E,Gd s->P i vi->P j vj->Q (.bool (bt i j)) s->ϑ (av prog w) A (mN op vi vj) Q E s
def aUp(P:ah->ak->Prop)(bt:ah->ah->aq)(n:ah):ah->ax ak->Prop
 |0,a=>a=#[]/\0<n
 |j+1,a=>∃v,a=#[v,v]/\P (dL bt j) v
def touched(J:aQn prog w A op P bt wr S Gd){s:au}{f:ax ak->ax ak}(g:Gd s):Gd {s with heap:=s.heap.update S (fx f)}:=
 J.keep s _ s.toks g λb o _ hb e=>(ki _ _ (jz hb)).trans e
theorem turn(m:aq)(W:Walks prog w A.in1 I fp wr n P St)(hS:S∉fp)(J:aQn prog w A.in1 (wdO m) P bt wr S Gd):∀(k j:ah)(s:au)(a:ax ak)(c:ah),j+k=n->St j s.heap->Gd s->aUp P bt n j a->
  s.heap.get? S=ae {cls:=.type "list",dict:=aj,data:=.seq a c,slots:=#[]}->
  (∀v h' tk,P (dL bt (n-1)) v->(∀b o,b∉wr->b≠S->s.heap.get? b=ae o->h'.get? b=ae o)->R (.ok (.ret v)) {s with heap:=h',toks:=tk})->
  codeAny (av prog w) A (.builtin (wdL m) ⟨[.ref I,.none,.ref S],[]⟩) R s:=by
 have off:S∉wr:=λh=>hS (W.sub _ h)
 have still:∀{j:ah}{h:bm}{f:ax ak->ax ak},St j h->St j (h.update S (fx f)):=λst=>
  W.frame _ _ _ st λb hb o e=>(ki _ _ λz:S=b=>hS (z▸hb)).trans e
 intro k;induction k with
 |zero=>
  intro j s a c hj st g hb hs fin;have hjn:j=n:=hj;subst hjn;cases j with
  |zero=>exact aT hb.2 (fT 0)
  |succ j=>
   obtain⟨v,rfl,hv⟩:=hb;have last:∀(h':bm)(tk:ah),(∀b o,b∉wr->s.heap.get? b=ae o->h'.get? b=ae o)->R (.ok (.ret v)) {s with heap:=h'.update S (fx λ_=>#[]),toks:=tk}:=λh' tk kp=>
    fin v _ tk hv λb o h1 h2 e=>(ki _ _ (Ne.symm h2)).trans (kp b o h1 e)
   cases m
   .show codeAny (av prog w) A (.builtin "min.loop" ⟨[.ref I,.none,.ref S],[]⟩) R s;refine ii xw ?_;rw[il ky];refine aw (m:=mS (.ref S)) (kz hs rfl ?_);refine aw (jq (m:=gr (.ref I)) (W.done s _ _ st λh' tk kp=>?_));exact aw (m:=jr S _) (i9 (kp S _ off hs) rfl (aw (jt (bf (last h' tk kp)))))
   .show codeAny (av prog w) A (.builtin "max.loop" ⟨[.ref I,.none,.ref S],[]⟩) R s;refine ii xy ?_;rw[il kA];refine aw (m:=mS (.ref S)) (kz hs rfl ?_);refine aw (jq (m:=gr (.ref I)) (W.done s _ _ st λh' tk kp=>?_));exact aw (m:=jr S _) (i9 (kp S _ off hs) rfl (aw (jt (bf (last h' tk kp)))))
 |succ k ih=>
  intro j s a c hj st g hb hs fin;have hjn:j<n:=by lia
  /- what is left to do behind the list's change,or without one -/
  have on:∀(v:ak)(h':bm)(tk:ah),P j v->St (j+1) h'->(∀b o,b∉wr->s.heap.get? b=ae o->h'.get? b=ae o)->(∀(a':ax ak)(c':ah)(h2:bm),aUp P bt n (j+1) a'->h2.get? S=ae {cls:=.type "list",dict:=aj,data:=.seq a' c',slots:=#[]}->(h2=h'\/∃f:ax ak->ax ak,h2=h'.update S (fx f))->
    codeAny (av prog w) A (.builtin (wdL m) ⟨[.ref I,.none,.ref S],[]⟩) R {s with heap:=h2,toks:=tk}):=by
   intro v h' tk _ st' kp a' c' h2 hb' hs' hh;have g':Gd {s with heap:=h',toks:=tk}:=J.keep s h' tk g λb o h1 _ e=>kp b o h1 e
   rcases hh with rfl|⟨f,rfl⟩
   .exact ih (j+1) _ a' c' 0x1 st' g' hb' hs' λu h3 t3 hu k3=>fin u h3 t3 hu λb o h1 h2 e=>k3 b o h1 h2 (kp b o h1 e)
   .exact ih (j+1) _ a' c' 0x1 (still st') (touched J g') hb' hs' λu h3 t3 hu k3=>fin u h3 t3 hu λb o h1 h2 e=>k3 b o h1 h2 ((ki _ _ (Ne.symm h2)).trans (kp b o h1 e))
  have nmn:(toString "min" ++ toString ".loop" : en)="min.loop":=by decide
  have nmx:(toString "max" ++ toString ".loop" : en)="max.loop":=by decide
  cases j with
  |zero=>
   obtain⟨rfl,_⟩:=hb;cases m
   .show codeAny (av prog w) A (.builtin "min.loop" ⟨[.ref I,.none,.ref S],[]⟩) R s;refine ii xw ?_;rw[il ky];refine aw (m:=mS (.ref S)) (kz hs rfl ?_);refine aw (jq (m:=gr (.ref I)) (W.item 0 s _ _ hjn st λv h' tk pv st' kp=>?_));have hs':=kp S _ off hs;refine aw (m:=jr S _) (i9 hs' rfl ?_);rw[nmn];exact bf ⟨gL ky _,on v h' tk pv st' kp #[v,v] _ _ ⟨v,rfl,pv⟩ (kC _ hs' rfl) (.inr ⟨_,rfl⟩)⟩
   .show codeAny (av prog w) A (.builtin "max.loop" ⟨[.ref I,.none,.ref S],[]⟩) R s;refine ii xy ?_;rw[il kA];refine aw (m:=mS (.ref S)) (kz hs rfl ?_);refine aw (jq (m:=gr (.ref I)) (W.item 0 s _ _ hjn st λv h' tk pv st' kp=>?_));have hs':=kp S _ off hs;refine aw (m:=jr S _) (i9 hs' rfl ?_);rw[nmx];exact bf ⟨gL kA _,on v h' tk pv st' kp #[v,v] _ _ ⟨v,rfl,pv⟩ (kC _ hs' rfl) (.inr ⟨_,rfl⟩)⟩
  |succ j=>
   obtain⟨u,rfl,hu⟩:=hb;cases m
   .show codeAny (av prog w) A (.builtin "min.loop" ⟨[.ref I,.none,.ref S],[]⟩) R s;refine ii xw ?_;rw[il ky];refine aw (m:=mS (.ref S)) (kz hs rfl ?_);refine aw (jq (m:=gr (.ref I)) (W.item (j+1) s _ _ hjn st λv h' tk pv st' kp=>?_));have hs':=kp S _ off hs;refine aw (bf ?_);refine aw (jq (ic (aw (m:=mN .Lt v u) (J.says (j+1) (dL bt j) v u _ _ _ (J.keep s h' tk g λb o h1 _ e=>kp b o h1 e) pv hu ?_))));refine aw (ic (jg (aw (jt (bf ?_)))));cases hx:bt (j+1) (dL bt j)
    .rw[ap nB];refine aw (jt ?_);rw[nmn];exact bf ⟨gL ky _,on v h' tk pv st' kp _ _ _ ⟨u,rfl,by rw[dL,hx];exact hu⟩ hs' (.inl rfl)⟩
    .rw[ao rfl];refine aw (m:=jr S _) (i9 hs' rfl (aw (jt ?_)));rw[nmn];exact bf ⟨gL ky _,on v h' tk pv st' kp #[v,v] _ _ ⟨v,rfl,by rw[dL,hx];exact pv⟩ (kC _ hs' rfl) (.inr ⟨_,rfl⟩)⟩
   .show codeAny (av prog w) A (.builtin "max.loop" ⟨[.ref I,.none,.ref S],[]⟩) R s;refine ii xy ?_;rw[il kA];refine aw (m:=mS (.ref S)) (kz hs rfl ?_);refine aw (jq (m:=gr (.ref I)) (W.item (j+1) s _ _ hjn st λv h' tk pv st' kp=>?_));have hs':=kp S _ off hs;refine aw (bf ?_);refine aw (jq (ic (aw (m:=mN .Gt v u) (J.says (j+1) (dL bt j) v u _ _ _ (J.keep s h' tk g λb o h1 _ e=>kp b o h1 e) pv hu ?_))));refine aw (ic (jg (aw (jt (bf ?_)))));cases hx:bt (j+1) (dL bt j)
    .rw[ap nB];refine aw (jt ?_);rw[nmx];exact bf ⟨gL kA _,on v h' tk pv st' kp _ _ _ ⟨u,rfl,by rw[dL,hx];exact hu⟩ hs' (.inl rfl)⟩
    .rw[ao rfl];refine aw (m:=jr S _) (i9 hs' rfl (aw (jt ?_)));rw[nmx];exact bf ⟨gL kA _,on v h' tk pv st' kp #[v,v] _ _ ⟨v,rfl,by rw[dL,hx];exact pv⟩ (kC _ hs' rfl) (.inr ⟨_,rfl⟩)⟩
end
section
variable {prog:cb} {w:br} {A:cu} {E:ak->au->Prop} {s:au} {Q:ak->au->Prop}
abbrev Seen(prog:cb)(w:br)(A:cu)(op:kt)(Q:ak->au->Prop)(it:ak)(t:au):Prop:=
 ∃(I:am)(fp wr:aa am)(n:ah)(P:ah->ak->Prop)(St:ah->bm->Prop)(bt:ah->ah->aq),it=.ref I/\Walks prog w A I fp wr n P St/\St 0 t.heap/\(∀b∈fp,b<t.heap.objs.size)/\0<n/\
  (∃Gd:au->Prop,Gd t/\(∀s h' tk,Gd s->(∀b o,b∉wr->b<t.heap.objs.size->s.heap.get? b=ae o->h'.get? b=ae o)->Gd {s with heap:=h',toks:=tk})/\
   ∀i j vi vj s Q E,Gd s->P i vi->P j vj->Q (.bool (bt i j)) s->ϑ (av prog w) A (mN op vi vj) Q E s)/\
  ∀v h' tk,P (dL bt (n-1)) v->(∀b o,b∉wr->t.heap.get? b=ae o->h'.get? b=ae o)->Q v {t with heap:=h',toks:=tk}
def begun(m:aq){it:ak}{t:au}{R:lb->au->Prop}(hR:∀v s,Q v s->R (.ok (.ret v)) s)(h:Seen prog w A.in1 (wdO m) Q it t) :
  codeAny (av prog w) A (.builtin (wdL m) ⟨[it,.none,.ref t.heap.objs.size],[]⟩) R {t with heap:=t.heap.push {cls:=.type "list",data:=.seq #[]}}:=by
 obtain⟨I,fp,wr,n,P,St,bt,rfl,W,st,hfp,hn,⟨Gd,g,gk,gs⟩,q⟩:=h;have up:∀b o,t.heap.get? b=ae o->(t.heap.push {cls:=.type "list",data:=.seq #[]}).get? b=ae o:=λb o e=>cg _ e
 refine turn m W (λz=>fT _ (hfp _ z)) ⟨gk,gs⟩ n 0 _ #[] _ (BB n) (W.frame _ _ _ st λb _ o e=>up b o e) (gk t _ t.toks g λb o _ _ e=>up b o e) ⟨rfl,hn⟩ (dt _ rfl) λv h' tk hv kp=>?_
 exact hR _ _ (q v h' tk hv λb o h1 e=>kp b o h1 (de (bE e)) (up b o e))
theorem Q_{x:ak}(h:ϑ (av prog w) A.in1 (gX x) (Seen prog w A.in1 .Lt Q) E s):ϑ (av prog w) A (call (.builtin "min") [x]) Q E s:=by
 have nmn:(toString "min" ++ toString ".loop" : en)="min.loop":=by decide
 refine t9 BC BD BE (F.args_min1 _) ?_;refine aw (m:=ua "min" ["key","default"] 0 ⟨[],[]⟩) (mT (a:=[aj,aj]) rfl ?_);refine aw (bf (aw (fu h (λit t ht=>aw (gu ?_)) λ_ _ e=>e)));rw[nmn];exact bf ⟨gL ky _,begun ai (λ_ _ q=>q) ht⟩
theorem RB{x:ak}(h:ϑ (av prog w) A.in1 (gX x) (Seen prog w A.in1 .Gt Q) E s):ϑ (av prog w) A (call (.builtin "max") [x]) Q E s:=by
 have nmx:(toString "max" ++ toString ".loop" : en)="max.loop":=by decide
 refine t9 BF BG BH (F.args_max1 _) ?_;refine aw (m:=ua "max" ["key","default"] 0 ⟨[],[]⟩) (mT (a:=[aj,aj]) rfl ?_);refine aw (bf (aw (fu h (λit t ht=>aw (gu ?_)) λ_ _ e=>e)));rw[nmx];exact bf ⟨gL kA _,begun ag (λ_ _ q=>q) ht⟩
theorem W2{a b:ak}(h:ϑ (av prog w) A.in1 (gX (.ref s.heap.objs.size)) (Seen prog w A.in1 .Lt Q) E {s with heap:=s.heap.push {cls:=.type "tuple",data:=.seq #[a,b]}}):ϑ (av prog w) A (call (.builtin "min") [a,b]) Q E s:=by
 have nmn:(toString "min" ++ toString ".loop" : en)="min.loop":=by decide
 refine t9 BC BD BE (F.args_min2 _ _) ?_;refine aw (m:=ua "min" ["key","default"] 0 ⟨[],[]⟩) (mT (a:=[aj,aj]) rfl ?_);refine aw (m:=xA [a,b]) (gu (aw (fu h (λit t ht=>aw (gu ?_)) λ_ _ e=>e)));rw[nmn];exact bf ⟨gL ky _,begun ai (λ_ _ q=>q) ht⟩
def W3{a b:ak}(h:ϑ (av prog w) A.in1 (gX (.ref s.heap.objs.size)) (Seen prog w A.in1 .Gt Q) E {s with heap:=s.heap.push {cls:=.type "tuple",data:=.seq #[a,b]}}):ϑ (av prog w) A (call (.builtin "max") [a,b]) Q E s:=by
 have nmx:(toString "max" ++ toString ".loop" : en)="max.loop":=by decide
 refine t9 BF BG BH (F.args_max2 _ _) ?_;refine aw (m:=ua "max" ["key","default"] 0 ⟨[],[]⟩) (mT (a:=[aj,aj]) rfl ?_);refine aw (m:=xA [a,b]) (gu (aw (fu h (λit t ht=>aw (gu ?_)) λ_ _ e=>e)));rw[nmx];exact bf ⟨gL kA _,begun ag (λ_ _ q=>q) ht⟩
end
end PySem.Mm
namespace Mi
open PySem L2 PySem.SeqAt PySem.Spec PyProof.Rows
variable [KFrag]
theorem RC(o:jG)(x:D)(xs:aa D):∀k,k<=xs.length->(xs.take k).foldl (λm y=>if (jY o y m).getD ai then y else m) x=(x::xs).getD (dL (btD o (x::xs)) k) .non
 |0,_=>by simp[dL]
 |k+1,h=>by
  have ih:=RC o x xs k 0x1;have hk:k<xs.length:=by lia
  rw[ng hk,BI,ih];have e:(x::xs).getD (k+1) .non=xs[k]:=by simp[hk]
  have hb:btD o (x::xs) (k+1) (dL (btD o (x::xs)) k)=(jY o xs[k] ((x::xs).getD (dL (btD o (x::xs)) k) .non)).getD ai:=by unfold btD;rw[e]
  show(if (jY o xs[k] ((x::xs).getD (dL (btD o (x::xs)) k) .non)).getD ai then xs[k] else (x::xs).getD (dL (btD o (x::xs)) k) .non)=(x::xs).getD (if btD o (x::xs) (k+1) (dL (btD o (x::xs)) k) then k+1 else dL (btD o (x::xs)) k) .non;rw[<-hb];cases btD o (x::xs) (k+1) (dL (btD o (x::xs)) k) with
  |true=>rw[ao rfl,ao rfl,e]
  |false=>rw[ap 0x2,ap 0x2]
section
variable {s:au}
def Gds(s:au)(s':au):Prop:=∃h' tk,s'={s with heap:=h',toks:=tk}/\∀b o,s.heap.get? b=ae o->h'.get? b=ae o
def K9(hK:KFrag.K=X.K)(I:Inv X Ψ σ H s)(hu:X.A.units+20<bw)(r:cL All H xs ds)(vr:Vals xs its)(h:uP o ds=.ok d)(i j:ah)(vi vj:ak)(s':au)(Q:ak->au->Prop)(E:ak->au->Prop)
 (g:Gds s s')(hi:its.toArray[i]?=ae vi)(hj:its.toArray[j]?=ae vj)(q:Q (.bool (btD o ds i j)) s'):ϑ (av X.prog X.w) X.A.in1 (mN o.op vi vj) Q E s':=by
 obtain⟨h',tk,rfl,hk⟩:=g;have I':Inv X Ψ σ H {s with heap:=h',toks:=tk}:=I.kept hk;have hi':its[i]?=ae vi:=by simpa using hi
 have hj':its[j]?=ae vj:=by simpa using hj
 have at_:∀{i:ah}{v:ak},its[i]?=ae v->∃d w,ds.getD i .non=d/\d∈ds/\RelV w v/\Rep All H w d:=by
  intro i v hv;have hlt:i<its.length:=(ej.mp hv).1;have hlt':i<ds.length:=by rw[<-r.length,vr.length];exact hlt
  obtain⟨w,h1,h2⟩:=r.get (i:=i) (d:=ds[i]) (by simp[hlt']);obtain⟨u,h3,h4⟩:=vr.get h1;rw[hv] at h3;cases h3;exact⟨ds[i],w,by simp[hlt'],ig _,h4,h2⟩
 obtain⟨d1,w1,e1,m1,v1,r1⟩:=at_ hi';obtain⟨d2,w2,e2,m2,v2,r2⟩:=at_ hj';cases ds with
 |nil=>cases m1
 |cons x xs'=>
  simp only[uP] at h;split at h
  .rename_i hall;have h1:=dy.mp hall d1 m1;have h2:=dy.mp hall d2 m2;rw[bj] at h1 h2;obtain⟨k,hk⟩:=vn.mp (dy.mp h1.2 d2 m2);have:btD o (x::xs') i j=k:=by unfold btD;rw[e1,e2,hk];rfl
   rw[this] at q;exact WT hK I' o aR X.A.in1 (by show X.A.units+1+12<bw;lia) h1.1 h2.1 r1 r2 v1 v2 hk X.prog X.w E Q q
  .exact bx h
def W4(r:cL All H xs ds)(vr:Vals xs its)(h:uP o ds=.ok d)(hv:its.toArray[dL (btD o ds) (its.length-1)]?=ae v):∃w,RelV w v/\Rep All H w d:=by
 have hv':its[dL (btD o ds) (its.length-1)]?=ae v:=by simpa using hv
 cases ds with
 |nil=>exact bx h
 |cons x xs'=>
  simp only[uP] at h;split at h
  .cases h;have hl:its.length-1=xs'.length:=by rw[<-vr.length,r.length];simp
   rw[hl] at hv';have fb:=RC o x xs' xs'.length (bd _);rw[ub] at fb;have hlt:dL (btD o (x::xs')) xs'.length<its.length:=(ej.mp hv').1;have hlt':dL (btD o (x::xs')) xs'.length<(x::xs').length:=by rw[<-r.length,vr.length];exact hlt
   obtain⟨w,h1,h2⟩:=r.get (i:=dL (btD o (x::xs')) xs'.length) (d:=(x::xs')[dL (btD o (x::xs')) xs'.length]) (by simp[hlt']);obtain⟨u,h3,h4⟩:=vr.get h1;rw[hv'] at h3;cases h3;refine⟨w,h4,?_⟩;rw[fb,dz,eg hlt'];exact h2
  .exact bx h
def Gds.grow(g:Gds s s'){wq:aa am}{n:ah}(hw:∀b∈wq,s.heap.objs.size<=b)(hn:s.heap.objs.size<=n)
 (kk:∀b o,b∉wq->b<n->s'.heap.get? b=ae o->h1.get? b=ae o):Gds s {s' with heap:=h1,toks:=tk1}:=by
 obtain⟨h',tk,rfl,hk⟩:=g;refine⟨h1,tk1,rfl,λb o e=>kk b o (λhb=>?_) (eC (bE e) hn) (hk b o e)⟩;exact aT (eC (bE e) (hw b hb)) (fT _)
end
section
def Z9(h:uP o ds=.ok d):0<ds.length:=by
 cases ds with
 |nil=>exact bx h
 |cons _ _=>simp
structure Mms(o:jG)(nm:en):Prop where
 walk:∀{prog:cb}{w:br}{A:cu}{Q:ak->au->Prop}{E:ak->au->Prop}{s:au}{x:ak},ϑ (av prog w) A.in1 (gX x) (Mm.Seen prog w A.in1 o.op Q) E s->ϑ (av prog w) A (call (.builtin nm) [x]) Q E s
 two:∀{prog:cb}{w:br}{A:cu}{Q:ak->au->Prop}{E:ak->au->Prop}{s:au}{a b:ak},ϑ (av prog w) A.in1 (gX (.ref s.heap.objs.size)) (Mm.Seen prog w A.in1 o.op Q) E {s with heap:=s.heap.push {cls:=.type "tuple",data:=.seq #[a,b]}}->ϑ (av prog w) A (call (.builtin nm) [a,b]) Q E s
def aEb(M:Mms o nm)(hK:KFrag.K=X.K)(hu:X.A.units+20<bw)(hc:X.calm=ag)(I:Inv X Ψ σ H s)(hl:SqL X.K H l xs)(r:cL All H xs ds)(h:uP o ds=.ok d)(q:kR H d ai Q) :
  ϑ (av X.prog X.w) X.A (call (.builtin nm) [.ref l]) (EP X Ψ σ Q) X.xe s:=by
 obtain⟨its,vr,pl⟩:=e_ I hl;have hlt:l<s.heap.objs.size:=by obtain⟨_,e,_⟩:=pl;exact bE e
 refine M.walk (lT pl ?_);refine⟨_,_,_,_,_,_,btD o ds,rfl,Walks.list (A:=X.A.in1) (I.ok.hd hc) _ l (de hlt) its.toArray,⟨⟨_,dt _ rfl,rfl,rfl⟩,pl.push _⟩,λb hb=>?_,by rw[b6,<-vr.length,r.length];exact Z9 h,⟨Gds s,⟨_,s.toks,rfl,λb o e=>cg _ e⟩,λs' h' tk g kk=>g.grow (λb hb=>?_) (i0 _) λb o h1 h2 e=>kk b o h1 (by show b<(s.heap.push _).objs.size;rw[ix];exact h2) e,λi j vi vj s' Q E g h1 h2 q=>K9 hK I hu r vr h i j vi vj s' Q E g h1 h2 q⟩,λv h' tk hP hk=>?_⟩
 .show b<(s.heap.push _).objs.size;rw[ix];rcases bi.mp hb with rfl|hb
  .exact kr _
  .rcases bi.mp hb with rfl|hb
   .exact iw hlt
   .cases hb
 .rcases bi.mp hb with rfl|hb
  .exact bd _
  .cases hb
 .obtain⟨w,v1,r1⟩:=W4 r vr h (by simpa using hP);refine⟨w,H,I.kept λb o e=>hk b o (λhb=>?_) (cg _ e),v1,q.self r1 λz=>by cases z⟩;rcases bi.mp hb with rfl|hb
  .exact aT (bE e) (fT _)
  .cases hb
def aEc(M:Mms o nm)(hK:KFrag.K=X.K)(hu:X.A.units+20<bw)(hc:X.calm=ag)(I:Inv X Ψ σ H s)(hl:H l=ae (.tup xs))(r:cL All H xs ds)(h:uP o ds=.ok d)(q:kR H d ai Q) :
  ϑ (av X.prog X.w) X.A (call (.builtin nm) [.ref l]) (EP X Ψ σ Q) X.xe s:=by
 obtain⟨its,vr,pl⟩:=jJ I hl;have hlt:l<s.heap.objs.size:=by obtain⟨_,e,_⟩:=pl;exact bE e
 refine M.walk (uc pl ?_);refine⟨_,_,_,_,_,_,btD o ds,rfl,BM (A:=X.A.in1) (I.ok.hd hc) _ l (de hlt) its.toArray,⟨⟨_,dt _ rfl,rfl,rfl⟩,pl.push _⟩,λb hb=>?_,by rw[b6,<-vr.length,r.length];exact Z9 h,⟨Gds s,⟨_,s.toks,rfl,λb o e=>cg _ e⟩,λs' h' tk g kk=>g.grow (λb hb=>?_) (i0 _) λb o h1 h2 e=>kk b o h1 (by show b<(s.heap.push _).objs.size;rw[ix];exact h2) e,λi j vi vj s' Q E g h1 h2 q=>K9 hK I hu r vr h i j vi vj s' Q E g h1 h2 q⟩,λv h' tk hP hk=>?_⟩
 .show b<(s.heap.push _).objs.size;rw[ix];rcases bi.mp hb with rfl|hb
  .exact kr _
  .rcases bi.mp hb with rfl|hb
   .exact iw hlt
   .cases hb
 .rcases bi.mp hb with rfl|hb
  .exact bd _
  .cases hb
 .obtain⟨w,v1,r1⟩:=W4 r vr h (by simpa using hP);refine⟨w,H,I.kept λb o e=>hk b o (λhb=>?_) (cg _ e),v1,q.self r1 λz=>by cases z⟩;rcases bi.mp hb with rfl|hb
  .exact aT (bE e) (fT _)
  .cases hb
theorem aEd(two:∀{prog:cb} {w:br} {A:cu} {Q:ak->au->Prop} {E:ak->au->Prop} {s:au} {a b:ak},ϑ (av prog w) A.in1 (gX (.ref s.heap.objs.size)) (Mm.Seen prog w A.in1 o.op Q) E {s with heap:=s.heap.push {cls:=.type "tuple",data:=.seq #[a,b]}}->ϑ (av prog w) A (call (.builtin nm) [a,b]) Q E s)(hK:KFrag.K=X.K)(hu:X.A.units+20<bw)(hc:X.calm=ag)(I:Inv X Ψ σ H s)(rx:Rep All H x a)(ry:Rep All H y b)(ru:RelV x u)(rw':RelV y w)(h:uP o [a,b]=.ok d)(q:kR H d ai Q) :
  ϑ (av X.prog X.w) X.A (call (.builtin nm) [u,w]) (EP X Ψ σ Q) X.xe s:=by
 have r:cL All H [x,y] [a,b]:=.cons rx (.cons ry .nil);have vr:Vals [x,y] [u,w]:=.cons ru (.cons rw' .nil);have pl:(s.heap.push {cls:=.type "tuple",data:=.seq #[u,w]}).IsTuple s.heap.objs.size [u,w].toArray:=⟨_,dt _ rfl,rfl,0,rfl⟩
 have hsz:(s.heap.push {cls:=.type "tuple",data:=.seq #[u,w]}).objs.size=s.heap.objs.size+1:=ix ..;refine two (uc pl ?_);refine⟨_,_,_,_,_,_,btD o [a,b],rfl,BM (A:=X.A.in1) (I.ok.hd hc) _ s.heap.objs.size (by rw[hsz];exact de (kr _)) [u,w].toArray,⟨⟨_,dt _ rfl,rfl,rfl⟩,pl.push _⟩,λb hb=>?_,by simp,⟨Gds s,⟨_,s.toks,rfl,λb o e=>cg _ (cg _ e)⟩,λs' h' tk g kk=>g.grow (wq:=[s.heap.objs.size+1]) (n:=s.heap.objs.size+2) (λb hb=>?_) 0x1 λb o h1 h2 e=>kk b o (by rw[hsz];exact h1) (by show b<((s.heap.push _).push _).objs.size;rw[ix,hsz];exact h2) e,λi j vi vj s' Q E g h1 h2 q=>K9 hK I hu r vr h i j vi vj s' Q E g h1 h2 q⟩,λv h' tk hP hk=>?_⟩
 .show b<((s.heap.push _).push _).objs.size;rw[ix,hsz];rcases bi.mp hb with rfl|hb
  .rw[hsz];exact kr _
  .rcases bi.mp hb with rfl|hb
   .exact iw (kr _)
   .cases hb
 .rcases bi.mp hb with rfl|hb
  .lia
  .cases hb
 .obtain⟨w,v1,r1⟩:=W4 r vr h (by simpa using hP);refine⟨w,H,I.kept λb o e=>hk b o (λhb=>?_) (cg _ (cg _ e)),v1,q.self r1 λz=>by cases z⟩;rcases bi.mp hb with hb|hb
  .have:=bE e;rw[hb,hsz] at this;exact aT this (oj.mpr (i0 _))
  .cases hb
def aQo(M:Mms o nm)(hK:KFrag.K=X.K)(hu:X.A.units+20<bw)(hc:X.calm=ag):oW X (.builtin nm) (rs (cZ o) ai):=by
 rintro Ψ s σ H xs us Q I vr ⟨ds,d,r,e,k⟩;unfold cZ at e;split at e
 .cases r with
  |cons r t=>
   cases t;cases vr with
   |cons v vt=>
    cases vt;obtain⟨l,ys,rfl,hl,rr⟩:=r.lW;cases v;exact aEb M hK hu hc I hl rr e k
 .cases r with
  |cons r t=>
   cases t;cases vr with
   |cons v vt=>
    cases vt;obtain⟨l,ys,rfl,hl,rr⟩:=r.iZ;cases v;exact aEc M hK hu hc I hl rr e k
 .cases r with
  |cons r t=>
   cases t with
   |cons r' t=>
    cases t;cases vr with
    |cons v vt=>
     cases vt with
     |cons v' vt=>
      cases vt;exact aEd M.two hK hu hc I r r' v v' e k
 .exact bx e
def v5(hK:KFrag.K=X.K)(hu:X.A.units+20<bw)(hc:X.calm=ag):oW X (.builtin "min") (rs (cZ .lt) ai):=aQo ⟨Mm.Q_,Mm.W2⟩ hK hu hc
def x_(hK:KFrag.K=X.K)(hu:X.A.units+20<bw)(hc:X.calm=ag):oW X (.builtin "max") (rs (cZ .gt) ai):=aQo ⟨Mm.RB,Mm.W3⟩ hK hu hc
end
end Mi
namespace PySem.Mm
open PySem PyProof.Rows PySem.W
def RD{K:Type}[fF K]{knd:KeyKind prog w K}{d:am}{kvs:aa (K×ak)}{ep n:ah}(hh:A.handled=aj)(lo:(d==fS)=ai)
 (hm:s.heap.DictAt knd d kvs ep)(hn:kvs.length=n)(hl:n<=2 ^ 24)
 (q:∀h' tk acc c,(∀b o,s.heap.get? b=ae o->h'.get? b=ae o)->h'.get? s.heap.objs.size=ae {cls:=.type "list",dict:=aj,data:=.seq acc c,slots:=#[]}->
   ItemsOf (λi v=>∃k x,kvs[i]?=ae (k,x)/\knd.is k v=ag) acc n->Q (.ref s.heap.objs.size) {s with heap:=h',toks:=tk}):ϑ (av prog w) A (call (.type "list") [.ref d]) Q E s:=by
 subst hn;exact kdl_call (kdl_dict lo) hh hm (kdl_size hl) q
end PySem.Mm
namespace Mi
open PySem L2 PySem.SeqAt PySem.Spec PyProof.Rows
section
variable [KFrag]
section
variable {a b e:Expr} {x:Str} {id T:en}
def mJ(r:cL P H xs [d])(vr:Vals xs us):∃v u,xs=[v]/\us=[u]/\Rep P H v d/\RelV v u:=by
 cases r with
 |cons r t=>
  cases t;cases vr with
  |cons v vt=>
   cases vt;exact⟨_,_,rfl,rfl,r,v⟩
theorem Z_{fr:aq}(h:gE (aN f fs) fr σ H Q):tCB (rs f fr) (gA fs rr) σ H Q:=by
 obtain⟨ρ,d,E,h,q⟩:=h;obtain⟨ds,h1,h2⟩:=bJ h;exact⟨ρ,ds,E,h1,λvs H1 s1 r1 _=>⟨ds,d,r1,h2,q.imp s1 id⟩⟩
theorem aQ{fr:aq}(hc:oW X (.builtin id) (rs f fr))(hg:Gl X x)(hm:X.mg x=aj)(hv:eM x=ae (.builtin id))(ha:PA X (e::es) (gA fs rr))(hn:x ≠ "__name__":=by decide)(hdb:nDb x:=by decide)
 (he:zSE X e es:=by rfl)(hpl:zSP X pos es:=by rfl):PE X (.Call (.Name x p) (e::es) [] pos) (gE (aN f fs) fr):=
 PE.imp (Y6 hc hg hm hv ha hn hdb he hpl) λ_ _ _=>Z_
def c7{fr:aq}(hc:oW X (.type T) (rs f fr))(hg:Gl X x)(hm:X.mg x=aj)(hv:eM x=ae (.type T))(ha:PA X (e::es) (gA fs rr))(hn:x ≠ "__name__":=by decide)(hdb:nDb x:=by decide)
 (he:zSE X e es:=by rfl)(hpl:zSP X pos es:=by rfl):PE X (.Call (.Name x p) (e::es) [] pos) (gE (aN f fs) fr):=
 PE.imp (QR hc hg hm hv ha hn hdb he hpl) λ_ _ _=>Z_
def dB(hK:KFrag.K=X.K):oW X (.builtin "len") (rs gV ag):=by
 rintro Ψ s σ H xs us Q I vr ⟨ds,d,r,e,k⟩;unfold gV at e;split at e
 .cases e;obtain⟨vv,uu,rfl,rfl,r,v⟩:=mJ r vr;obtain⟨l,ys,rfl,hl,rr⟩:=r.iZ;cases v;exact m_ Ψ s σ H [.ref l] [.ref l] Q I (.cons rfl .nil) ⟨l,ys,rfl,.inr (.of hl),by rw[rr.length];exact k.int⟩
 .cases e;obtain⟨vv,uu,rfl,rfl,r,v⟩:=mJ r vr;obtain⟨l,ys,rfl,hl,rr⟩:=r.lW;cases v;exact m_ Ψ s σ H [.ref l] [.ref l] Q I (.cons rfl .nil) ⟨l,ys,rfl,.inl hl,by rw[rr.length];exact k.int⟩
 .cases e;obtain⟨vv,uu,rfl,rfl,r,v⟩:=mJ r vr;cases r with
  |@frz l xs ds ee rr=>
   cases v;exact m_ Ψ s σ H [.ref l] [.ref l] Q I (.cons rfl .nil) ⟨l,xs,rfl,.inl (ee.sq hK),by rw[rr.length];exact k.int⟩
 .split at e
  .rename_i hl;cases e;obtain⟨vv,uu,rfl,rfl,r,v⟩:=mJ r vr;cases r.inv;exact QT Ψ s σ H _ _ Q I (.cons v .nil) ⟨_,rfl,vY hl,k.int⟩
  .exact bx e
 .exact bx e
def oV.keys:∀{kvs:aa (Key×V)}{ds:aa (D×D)},oV P H kvs ds->cL P' H (kvs.map λp=>kV p.1) (nQ ds)
 |_,_,.nil=>.nil
 |_,_,.cons (k:=k) _ t=>.cons (by cases k<;>first|exact .int _|exact .str _) t.keys
theorem list_dict(hc:X.calm=ag)(I:Inv X Ψ σ H s)(e:H l=ae (.dK kvs))
 (q:∀p s',H p=aj->Inv X Ψ σ (upd H p (.lst (kvs.map λp=>kV p.1))) s'->(∀l0 o0,H l0=ae o0->l0≠p)->Q (.ref p) s'):ϑ (av X.prog X.w) X.A (call (.type "list") [.ref l]) Q X.xe s:=by
 obtain⟨z,hd,vs,rel,dd⟩:=VP I.hok e;obtain⟨ep,da⟩:=dd.dictAt;have hlen:kvs.length=vs.length:=kN rel;refine Mm.RD (I.ok.hd hc) hd da rfl (by rw[<-hlen];rw[eS] at z;lia) λh' tk acc' c' kp e1 it=>?_
 obtain⟨i1,i2⟩:=it;have hfr:H s.heap.objs.size=aj:=I.hok.fresh (bd _);refine q _ _ hfr (I.laid kp (bd _) ?_) λl0 o0 h0=>eY h0 hfr
 refine⟨by rw[aS];exact z,acc'.toList,c',?_,by simpa using e1⟩;have gen:∀(kvs:aa (Key×V))(vs:aa (Key×ak))(xs:aa ak),KV kvs vs->xs.length=vs.length->(∀(j:ah)(v:ak),xs[j]?=ae v->∃k x,vs[j]?=ae (k,x)/\(dJ X.prog X.w).is k v=ag)->Vals (kvs.map λp=>kV p.1) xs:=by
  intro kvs vs xs rel;induction rel generalizing xs with
  |nil=>intro hl _;cases xs with|nil=>exact .nil|cons _ _=>simp at hl
  |@cons p q ps qs hpq t ih=>
   intro hl g;cases xs with
   |nil=>simp at hl
   |cons x xs=>
    refine .cons ?_ (ih xs (by simpa using hl) λj v hv=>g (j+1) v (by simpa using hv));obtain⟨k,x',h1,h2⟩:=g 0 x rfl;have h1':q=(k,x'):=by simpa using h1
    show RelV (kV p.1) x;rw[hpq.1,h1'];rcases eG h2 with ⟨i,t,rfl,rfl⟩|⟨i,t,rfl,rfl⟩
    .exact⟨t,rfl⟩
    .exact⟨t,rfl⟩
 exact gen kvs vs acc'.toList rel (by simpa using i1) λj v hv=>i2 j v (by simpa using hv)
def K_(hc:X.calm=ag):oW X (.type "list") (rs KQ ag):=by
 rintro Ψ s σ H xs us Q I vr ⟨ds,d,r,e,k⟩;unfold KQ at e;split at e
 .split at e
  .rename_i hl;cases e;obtain⟨vv,uu,rfl,rfl,r,v⟩:=mJ r vr;obtain⟨l,ys,rfl,hl',rr⟩:=r.iZ;cases v;refine xU Ψ s σ H [.ref l] [.ref l] Q I (.cons rfl .nil) ⟨l,ys,rfl,.inr (.of hl'),λp hp=>?_⟩;have sp:dO H (upd H p (.lst ys)):=dO.upd hp;exact k _ _ sp (.lst aM trivial (rr.same sp)) λ_=>.lst aM hp ((rr.cU hl).same sp)
  .exact bx e
 .split at e
  .rename_i hl;cases e;obtain⟨vv,uu,rfl,rfl,r,v⟩:=mJ r vr;obtain⟨l,ys,rfl,hl',rr⟩:=r.lW;cases v;refine xU Ψ s σ H [.ref l] [.ref l] Q I (.cons rfl .nil) ⟨l,ys,rfl,.inl hl',λp hp=>?_⟩;have sp:dO H (upd H p (.lst ys)):=dO.upd hp;exact k _ _ sp (.lst aM trivial (rr.same sp)) λ_=>.lst aM hp ((rr.cU hl).same sp)
  .exact bx e
 .split at e
  .rename_i hl;cases e;obtain⟨vv,uu,rfl,rfl,r,v⟩:=mJ r vr;cases r with
   |@dK l kvs ds e _ r n=>
    cases v;refine list_dict hc I e λp s' hp I' _=>⟨.ref p,_,I',rfl,?_⟩
    have sp:dO H (upd H p (.lst (kvs.map λp=>kV p.1))):=dO.upd hp;exact k _ _ sp (.lst aM trivial (r.keys.same sp)) λ_=>.lst aM hp (r.keys.same sp)
   |@dT l kvs ds e _ r n=>
    cases v;cases r with
    |cons r t=>simp[isTup] at hl
    |nil=>
     have e2:=K6 (o':=.dK []) e;refine list_dict hc (oE I e) aM λp s' hp I' hne=>?_
     have hp':p≠l:=λz=>by subst z;rw[aM] at hp;cases hp
     have hpn:H p=aj:=by rw[bB hp'] at hp;exact hp
     have hcm:upd (upd (upd H l (.dK [])) p (.lst [])) l (.dT [])=upd H p (.lst []):=by
      funext b
      by_cases hb:b=l
      .subst hb;rw[aM,bB (Ne.symm hp'),e]
      .rw[bB hb];by_cases hb2:b=p
       .subst hb2;rw[aM,aM]
       .rw[bB hb2,bB hb2,bB hb]
     have I2:=tU I' (by rw[bB (Ne.symm hp'),aM]);have I3:Inv X Ψ σ (upd H p (.lst [])) s':=by
      have:Inv X Ψ σ (upd (upd (upd H l (.dK [])) p (.lst [])) l (.dT [])) s':=I2;rwa [hcm] at this
     have sp:dO H (upd H p (.lst [])):=dO.upd hpn;exact⟨.ref p,_,I3,rfl,k _ _ sp (.lst aM trivial .nil) λ_=>.lst aM hpn .nil⟩
  .exact bx e
 .exact bx e
def iW:oW X (.type "tuple") (rs nA ai):=by
 rintro Ψ s σ H xs us Q I vr ⟨ds,d,r,e,k⟩;unfold nA at e;split at e
 .cases e;obtain⟨vv,uu,rfl,rfl,r,v⟩:=mJ r vr;obtain⟨l,ys,rfl,hl',rr⟩:=r.iZ;cases v;exact vM Ψ s σ H [.ref l] [.ref l] Q I (.cons rfl .nil) ⟨l,ys,rfl,.inr ⟨.of hl',k.self (.tup hl' rr) λz=>by cases z⟩⟩
 .cases e;obtain⟨vv,uu,rfl,rfl,r,v⟩:=mJ r vr;obtain⟨l,ys,rfl,hl',rr⟩:=r.lW;cases v;refine vM Ψ s σ H [.ref l] [.ref l] Q I (.cons rfl .nil) ⟨l,ys,rfl,.inl ⟨hl',λp hp=>?_⟩⟩;have sp:dO H (upd H p (.tup ys)):=dO.upd hp;exact k _ _ sp (.tup aM (rr.same sp)) λz=>by cases z
 .exact bx e
mutual
theorem JM:∀(d:D),d.plain=ag->d.pure=ag
 |.tup xs,h=>by rw[π] at h;rw[D.pure];exact rH xs h
 |.int _,_=>rfl
 |.str _,_=>rfl
 |.uD,h=>by simp[π] at h
 |.non,_=>rfl
 |.bl _,_=>rfl
 |.lst _,h=>by simp[π] at h
 |.dct _,h=>by simp[π] at h
 |.scr xs,h=>by rw[π] at h;rw[D.pure];exact rH xs h
theorem rH:∀(ds:aa D),χ ds=ag->θ ds=ag
 |[],_=>rfl
 |x::xs,h=>by rw[χ,bj] at h;rw[θ,bj];exact⟨JM x h.1,rH xs h.2⟩
end
def BZ(h:bF ds=ag):θ (iK ds)=ag:=kZ.mpr λd hd=>JM d (fK h ((cA ds).mem_iff.mp hd)).1
def fL(hK:KFrag.K=X.K)(hu:X.A.units+20<bw):oW X (.builtin "sorted") (rs fD ag):=by
 rintro Ψ s σ H xs us Q I vr ⟨ds,d,r,e,k⟩;unfold fD at e;split at e
 .split at e
  .rename_i hl;cases e;obtain⟨vv,uu,rfl,rfl,r,v⟩:=mJ r vr;obtain⟨l,ys,rfl,hl',rr⟩:=r.lW;cases v;refine aBs hK I hu hl' rr hl λp xs' hp r'=>?_
   have sp:dO H (upd H p (.lst xs')):=dO.upd hp;exact k _ _ sp (.lst aM trivial (r'.same sp)) λ_=>.lst aM hp ((r'.cU (BZ hl)).same sp)
  .exact bx e
 .exact bx e
def isi(I:Inv X Ψ σ H s)(r:Rep All H v d)(ru:RelV v u)(h:aTj t d=.ok k)
 (q:∀tk,Q (.bool k) {s with toks:=tk}):ϑ (av X.prog X.w) X.A (call (.builtin "isinstance") [u,.type t.nm]) Q X.xe s:=by
 have q0:Q (.bool k) s:=q s.toks;cases r with
 |non=>cases ru;cases t<;>cases h<;>first|exact IsiPair.NoneType_int (q _)|exact IsiPair.NoneType_str (q _)|exact IsiPair.NoneType_bool (q _)|exact IsiPair.NoneType_list (q _)|exact IsiPair.NoneType_tuple (q _)|exact IsiPair.NoneType_dict (q _)
 |bl b=>cases ru;cases t<;>cases h<;>first|exact IsiPair.bool_int q0|exact IsiPair.bool_str (q _)|exact IsiPair.bool_bool q0|exact IsiPair.bool_list (q _)|exact IsiPair.bool_tuple (q _)|exact IsiPair.bool_dict (q _)
 |int b=>obtain⟨tt,rfl⟩:=ru;cases t<;>cases h<;>first|exact IsiPair.int_int q0|exact IsiPair.int_str (q _)|exact IsiPair.int_bool (q _)|exact IsiPair.int_list (q _)|exact IsiPair.int_tuple (q _)|exact IsiPair.int_dict (q _)
 |str b=>obtain⟨tt,rfl⟩:=ru;cases t<;>cases h<;>first|exact IsiPair.str_int (q _)|exact IsiPair.str_str q0|exact IsiPair.str_bool (q _)|exact IsiPair.str_list (q _)|exact IsiPair.str_tuple (q _)|exact IsiPair.str_dict (q _)
 |tup e rr=>
  cases ru;obtain⟨its,vr,o,ho,hc,_⟩:=jJ I e;cases t<;>cases h<;>first|exact IsiPair.tuple_int ho hc (q _)|exact IsiPair.tuple_str ho hc (q _)|exact IsiPair.tuple_bool ho hc (q _)|exact IsiPair.tuple_list ho hc (q _)|exact IsiPair.tuple_tuple ho hc q0|exact IsiPair.tuple_dict ho hc (q _)
 |lst e p rr=>
  cases ru;obtain⟨its,vr,o,ho,hc,_⟩:=e_ I (.of e);cases t<;>cases h<;>first|exact IsiPair.list_int ho hc (q _)|exact IsiPair.list_str ho hc (q _)|exact IsiPair.list_bool ho hc (q _)|exact IsiPair.list_list ho hc q0|exact IsiPair.list_tuple ho hc (q _)|exact IsiPair.list_dict ho hc (q _)
 |frz e rr=>cases t<;>exact bx h
 |dK e p rr n=>
  cases ru;obtain⟨_,_,_,_,o,_,_,ho,hx,_⟩:=VP I.hok e;have hc:=hx.1;cases t<;>cases h<;>first|exact BN ho hc (q _)|exact BO ho hc (q _)|exact BQ ho hc (q _)|exact BS ho hc (q _)|exact BU ho hc (q _)|exact BY ho hc q0
 |dT e p rr n=>
  cases ru;obtain⟨_,_,_,_,o,_,_,ho,hx,_⟩:=aDd I.hok e;have hc:=hx.1;cases t<;>cases h<;>first|exact BN ho hc (q _)|exact BO ho hc (q _)|exact BQ ho hc (q _)|exact BS ho hc (q _)|exact BU ho hc (q _)|exact BY ho hc q0
def aVn(t:Ty):aa V->Hp->VK->Prop:=λxs H Q=>∃v d k,xs=[v,.ty t.nm]/\Rep All H v d/\aTj t d=.ok k/\Q (.bl k) H
def aQp(t:Ty):oW X (.builtin "isinstance") (aVn t):=by
 rintro Ψ s σ H xs us Q I vr ⟨v,d,k,e,r,h,q⟩;subst e;cases vr with
 |cons rv vt=>
  cases vt with
  |cons rt vt=>
   cases vt;cases rt;exact isi I r rv h λtk=>⟨.bl k,H,I.tok tk,rfl,q⟩
theorem aA0(t:Ty)(ha:PE X a (gE fa ra))(hg:Gl X "isinstance")(hm:X.mg "isinstance"=aj)(hv:eM "isinstance"=ae (.builtin "isinstance"))(gy:Gl X y)(my:X.mg y=aj)(vy:eM y=ae (.type t.nm))
 (hy:y ≠ "__name__":=by decide)(hyd:(y==("__debug__" : Str))=ai:=by decide)
 (he:dw [a,.Name y p2] X.env=(ai,cw a X.env)::dw [.Name y p2] X.env:=by rfl)(he2:dw [.Name y p2] X.env=(ai,cw (.Name y p2) X.env)::dw [] X.env:=by rfl)
 (hpl:(jw pos (dw [.Name y p2] X.env)).any (·.1)=ai:=by rfl):PE X (.Call (.Name "isinstance" p) [a,.Name y p2] [] pos) (gE (b1 (aDs t) fa) ag):=
 PE.imp (Y6 (aQp t) hg hm hv (nO ha (nO (aL5 gy my vy (v:=.ty t.nm) rfl hy hyd) vL he2) he) 0x4 0x4 he hpl) λσ H Q z0=>by
  obtain⟨ρ,d,E,h,q⟩:=z0;obtain⟨x,h1,h⟩:=bJ h;obtain⟨k,h2,h⟩:=bJ h;cases h;exact⟨ρ,x,E,h1,λv H1 s1 r1 _=>⟨v,x,k,rfl,r1,h2,(q.imp s1 id).bl⟩⟩
theorem aTt{ro fr:aq}(pa:we T)(slot:Slot T name id)(hty:lh (.builtin id)=pure (.type "method_descriptor"))(hm:MtR X id (rm f fr))(ho:PE X o (gE fo ro))(ha:PA X (e::es) (gA fs rr))
 (hT:∀(d:D) (ds:aa D) (r:D) (v:V) (H:Hp),f d ds=.ok r->Rep All H v d->tyV X.K T v H)
 (hbase:ji o name X.env (cw o X.env)=cw o X.env:=by rfl)
 (hfew:zFw X cpos (e::es):=by rfl)
 (hline:(apos.endLine==cpos.line)=ag:=by rfl)(hs:zSE X e es:=by rfl)(hplain:zSP X cpos es:=by rfl) :
  PE X (.Call (.Attribute o name apos) (e::es) [] cpos) (gE (bM f fo fs) fr):=
 PE.imp (aBd pa slot hty hm ho ha hbase hfew hline hs hplain) λσ H Q z0=>by
  obtain⟨ρ,d,E,h,q⟩:=z0;obtain⟨x,h1,h⟩:=bJ h;obtain⟨ds,h2,h⟩:=bJ h;exact⟨ρ,x,E,h1,λv H1 s1 r1 _=>⟨hT x ds d v H1 h r1,ρ,ds,E.same s1,h2,λvs H2 s2 r2 _=>⟨x,ds,d,r1.same s2,r2,h,q.imp (s1.trans s2) λz=>z⟩⟩⟩
def aM4{X:Cx}(h:aLu d ds=.ok r)(rp:Rep All H v d):tyV X.K "dict" v H:=by
 have:∃kvs,d=.dct kvs:=by
  unfold aLu at h;split at h
  .exact⟨_,rfl⟩
  .exact⟨_,rfl⟩
  .exact bx h
 obtain⟨kvs,rfl⟩:=this;cases rp with
 |dK e _ _ _=>exact .inr (.inr (.inl ⟨rfl,.inl ⟨_,e⟩⟩))
 |dT e _ _ _=>exact .inr (.inr (.inl ⟨rfl,.inr ⟨_,e⟩⟩))
def aQq(hu:X.A.units+20<bw):MtR X "dict.get" (rm aLu ai):=by
 rintro Ψ s σ H x xs v us Q I rv vr ⟨a,ds,d,ra,rs,h,k⟩;unfold aLu at h;split at h
 .split at h
  .rename_i hf;cases h;obtain⟨vv,uu,rfl,rfl,r,rk⟩:=mJ rs vr;obtain⟨H1,a1,o,rfl,I1,bk,g,hc⟩:=aE9 I ra r hf;cases rv;refine aQ1 0x1 I1 g rk λw' s' I' rw'=>⟨_,H,bk s' I',rw',?_⟩
   rcases hc with ⟨rfl,h2⟩|⟨w,dd,rfl,h2,h3⟩
   .rw[h2] at k;exact k.non
   .rw[h2] at k;exact k.self h3 λz=>by cases z
  .exact bx h
 .split at h
  .rename_i hf;cases h;cases rs with
   |cons r t=>
    cases t with
    |cons r' t=>
     cases t;cases vr with
     |cons rk vt=>
      cases vt with
      |cons rk' vt=>
       cases vt;obtain⟨H1,a1,o,rfl,I1,bk,g,hc⟩:=aE9 I ra r hf;cases rv;refine aQ2 0x1 I1 g rk rk' λw' s' I' rw'=>⟨_,H,bk s' I',rw',?_⟩
       rcases hc with ⟨rfl,h2⟩|⟨w,dd,rfl,h2,h3⟩
       .rw[h2] at k;exact k.self r' λz=>by cases z
       .rw[h2] at k;exact k.self h3 λz=>by cases z
  .exact bx h
 .exact bx h
noncomputable def spD(f:aa D->Res D)(n:ah):Sp:=λvs H Q _=>∃ds d,ds.length=n/\cL All H vs ds/\f ds=.ok d/\kR H d ag Q
def aM5{E:XK}(h:spD f n vs H Q E):vs.length=n:=by
 obtain⟨ds,d,h1,r,_⟩:=h;rw[r.length,h1]
theorem aM6(F:aCp X.prog X.w X.K X.mg X.base CX0 k fad fd ps (spD f n))(hr:GR k X.A)(hg:Gl X x)(hm:X.mg x=ae (.ref fad))(hk:nE X.K (.ref fad)=ag)(hb:Binds X.K fd ps [])
 (ha:PA X (e::es) (gA fs rr))(hdb:nDb x:=by decide)(he:zSE X e es:=by rfl)(hpl:zSP X pos es:=by rfl) :
  PE X (.Call (.Name x p) (e::es) [] pos) (gE (aN (bV n f) fs) ag):=
 PE.imp (aLd F hr hg hm hk hb .nil aTi ha hdb he hpl) λσ H Q z0=>by
  obtain⟨ρ,d,E,h,q⟩:=z0;obtain⟨ds,h1,h⟩:=bJ h;unfold bV at h;split at h
  .rename_i hl;exact⟨ρ,ds,E,h1,λvs H1 s1 r1 _=>⟨ds,d,d6 hl,by rw[d4];exact r1,h,q.imp s1 id⟩⟩
  .exact bx h
end
end
noncomputable def LC(m:ah)(xs:aa D):aa D:=xs.zipIdx.map λp=>.tup [.int ((m+p.2:ah):af),p.1]
section
variable [KFrag]
def aUq(K:cm)(m:ah)(a:am):It:=
 ⟨λi H=>∃xs x,SqL K H a xs/\xs[i]?=ae x,λi H v H'=>∃t x,(∀xs,SqL K H a xs->xs[i]?=ae x)/\v=.ref t/\H t=aj/\H'=upd H t (.tup [.int ((m+i:ah):af),x]),λi H=>∃xs,SqL K H a xs/\xs.length<=i⟩
def aI3{i:ah}:(LC m xs)[i]?=(xs[i]?).map λd=>.tup [.int ((m+i:ah):af),d]:=by
 unfold LC;rw[iE,List.getElem?_zipIdx,BB];cases xs[i]?<;>rfl
structure ItQ(K:cm)(P:am->Prop)(J:It)(H:Hp)(items:aa D):Prop where
 it:∀(P':am->Prop)(H':Hp),GX P H H'->(∀a o,H a=ae o->P a->P' a)->(∀i,items.length<=i->J.stop i H')/\∀i d,items[i]?=ae d->J.go i H'/\∀x H'',J.yld i H' x H''->dO H' H''/\Rep P' H'' x d
section
variable {K:cm} {P P':am->Prop} {J:It} {H H':Hp} {items:aa D}
theorem ItQ.keep'(h:ItQ K P J H items)(k:GX P H H')(m:∀a o,H a=ae o->P a->P' a):ItQ K P' J H' items:=
 ⟨λP2 H2 k2 m2=>h.it P2 H2 (λa o e hp=>k2 a o (k a o e hp) (hp.imp (m a o e) id)) λa o e hp=>m2 a o (k a o e (.inl hp)) (m a o e hp)⟩
def ItQ.keep(h:ItQ K P J H items)(k:GX P H H')(m:∀a,P a->P' a):ItQ K P' J H' items:=h.keep' k λa _ _=>m a
def ItQ.stop(h:ItQ K P J H items)(hi:items.length<=i):J.stop i H:=(h.it P H (λ_ _ e _=>e) λ_ _ _ hp=>hp).1 i hi
def ItQ.go(h:ItQ K P J H items)(hi:items[i]?=ae d):J.go i H/\∀x H',J.yld i H x H'->dO H H'/\Rep P H' x d:=(h.it P H (λ_ _ e _=>e) λ_ _ _ hp=>hp).2 i d hi
def ItQ.lst(a:am)(e:J=Itl K a)(r:Rep P H (.ref a) (.lst items)):ItQ K P J H items:=by
 refine⟨λP H kk mm=>?_⟩;have r:=r.aBo kk mm;refine⟨λi hi=>?_,λi d hi=>?_⟩
 .subst e;obtain⟨a',xs,e,hq,rr⟩:=r.lW;cases e;exact⟨xs,hq,by rw[rr.length];exact hi⟩
 .subst e;obtain⟨a',xs,e,hq,rr⟩:=r.lW;cases e;obtain⟨v,h1,h2⟩:=rr.get hi;refine⟨⟨xs,v,hq,h1⟩,λx H' ⟨e,hy⟩=>?_⟩;subst e;refine⟨dO.refl _,?_⟩;have:=hy xs hq;rw[h1] at this;cases this;exact h2
def ItQ.tup(a:am)(e:J=Itt K a)(r:Rep P H (.ref a) (.tup items)):ItQ K P J H items:=by
 refine⟨λP H kk mm=>?_⟩;have r:=r.aBo kk mm;refine⟨λi hi=>?_,λi d hi=>?_⟩
 .subst e;obtain⟨a',xs,e,hq,rr⟩:=r.iZ;cases e;exact⟨xs,.of hq,by rw[rr.length];exact hi⟩
 .subst e;obtain⟨a',xs,e,hq,rr⟩:=r.iZ;cases e;obtain⟨v,h1,h2⟩:=rr.get hi;refine⟨⟨xs,v,.of hq,h1⟩,λx H' ⟨e,hy⟩=>?_⟩;subst e;refine⟨dO.refl _,?_⟩;have:=hy xs (.of hq);rw[h1] at this;cases this;exact h2
def ItQ.rng(lo:af)(n:ah)(e:J=Itr lo n)(r:items=(bn n).map λ(k:ah)=>δ (lo+k)):ItQ K P J H items:=by
 refine⟨λP H k m=>?_⟩;refine⟨λi hi=>?_,λi d hi=>?_⟩
 .subst e r;show n<=i;simpa using hi
 .subst e r;have hlt:i<n:=by
   have:=(ej.mp hi).1;simpa using this
  refine⟨hlt,λx H' ⟨e,hy⟩=>?_⟩;subst e;have e2:δ (lo+(i:af))=d:=by simpa[hlt] using hi
  rw[hy,<-e2];exact⟨dO.refl _,.int _⟩
def ItQ.enf(m:ah)(a:am)(ds:aa D)(e:J=aUq K m a)(r:Rep P H (.ref a) (.lst ds))(h:items=LC m ds):ItQ K P J H items:=by
 refine⟨λP H kk mm=>?_⟩;have r:=r.aBo kk mm;refine⟨λi hi=>?_,λi d hi=>?_⟩
 .subst e h;obtain⟨a',xs,e,hq,rr⟩:=r.lW;cases e;exact⟨xs,hq,by rw[rr.length];simpa[LC] using hi⟩
 .subst e h;obtain⟨a',xs,e,hq,rr⟩:=r.lW;cases e;rw[aI3] at hi;obtain⟨y,hd,rfl⟩:=nS.mp hi;obtain⟨v,h1,h2⟩:=rr.get hd;refine⟨⟨xs,v,hq,h1⟩,λx H' ⟨t,u,hy,e1,e2,e3⟩=>?_⟩;subst e1 e3;have:=hy xs hq;rw[h1] at this;cases this;have sp:dO H (upd H t (.tup [.int ((m+i:ah):af),v])):=dO.upd e2;exact⟨sp,.tup aM (.cons (.int _) (.cons (h2.same sp) .nil))⟩
def ItQ.scr(a:am)(hK:KFrag.K=K)(e:J=Itl K a)(r:Rep P H (.ref a) (.scr items)):ItQ K P J H items:=by
 refine⟨λP H kk mm=>?_⟩;have r:=r.aBo kk mm;refine⟨λi hi=>?_,λi d hi=>?_⟩
 .subst e;cases r with
  |frz ee rr=>exact⟨_,ee.sq hK,by rw[rr.length];exact hi⟩
 .subst e;cases r with
  |@frz _ xs _ ee rr=>
   obtain⟨v,h1,h2⟩:=rr.get hi;refine⟨⟨xs,v,ee.sq hK,h1⟩,λx H' ⟨e,hy⟩=>?_⟩;subst e;refine⟨dO.refl _,?_⟩;have:=hy xs (ee.sq hK);rw[h1] at this;cases this;exact h2
end
noncomputable def gI(K:cm)(f:FI):TI:=λσ H R=>∃ρ items k,ER H σ ρ/\f ρ=.ok (items,k)/\∀J H1,dO H H1->ItQ K All J H1 items->(k=ag->ItQ K (New H) J H1 items)->R J H1
def gIV(K:cm)(i:ah):TI:=λσ H R=>∃v d items,σ[i]?=ae (ae v)/\Rep All H v d/\vQ d=.ok items/\∀J,(∀P:am->Prop,Rep P H v d->ItQ K P J H items)->R J H
section
variable {X:Cx} {tg l a b:Expr} {fl:FE} {rl rr:aq} {fs:FA} {p pos:c9}
def aA1(I1:Inv X Ψ σ H1 s1)(r:Rep All H1 v d)(ru:RelV v u)(hi:vQ d=.ok items)
 (q:∀J,(∀P:am->Prop,Rep P H1 v d->ItQ X.K P J H1 items)->R J H1):ϑ (av X.prog X.w) X.A (gX u) (PIE X Ψ σ tg R) X.xe s1:=by
 cases d<;>simp only[vQ] at hi<;>cases hi
 .obtain⟨a,xs,rfl,e,rr⟩:=r.iZ;cases ru;obtain⟨its,rv,p,hz⟩:=I1.tuple (.of e);refine uc (show s1.heap.IsTuple a its.toArray from p) ?_;refine⟨s1.heap.objs.size,[s1.heap.objs.size],_,_,H1,rfl,I1.kept λb o e=>cg _ e,aB7 a _,⟨_,dt _ rfl,rfl,rfl⟩,λb hb=>?_,q _ λP r=>.tup a rfl r⟩;have e:b=s1.heap.objs.size:=by simpa using hb
  subst e;exact I1.aL7 (bd _) (I1.hok.fresh (bd _))
 .obtain⟨a,xs,rfl,e,rr⟩:=r.lW;cases ru;obtain⟨its,rv,p,hz⟩:=I1.list e;refine lT p.isList ?_;refine⟨s1.heap.objs.size,[s1.heap.objs.size],_,_,H1,rfl,I1.kept λb o e=>cg _ e,zN a _,⟨_,dt _ rfl,rfl,rfl⟩,λb hb=>?_,q _ λP r=>.lst a rfl r⟩;have e:b=s1.heap.objs.size:=by simpa using hb
  subst e;exact I1.aL7 (bd _) (I1.hok.fresh (bd _))
def fM(hl:PE X l (gE fl rl)):PI X tg l (gI X.K (b_ fl rl)):=by
 rintro Ψ s σ H R I ⟨ρ,items,k,E,h,q⟩;obtain⟨d,h1,h⟩:=bJ h;obtain⟨its,h2,h⟩:=bJ h;cases h;refine thn (hl Ψ s σ H _ I ⟨ρ,d,E,h1,λv H1 s1 r1 n1=>(show(∃d',Rep All H1 v d/\d'=d/\∀J,(∀P:am->Prop,Rep P H1 v d->ItQ X.K P J H1 items)->R J H1) from ⟨d,r1,rfl,λJ hJ=>q J H1 s1 (hJ _ r1) λhk=>hJ _ ?_⟩)⟩) λu s1 ⟨v,H1,I1,ru,d',r1,e,q1⟩=>aA1 I1 r1 ru h2 q1
 rw[jn] at hk;rcases hk with hk|hk
 .exact n1 hk
 .exact r1.cU hk
def aQr(hN:X.N[i]?=ae x)(hv:Vis X.env.scope x)(hd:nDb x:=by decide)(hcd:nCd x:=by decide):PI X tg (.Name x pos) (gIV X.K i):=by
 rintro Ψ s σ H R I ⟨v,d,items,hσ,r,hi,q⟩;exact thn (m9 hN hv hd hcd Ψ s σ H (λw H1=>w=v/\H1=H) I ⟨v,hσ,rfl,rfl⟩) λu s1 z0=>by
  obtain⟨w,H1,I1,ru,e1,e2⟩:=z0;subst e1 e2;exact aA1 I1 r ru hi q
def aBu(h:z_ i=ag):-(2 ^ 62)<=i/\i<2 ^ 62:=by
 simp only[z_,bj,eB] at h;exact h
def PI.imp(h:PI X tg l w)(i:∀σ H R,w' σ H R->w σ H R):PI X tg l w':=λΨ s σ H R I q=>h Ψ s σ H R I (i σ H R q)
def nT(hg:Gl X "range")(hm:X.mg "range"=aj)(ha:PA X [a] (gA fs rr))(hs:dw [a] X.env=[(ai,cw a X.env)]:=by rfl):PI X tg (.Call (.Name "range" p) [a] [] pos) (gI X.K (uB fs rC)):=
 PI.imp (aD5 hg hm ha hs) λσ H R z0=>by
  obtain⟨ρ,items,k,E,h,q⟩:=z0;obtain⟨xs,h1,h⟩:=bJ h;unfold rC at h;split at h
  .split at h
   .rename_i hb;cases h;obtain⟨b1,b2⟩:=aBu hb;refine⟨ρ,_,E,h1,λvs H1 s1 r1 _=>?_⟩;cases r1 with
    |cons r t=>
     cases t;cases r.inv;exact⟨_,rfl,b1,b2,q _ H1 s1 (.rng 0 _ rfl rfl) λ_=>.rng 0 _ rfl rfl⟩
   .exact bx h
  .exact bx h
end
def aI4(n:ah)(ρ bs:aa D)(i:ah)(h:i<n):(ZP n ρ++bs).getD i .uD=ρ.getD i .uD:=by
 rw[dz,lc (by simp[ZP];exact h)];simp[ZP,h]
def aA2(n:ah)(ρ:aa D):(ZP n ρ).length=n:=by simp[ZP]
def TgC(g:TG)(t:D->Res (aa D))(n m:ah):Prop:=∀(v:V)(d:D)(bs:aa D)(σ:L2.St)(H:Hp)(Q:L2.St->Hp->Prop),σ.length=n->Rep All H v d->t d=.ok bs->
 (∀σ2,Ext (σ++dg m aj) σ2->(∀j b,bs[j]?=ae b->∃w,σ2[n+j]?=ae (ae w)/\Rep All H w b)->Q σ2 H)->g v (σ++dg m aj) H Q
theorem ER.ext(E:ER H σ ρ)(hn:σ.length=n)(x:Ext (σ++dg m aj) σ2)(hb:∀j b,bs[j]?=ae b->∃w,σ2[n+j]?=ae (ae w)/\Rep All H w b):ER H σ2 (ZP n ρ++bs):=by
 intro i hi;by_cases h:i<n
 .rw[aI4 n ρ bs i h] at hi ⊢;obtain⟨v,h1,h2⟩:=E i hi;exact⟨v,x.2 i v (by rw[lc (by rw[hn];exact h)];exact h1),h2⟩
 .have e:(ZP n ρ++bs).getD i .uD=bs.getD (i-n) .uD:=by
   rw[dz,kf (by rw[aA2];lia),aA2,<-dz]
  rw[e] at hi ⊢;cases hq:bs[i-n]? with
  |none=>rw[dz,hq] at hi;exact aT rfl hi
  |some b=>
   obtain⟨w,h1,h2⟩:=hb (i-n) b hq;rw[dz,hq];exact⟨w,by rw[<-h1];congr 1;lia,h2⟩
theorem v7{K:cm}(tg:TgC g t n m)(hc:∀σ H Q,gT c σ H Q->tc σ H Q)(hn:σ.length=n)(h:gE (dR n it t c f k) ag σ H Q) :
  WP (gI K it) g tc (gE f k) m σ H Q:=by
 obtain⟨ρ,d,E,h,q⟩:=h;obtain⟨⟨items,kk⟩,h1,h⟩:=bJ h;split at h
 .rename_i hlim;obtain⟨ys,h2,h⟩:=bJ h;cases h;refine⟨ρ,items,kk,E,h1,λJ H1 s1 hJ _ p hp=>?_⟩;have hp0:H p=aj:=s1.free hp;refine⟨λi n' vs H'=>n'=items.length-i/\i<=items.length/\H' p=ae (.lst vs)/\dO H1 H'/\∃acc,acc.length<=i/\cL (λa=>H a=aj/\a≠p) H' vs acc/\o9 (rD n t c f k ρ) acc (items.drop i)=.ok ys,⟨items.length,?_⟩,?_⟩
  .exact⟨rfl,eI _,aM,dO.upd hp,[],eI _,.nil,h2⟩
  .rintro i n' vs H' ⟨rfl,hi,hH,sm,acc,hal,racc,hf⟩;refine⟨hH,?_⟩;have hJ':ItQ K All J H' items:=hJ.keep (.same sm) λ_ z=>z
   rcases oy i items.length with hlt|hge
   .refine .inr ?_;have e:items[i]?=ae items[i]:=eg hlt;obtain⟨g1,g2⟩:=hJ'.go e;have hl1:items.length<=lim:=d6 hlim;refine⟨g1,?_,λx H2 hy=>?_⟩
    .rw[racc.length];exact wo hal (eC hlt (dj hl1 (by rw[eS];decide)))
    .obtain⟨sH,rx⟩:=g2 x H2 hy;have hH:=sH p _ hH;have sm:=sm.trans sH;have racc:=racc.same sH;rw[ie hlt] at hf;obtain⟨acc2,hs,hf⟩:=bJ hf;obtain⟨bs,hb,hs⟩:=bJ hs;obtain⟨ok,hok,hs⟩:=bJ hs;refine tg x items[i] bs σ H2 _ hn rx hb λσ2 hx hbs=>⟨hx,hc _ _ _ ?_⟩
     have E2:ER H2 σ2 (ZP n ρ++bs):=(E.same (s1.trans sm)).ext hn hx hbs;refine⟨_,ok,E2,hok,λH4 s4=>?_⟩;cases ok with
     |true=>
      rw[ao rfl];rw[ao rfl] at hs;obtain⟨y,hy2,hs⟩:=bJ hs;split at hs
      .rename_i hk;cases hs;refine⟨_,y,E2.same s4,hy2,λw H5 s5 r5 n5=>⟨s5 p _ (s4 p _ hH),items.length-(i+1),by lia,rfl,hlt,aM,?_,acc++[y],?_,?_,hf⟩⟩
       .exact λb o e=>by
         rw[bB (eY e hp)];exact s5 b o (s4 b o (sm b o e))
       .rw[cx,iF];lia
       .have hp5:H5 p=ae (.lst vs):=s5 p _ (s4 p _ hH);have ry:Rep (λa=>H a=aj/\a≠p) H5 w y:=by
         rw[jn] at hk;rcases hk with hk|hk
         .exact(n5 hk).mono λa ha=>⟨((s1.trans sm).trans s4).free ha,λz=>by subst z;have h0:=s4 _ _ hH;rw[show H4 _=aj from ha] at h0;cases h0⟩
         .exact r5.cU hk
        have all:cL (λa=>H a=aj/\a≠p) H5 (vs++[w]) (acc++[y]):=(racc.same (s4.trans s5)).snoc ry;refine all.keep (λb o e hb=>?_) λ_ z=>z
        rw[bB]
        .exact e
        .rcases hb with hb|hb
         .exact hb.2
         .intro z;subst z;rw[hp5] at e;cases e;cases hb
      .exact bx hs
     |false=>
      rw[ap 0x2];rw[ap 0x2] at hs;cases hs;exact⟨items.length-(i+1),by lia,rfl,hlt,s4 p _ hH,sm.trans s4,acc,by lia,racc.same s4,hf⟩
   .refine .inl ⟨hJ'.stop hge,?_⟩;rw[oQ hge] at hf;cases hf;exact q _ _ (s1.trans sm) (.lst hH trivial racc.all) λ_=>.lst hH hp0 (racc.mono λa z=>z.1)
 .exact bx h
def gIx:aa ah->TGs
 |[]=>aUl
 |i::is=>aPc (G3 i) (gIx is)
noncomputable def nU:aa ah->aa V->L2.St->L2.St
 |i::is,v::vs,σ=>nU is vs (σ.set i (ae v))
 |_,_,σ=>σ
theorem B_:∀(is:aa ah)(vs:aa V)(σ:L2.St),vs.length=is.length->Q (nU is vs σ) H->gIx is vs σ H Q
 |[],[],σ,_,q=>⟨rfl,q⟩
 |i::is,v::vs,σ,h,q=>⟨v,vs,rfl,B_ is vs (σ.set i (ae v)) (by simpa using h) q⟩
 |[],_::_,_,h,_=>by simp at h
 |_::_,[],_,h,_=>by simp at h
theorem RG:∀(is:aa ah)(vs:aa V)(σ:L2.St),(nU is vs σ).length=σ.length
 |[],_,_=>by simp[nU]
 |_::_,[],_=>by simp[nU]
 |i::is,v::vs,σ=>by rw[nU,RG is vs];simp
theorem CG:∀(is:aa ah)(vs:aa V)(σ:L2.St)(k:ah),k∉is->(nU is vs σ)[k]?=σ[k]?
 |[],_,_,_,_=>by simp[nU]
 |_::_,[],_,_,_=>by simp[nU]
 |i::is,v::vs,σ,k,h=>by
  rw[bi,gz] at h;rw[nU,CG is vs _ k h.2,ff (Ne.symm h.1)]
theorem aA3:∀(is:aa ah)(vs:aa V)(σ:L2.St)(j i:ah)(v:V),is.Nodup->(∀i∈is,i<σ.length)->is[j]?=ae i->vs[j]?=ae v->(nU is vs σ)[i]?=ae (ae v)
 |[],_,_,_,_,_,_,_,h,_=>by simp at h
 |_::_,[],_,_,_,_,_,_,_,h=>by simp at h
 |a::is,w::vs,σ,0,i,v,hn,hl,h1,h2=>by
  have e1:a=i:=by simpa using h1
  have e2:w=v:=by simpa using h2
  subst e1 e2;rw[nU,CG is vs _ a (df.mp hn).1,im (hl a (bu ..))]
 |a::is,w::vs,σ,j+1,i,v,hn,hl,h1,h2=>by
  rw[nU];exact aA3 is vs _ j i v (df.mp hn).2 (λi hi=>by rw[ud];exact hl i (bo _ hi)) (by simpa using h1) (by simpa using h2)
theorem jL(n:ah):TgC (G3 n) uQ n 1:=by
 intro v d bs σ H Q hn r h q;cases h;have hl:(σ++dg 1 (aj:az V)).length=n+1:=by simp[hn]
 refine q _ ⟨by simp,λi w hi=>?_⟩ λj b hj=>?_
 .have:i≠n:=λz=>by
   subst z;rw[kf 0x1] at hi;simp[hn] at hi
  rw[ff (Ne.symm this)];exact hi
 .have e:j=0:=by
   have:=(ej.mp hj).1;simp at this;exact this
  subst e;have e:d=b:=by simpa using hj
  subst e;exact⟨v,by rw[B0,im 0x1],r⟩
theorem rJ(K:cm)(n m:ah):TgC (aPd K m (gIx (oS n m))) (JG m) n m:=by
 intro v d bs σ H Q hn r h q;cases d<;>simp only[JG] at h<;>(try (exact bx h;done))
 split at h
 .rename_i hm;cases h;have hm':=d6 hm;obtain⟨a,xs,rfl,e,rr⟩:=r.iZ;refine⟨a,xs,rfl,.of e,by rw[rr.length];exact hm',B_ _ _ _ (by rw[rr.length,hm'];simp) ?_⟩;refine q _ ⟨by rw[RG],λi w hi=>?_⟩ λj b hj=>?_
  .rw[CG]
   .exact hi
   .intro hmem;have:=B1.mp hmem;rw[kf 0x1] at hi;rw[mj] at hi;split at hi<;>cases hi
  .obtain⟨w,h1,h2⟩:=rr.get hj;have hjm:j<m:=by rw[<-hm'];exact(ej.mp hj).1
   refine⟨w,aA3 _ _ _ j (n+j) w (List.nodup_range' ..) (λi hi=>?_) ?_ h1,h2⟩
   .have:=B1.mp hi;simp[hn];lia
   .rw[List.getElem?_range' hjm];simp
 .exact bx h
section
def aM7(S:dH X.N X.env.scope scope ownN)(hn:X.N.length=n)(hm:ownN.length=m)(hcalm:X.calm=ag)(hi:PI X tg iter (gI X.K it))(ht:TgC g t n m)(hg:∀X',eZ X X' scope ownN->PG X' tg g)(he:∀X',eZ X X' scope ownN->PE X' elt (gE fe re))
 (hs:∀x,fg iter X.env x=pure x):PE X (.ListComp elt [⟨tg,iter,[],0⟩] scope pos) (gE (dR n it t gB fe re) ag):=by
 intro Ψ s σ H Q I h;subst hm;exact aHt S hcalm hi hg he hs Ψ s σ H Q I (v7 ht (λσ H Q h=>by obtain⟨ρ,b,E,h,q⟩:=h;cases h;exact q H (dO.refl H)) (I.len.trans hn) h)
def aEe(S:dH X.N X.env.scope scope ownN)(hn:X.N.length=n)(hm:ownN.length=m)(hcalm:X.calm=ag)(hi:PI X tg iter (gI X.K it))(ht:TgC g t n m)(hg:∀X',eZ X X' scope ownN->PG X' tg g)(hc:∀X',eZ X X' scope ownN->PT X' c (gT gc))(he:∀X',eZ X X' scope ownN->PE X' elt (gE fe re))
 (hs:∀x,fg iter X.env x=pure x):PE X (.ListComp elt [⟨tg,iter,[c],0⟩] scope pos) (gE (dR n it t gc fe re) ag):=by
 intro Ψ s σ H Q I h;subst hm;exact aE2 S hcalm hi hg hc he hs Ψ s σ H Q I (v7 ht (λσ H Q h=>h) (I.len.trans hn) h)
end
end
variable [KFrag]
def oV.cU:∀{v:aa (Key×V)}{d:aa (D×D)},oV P H v d->θ (d.map (·.2))=ag->oV P' H v d
 |_,_,.nil,_=>.nil
 |_,_,.cons r t,h=>by
  rw[ba,θ,bj] at h;exact .cons (r.cU h.1) (t.cU h.2)
def xY.cU:∀{v:aa (aa Key×V)}{d:aa (D×D)},xY P H v d->θ (d.map (·.2))=ag->xY P' H v d
 |_,_,.nil,_=>.nil
 |_,_,.cons r t,h=>by
  rw[ba,θ,bj] at h;exact .cons (r.cU h.1) (t.cU h.2)
def Rep.aSt(r:Rep P H (.ref a) d)(h:inner d=ag)(hp:P' a):Rep P' H (.ref a) d:=by
 cases r with
 |tup e r=>cases h
 |lst e p r=>exact .lst e hp (r.cU h)
 |frz e r=>cases h
 |dK e p r n=>exact .dK e hp (r.cU h) n
 |dT e p r n=>exact .dT e hp (r.cU h) n
def Own(own:ah->aq)(σ:L2.St)(a:am):Prop:=∃i,own i=ag/\σ[i]?=ae (ae (.ref a))
structure ES(own:ah->aq)(H:Hp)(σ:L2.St)(ρ:aa D):Prop where
 len:σ.length=ρ.length
 at_:∀i,ρ.getD i .uD≠.uD->∃v,σ[i]?=ae (ae v)/\(own i=ai->Rep (λa=>¬Own own σ a) H v (ρ.getD i .uD))
 own:∀i v,own i=ag->σ[i]?=ae (ae v)->∃a o,v=.ref a/\Rep All H v (ρ.getD i .uD)/\inner (ρ.getD i .uD)=ag/\H a=ae o/\aDz o=ag/\∀j,own j=ag->σ[j]?=ae (ae (.ref a))->j=i
variable {own:ah->aq}
def ES.er(e:ES own H σ ρ):ER H σ ρ:=λi hi=>by
 obtain⟨v,h1,h2⟩:=e.at_ i hi;cases ho:own i with
 |false=>exact⟨v,h1,(h2 ho).all⟩
 |true=>
  obtain⟨a,o,_,h3,_⟩:=e.own i v ho h1;exact⟨v,h1,h3⟩
def ES.live(e:ES own H σ ρ)(h:Own own σ a):∃o,H a=ae o/\aDz o=ag:=by
 obtain⟨i,hi,hs⟩:=h;obtain⟨b,o,eb,_,_,h3,h4,_⟩:=e.own i _ hi hs;cases eb;exact⟨o,h3,h4⟩
def ES.same(e:ES own H σ ρ)(s:dO H H'):ES own H' σ ρ:=by
 refine⟨e.len,λi hi=>?_,λi v hi hv=>?_⟩
 .obtain⟨v,h1,h2⟩:=e.at_ i hi;exact⟨v,h1,λho=>(h2 ho).same s⟩
 .obtain⟨a,o,h1,h2,h3,h4,h5,h6⟩:=e.own i v hi hv;exact⟨a,o,h1,h2.same s,h3,s _ _ h4,h5,h6⟩
def KU(own:ah->aq)(σ:L2.St)(H:Hp)(σ':L2.St)(H':Hp):Prop:=∀a o,H a=ae o->¬Own own σ a->H' a=ae o/\¬Own own σ' a
def KU.trans(a:KU own σ H σ1 H1)(b:KU own σ1 H1 σ2 H2):KU own σ H σ2 H2:=λc o e n=>let ⟨e1,n1⟩:=a c o e n;b c o e1 n1
def KU.same(s:dO H H'):KU own σ H σ H':=λa o e n=>⟨s a o e,n⟩
def KU.keep(k:KU own σ H σ' H')(e:ES own H σ ρ):GX (λa=>¬Own own σ a) H H':=λa o h hp=>by
 by_cases ho:Own own σ a
 .obtain⟨o',h1,h2⟩:=e.live ho;rw[h] at h1;cases h1;rcases hp with hp|hp
  .exact aT ho hp
  .rw[h2] at hp;cases hp
 .exact(k a o h ho).1
def KU.rep(k:KU own σ H σ' H')(e:ES own H σ ρ)(r:Rep (λa=>¬Own own σ a) H v d):Rep (λa=>¬Own own σ' a) H' v d:=r.aBo (k.keep e) λa o h n=>(k a o h n).2
def kRt(own:ah->aq)(D:Ends)(σ:L2.St)(H:Hp)(d:Mi.D):Prop:=if own rtX=ag then ∃d0 ρ',d=.tup (d0::ρ')/\∀v σ' H',KU own σ H σ' H'->ES own H' σ' ρ'->Rep (λa=>Own own σ a\/H a=aj) H' v d0->D.rt v H'
  else ∀v H',(∀a o,H a=ae o->¬Own own σ a->H' a=ae o)->Rep (λa=>Own own σ a\/H a=aj) H' v d->D.rt v H'
def kRt.old{D:Ends}(h:kRt own D σ H d)(hx:own rtX=ai):∀v H',(∀a o,H a=ae o->¬Own own σ a->H' a=ae o)->Rep (λa=>Own own σ a\/H a=aj) H' v d->D.rt v H':=by
 unfold kRt at h;rw[ap (by rw[hx];simp)] at h;exact h
def kRt.mk{D:Ends}(hx:own rtX=ai)(h:∀v H',(∀a o,H a=ae o->¬Own own σ a->H' a=ae o)->Rep (λa=>Own own σ a\/H a=aj) H' v d->D.rt v H'):kRt own D σ H d:=by
 unfold kRt;rw[ap (by rw[hx];simp)];exact h
def kS(own:ah->aq)(D:Ends)(σ:L2.St)(H:Hp):Fl->Prop
 |.nx ρ=>∀σ' H',KU own σ H σ' H'->ES own H' σ' ρ->D.nx σ' H'
 |.bk ρ=>∀σ' H',KU own σ H σ' H'->ES own H' σ' ρ->D.bk σ' H'
 |.ct ρ=>∀σ' H',KU own σ H σ' H'->ES own H' σ' ρ->D.ct σ' H'
 |.rt d=>kRt own D σ H d
def kS.step{D:Ends}{σ σ':L2.St}{H H':Hp}{fl:Fl}(k:KU own σ H σ' H')(h:kS own D σ H fl):kS own D σ' H' fl:=by
 cases fl with
 |nx ρ=>exact λσ2 H2 k2 e=>h σ2 H2 (k.trans k2) e
 |bk ρ=>exact λσ2 H2 k2 e=>h σ2 H2 (k.trans k2) e
 |ct ρ=>exact λσ2 H2 k2 e=>h σ2 H2 (k.trans k2) e
 |rt d=>
  have old:∀a,(Own own σ' a\/H' a=aj)->Own own σ a\/H a=aj:=λa ha=>by
   cases q:H a with
   |none=>exact .inr rfl
   |some o=>
    refine .inl (ue λn=>?_);obtain⟨e1,n1⟩:=k a o q n;rcases ha with ha|ha
    .exact n1 ha
    .rw[e1] at ha;cases ha
  have h:kRt own D σ H d:=h;show kRt own D σ' H' d;unfold kRt at h ⊢;by_cases hx:own rtX=ag
  .rw[ao hx] at h ⊢;obtain⟨d0,ρ',e,g⟩:=h;exact⟨d0,ρ',e,λv σ2 H2 k2 E2 r=>g v σ2 H2 (k.trans k2) E2 (r.mono λa ha=>old a ha)⟩
  .rw[ap hx] at h ⊢;exact λv H2 hk r=>h v H2 (λa o e n=>let ⟨e1,n1⟩:=k a o e n;hk a o e1 n1) (r.mono λa ha=>old a ha)
noncomputable def tS(own:ah->aq)(f:FS):TS:=λD σ H=>∃ρ fl,ES own H σ ρ/\f ρ=.ok fl/\kS own D σ H fl
def PS.imp{st:bq}(h:PS X st t)(i:∀D σ H,t' D σ H->t D σ H):PS X st t':=λΨ s σ H D I q=>h Ψ s σ H D I (i D σ H q)
def PSs.imp{st:aa bq}{t t':TS}(h:PSs X st t)(i:∀D σ H,t' D σ H->t D σ H):PSs X st t':=λΨ s σ H D I q=>h Ψ s σ H D I (i D σ H q)
section
variable {X:Cx} {a b c e:Expr} {pos pos':c9} {fe:FE} {re:aq} {gc:FT} {f g:FS} {st:bq} {rest s1 s2:aa bq}
def cF:PSs X [] (tS own o_):=PSs.imp aD3 λD σ H z0=>by
 obtain⟨ρ,fl,E,h,q⟩:=z0;cases h;exact q σ H (λa o e n=>⟨e,n⟩) E
def aM8{D:Ends}(h:tS own (bO f g) D σ H):aUk (tS own f) (tS own g) D σ H:=by
 obtain⟨ρ,fl,E,h,q⟩:=h;obtain⟨r,h1,h2⟩:=bJ h;refine⟨ρ,r,E,h1,?_⟩;cases r with
 |nx ρ'=>exact λσ' H' k E'=>⟨ρ',fl,E',h2,q.step k⟩
 |bk ρ'=>cases h2;exact q
 |ct ρ'=>cases h2;exact q
 |rt d=>cases h2;exact q
def aF(h1:PS X st (tS own f))(h2:PSs X rest (tS own g)):PSs X (st::rest) (tS own (bO f g)):=PSs.imp (tD h1 h2) λ_ _ _=>aM8
def aO(h1:PS X st (tS own f)):PSs X [st] (tS own f):=zL h1
def gM(hc:PT X c (gT gc))(ha:PSs X s1 (tS own f))(hb:PSs X s2 (tS own g)):PS X (.If c s1 s2 pos) (tS own (sIf gc f g)):=PS.imp (aPb hc ha hb) λD σ H z0=>by
 obtain⟨ρ,fl,E,h,q⟩:=z0;obtain⟨k,h1,h2⟩:=bJ h;refine⟨ρ,k,E.er,h1,λH' s=>?_⟩;cases k with
 |true=>rw[ao rfl];rw[ao rfl] at h2;exact⟨ρ,fl,E.same s,h2,q.step (.same s)⟩
 |false=>rw[ap 0x2];rw[ap 0x2] at h2;exact⟨ρ,fl,E.same s,h2,q.step (.same s)⟩
def cM(he:PE X e (gE fe re))(hx:own rtX=ai:=by rfl):PS X (.Return (ae e) pos) (tS own (lJ fe re)):=PS.imp (aD4 he) λD σ H z0=>by
 obtain⟨ρ,fl,E,h,q⟩:=z0;obtain⟨d,h1,h2⟩:=bJ h;split at h2
 .rename_i hk;cases h2;refine⟨ρ,d,E.er,h1,λv H' s r n=>q.old hx v H' (λa o e _=>s a o e) ?_⟩;rw[jn] at hk;rcases hk with hk|hk
  .exact(n hk).mono λa ha=>.inr ha
  .exact r.cU hk
 .exact bx h2
def wY(ho:own i=ag)(hN:X.N[i]?=ae x)(hv:Vis X.env.scope x)(hd:nDb x:=by decide)(hcd:nCd x:=by decide)(hx:own rtX=ai:=by rfl):PS X (.Return (ae (.Name x pos')) pos) (tS own (WL i)):=
 PS.imp (aD4 (m9 hN hv hd hcd)) λD σ H z0=>by
 obtain⟨ρ,fl,E,h,q⟩:=z0;obtain⟨d,h1,h2⟩:=bJ h;cases h2;obtain⟨v,hv,r,e⟩:=E.er.var h1;obtain⟨a,o,rfl,r2,hin,_⟩:=E.own i v ho hv;rw[e] at hin;exact⟨_,hv,q.old hx _ H (λa o e _=>e) (r.aSt hin (.inl ⟨i,ho,hv⟩))⟩
def uU(ho:own i=ai)(a:am):Own own (σ.set i (ae v)) a↔Own own σ a:=by
 constructor
 .rintro⟨j,hj,e⟩;have:i≠j:=λz=>by subst z;rw[ho] at hj;cases hj
  rw[ff this] at e;exact⟨j,hj,e⟩
 .rintro⟨j,hj,e⟩;have:i≠j:=λz=>by subst z;rw[ho] at hj;cases hj
  exact⟨j,hj,by rw[ff this];exact e⟩
def gQ{ρ:aa D}:(ρ.set i d).getD j .uD=if i=j/\i<ρ.length then d else ρ.getD j .uD:=by
 rw[dz,dz,oT];by_cases h:i=j
 .subst h;by_cases h2:i<ρ.length
  .simp[h2]
  .simp[h2]
 .simp[h]
def ES.set(E:ES own H σ ρ)(ho:own i=ai)(r:Rep (λa=>¬Own own σ a) H v d):ES own H (σ.set i (ae v)) (ρ.set i d):=by
 have hO:(λa=>¬Own own (σ.set i (ae v)) a)=λa=>¬Own own σ a:=funext λa=>by rw[uU ho]
 refine⟨by simp[E.len],λj hj=>?_,λj w hj hw=>?_⟩
 .rw[gQ] at hj ⊢;rw[hO];by_cases h:i=j/\i<ρ.length
  .rw[ao h];obtain⟨rfl,hl⟩:=h;exact⟨v,by rw[im (by rw[E.len];exact hl)],λ_=>r⟩
  .rw[ap h] at hj ⊢;obtain⟨w,h1,h2⟩:=E.at_ j hj;by_cases hij:i=j
   .subst hij;have:i<σ.length:=(ej.mp h1).1;rw[E.len] at this;exact aT ⟨rfl,this⟩ h
   .exact⟨w,by rw[ff hij];exact h1,h2⟩
 .have hij:i≠j:=λz=>by subst z;rw[ho] at hj;cases hj
  rw[ff hij] at hw;rw[gQ,ap λz=>hij z.1];obtain⟨a,o,h1,h2,h3,h4,h5,h6⟩:=E.own j w hj hw;refine⟨a,o,h1,h2,h3,h4,h5,λk hk hs=>h6 k hk ?_⟩;have hik:i≠k:=λz=>by subst z;rw[ho] at hk;cases hk
  rwa [ff hik] at hs
def ES.aUr{i:ah}{a:am}{o:HO}{d:D}(E:ES own H σ ρ)(s:dO H H')(ho:own i=ag)(hn:H a=aj)(r:Rep All H' (.ref a) d)(hin:inner d=ag)(ha:H' a=ae o)(hm:aDz o=ag) :
  ES own H' (σ.set i (ae (.ref a))) (ρ.set i d)/\KU own σ H (σ.set i (ae (.ref a))) H':=by
 have hO:∀b,H b≠aj->¬Own own σ b->¬Own own (σ.set i (ae (.ref a))) b:=λb hb n z0=>by
  obtain⟨j,hj,e⟩:=z0;by_cases hij:i=j
  .subst hij;by_cases hl:i<σ.length
   .rw[im hl] at e;cases e;exact hb hn
   .rw[oT,ao rfl,ap hl] at e;cases e
  .rw[ff hij] at e;exact n ⟨j,hj,e⟩
 refine⟨⟨by simp[E.len],λj hj=>?_,λj w hj hw=>?_⟩,λb ob e n=>⟨s b ob e,hO b (by rw[e];simp) n⟩⟩
 .rw[gQ] at hj ⊢;by_cases h:i=j/\i<ρ.length
  .rw[ao h];obtain⟨rfl,hl⟩:=h;exact⟨.ref a,by rw[im (by rw[E.len];exact hl)],λz=>by rw[ho] at z;cases z⟩
  .rw[ap h] at hj ⊢;obtain⟨w,h1,h2⟩:=E.at_ j hj;by_cases hij:i=j
   .subst hij;have:i<σ.length:=(ej.mp h1).1;rw[E.len] at this;exact aT ⟨rfl,this⟩ h
   .exact⟨w,by rw[ff hij];exact h1,λhj=>((h2 hj).dom.same s).mono λb ⟨n,hb⟩=>hO b hb n⟩
 .by_cases hij:i=j
  .subst hij;have hl:i<σ.length:=by
    have:=(ej.mp hw).1;simpa using this
   rw[im hl] at hw;cases hw;rw[gQ,ao ⟨rfl,by rw[<-E.len];exact hl⟩];refine⟨a,o,rfl,r,hin,ha,hm,λk hk hs=>?_⟩;by_cases hik:i=k
   .exact hik.symm
   .rw[ff hik] at hs;obtain⟨o',h1,_⟩:=E.live ⟨k,hk,hs⟩;rw[hn] at h1;cases h1
  .rw[ff hij] at hw;rw[gQ,ap λz=>hij z.1];obtain⟨b,ob,h1,h2,h3,h4,h5,h6⟩:=E.own j w hj hw;refine⟨b,ob,h1,h2.same s,h3,s _ _ h4,h5,λk hk hs=>?_⟩;by_cases hik:i=k
   .subst hik;by_cases hl:i<σ.length
    .rw[im hl] at hs;cases hs;rw[hn] at h4;cases h4
    .rw[oT,ao rfl,ap hl] at hs;cases hs
   .rw[ff hik] at hs;exact h6 k hk hs
def aK8(r:Rep P H v d)(hin:inner d=ag):∃a o,v=.ref a/\P a/\H a=ae o/\aDz o=ag:=by
 cases r with
 |lst e p r=>exact⟨_,_,rfl,p,e,rfl⟩
 |dK e p r n=>exact⟨_,_,rfl,p,e,rfl⟩
 |dT e p r n=>exact⟨_,_,rfl,p,e,rfl⟩
 |_=>cases hin
def aM9(E:ES own H σ ρ)(r:Rep (New H) H' v d):Rep (λa=>¬Own own σ a) H' v d:=r.mono λa ha ho=>by
 obtain⟨o,h1,_⟩:=E.live ho;rw[show H a=aj from ha] at h1;cases h1
def W5(ho:own i=o)(h:tS own (cR o i fe re) D' σ H):aOq (gE fe re) (G3 i) D' σ H:=by
 obtain⟨ρ,fl,E,h,q⟩:=h;obtain⟨d,h1,h2⟩:=bJ h;cases o with
 |true=>
  simp only[eT] at h2;split at h2
  .rename_i hk;cases h2;refine⟨ρ,d,E.er,h1,λv H' s r n=>?_⟩;rw[bj] at hk;obtain⟨a,ob,rfl,hn,ha,hm⟩:=aK8 (n hk.1) hk.2;obtain⟨E2,k⟩:=E.aUr s ho hn r hk.2 ha hm;exact q _ H' k E2
  .exact bx h2
 |false=>
  simp only[iv,gd] at h2;split at h2
  .rename_i hk;cases h2;refine⟨ρ,d,E.er,h1,λv H' s r n=>?_⟩;rw[jn] at hk;have r2:Rep (λa=>¬Own own σ a) H' v d:=by
    rcases hk with hk|hk
    .exact aM9 E (n hk)
    .exact r.cU hk
   exact q _ H' (λa ob e hn=>⟨s a ob e,by rw[uU ho];exact hn⟩) ((E.same s).set ho r2)
  .exact bx h2
def aQs(ho:own i=o)(hN:X.N.Nodup)(hi:X.N[i]?=ae x)(hx:Loc X.env.scope x)(he:PE X e (gE fe re))(hs:zSw X e x pos' pos:=by rfl)(hf:zFn X x:=by first|exact .inl rfl|exact .inr rfl|assumption) :
  PS X (.Assign [.Name x pos'] e pos) (tS own (cR o i fe re)):=PS.imp (Y4 hN hi hx he hs hf) λ_ _ _=>W5 ho
def bI{i:ah}{x:Str}{o:aq}(he:PE X e (gE fe re))(ho:own i=o:=by rfl)(hN:X.N.Nodup:=by assumption)(hi:X.N[i]?=ae x:=by exact rfl)(hx:Loc X.env.scope x:=by trivial)(hs:zSw X e x pos' pos:=by rfl)(hf:zFn X x:=by first|exact .inl rfl|exact .inr rfl|assumption):PS X (.Assign [.Name x pos'] e pos) (tS own (cR o i fe re)):=aQs ho hN hi hx he hs hf
def aQt(ho:own i=ai)(hoj:own j=ai)(hN:X.N.Nodup)(hi:X.N[i]?=ae x)(hx:Loc X.env.scope x)(hj:X.N[j]?=ae y)(hy:Vis X.env.scope y)(hs:fq (.Name y py) (ae (.Name x pos')) pos.line X.env=pure ai:=by rfl)(hf:zFn X x:=by first|exact .inl rfl|exact .inr rfl|assumption)
 (hd:(y==("__debug__" : Str))=ai:=by decide)(hcd:(y==("__classdict__" : Str))=ai:=by decide):PS X (.Assign [.Name x pos'] (.Name y py) pos) (tS own (sAl i j)):=PS.imp (Y4 hN hi hx (m9 hj hy hd hcd) hs hf) λD' σ H z0=>by
 obtain⟨ρ,fl,E,h,q⟩:=z0;obtain⟨d,h1,h2⟩:=bJ h;cases h2;obtain⟨v,hv,r,e⟩:=E.er.var h1;have hne:ρ.getD j .uD≠.uD:=λz=>by
  rw[z] at e;subst e;exact Rep.uD r
 obtain⟨w,hw,hr⟩:=E.at_ j hne;rw[hv] at hw;cases hw;have r2:=hr hoj;rw[e] at r2;exact⟨v,hv,q _ H (λa ob e hn=>⟨e,by rw[uU ho];exact hn⟩) (E.set ho r2)⟩
def ES.mut{i:ah}{a:am}{o:HO}{d:D}(E:ES own H σ ρ)(ho:own i=ag)(hi:σ[i]?=ae (ae (.ref a)))(hm:aDz o=ag)(r:Rep All (upd H a o) (.ref a) d)(hin:inner d=ag) :
  ES own (upd H a o) σ (ρ.set i d)/\KU own σ H σ (upd H a o):=by
 have hOa:Own own σ a:=⟨i,ho,hi⟩
 obtain⟨a',oa,ea,_,_,hHa,hma,huq⟩:=E.own i _ ho hi;cases ea;have k:KU own σ H σ (upd H a o):=λb ob e n=>⟨by rw[bB (λz=>by subst z;exact n hOa)];exact e,n⟩
 have hl:i<ρ.length:=by rw[<-E.len];exact(ej.mp hi).1
 refine⟨⟨by simp[E.len],λj hj=>?_,λj w hj hw=>?_⟩,k⟩
 .rw[gQ] at hj ⊢;by_cases h:i=j/\i<ρ.length
  .obtain⟨rfl,_⟩:=h;exact⟨_,hi,λz=>by rw[ho] at z;cases z⟩
  .rw[ap h] at hj ⊢;obtain⟨w,h1,h2⟩:=E.at_ j hj;exact⟨w,h1,λhj=>k.rep E (h2 hj)⟩
 .by_cases hij:i=j
  .subst hij;rw[hi] at hw;cases hw;rw[gQ,ao ⟨rfl,hl⟩];exact⟨a,o,rfl,r,hin,aM,hm,huq⟩
  .rw[gQ,ap λz=>hij z.1];obtain⟨b,ob,h1,h2,h3,h4,h5,h6⟩:=E.own j w hj hw;subst h1;have hba:b≠a:=λz=>by subst z;exact hij (h6 i ho hi)
   refine⟨b,ob,rfl,?_,h3,by rw[bB hba];exact h4,h5,h6⟩;refine(h2.aSt (P':=λc=>c=b) h3 rfl).keep (λc oc hc hp=>?_) λ_ _=>trivial
   rw[bB]
   .exact hc
   .intro z;subst z;rcases hp with hp|hp
    .exact hba hp.symm
    .rw[hHa] at hc;cases hc;rw[hma] at hp;cases hp
def ES.ownAt(E:ES own H σ ρ)(ho:own i=ag)(hd:ρ.getD i .uD≠.uD):∃a o,σ[i]?=ae (ae (.ref a))/\Rep All H (.ref a) (ρ.getD i .uD)/\inner (ρ.getD i .uD)=ag/\H a=ae o/\aDz o=ag:=by
 obtain⟨v,h1,_⟩:=E.at_ i hd;obtain⟨a,o,rfl,h2,h3,h4,h5,_⟩:=E.own i v ho h1;exact⟨a,o,h1,h2,h3,h4,h5⟩
def CJ{a:am}(r:Rep All H (.ref a) (.lst xs)):∃vs,H a=ae (.lst vs)/\cL All H vs xs:=by
 cases r with
 |lst e _ r=>exact⟨_,e,r⟩
def cL.upd{a:am}{xs:aa D}{o:HO}{ob:HO}(r:cL All H vs xs)(hp:θ xs=ag)(ha:H a=ae ob)(hm:aDz ob=ag):cL All (upd H a o) vs xs:=by
 refine(r.cU (P':=λ_=>c8) hp).keep (λc oc hc h=>?_) λ_ h=>h.elim
 rw[bB]
 .exact hc
 .intro z;subst z;rcases h with h|h
  .exact h
  .rw[ha] at hc;cases hc;rw[hm] at h;cases h
def v8:θ (xs++ys)=(θ xs&&θ ys):=by
 induction xs with
 |nil=>simp[θ]
 |cons x xs ih=>rw[eu,θ,θ,ih,AF]
def lM(ho:own i=ag)(hN:X.N[i]?=ae x)(hv:Vis X.env.scope x)(he:PE X e (gE fe re))(hd:nDb x:=by decide)(hcd:nCd x:=by decide)
 (hbase:ji (.Name x p1) "append" X.env (cw (.Name x p1) X.env)=cw (.Name x p1) X.env:=by rfl)
 (hs1:zSE X e []:=by rfl)
 (hfew:zFw X cpos [e]:=by rfl)
 (hline:(apos.endLine==cpos.line)=ag:=by rfl)
 (hs:fq (.Call (.Attribute (.Name x p1) "append" apos) [e] [] cpos) aj pos.line X.env=pure ai:=by rfl) :
  PS X (.Expr (.Call (.Attribute (.Name x p1) "append" apos) [e] [] cpos) pos) (tS own (BJ i fe)):=
 PS.imp (zM (aBd nh wg B2 zR (m9 hN hv hd hcd) (nO he vL hs1) hbase hfew hline hs1 rfl) hs) λD' σ H z0=>by
 obtain⟨ρ,fl,E,h,q⟩:=z0;obtain⟨d,h1,h2⟩:=bJ h;split at h2
 .rename_i xs hx;split at h2
  .rename_i hk;cases h2;rw[bj] at hk;obtain⟨a,o,hσ,r,hin,ha,hm⟩:=E.ownAt ho (by rw[hx];intro z;cases z);rw[hx] at r hin;obtain⟨vs,hl,rr⟩:=CJ r;refine⟨_,hσ,.inl ⟨rfl,vs,.of hl⟩,ρ,d,E.er,h1,λv H' s rv _=>⟨a,vs,v,rfl,rfl,s _ _ hl,by rw[rr.length];exact Z4 hk.1,?_⟩⟩;have E':=E.same s;have hl':=s _ _ hl;obtain⟨E2,k2⟩:=E'.mut ho hσ rfl (.lst aM trivial (((rr.same s).snoc rv).upd (by rw[v8];simp only[bj];exact⟨hin,by simp[θ,hk.2]⟩) hl' rfl)) (by show θ (xs++[d])=ag;rw[v8];simp only[bj];exact⟨hin,by simp[θ,hk.2]⟩);exact q _ _ ((KU.same s).trans k2) E2
  .exact bx h2
 .exact bx h2
end
end Mi
namespace L2
open PySem PySem.Spec PyProof.Rows
section
variable {X:Cx} {scope:gp} {own:aa Str}
theorem aI5{y:Str}{py:c9}{iy:ah}(hNn:X.N.Nodup)(hiy:X.N[iy]?=ae y)(hxy:Loc X.env.scope y)(hfy:zFn X y){Ψ:aa (am×bP)}{σ:St}{D:Ends}{p C:am}{H5:Hp}{s6:au}{m6:Str->az ak}(f:Inv X Ψ σ H5 s6)(k:aCo X Ψ H5 C)(n:s6.heap.Ns C m6)(q:G3 iy (.ref p) σ H5 D.nx):mM (av X.prog X.w) X.A X.xe (ae (kQ (.Name y py) X.env)) (λ_ s'=>SP X Ψ D .next s') (.ref p) C (.ok .next) s6:=by
 obtain⟨oC,esC,epC,hoC,hdC,_⟩:=id n;have finP:=f.VJ (pins':=Ψ++[(C,oC)]) λp hp=>(cj.mp hp).elim (λz=>f.pin p (dS _ z)) λz=>by
  have z':p=(C,oC):=by simpa using z
  subst z';exact⟨hoC,k.1,k.2.1,k.2.2.1,λv z=>by rw[hdC] at z;cases z⟩
 refine thn (aX (pos:=py) hNn hiy hxy hfy _ _ σ H5 (.ref p) (.ref p) D.nx finP rfl q) λ_ s7 ⟨σ7,H7,I7,q7⟩=>?_
 obtain⟨g7,hC7,_⟩:=I7.pin (C,oC) (dS _ (dS _ 0x2));refine⟨m6,n.at' λo e=>?_,λh' sb=>⟨σ7,H7,Inv.turned (t':=s7.toks) I7.vK (λb o hb e=>sb.extBut b o hb e) hC7 k.2.1 k.2.2.2.1 k.2.2.2.2.1 k.2.2.2.2.2,q7⟩⟩;rw[hoC] at e;cases e;exact g7
theorem aQu{elt iter tg:Expr}{ifs:aa Expr}{wi:TI}{g:TG}{tc:TT}{te:TE}{pos:c9}(S:dH X.N X.env.scope scope own)(hcalm:X.calm=ag)(hi:PI X tg iter wi)
 (hg:∀X',eZ X X' scope own->PG X' tg g)(hc:(ifs=[]/\tc=λ_ H Q=>Q ag H)\/∃c,ifs=[c]/\∀X',eZ X X' scope own->PT X' c tc)(he:∀X',eZ X X' scope own->PE X' elt te)
 (hs:∀x,fg iter X.env x=pure x){y:Str}{py pos2:c9}{iy:ah}(hNn:X.N.Nodup)(hiy:X.N[iy]?=ae y)(hxy:Loc X.env.scope y)(hfy:zFn X y)(hsw:fq (.ListComp elt [⟨tg,iter,ifs,0⟩] scope pos) (ae (.Name y py)) pos2.line X.env=pure ag):PS X (.Assign [.Name y py] (.ListComp elt [⟨tg,iter,ifs,0⟩] scope pos) pos2) (aOq (WP wi g tc te own.length) (G3 iy)):=by
 intro Ψ s σ H D I h;rw[exec_Assign_Name_used _ _ _ _ hsw];refine aw (B3 (aw ?_));show ϑ _ X.A (do let _ <- AD (.ListComp elt [⟨tg,iter,ifs,0⟩] scope pos) scope X.env _ (xk []) ai (cw iter X.env) (ae (kQ (.Name y py) X.env))) _ _ s;exact aw (fu (WQ (QQ:=λ_ s'=>SP X Ψ D .next s') S hcalm hi hg hc he hs I h (aI5 hNn hiy hxy hfy)) (λ_ s' hq=>bf (bf hq)) λ_ _ e=>e)
theorem aEf{elt iter tg c:Expr}{wi:TI}{g:TG}{tc:TT}{te:TE}{pos:c9}(S:dH X.N X.env.scope scope own)(hcalm:X.calm=ag)(hi:PI X tg iter wi)
 (hg:∀X',eZ X X' scope own->PG X' tg g)(hc:∀X',eZ X X' scope own->PT X' c tc)(he:∀X',eZ X X' scope own->PE X' elt te)
 (hs:∀x,fg iter X.env x=pure x){y:Str}{py pos2:c9}{iy:ah}(hNn:X.N.Nodup)(hiy:X.N[iy]?=ae y)(hxy:Loc X.env.scope y)(hfy:zFn X y)(hsw:fq (.ListComp elt [⟨tg,iter,[c],0⟩] scope pos) (ae (.Name y py)) pos2.line X.env=pure ag):PS X (.Assign [.Name y py] (.ListComp elt [⟨tg,iter,[c],0⟩] scope pos) pos2) (aOq (WP wi g tc te own.length) (G3 iy)):=
 aQu S hcalm hi hg (.inr ⟨c,rfl,hc⟩) he hs hNn hiy hxy hfy hsw
theorem aI6{elt iter tg:Expr}{wi:TI}{g:TG}{te:TE}{pos:c9}(S:dH X.N X.env.scope scope own)(hcalm:X.calm=ag)(hi:PI X tg iter wi)
 (hg:∀X',eZ X X' scope own->PG X' tg g)(he:∀X',eZ X X' scope own->PE X' elt te)
 (hs:∀x,fg iter X.env x=pure x){y:Str}{py pos2:c9}{iy:ah}(hNn:X.N.Nodup)(hiy:X.N[iy]?=ae y)(hxy:Loc X.env.scope y)(hfy:zFn X y)(hsw:fq (.ListComp elt [⟨tg,iter,[],0⟩] scope pos) (ae (.Name y py)) pos2.line X.env=pure ag):PS X (.Assign [.Name y py] (.ListComp elt [⟨tg,iter,[],0⟩] scope pos) pos2) (aOq (WP wi g (λ_ H Q=>Q ag H) te own.length) (G3 iy)):=
 aQu S hcalm hi hg (.inl ⟨rfl,rfl⟩) he hs hNn hiy hxy hfy hsw
end
end L2
namespace Mi
open PySem L2 PySem.SeqAt PySem.Spec PyProof.Rows
section
variable [KFrag]
variable {own:ah->aq}
section
variable {X:Cx} {a b c e:Expr} {pos pos':c9} {fa fb fe:FE} {ra re:aq} {gc:FT} {f g:FS} {st:bq} {s1 s2:aa bq}
variable {scope:gp} {ownN:aa Str} {elt iter tg:Expr} {it:FI} {t:D->Res (aa D)} {gt:TG}
def aMa(S:dH X.N X.env.scope scope ownN)(hn:X.N.length=n)(hm:ownN.length=m)(hcalm:X.calm=ag)(hi:PI X tg iter (gI X.K it))(ht:TgC gt t n m)(hg:∀X',eZ X X' scope ownN->PG X' tg gt)(he:∀X',eZ X X' scope ownN->PE X' elt (gE fe re))
 (hs:∀x,fg iter X.env x=pure x)(ho:own iy=o)(hNn:X.N.Nodup)(hiy:X.N[iy]?=ae y)(hxy:Loc X.env.scope y)(hfy:zFn X y)(hsw:fq (.ListComp elt [⟨tg,iter,[],0⟩] scope pos) (ae (.Name y py)) pos2.line X.env=pure ag) :
  PS X (.Assign [.Name y py] (.ListComp elt [⟨tg,iter,[],0⟩] scope pos) pos2) (tS own (cR o iy (dR n it t gB fe re) ag)):=by
 intro Ψ s σ H D I h;subst hm;refine aI6 S hcalm hi hg he hs hNn hiy hxy hfy hsw Ψ s σ H D I ?_;exact v7 ht (λσ H Q h=>by obtain⟨ρ,b,E,h,q⟩:=h;cases h;exact q H (dO.refl H)) (I.len.trans hn) (W5 ho h)
def aEg(S:dH X.N X.env.scope scope ownN)(hn:X.N.length=n)(hm:ownN.length=m)(hcalm:X.calm=ag)(hi:PI X tg iter (gI X.K it))(ht:TgC gt t n m)(hg:∀X',eZ X X' scope ownN->PG X' tg gt)(hc:∀X',eZ X X' scope ownN->PT X' c (gT gc))(he:∀X',eZ X X' scope ownN->PE X' elt (gE fe re))
 (hs:∀x,fg iter X.env x=pure x)(ho:own iy=o)(hNn:X.N.Nodup)(hiy:X.N[iy]?=ae y)(hxy:Loc X.env.scope y)(hfy:zFn X y)(hsw:fq (.ListComp elt [⟨tg,iter,[c],0⟩] scope pos) (ae (.Name y py)) pos2.line X.env=pure ag) :
  PS X (.Assign [.Name y py] (.ListComp elt [⟨tg,iter,[c],0⟩] scope pos) pos2) (tS own (cR o iy (dR n it t gc fe re) ag)):=by
 intro Ψ s σ H D I h;subst hm;refine aEf S hcalm hi hg hc he hs hNn hiy hxy hfy hsw Ψ s σ H D I ?_;exact v7 ht (λσ H Q h=>h) (I.len.trans hn) (W5 ho h)
def aMb:V->aa V->Hp->VK->Prop:=λx vs H Q=>∃l xs j y,x=.ref l/\vs=[.int j,y]/\H l=ae (.lst xs)/\0<=j/\j<=xs.length/\xs.length<bg/\Q .non (upd H l (.lst (xs.take j.toNat++y::xs.drop j.toNat)))
theorem aEh:MtR X "list.insert" aMb:=by
 intro Ψ s σ H x vs v us Q I rx rv h;obtain⟨l,xs,j,y,rfl,rfl,hH,h0,h1,hz,q⟩:=h;cases rx;cases rv with
 |cons rj rv=>
  cases rv with
  |cons ry rv=>
   cases rv;obtain⟨tt,rfl⟩:=rj;obtain⟨z,its,n,r,hl,e⟩:=I.aOr hH;have hs:bg=16777216:=eS;refine kj B4 ⟨_,e,rfl⟩ F.entry_list_insert (F.args_list_insert_3 _ _ _) (DV l its.toArray n j tt _ (by
    rw[show B5 j=ag from by unfold B5;simp only[bj,eB];lia];decide) (by rw[b6];lia)) ⟨e,?_⟩
   refine⟨.non,_,I.aPx hH e ?_ ((r.take j.toNat).append (.cons ry (r.drop j.toNat))) ?_,rfl,q⟩
   .have hj:¬j<0:=by lia
    have hm:min j.toNat its.length=j.toNat:=by lia
    simp only[hj,gd,b6,hm];apply mI.mp;simp[List.extract_eq_drop_take]
    first|rfl|(rw[iO];simp)
   .rw[cx,b9,jh,kh];lia
def aQv(ho:own i=ag)(hN:X.N[i]?=ae x)(hv:Vis X.env.scope x)(ha:PE X a (gE fa ra))(he:PE X e (gE fe re))(hd:nDb x:=by decide)(hcd:nCd x:=by decide)
 (hbase:ji (.Name x p1) "insert" X.env (cw (.Name x p1) X.env)=cw (.Name x p1) X.env:=by rfl)
 (hs0:dw [a,e] X.env=(ai,cw a X.env)::dw [e] X.env:=by rfl)(hs1:zSE X e []:=by rfl)
 (hfew:((jw cpos (dw [a,e] X.env)).all (λx=>!x.1)&&(backToKw cpos (zb [] X.env)).all (λx=>x.1.isSome)
  &&ϒ (([a,e]:aa Expr).length+([]:aa se).length+(if ([]:aa se).isEmpty then 0 else 1)<30))=ag:=by rfl)
 (hline:(apos.endLine==cpos.line)=ag:=by rfl)(hpl:(jw cpos (dw [e] X.env)).any (·.1)=ai:=by rfl)
 (hs:fq (.Call (.Attribute (.Name x p1) "insert" apos) [a,e] [] cpos) aj pos.line X.env=pure ai:=by rfl) :
  PS X (.Expr (.Call (.Attribute (.Name x p1) "insert" apos) [a,e] [] cpos) pos) (tS own (aSs i fa fe)):=
 PS.imp (zM (aBd nh B4 PySem.F.type_list_insert aEh (m9 hN hv hd hcd) (nO ha (nO he vL hs1) hs0) hbase hfew hline hs0 hpl) hs) λD' σ H z0=>by
 obtain⟨ρ,fl,E,h,q⟩:=z0;obtain⟨j,h0,h⟩:=bJ h;obtain⟨d,h1,h2⟩:=bJ h;split at h2
 .rename_i xs jj hx;split at h2
  .rename_i hk;cases h2;simp only[bj,eB] at hk;obtain⟨⟨⟨hk1,hk2⟩,hk3⟩,hk4⟩:=hk;obtain⟨a,o,hσ,r,hin,ha,hm⟩:=E.ownAt ho (by rw[hx];intro z;cases z);rw[hx] at r hin;obtain⟨vs,hl,rr⟩:=CJ r;refine⟨_,hσ,.inl ⟨rfl,vs,.of hl⟩,ρ,_,E.er,h0,λv0 H0 s0 rv0 _=>⟨ρ,d,E.er.same s0,h1,λv H' s rv _=>?_⟩⟩;cases rv0.inv;have s':=s0.trans s;refine⟨a,vs,jj,v,rfl,rfl,s' _ _ hl,hk3,by rw[rr.length];exact hk4,by rw[rr.length];exact eC hk1 (by rw[eS];decide),?_⟩;have E':=E.same s';have hl':=s' _ _ hl;have hin':θ xs=ag:=hin;have hp:θ (xs.take jj.toNat++d::xs.drop jj.toNat)=ag:=kZ.mpr λy hy=>by
    rcases cj.mp hy with hy|hy
    .exact kZ.mp hin' y (List.mem_of_mem_take hy)
    .rcases bi.mp hy with rfl|hy
     .exact hk2
     .exact kZ.mp hin' y (Av hy)
   have rr':=rr.same s';obtain⟨E2,k2⟩:=E'.mut ho hσ rfl (.lst aM trivial (((rr'.take jj.toNat).append (.cons rv (rr'.drop jj.toNat))).upd hp hl' rfl)) hp;exact q _ _ ((KU.same s').trans k2) E2
  .exact bx h2
 .exact bx h2
theorem LK[fF κ]{k:κ}(e:p.1=k)(h:k∉r.map (·.1)):putK (p::r) k v=(k,v)::r:=by
 unfold putK;rw[ao (by simp[e]),ba,ao e,e]
 congr 1
 have:∀q∈r,(λkv:κ×V=>if kv.1=k then (kv.1,v) else kv) q=id q:=λq hq=>by
  have:q.1≠k:=λz=>h (aE.mpr ⟨q,hq,z⟩)
  simp[this]
 rw[c_ this,gj]
def LQ[fF κ]{k:κ}(e:¬p.1=k):putK (p::r) k v=p::putK r k v:=by
 unfold putK;rw[lj,cy e,lm];split
 .rw[ba,ap e]
 .rfl
def oF[fF κ]:∀{kvs:aa (κ×V)},(kvs.map (·.1)).Nodup->((putK kvs k v).map (·.1)).Nodup:=λ{kvs} h=>by
 by_cases hk:wN kvs k=aj
 .exact aLp v h hk
 .unfold putK;rw[ao (by rw[vN];exact Option.isSome_iff_ne_none.mpr hk),bp];have:(λx:κ×V=>x.1) ∘ (λkv:κ×V=>if kv.1=k then (kv.1,v) else kv)=λx=>x.1:=by
   funext q
   simp only[DZ];split<;>rfl
  rw[this];exact h
theorem yW(rv:Rep P H v d):∀{kvs:aa (Key×V)}{ds:aa (D×D)},oV P H kvs ds->(kvs.map (·.1)).Nodup->oV P H (putK kvs k v) (putD ds (kD k) d)
 |_,_,.nil,_=>.cons rv .nil
 |_,_,.cons (k:=k') r t,hn=>by
  rw[ba] at hn;obtain⟨h1,h2⟩:=df.mp hn;rw[putD,aE8];by_cases h:k'=k
  .subst h;rw[ao 0x2,LK rfl h1];exact .cons rv t
  .rw[ap (by simpa using h),LQ h];exact .cons r (yW rv t h2)
theorem LR(rv:Rep P H v d):∀{kvs:aa (aa Key×V)}{ds:aa (D×D)},xY P H kvs ds->(kvs.map (·.1)).Nodup->xY P H (putK kvs k v) (putD ds (.tup (k.map kD)) d)
 |_,_,.nil,_=>.cons rv .nil
 |_,_,.cons (k:=k') r t,hn=>by
  rw[ba] at hn;obtain⟨h1,h2⟩:=df.mp hn;rw[putD,aM1];by_cases h:k'=k
  .subst h;rw[ao 0x2,LK rfl h1];exact .cons rv t
  .rw[ap (by simpa using h),LQ h];exact .cons r (LR rv t h2)
theorem oV.length:∀{kvs:aa (Key×V)}{ds:aa (D×D)},oV P H kvs ds->kvs.length=ds.length
 |_,_,.nil=>rfl
 |_,_,.cons _ t=>by rw[b9,b9,oV.length t]
theorem xY.length:∀{kvs:aa (aa Key×V)}{ds:aa (D×D)},xY P H kvs ds->kvs.length=ds.length
 |_,_,.nil=>rfl
 |_,_,.cons _ t=>by rw[b9,b9,xY.length t]
def CK{a:am}(ha:H a=ae ob)(hm:aDz ob=ag):GX (λ_=>c8) H (L2.upd H a o):=λc oc hc h=>by
 rw[bB]
 .exact hc
 .intro z;subst z;rcases h with h|h
  .exact h.elim
  .rw[ha] at hc;cases hc;rw[hm] at h;cases h
theorem l_(hd:d.pure=ag):∀{ds:aa (D×D)},θ (ds.map (·.2))=ag->θ ((putD ds k d).map (·.2))=ag
 |[],_=>by simp[putD,θ,hd]
 | (q,w)::r,h=>by
  rw[ba,θ,bj] at h;rw[putD];split
  .rw[ba,θ,bj];exact⟨hd,h.2⟩
  .rw[ba,θ,bj];exact⟨h.1,l_ hd h.2⟩
theorem aMc{ad:am}(I:Inv X Ψ σ H s)(rd:Rep All H (.ref ad) (.dct ds))(hin:θ (ds.map (·.2))=ag)(rk:Rep All H y k)(hk:o7 ds k=ag)(hl:ds.length<bg)(rv:Rep All H v d)(hd:d.pure=ag) :
  ∃H1 o,Inv X Ψ σ H1 s/\aDe H1 ad y v (L2.upd H ad o)/\aDz o=ag/\Rep All (L2.upd H ad o) (.ref ad) (.dct (putD ds k d)):=by
 unfold o7 at hk;rw[bj] at hk;obtain⟨h1,h2⟩:=hk;have rv':Rep (λ_=>c8) H v d:=rv.cU hd;cases rd with
 |@dK _ kvs ds e _ r n=>
  have hlen:=r.length;rcases oA h1 rk with ⟨q,rfl,rfl⟩|⟨b,ks,rfl,eb,rfl⟩
  .refine⟨H,.dK (putK kvs q v),I,.k e 0x1,rfl,.dK aM trivial ?_ (oF n)⟩;exact(yW rv' (r.cU hin) n).keep (CK e rfl) λ_ z=>z.elim
  .cases r with
   |nil=>
    refine⟨L2.upd H ad (.dT []),.dT (putK [] ks v),tU I e,?_,rfl,.dT aM trivial ?_ (oF gS)⟩
    .have:=aDe.t (H:=L2.upd H ad (.dT [])) (a:=ad) (b:=b) (kvs:=[]) (k:=ks) (v:=v) aM (by rw[bB (aHb eb e 0x7)];exact eb) hl;rwa [zK] at this
    .exact(LR (k:=ks) rv' .nil gS).keep (CK e rfl) λ_ z=>z.elim
   |cons r t=>
    rw[ik,tR] at h2;simp[isTup] at h2
 |@dT _ kvs ds e _ r n=>
  have hlen:=r.length;rcases oA h1 rk with ⟨q,rfl,rfl⟩|⟨b,ks,rfl,eb,rfl⟩
  .cases r with
   |nil=>
    refine⟨L2.upd H ad (.dK []),.dK (putK [] q v),oE I e,?_,rfl,.dK aM trivial ?_ (oF gS)⟩
    .have:=aDe.k (H:=L2.upd H ad (.dK [])) (a:=ad) (kvs:=[]) (k:=q) (v:=v) aM hl;rwa [zK] at this
    .exact(yW (k:=q) rv' .nil gS).keep (CK e rfl) λ_ z=>z.elim
   |cons r t=>
    rw[ik,tR] at h2;simp[isTup] at h2
  .refine⟨H,.dT (putK kvs ks v),I,.t e eb 0x1,rfl,.dT aM trivial ?_ (oF n)⟩;exact(LR rv' (r.cU hin) n).keep (CK e rfl) λ_ z=>z.elim
def rK(hu:X.A.units+20<bw)(ho:own i=ag)(hN:X.N[i]?=ae x)(hvi:Vis X.env.scope x)(hk:PE X k (gE fk rk))(hv:PE X value (gE fv rv))
 (hs:fq value (ae (.Subscript (.Name x p1) k pos')) pos.line X.env=pure ai:=by rfl)(hd:nDb x:=by decide)(hcd:nCd x:=by decide) :
  PS X (.Assign [.Subscript (.Name x p1) k pos'] value pos) (tS own (QG i fk fv)):=by
 rintro Ψ s σ H D' I ⟨ρ,fl,E,h,q⟩;obtain⟨d,h0,h⟩:=bJ h;obtain⟨kd,h1,h2⟩:=bJ h;split at h2
 .rename_i kvs hx;split at h2
  .rename_i hg;cases h2;simp only[bj] at hg;obtain⟨⟨hg1,hg2⟩,hg3⟩:=hg;obtain⟨a,o,hσ,r,hin,ha,hm⟩:=E.ownAt ho (by rw[hx];intro z;cases z);rw[hx] at r hin;refine An (thn (hv Ψ s σ H (λv H1=>dO H H1/\Rep All H1 v d) I ⟨ρ,d,E.er,h0,λv H1 s1 r1 _=>⟨s1,r1⟩⟩) λrr s1 ⟨v,H1,I1,rv1,sm1,rp1⟩=>
    thn (m9 hN hvi hd hcd Ψ s1 σ H1 (λw H2=>w=.ref a/\H2=H1) I1 ⟨_,hσ,rfl,rfl⟩) λu s2 ⟨xx,H2,I2,rx,ex,eH⟩=>
    thn (hk Ψ s2 σ H2 (λw H3=>dO H2 H3/\Rep All H3 w kd) I2 ⟨ρ,kd,by rw[eH];exact E.er.same sm1,h1,λv H1 s1 r1 _=>⟨s1,r1⟩⟩) λiv s3 ⟨y,H3,I3,ry,sm3,rp3⟩=>?_) hs
   subst ex eH;obtain rfl:u=fR a:=rx;have sm:=sm1.trans sm3;obtain⟨H4,o4,I4,g,hmo,rp⟩:=aMc I3 (r.same sm) hin rp3 hg2 (Z4 hg1) (rp1.same sm3) hg3;obtain⟨E2,k2⟩:=(E.same sm).mut ho hσ hmo rp (l_ hg3 hin);exact QW 0x1 I4 g ry rv1 λs4 I5=>⟨σ,_,I5,q _ _ ((KU.same sm).trans k2) E2⟩
  .exact bx h2
 .exact bx h2
def TgS(own:ah->aq)(g:TG)(t:D->aa D->Res (aa D)):Prop:=∀(v:V)(d:D)(ρ ρ':aa D)(σ:L2.St)(H:Hp)(Q:L2.St->Hp->Prop),ES own H σ ρ->Rep (λa=>¬Own own σ a) H v d->t d ρ=.ok ρ'->
 (∀σ',ES own H σ' ρ'->(∀a,Own own σ' a↔Own own σ a)->Q σ' H)->g v σ H Q
def i_(ho:own i=ai):TgS own (G3 i) (tg1 i):=λv d ρ ρ' σ H Q E r h q=>by
 cases h;exact q _ (E.set ho r) λa=>uU ho a
theorem ES.sets:∀{is:aa ah}{vs:aa V}{ds:aa D}{σ:L2.St}{ρ:aa D},(∀i∈is,own i=ai)->ES own H σ ρ->cL (λa=>¬Own own σ a) H vs ds->ES own H (nU is vs σ) (aBm is ds ρ)/\∀a,Own own (nU is vs σ) a↔Own own σ a
 |[],_,_,_,_,_,E,_=>by simp only[nU,aBm];exact⟨E,λ_=>trivial⟩
 |i::is,_,_,σ,ρ,h,E,.nil=>by simp only[nU,aBm];exact⟨E,λ_=>trivial⟩
 |i::is,_,_,σ,ρ,h,E,.cons (v:=v) r t=>by
  have ho:=h i (bu ..);have hO:(λa=>¬Own own (σ.set i (ae v)) a)=λa=>¬Own own σ a:=funext λa=>by rw[uU ho]
  obtain⟨h1,h2⟩:=ES.sets (λj hj=>h j (bo _ hj)) (E.set ho r) (by rw[hO];exact t);exact⟨h1,λa=>(h2 a).trans (uU ho a)⟩
def j7(K:cm)(ho:∀i∈is,own i=ai):TgS own (aPd K is.length (gIx is)) (tgN is):=λv d ρ ρ' σ H Q E r h q=>by
 cases d<;>simp only[tgN] at h<;>(try (exact bx h;done))
 split at h
 .rename_i hl;cases h;have hl':=d6 hl;obtain⟨a,xs,rfl,e,rr⟩:=r.iZ;obtain⟨h1,h2⟩:=E.sets ho rr;exact⟨a,xs,rfl,.of e,by rw[rr.length];exact hl',B_ _ _ _ (by rw[rr.length];exact hl') (q _ h1 h2)⟩
 .exact bx h
def ItQ.ku{K:cm}(h:ItQ K (λa=>¬Own own σ a) J H items)(k:KU own σ H σ' H')(E:ES own H σ ρ):ItQ K (λa=>¬Own own σ' a) J H' items:=h.keep' (k.keep E) λa o e n=>(k a o e n).2
theorem L_{K:cm}{g:TG}{t:D->aa D->Res (aa D)}{body:FS}{D':Ends}{J:It}{items:aa D}{σ:L2.St}{H1:Hp}{ρ:aa D}{fl:Fl}(tg:TgS own g t)(E:ES own H1 σ ρ)(hJ:ItQ K (λa=>¬Own own σ a) J H1 items)(hf:vR t body items ρ=.ok fl)(q:kS own D' σ H1 fl) :
  ∃W:ah->ah->L2.St->Hp->Prop,(∃m,W 0 m σ H1)/\∀i m σ H,W i m σ H->
   (J.stop i H/\D'.nx σ H)\/(J.go i H/\∃N:L2.St->Hp->Prop,(∀σ' H',N σ' H'->∃m',m'<m/\W (i+1) m' σ' H')/\∀x H',J.yld i H x H'->g x σ H' λσ2 H2=>tS own body {D' with nx:=N,ct:=N,bk:=D'.nx} σ2 H2):=by
 refine⟨λi m σ' H'=>m=items.length-i/\i<=items.length/\ItQ K (λa=>¬Own own σ' a) J H' items/\∃ρ',ES own H' σ' ρ'/\vR t body (items.drop i) ρ'=.ok fl/\kS own D' σ' H' fl,⟨items.length,rfl,eI _,hJ,ρ,E,hf,q⟩,?_⟩;rintro i m σ' H' ⟨rfl,hi,hJ',ρ',E',hf',q'⟩;rcases oy i items.length with hlt|hge
 .refine .inr ?_;have e:items[i]?=ae items[i]:=eg hlt;obtain⟨g1,g2⟩:=hJ'.go e;rw[ie hlt] at hf';obtain⟨ρ1,h1,hf2⟩:=bJ hf';obtain⟨r,h2,hf3⟩:=bJ hf2;refine⟨g1,λσ2 H2=>ItQ K (λa=>¬Own own σ2 a) J H2 items/\∃ρ',ES own H2 σ2 ρ'/\vR t body (items.drop (i+1)) ρ'=.ok fl/\kS own D' σ2 H2 fl,λσ2 H2 ⟨n1,n2⟩=>⟨items.length-(i+1),by lia,rfl,hlt,n1,n2⟩,λx H2 hy=>?_⟩;obtain⟨sH,rx⟩:=g2 x H2 hy;have ks:KU own σ' H' σ' H2:=λa o e n=>⟨sH a o e,n⟩
  have hJ':=hJ'.ku ks E';have q':=q'.step ks;have E':=E'.same sH;refine tg x items[i] ρ' ρ1 σ' H2 _ E' rx h1 λσ2 E2 hO=>?_
  have k0:KU own σ' H2 σ2 H2:=λa o e n=>⟨e,by rw[hO];exact n⟩
  have hJ2:=hJ'.ku k0 E';have q2:=q'.step k0;refine⟨ρ1,r,E2,h2,?_⟩;cases r with
  |nx ρ2=>exact λσ3 H3 k3 E3=>⟨hJ2.ku k3 E2,ρ2,E3,hf3,q2.step k3⟩
  |ct ρ2=>exact λσ3 H3 k3 E3=>⟨hJ2.ku k3 E2,ρ2,E3,hf3,q2.step k3⟩
  |bk ρ2=>cases hf3;exact λσ3 H3 k3 E3=>q2 σ3 H3 k3 E3
  |rt d=>cases hf3;exact q2
 .refine .inl ⟨hJ'.stop hge,?_⟩;rw[oQ hge] at hf';cases hf';exact q' σ' H' (λa o e n=>⟨e,n⟩) E'
def jZ{tg iter:Expr}{body:aa bq}{g:TG}{t:D->aa D->Res (aa D)}{it:FI}{fb:FS}(hp:k8 (av X.prog X.w) X.A X.env X.xe)(hc:X.calm=ag)(hi:PI X tg iter (gI X.K it))(ht:TgS own g t)(hg:PG X tg g)(hb:PSs X body (tS own fb))
 (hs:∀x,fg iter X.env x=pure x:=by intro _;rfl):PS X (.For tg iter body [] pos) (tS own (BK it t fb)):=PS.imp (QH hp hc hi hg hb hs) λD' σ H z0=>by
 obtain⟨ρ,fl,E,h,q⟩:=z0;obtain⟨⟨items,k⟩,h1,h2⟩:=bJ h;split at h2
 .rename_i hk;exact⟨ρ,items,k,E.er,h1,λJ H1 s1 _ hJ=>L_ ht (E.same s1) ((hJ hk).keep (λ_ _ e _=>e) λa ha ho=>by
   obtain⟨o,e1,_⟩:=E.live ho;rw[show H a=aj from ha] at e1;cases e1) h2 (q.step (.same s1))⟩
 .exact bx h2
def W6{g:TG}{t:D->aa D->Res (aa D)}{i:ah}{x:Str}{px:c9}{fb:FS}(ho:own i=ai)(hp:k8 (av X.prog X.w) X.A X.env X.xe)(hc:X.calm=ag)(hN:X.N[i]?=ae x)(hv:Vis X.env.scope x)(ht:TgS own g t)(hg:PG X tg g)(hb:PSs X body (tS own fb))
 (hs:∀z,fg (.Name x px) X.env z=pure z:=by intro _;rfl)(hd:nDb x:=by decide)(hcd:nCd x:=by decide):PS X (.For tg (.Name x px) body [] pos) (tS own (aBn i t fb)):=PS.imp (QH hp hc (aQr hN hv hd hcd) hg hb hs) λD' σ H z0=>by
 obtain⟨ρ,fl,E,h,q⟩:=z0;obtain⟨d,h1,h⟩:=bJ h;obtain⟨items,h2,h3⟩:=bJ h;obtain⟨v,hv,r,e⟩:=E.er.var h1;have hne:ρ.getD i .uD≠.uD:=λz=>by
  rw[z] at e;subst e;exact Rep.uD r
 obtain⟨w,hw,hr⟩:=E.at_ i hne;rw[hv] at hw;cases hw;have r2:=hr ho;rw[e] at r2;exact⟨v,d,items,hv,r,h2,λJ hJ=>L_ ht E (hJ _ r2) h3 q⟩
theorem aI7{N ps:aa Str}(hst:start N vs=vs.map ae++dg (N.length-ps.length) aj)(hl:ds.length=ps.length)(r:cL All H vs ds)(hown:∀i,i<ps.length->own i=ai)(noown:∀a,¬Own own (start N vs) a):ES own H (start N vs) (ds++dg (N.length-ps.length) .uD):=by
 refine⟨by rw[hst];simp[r.length],λi hi=>?_,λi v hi hv=>?_⟩
 .have hlt:i<ds.length:=sQ λhge=>hi (by
   rw[dz,kf hge,mj];split<;>rfl)
  have e:(ds++dg (N.length-ps.length) D.uD).getD i .uD=ds[i]:=by
   rw[dz,lc hlt,eg hlt];rfl
  obtain⟨v,g1,g2⟩:=r.get (i:=i) (d:=ds[i]) (by simp[hlt]);refine⟨v,by rw[hst,lc (by simp[r.length,hlt])];simp[g1],λ_=>?_⟩;rw[e];exact g2.mono λa _=>noown a
 .exfalso;rw[hst] at hv;by_cases h:i<ps.length
  .rw[hown i h] at hi;cases hi
  .rw[kf (by simp[r.length,hl];lia)] at hv;rw[mj] at hv;split at hv<;>cases hv
def aMd{N ps:aa Str}{Q:VK}{E:XK}(hx:own rtX=ai)(hown:∀i,i<ps.length->own i=ai)(h0:spD (fnS ps.length N.length f) ps.length vs H Q E):tS own f {nx:=λ_ H'=>Q .non H',rt:=Q} (start N vs) H:=by
 obtain⟨ds,d,hl,r,h,q⟩:=h0
 .obtain⟨fl,h1,h2⟩:=bJ h;have hst:start N vs=vs.map ae++dg (N.length-ps.length) aj:=by
   show vs.map ae++dg (N.length-vs.length) aj=_;rw[r.length,hl]
  have noown:∀a,¬Own own (start N vs) a:=λa z0=>by
   obtain⟨i,hi,e⟩:=z0;rw[hst] at e;by_cases h:i<ps.length
   .rw[hown i h] at hi;cases hi
   .rw[kf (by simp[r.length,hl];lia)] at e;rw[mj] at e;split at e<;>cases e
  have E0:ES own H (start N vs) (ds++dg (N.length-ps.length) .uD):=aI7 hst hl r hown noown;refine⟨_,fl,E0,h1,?_⟩;have sm:∀{σ':L2.St}{H':Hp},KU own (start N vs) H σ' H'->dO H H':=λk a o e=>(k a o e (noown a)).1
  cases fl with
  |nx ρ'=>cases h2;exact λσ' H' k E'=>q .non H' (sm k) .non λ_=>.non
  |rt d'=>
   cases h2;refine kRt.mk hx λv H' hk rp=>q v H' (λa o e=>hk a o e (noown a)) rp.all λ_=>rp.mono λa ha=>?_
   rcases ha with ha|ha
   .exact aT ha (noown a)
   .exact ha
  |bk ρ'=>exact bx h2
  |ct ρ'=>exact bx h2
def aQw{w:br}{K:cm}{mg:Str->az ak}{base:bm}{x qual:Str}{st:bq}{fad:am}{fd:hX}{N ps:aa Str}{k:ah}{f:FS}(F:Fun K x qual st fad fd)(S:b7 N ps (aP st))(own:ah->aq)(hown:∀i,i<ps.length->own i=ai)(hNl:ps.length<=N.length)
 (hbody:∀(cdv:ak) (A:cu) (outer:aa eD) (s:au) (H:Hp) (E:XK),GR k (A.deeper (io qual (aP st) s.heap.objs.size fad cdv))->PSs (aJw CX0 P w K mg base N qual (aP st) fad cdv A outer s H E).nox (nP st) (tS own f))(hx:own rtX=ai:=by rfl):aCp P w K mg base CX0 (k+1) fad fd ps (spD (fnS ps.length N.length f) ps.length):=
 F.ok S (λvs H Q E h=>aM5 h) λcdv A outer s H vs Q E hr h=>⟨_,hbody cdv A outer s H E hr,aMd hx hown h⟩
end
end
variable [KFrag]
structure aTu where
 s₀:au
 H₀:Hp
 env:eD
 outer:aa eD
 stack:aa eD
 ex:aa am
 fn:Str->aq
 pn:aa (am×bP)
abbrev mkC(X:Cx)(scope:gp)(ownN:aa Str)(y:aTu):Cx:=
 {X with N:=X.N.map (fQ ownN)++ownN,s₀:=y.s₀,H₀:=y.H₀,env:={y.env with scope:=iX scope X.env},outer:=y.outer,stack:=y.stack,ex:=y.ex,fn:=y.fn,pn:=y.pn,xe:=λ_ _=>c8}
def uG(cc:eZ X X' scope ownN):∃y,X'=mkC X scope ownN y:=by
 refine⟨⟨X'.s₀,X'.H₀,X'.env,X'.outer,X'.stack,X'.ex,X'.fn,X'.pn⟩,?_⟩;obtain⟨h1,h2,h3,h4,h5,h6,h7,h8,h9,h10⟩:=cc;cases X' with
 |mk a b c d e f g h i j k l m n o p q=>
  cases j;dsimp only at *;subst h1 h2 h3 h4 h5 h6 h7 h8 h9 h10;rfl
section
def iY(S:dH X.N X.env.scope scope ownN)(hn:X.N.length=n)(hm:ownN.length=m)(hcalm:X.calm=ag)(hi:PI X tg iter (gI X.K it))(ht:TgC g t n m)(hg:∀y,PG (mkC X scope ownN y) tg g)(he:∀y,PE (mkC X scope ownN y) elt (gE fe re))
 (hs:∀x,fg iter X.env x=pure x):PE X (.ListComp elt [⟨tg,iter,[],0⟩] scope pos) (gE (dR n it t gB fe re) ag):=
 aM7 S hn hm hcalm hi ht (λX' cc=>by obtain⟨y,rfl⟩:=uG cc;exact hg y) (λX' cc=>by obtain⟨y,rfl⟩:=uG cc;exact he y) hs
def aBv(S:dH X.N X.env.scope scope ownN)(hn:X.N.length=n)(hm:ownN.length=m)(hcalm:X.calm=ag)(hi:PI X tg iter (gI X.K it))(ht:TgC g t n m)(hg:∀y,PG (mkC X scope ownN y) tg g)(hc:∀y,PT (mkC X scope ownN y) c (gT gc))(he:∀y,PE (mkC X scope ownN y) elt (gE fe re))
 (hs:∀x,fg iter X.env x=pure x):PE X (.ListComp elt [⟨tg,iter,[c],0⟩] scope pos) (gE (dR n it t gc fe re) ag):=
 aEe S hn hm hcalm hi ht (λX' cc=>by obtain⟨y,rfl⟩:=uG cc;exact hg y) (λX' cc=>by obtain⟨y,rfl⟩:=uG cc;exact hc y) (λX' cc=>by obtain⟨y,rfl⟩:=uG cc;exact he y) hs
def yX(S:dH X.N X.env.scope scope ownN)(hn:X.N.length=n)(hm:ownN.length=m)(hcalm:X.calm=ag)(hi:PI X tg iter (gI X.K it))(ht:TgC g t n m)(hg:∀y,PG (mkC X scope ownN y) tg g)(he:∀y,PE (mkC X scope ownN y) elt (gE fe re))
 (hs:∀x,fg iter X.env x=pure x)(ho:own iy=o)(hNn:X.N.Nodup)(hiy:X.N[iy]?=ae y)(hxy:Loc X.env.scope y)(hfy:zFn X y)(hsw:fq (.ListComp elt [⟨tg,iter,[],0⟩] scope pos) (ae (.Name y py)) pos2.line X.env=pure ag) :
  PS X (.Assign [.Name y py] (.ListComp elt [⟨tg,iter,[],0⟩] scope pos) pos2) (tS own (cR o iy (dR n it t gB fe re) ag)):=
 aMa S hn hm hcalm hi ht (λX' cc=>by obtain⟨y,rfl⟩:=uG cc;exact hg y) (λX' cc=>by obtain⟨y,rfl⟩:=uG cc;exact he y) hs ho hNn hiy hxy hfy hsw
def oG(S:dH X.N X.env.scope scope ownN)(hn:X.N.length=n)(hm:ownN.length=m)(hcalm:X.calm=ag)(hi:PI X tg iter (gI X.K it))(ht:TgC g t n m)(hg:∀y,PG (mkC X scope ownN y) tg g)(hc:∀y,PT (mkC X scope ownN y) c (gT gc))(he:∀y,PE (mkC X scope ownN y) elt (gE fe re))
 (hs:∀x,fg iter X.env x=pure x)(ho:own iy=o)(hNn:X.N.Nodup)(hiy:X.N[iy]?=ae y)(hxy:Loc X.env.scope y)(hfy:zFn X y)(hsw:fq (.ListComp elt [⟨tg,iter,[c],0⟩] scope pos) (ae (.Name y py)) pos2.line X.env=pure ag) :
  PS X (.Assign [.Name y py] (.ListComp elt [⟨tg,iter,[c],0⟩] scope pos) pos2) (tS own (cR o iy (dR n it t gc fe re) ag)):=
 aEg S hn hm hcalm hi ht (λX' cc=>by obtain⟨y,rfl⟩:=uG cc;exact hg y) (λX' cc=>by obtain⟨y,rfl⟩:=uG cc;exact hc y) (λX' cc=>by obtain⟨y,rfl⟩:=uG cc;exact he y) hs ho hNn hiy hxy hfy hsw
end
def b8(P:cb)(w:br)(K:cm)(mg:Str->az ak)(base:bm)(k:ah)(x:Str)(n:ah)(f:aa D->Res D):Prop:=
 ∃(fad:am)(fd:hX)(ps:aa Str),aCp P w K mg base CX0 k fad fd ps (spD f n)/\mg x=ae (.ref fad)/\nE K (.ref fad)=ag/\Binds K fd ps []
section
def aU(C:b8 X.prog X.w X.K X.mg X.base k x n f)(hr:GR k' X.A)(hkk:k<=k')(hg:Gl X x)(ha:PA X (e::es) (gA fs rr))(hdb:nDb x:=by decide)(he:zSE X e es:=by rfl)(hpl:zSP X pos es:=by rfl) :
  PE X (.Call (.Name x p) (e::es) [] pos) (gE (aN (bV n f) fs) ag):=by
 obtain⟨fad,fd,ps,F,hm,hk,hb⟩:=C;exact aM6 F (hr.mono hkk) hg hm hk hb ha hdb he hpl
def eV{K:cm}{st:bq}{fad:am}{fd:hX}{N ps:aa Str}{fs:FS}(F:Fun K x x st fad fd)(hm:mg x=ae (.ref fad))(hb:Binds K fd ps [])(S:b7 N ps (aP st))(own:ah->aq)(hown:∀i,i<ps.length->own i=ai)(hNl:ps.length<=N.length)
 (hbody:∀(cdv:ak) (A:cu) (outer:aa eD) (s:au) (H:Hp) (E:XK),GR k (A.deeper (io x (aP st) s.heap.objs.size fad cdv))->PSs (aJw CX0 P w K mg base N x (aP st) fad cdv A outer s H E).nox (nP st) (tS own fs))(hx:own rtX=ai:=by rfl):b8 P w K mg base (k+1) x ps.length (fnS ps.length N.length fs):=
 ⟨fad,fd,ps,aQw F S own hown hNl hbody hx,hm,F.kp,hb⟩
end
def uH(hr:GR k A):A.units+20<bw:=wo (Nat.add_le_add_left (by decide:20<=64) _) hr.units
structure Bt(mg:Str->az ak):Prop where
 len:mg "len"=aj
 min:mg "min"=aj
 max:mg "max"=aj
 list:mg "list"=aj
 tuple:mg "tuple"=aj
 sorted:mg "sorted"=aj
 range:mg "range"=aj
 isi:mg "isinstance"=aj
 int:mg "int"=aj
 bool:mg "bool"=aj
 str:mg "str"=aj
 dict:mg "dict"=aj
 all:mg "all"=aj
 enum:mg "enumerate"=aj
 sum:mg "sum"=aj
 zip:mg "zip"=aj
 abs:mg "abs"=aj
 reversed:mg "reversed"=aj
theorem dC:eM "len"=ae (.builtin "len"):=0x6
theorem v9:eM "min"=ae (.builtin "min"):=0x6
theorem yC:eM "max"=ae (.builtin "max"):=0x6
theorem fO:eM "sorted"=ae (.builtin "sorted"):=0x6
theorem lX:eM "isinstance"=ae (.builtin "isinstance"):=0x6
theorem uV:eM "list"=ae (.type "list"):=0x6
theorem iI:eM "tuple"=ae (.type "tuple"):=0x6
theorem aA4:eM "int"=ae (.type "int"):=0x6
theorem aMe:eM "bool"=ae (.type "bool"):=0x6
theorem ints_rep:∀ns:aa af,cL P H (ns.map V.int) (ns.map δ)
 |[]=>.nil
 |n::ns=>.cons (.int n) (ints_rep ns)
end Mi
namespace Mi
open PySem L2
def aEi{ns:aa af}{E:XK}(main:∀ns:aa af,ns.length<=63->f [.scr (ns.map δ)]=.ok (.bl ag))(hl:ns.length<=63)(hO:Only H)(hS:SqL K H a (ns.map V.int)):@spD ⟨K⟩ f 1 [.ref a] H (λv _=>v=.bl ag) E:=by
 letI:KFrag:=⟨K⟩
 refine⟨[.scr (ns.map δ)],.bl ag,rfl,.cons (.frz ?_ (ints_rep ns)) .nil,main ns hl,λv H' s r n=>by cases r.inv;rfl⟩;rcases hS with (h|⟨o,h⟩)|h
 .rcases hO a with z|⟨o,xs,z⟩
  .rw[h] at z;cases z
  .rw[h] at z;cases z
 .exact .inl ⟨o,h⟩
 .exact .inr h
end Mi
namespace Mi
universe u
section
variable {α:Type u} {us:aa α}
def l1(h:us.length=1):∃a,us=[a]:=List.length_eq_one_iff.mp h
def l2(h:us.length=2):∃a b,us=[a,b]:=by
 cases us with
 |nil=>cases h
 |cons a t=>obtain⟨b,rfl⟩:=l1 (xB h);exact⟨a,b,rfl⟩
def l3(h:us.length=3):∃a b c,us=[a,b,c]:=by
 cases us with
 |nil=>cases h
 |cons a t=>obtain⟨b,c,rfl⟩:=l2 (xB h);exact⟨a,b,c,rfl⟩
def l4(h:us.length=4):∃a b c d,us=[a,b,c,d]:=by
 cases us with
 |nil=>cases h
 |cons a t=>obtain⟨b,c,d,rfl⟩:=l3 (xB h);exact⟨a,b,c,d,rfl⟩
end
open PySem L2 PySem.SeqAt PySem.Spec PyProof.Rows
noncomputable def aQx:D->Res (aa D)
 |.lst xs=>.ok xs
 |_=>.bad
variable [KFrag]
section
variable {X:Cx}
section
variable {a:Expr}
def W7{ch:aa am}{a:am}{o:HO}(I:Inv X Ψ σ H s)(k:∀b u,b∉ch->s.heap.get? b=ae u->h'.get? b=ae u)(hf:∀b∈ch,aCo X Ψ H b)(hp:s.heap.objs.size<=a)
 (new:mY X.prog X.w (upd H a o) h' a o):Inv X Ψ σ (upd H a o) {s with heap:=h',toks:=t'}:=by
 have hn:H a=aj:=I.hok.fresh hp;have nch:∀b u,H b=ae u->b∉ch:=λb u e z=>by rw[(hf b z).1] at e;cases e
 have kU:∀b u,H b=ae u->upd H a o b=ae u:=λb u e=>by rw[bB (eY e hn)];exact e
 refine I.step (λb hb=>?_) (λb u _ _ hc e _=>k b u hc e) (λb u _ _ hc e _=>⟨u.slots,k b u hc e⟩) (λb u _ e n=>?_)
  (λb u hc e=>⟨u,k b u hc e⟩) (λb xs e=>kU b _ e) (λb u v e=>kU b _ e) (λb ps e=>⟨#[],by rw[kU b _ e];simp⟩) (λm hm=>?_) (λb u e=>?_) I.bare
 .obtain⟨_,f1,_,f3,f4,f5⟩:=hf b hb;exact⟨f3,f1,f4,f5⟩
 .rw[bB (λz=>aT (eC (bE e) hp) (by rw[z];exact fT _))];exact n
 .obtain⟨u,es,ep,hu,r⟩:=hm;exact⟨u,es,ep,k _ u (λz=>(hf _ z).2.1 rfl) hu,r⟩
 .by_cases hb:b=a
  .subst hb;rw[aM] at e;cases e;exact new
  .rw[bB hb] at e;refine(I.hok b u e).stay (λc v hc q=>k c v ?_ q) (λc q=>kU c _ q) λc xs q=>kU c _ q
   rcases hc with z|z
   .rw[z];exact nch b u e
   .exact nch c _ z
end
end
end Mi
namespace Mi
open PySem L2
def aK9(b:aq):asB (.bl b)=.ok b:=rfl
def bD:lim=1000000:=by unfold lim;exact Eq.refl _
def RJ(h:ρ.length=n):ZP n ρ=ρ:=by
 subst h;apply B6
 .simp[ZP]
 .intro i h1 h2;simp[ZP,h2]
def cJ(h:ds.length=n):bV n f ds=f ds:=by
 unfold bV;rw[ao (by simp[h])]
def aJ(h1:a ρ=.ok x)(h2:b ρ=.ok y)(h3:f x y=.ok z):b2 f a b ρ=.ok z:=by
 unfold b2;rw[h1,ε,h2,ε,h3]
def bA(h:f ρ=.ok d):cR ai i f ag ρ=.ok (.nx (ρ.set i d)):=by
 unfold cR;rw[h,ε];rfl
def rM(h:f ρ=.ok d)(hp:d.pure=ag):cR ai i f ai ρ=.ok (.nx (ρ.set i d)):=by
 unfold cR;rw[h,ε];simp only[hp,lm,iv,gd,eT]
def dG(h:f ρ=.ok d)(hp:inner d=ag):cR ag i f ag ρ=.ok (.nx (ρ.set i d)):=by
 unfold cR;rw[h,ε];simp only[hp,ja,eT]
def aTv(h:fZ j ρ=.ok d):sAl i j ρ=.ok (.nx (ρ.set i d)):=by
 unfold sAl;rw[h,ε]
def aL(h1:f ρ=.ok (.nx ρ'))(h2:g ρ'=r):bO f g ρ=r:=by
 unfold bO;rw[h1,ε];exact h2
def aI8(h1:c ρ=.ok k)(h2:(if k then f ρ else g ρ)=r):sIf c f g ρ=r:=by
 unfold sIf;rw[h1,ε];exact h2
def uW(h1:c ρ=.ok ag)(h2:f ρ=r):sIf c f g ρ=r:=aI8 h1 (by rw[ao rfl];exact h2)
def mC(h1:c ρ=.ok ai)(h2:g ρ=r):sIf c f g ρ=r:=aI8 h1 (by rw[ap 0x2];exact h2)
def bU(h1:f ρ=.ok (.bl k)):bTB f ρ=.ok k:=by
 unfold bTB;rw[h1,ε];rfl
def CN(h1:a ρ=.ok ag)(h2:b ρ=r):A_ a b ρ=r:=by
 unfold A_;rw[h1,ε,ao rfl,h2]
def G4(h1:a ρ=.ok ai):A_ a b ρ=.ok ai:=by
 unfold A_;rw[h1,ε,ap 0x2];rfl
def aUs(h1:a ρ=.ok x)(h2:b ρ=.ok y)(h3:f x y=.ok (.bl ag))(h4:c ρ=.ok z)(h5:g y z=r):bCh f g a b c ρ=r:=by
 unfold bCh;rw[h1,ε,h2,ε,h3,ε,aK9,ε,ao rfl,h4,ε,h5]
def aVo(h1:a ρ=.ok x)(h2:b ρ=.ok y)(h3:f x y=.ok (.bl ai)):bCh f g a b c ρ=.ok (.bl ai):=by
 unfold bCh;rw[h1,ε,h2,ε,h3,ε,aK9,ε,ap 0x2];rfl
def aC(h1:a ρ=.ok x)(h2:b ρ=.ok xs):aD a b ρ=.ok (x::xs):=by
 unfold aD;rw[h1,ε,h2,ε];rfl
def aK(h1:a ρ=.ok xs)(h2:f xs=.ok d):aN f a ρ=.ok d:=by
 unfold aN;rw[h1,ε,h2]
def cW(h:a ρ=.ok xs)(hl:xs.length<=lim):fP a ρ=.ok (.tup xs):=by
 unfold fP;rw[h,ε,ao (bz hl)];rfl
def d8(h:f ρ=.ok d)(hp:(k||d.pure)=ag):lJ f k ρ=.ok (.rt d):=by
 unfold lJ;rw[h,ε,ao hp]
def mK(h1:it ρ=.ok (xs,ag))(h2:vR t body xs ρ=r):BK it t body ρ=r:=by
 unfold BK;rw[h1,ε];exact h2
def W8(h1:fZ i ρ=.ok d)(h2:vQ d=.ok xs)(h3:vR t body xs ρ=r):aBn i t body ρ=r:=by
 unfold aBn;rw[h1,ε,h2,ε];exact h3
theorem uI(h:f ρ=.ok [.int n])(h1:0<=n)(h2:n<=1000000):uB f rC ρ=.ok ((bn n.toNat).map λ(k:ah)=>δ (0+(k:af)),ag):=by
 unfold uB;rw[h,ε];have:z_ n=ag:=by
  simp only[z_,bj,eB];lia
 simp only[rC,this,eT]
def rN(h1:g ρ=.ok d)(h2:f ρ=.ok k)(h3:ρ.getD i .uD=.dct kvs)(h4:kvs.length<lim)(h5:o7 kvs k=ag)(h6:d.pure=ag):QG i f g ρ=.ok (.nx (ρ.set i (.dct (putD kvs k d)))):=by
 unfold QG;rw[h1,ε,h2,ε,h3];simp only[bz h4,h5,h6,ja,eT]
def aQy(h1:f ρ=.ok (.int j))(h2:g ρ=.ok d)(h3:ρ.getD i .uD=.lst xs)(h4:xs.length<lim)(h5:d.pure=ag)(h6:0<=j)(h7:j<=xs.length):aSs i f g ρ=.ok (.nx (ρ.set i (.lst (xs.take j.toNat++d::xs.drop j.toNat)))):=by
 unfold aSs;rw[h1,ε,h2,ε,h3];simp only[bz h4,h5,bz h6,bz h7,ja,eT]
def lN(h1:f ρ=.ok d)(h3:ρ.getD i .uD=.lst xs)(h4:xs.length<lim)(h5:d.pure=ag):BJ i f ρ=.ok (.nx (ρ.set i (.lst (xs++[d])))):=by
 unfold BJ;rw[h1,ε,h3];simp only[bz h4,h5,ja,eT]
def mL(h1:t x ρ=.ok ρ1)(h2:body ρ1=.ok (.nx ρ2))(h3:vR t body xs ρ2=r):vR t body (x::xs) ρ=r:=by
 rw[vR,h1,ε,h2,ε];exact h3
theorem uX(L:aa D)(i:af)(h0:0<=i)(h1:i<L.length):∃(h:i.toNat<L.length),getD (.lst L) (.int i)=.ok L[i.toNat]:=by
 have hlt:i.toNat<L.length:=by lia
 refine⟨hlt,?_⟩;show ι ((ixD L.length i).bind λj=>L[j]?)=_;unfold ixD;rw[ao h0,ao h1];simp only[B7];rw[eg hlt];rfl
def nF(L:aa D):gV [.lst L]=.ok (.int L.length):=rfl
def jM(h1:it ρ=.ok (xs,kk))(h2:xs.length<=lim)(h3:o9 (rD n t c f k ρ) [] xs=.ok ys):dR n it t c f k ρ=.ok (.lst ys):=by
 unfold dR;rw[h1,ε];simp only[bz h2,eT];rw[h3];rfl
def gC{fr:aq}(h1:a ρ=.ok d)(h2:vQ d=.ok xs):b_ a fr ρ=.ok (xs,fr||d.pure):=by
 unfold b_;rw[h1,ε,h2,ε];rfl
def gF(hρ:ρ.length=n)(h1:c (ρ++[x])=.ok b)(h2:b=ag->f (ρ++[x])=.ok y/\(k||y.pure)=ag):rD n uQ c f k ρ acc x=.ok (if b then acc++[y] else acc):=by
 unfold rD;show(do let ok <- c (ZP n ρ++[x]);_)=_;rw[RJ hρ,h1,ε];cases b with
 |true=>
  obtain⟨e1,e2⟩:=h2 rfl;rw[ao rfl,e1,ε,ao e2,ao rfl];rfl
 |false=>
  rw[ap 0x2,ap 0x2];rfl
theorem oH(g:aa D->D->Res (aa D))(d:α->D)(p:α->aq)(y:α->D)(h:∀acc a,g acc (d a)=.ok (if p a then acc++[y a] else acc)):∀(xs:aa α)(acc:aa D),o9 g acc (xs.map d)=.ok (acc++(xs.filter p).map y)
 |[],acc=>by simp[o9]
 |x::xs,acc=>by
  rw[ba,o9,h];show o9 g _ _=_;rw[oH g d p y h xs];by_cases hp:p x
  .simp[hp]
  .simp[hp]
def fX(a b:af):bQ .add (.int a) (.int b)=.ok (.int (a+b)):=rfl
def aA5(a b:af):bQ .sub (.int a) (.int b)=.ok (.int (a-b)):=rfl
def aEj(a b:af)(h:nZ b=ag):bQ .mul (.int a) (.int b)=.ok (.int (a*b)):=by
 show(if nZ a||nZ b then τ (δ (a*b)) else .bad)=_;rw[h,B8,ao rfl]
def MF(a b:af)(h:nZ a=ag):bQ .mul (.int a) (.int b)=.ok (.int (a*b)):=by
 show(if nZ a||nZ b then τ (δ (a*b)) else .bad)=_;rw[h,Al,ao rfl]
def jA(a b:af)(h1:0<b)(h2:b<1073741824):bQ .fdiv (.int a) (.int b)=.ok (.int (a / b)):=by
 show(if ϒ (0<b)&&ϒ (b<1073741824) then τ (δ (a / b)) else .bad)=_;rw[bz h1,bz h2,ja,ao rfl]
def gG(a b:af)(h1:0<b):bQ .mod (.int a) (.int b)=.ok (.int (a % b)):=by
 show(if ϒ (0<b) then τ (δ (a % b)) else .bad)=_;rw[bz h1,ao rfl]
theorem p_(a:af)(h1:-1000000<=a)(h2:a<=1000000):nZ a=ag:=by
 simp only[nZ,bj,eB];lia
def aMf(a b:Str)(h:a.length+b.length<=lim):bQ .add (.str a) (.str b)=.ok (.str (a++b)):=by
 show(if ϒ (a.length+b.length<=lim) then τ (μ (a++b)) else .bad)=_;rw[bz h,ao rfl]
def str_len(a b:Str):(a++b).length=a.length+b.length:=by
 show(a.cps++b.cps).size=_;rw[B9];rfl
def aMg(h1:a.fV aR=ag)(h2:b.fV aR=ag)(h:jY o a b=ae k):bY (.ord o) a b=.ok (.bl k):=by
 show(if a.fV aR&&b.fV aR then (match jY o a b with|some k=>τ (υ k)|none=>.bad) else .bad)=_;rw[h1,h2,h,ja,ao rfl]
def CP(a b:aa D)(h:a.length+b.length<=lim)(ha:θ a=ag)(hb:θ b=ag):bQ .add (.lst a) (.lst b)=.ok (.lst (a++b)):=by
 show(if ϒ (a.length+b.length<=lim)&&θ a&&θ b then τ (ξ (a++b)) else .bad)=_;rw[bz h,ha,hb,ja,ja,ao rfl]
theorem aKa(n:ah)(h:n<=1000):bQ .pow (.int 10) (.int n)=.ok (.int (10 ^ n)):=by
 have h1:ϒ ((0:af)<=(n:af))=ag:=by simp
 have h2:ϒ ((n:af)<=1000000)=ag:=by simp;lia
 have h3:ϒ ((10:af).natAbs<2 ^ 64)=ag:=by decide
 show(if ϒ ((0:af)<=(n:af))&&ϒ ((n:af)<=1000000)&&ϒ ((10:af).natAbs<2 ^ 64) then τ (δ (10 ^ ((n:af).toNat))) else .bad)=_;rw[h1,h2,h3,ja,ja,ao rfl,l5]
def eF(S:aa af):θ (S.map δ)=ag:=by
 induction S with
 |nil=>rfl
 |cons q Q ih=>rw[ba,θ,ih];rfl
def aMh(ns:aa af)(lo hi:az af):cutD (ns.map δ) lo hi=(cutD ns lo hi).map δ:=by
 unfold cutD;rw[aS,xC,xD]
theorem aMi(ns:aa af)(lo hi:az af):(cutD ns lo hi).length<=ns.length:=by
 unfold cutD;exact dj (List.length_take_le' ..) (by rw[kh];lia)
open PySem.W PySem.SeqAt PySem.Spec PyProof.Rows
variable [KFrag]
noncomputable def aKb(f:FE)(t:D->aa D->Res (aa D)):FS:=λρ=>do
 let d <- f ρ
 if d.pure then (do let ρ' <- t d ρ;.ok (.nx ρ')) else .bad
def RK{X:Cx}{own:ah->aq}{e tg:Expr}{pos:c9}{fe:FE}{re:aq}{g:TG}{t:D->aa D->Res (aa D)}(he:PE X e (gE fe re))(ht:TgS own g t)(hg:PG X tg g)(hs:zi [tg] e pos.line X.env=pure ai:=by rfl)(hw:zj [tg] e X.env=pure aj:=by rfl)
 (h1:(kX [tg] X.env).map (·.2)=[kQ tg X.env]:=by rfl):PS X (.Assign [tg] e pos) (tS own (aKb fe t)):=PS.imp (aPe he hg hs hw h1) λD' σ H z0=>by
 obtain⟨ρ,fl,E,h,q⟩:=z0;obtain⟨d,h1,h2⟩:=bJ h;split at h2
 .rename_i hp;obtain⟨ρ',h3,h4⟩:=bJ h2;cases h4;refine⟨ρ,d,E.er,h1,λv H1 s1 r _=>ht v d ρ ρ' σ H1 _ (E.same s1) (r.cU hp) h3 λσ2 E2 hO=>?_⟩;have k0:KU own σ H1 σ2 H1:=λa o e n=>⟨e,by rw[hO];exact n⟩
  exact q σ2 H1 ((KU.same s1).trans k0) E2
 .exact bx h2
def uY(a:FA):FE:=λρ=>do let xs <- a ρ;if ϒ (xs.length<=lim)&&θ xs then pure (.lst xs) else .bad
def uZ{X:Cx}{pos:c9}{es:aa Expr}{f:FA}{r:aq}(h:PA X es (gA f r)):PE X (.List es pos) (gE (uY f) ag):=PE.imp (aD7 h) λσ H Q z0=>by
  obtain⟨ρ,d,E,h,q⟩:=z0;obtain⟨xs,h1,h⟩:=bJ h;split at h
  .rename_i hl;rw[bj] at hl;cases h;refine⟨ρ,xs,E,h1,λvs H1 s1 r1 n1=>⟨?_,λp hp=>?_⟩⟩
   .rw[r1.length];exact dj (d6 hl.1) (by rw[eS];decide)
   .have sp:dO H1 (upd H1 p (.lst vs)):=dO.upd hp;exact q _ _ (s1.trans sp) (.lst aM trivial (r1.same sp)) λ_=>.lst aM (s1.free hp) ((r1.cU hl.2).same sp)
  .exact bx h
end Mi
namespace Mi
open PySem L2 PySem.SeqAt PySem.Spec PyProof.Rows
noncomputable def aA6:aa D->Res D
 |[.int n]=>if ϒ (-1000000<=n)&&ϒ (n<=1000000) then .ok (.lst ((bn n.toNat).map λ(k:ah)=>δ k)) else .bad
 |_=>.bad
section
variable [KFrag]
section
def aBw:∀(n:ah)(f:ah->af)(xs:aa ak),xs.length=n->(∀(j:ah)(v:ak),xs[j]?=ae v->∃t,v=.int (f j) t)->Vals ((bn n).map λ(k:ah)=>V.int (f k)) xs:=by
 intro n;induction n with
 |zero=>intro f xs hl _;cases xs with|nil=>exact .nil|cons _ _=>simp at hl
 |succ n ih=>
  intro f xs hl h;cases xs with
  |nil=>simp at hl
  |cons x xs=>
   rw[xl,ba,bp];exact .cons (h 0 x rfl) (ih (λk=>f (k+1)) xs (by simpa using hl) λj v hj=>h (j+1) v (by simpa using hj))
theorem aI9(hc:X.calm=ag):oW X (.type "list") (λvs H Q=>∃r n,vs=[.ref r]/\H r=ae (.rng 0 n)/\-1000000<=n/\n<=1000000/\∀q,H q=aj->Q (.ref q) (upd H q (.lst ((bn n.toNat).map λ(k:ah)=>V.int k)))):=by
 rintro Ψ s σ H vs us Q I vr ⟨r,n,e,er,h1,h2,q⟩;subst e;cases vr with
 |cons r1 vr=>
  cases vr;cases r1;obtain⟨t,u,v,hr⟩:=I.hok r _ er;have hn:zr 0 n 1=(n.toNat:af):=by rw[zt];split<;>lia
  refine call_list_range (I.ok.hd hc) hr (small_one 0x1 0x1 0x1 0x1) hn 0x1 λh' tk acc' c' hk hS' hacc=>?_
  have hfr:H s.heap.objs.size=aj:=I.hok.fresh (bd _);refine⟨.ref s.heap.objs.size,_,I.laid hk (bd _) ?_,rfl,q _ hfr⟩;refine⟨by rw[aS,ju,eS];lia,acc'.toList,c',aBw _ (λk=>(k:af)) _ (by simp[hacc.1]) λj v hj=>?_,by simpa using hS'⟩;obtain⟨t,ht⟩:=hacc.2 j v (by simpa using hj);exact⟨t,by rw[ht];congr 1;lia⟩
theorem CQ:∀(l:aa ah),cL P H (l.map λ(k:ah)=>V.int k) (l.map λ(k:ah)=>δ k)
 |[]=>.nil
 |n::l=>.cons (.int _) (CQ l)
def aIa(hc:X.calm=ag)(hg:Gl X "list")(hm:X.mg "list"=aj)(hg2:Gl X "range")(hm2:X.mg "range"=aj)(ha:PA X [a] (gA fs rr))(hs:dw [a] X.env=[(ai,cw a X.env)]:=by rfl) :
  PE X (.Call (.Name "list" p) [.Call (.Name "range" p2) [a] [] pos2] [] pos) (gE (aN aA6 fs) ag):=by
 have hr:PE X (.Call (.Name "range" p2) [a] [] pos2) (λσ H Q=>∃ρ n,ER H σ ρ/\fs ρ=.ok [.int n]/\∀H1 r,dO H H1->H1 r=aj->Q (.ref r) (upd H1 r (.rng 0 n))):=by
  rintro Ψ s σ H Q I ⟨ρ,n,E,h1,q⟩;refine jI (vJ I hg2 hm2 boot_range ?_);refine l9 (thn (ha pos2 Ψ s σ H (λvs H1=>dO H H1/\vs=[.int n]) I ⟨ρ,_,E,h1,λvs H1 s1 r1 _=>⟨s1,?_⟩⟩) λus s1 ⟨vs,H1,I1,r1,sm,e⟩=>?_) hs rfl
  .cases r1 with
   |cons r t=>cases t;cases r.inv;rfl
  .subst e;cases r1 with
   |cons r t=>
    cases t;obtain⟨t,rfl⟩:=r;have hfr:H1 s1.heap.objs.size=aj:=I1.hok.fresh (bd _);exact zu ⟨.ref s1.heap.objs.size,_,I1.laid (o:=.rng 0 n) (λb o e=>cg _ e) (bd _) ⟨_,_,_,dt _ rfl⟩,rfl,q H1 _ sm hfr⟩
 refine PE.imp (QR (aI9 hc) hg hm uV (nO hr vL)) λσ H Q ⟨ρ,d,E,h,q⟩=>?_
 obtain⟨xs,h1,h2⟩:=bJ h;unfold aA6 at h2;split at h2
 .rename_i n;split at h2
  .rename_i hb;rw[bj] at hb;cases h2;refine⟨ρ,n,E,h1,λH1 r s1 hr=>⟨r,n,rfl,aM,d6 hb.1,d6 hb.2,λq' hq'=>?_⟩⟩;have s2:=dO.upd (o:=.rng 0 n) hr;have s3:=dO.upd (o:=.lst ((bn n.toNat).map λ(k:ah)=>V.int k)) hq';exact q _ _ ((s1.trans s2).trans s3) (.lst aM trivial (CQ _)) λ_=>.lst aM ((s1.trans s2).free hq') (CQ _)
  .exact bx h2
 .exact bx h2
end
def aIb(ea:∀ob,H a=ae ob->aLw ob=ag)(b:am)(o:HO)(e:H b=ae o)(h:aLw o=ai):upd H a u b=ae o:=by
 rw[bB λz=>by rw[z] at e;rw[ea _ e] at h;cases h];exact e
def RL{P:am->Prop}(ea:∀ob,H a=ae ob->aLw ob=ag)(q:cL P H v d)(h:θ d=ag):cL P (upd H a u) v d:=q.Q7 (aIb ea) h
end
def aQz:D->D->Res D
 |.tup a,.tup b=>if ϒ (a.length+b.length<=lim) then .ok (.tup (a++b)) else .bad
 |_,_=>.bad
noncomputable def JN(c:FT)(body:FS):ah->aa D->Res Fl
 |0,_=>.bad
 |n+1,ρ=>do
  let k <- c ρ
  if k then (do
   let r <- body ρ
   match r with
   |.nx ρ'=>JN c body n ρ'
   |.ct ρ'=>JN c body n ρ'
   |.bk ρ'=>.ok (.nx ρ')
   |.rt d=>.ok (.rt d))
  else .ok (.nx ρ)
def aOv(c:FT)(body:FS):FS:=λρ=>JN c body 1000 ρ
section
variable [KFrag]
section
theorem aEk:OpR X (fE .Add) (r2 aQz ai):=by
 intro Ψ s σ H x y v u Q I rx ry h;obtain⟨a,b,d,p,q,e,k⟩:=h;unfold aQz at e;split at e
 .rename_i da db;split at e
  .rename_i hl;cases e;obtain⟨l1,xs1,rfl,e1,r1⟩:=p.inv;obtain⟨l2,xs2,rfl,e2,r2⟩:=q.inv;cases rx;cases ry;have hz:xs1.length+xs2.length<=bg:=by rw[r1.length,r2.length];exact vY hl
   obtain⟨its,w1,p1,_⟩:=I.tuple (.of e1);obtain⟨its2,w2,p2,_⟩:=I.tuple (.of e2);obtain⟨⟨cls,dd,data,sl⟩,ho,hc,n,hd⟩:=id p1;obtain⟨⟨cls2,dd2,nK,sl2⟩,ho2,hc2,n2,hd2⟩:=id p2;simp only at hc hd hc2 hd2;by_cases hv:its=[]
   .have:xs1=[]:=w1.zQ.mp hv;subst this;cases r1;refine vp ⟨_,ho,hc⟩ ⟨_,ho2,hc2⟩ vw vx vz vE (vF _ _)
     (tuple_addW0 l1 l2 its.toArray its2.toArray n n2 dd dd2 sl sl2 (by simp[hv])) ⟨by subst hc hd;exact ho,by subst hc2 hd2;exact ho2,.ref l2,H,I,rfl,?_⟩
    exact k.self (.tup e2 r2) (λz=>by cases z)
   .refine aLi Ψ s σ H (.ref l1) (.ref l2) _ _ Q I rfl rfl ⟨l1,l2,xs1,xs2,rfl,rfl,.of e1,.of e2,λz=>hv (w1.zQ.mpr z),hz,λz=>?_,λz p hp=>?_⟩
    .subst z;cases r2;rw[d4] at k;exact k.self (.tup e1 r1) (λz=>by cases z)
    .have sp:dO H (upd H p (.tup (xs1++xs2))):=dO.upd hp;exact k _ _ sp (.tup aM ((r1.append r2).same sp)) λz=>by cases z
  .exact bx e
 .exact bx e
def aA7(hp:k8 (av X.prog X.w) X.A X.env X.xe)(hc:PT X c (gT gc))(hb:PSs X body (tS own fb)):PS X (.While c body [] pos) (tS own (aOv gc fb)):=
 PS.imp (aHf hp hc hb) λD σ H z0=>by
 obtain⟨ρ,fl,E,h,q⟩:=z0;refine⟨λm σ' H'=>∃ρ' ,ES own H' σ' ρ'/\JN gc fb m ρ'=.ok fl/\kS own D σ' H' fl,⟨1000,ρ,E,h,q⟩,?_⟩;rintro m σ H ⟨ρ,E,h,q⟩;cases m with
 |zero=>exact bx h
 |succ m=>
  rw[JN] at h;obtain⟨k,h1,h2⟩:=bJ h;refine⟨ρ,k,E.er,h1,λH1 s=>?_⟩;cases k with
  |true=>
   rw[ao rfl];rw[ao rfl] at h2;obtain⟨r,h3,h4⟩:=bJ h2;refine⟨λσ' H'=>∃ρ',ES own H' σ' ρ'/\JN gc fb m ρ'=.ok fl/\kS own D σ' H' fl,λσ' H' w=>⟨m,kr m,w⟩,ρ,r,E.same s,h3,?_⟩;have q1:=q.step (.same s);cases r with
   |nx ρ'=>exact λσ' H' ku E'=>⟨ρ',E',h4,q1.step ku⟩
   |ct ρ'=>exact λσ' H' ku E'=>⟨ρ',E',h4,q1.step ku⟩
   |bk ρ'=>cases h4;exact λσ' H' ku E'=>q1 σ' H' ku E'
   |rt d=>cases h4;exact q1
  |false=>
   rw[ap 0x2];rw[ap 0x2] at h2;cases h2;exact(q.step (.same s)) σ H1 (λa o e n=>⟨e,n⟩) (E.same s)
end
section
def zK:upd (upd H a o) a o'=upd H a o':=by
 funext b
 by_cases h:b=a
 .subst h;rw[aM,aM]
 .rw[bB h,bB h,bB h]
end
def aR0(h:(dJ P w).is k v=ag):RelV (kV k) v:=by
 have h:VF k v=ag:=h;rcases eG h with ⟨i,t,rfl,rfl⟩|⟨x,t,rfl,rfl⟩
 .exact⟨t,rfl⟩
 .exact⟨t,rfl⟩
end
variable [KFrag]
section
variable {own:ah->aq}
noncomputable def rO(own:ah->aq)(i:ah):ah->aq:=λj=>own j&&!(j==i)
def oJ(h:rO own i j=ag):own j=ag/\j≠i:=by
 unfold rO at h;simpa using h
def Own.of(h:Own (rO own i) σ b):Own own σ b:=by
 obtain⟨j,hj,e⟩:=h;exact⟨j,(oJ hj).1,e⟩
end
end Mi
namespace Wz
open PySem PySem.Spec
def RM:xE table "dict.update.loop"=ae Builtin.«dict.update.loop»:=entryFor_of_tree 0x8
end Wz
namespace Mi
open PySem L2 PySem.SeqAt PySem.Spec PyProof.Rows
section
variable [KFrag]
theorem aIc:eM "dict"=ae (.type "dict"):=0x6
theorem aA8(r:Rep P H v d):∀{kvs:aa (Key×V)}{ds:aa (D×D)},oV P H kvs ds->(kvs.map (·.1)).Nodup->oV P H (putK kvs k v) (putD ds (kD k) d)
 |_,_,.nil,_=>.cons r .nil
 |_,_,.cons (k:=k') r' t,hn=>by
  rw[ba,df] at hn;rw[putD,aE8];by_cases h:k'=k
  .rw[LK h (by rw[<-h];exact hn.1),ao (bz h),h];exact .cons r t
  .rw[LQ h,ap (by simpa using h)];exact .cons r' (aA8 r t hn.2)
end
noncomputable def aMj(i j:ah):FS:=λρ=>match ρ.getD i .uD with
 |.lst xs=>(match xs[xs.length-1]? with|some x=>.ok (.nx ((ρ.set i (.lst xs.dropLast)).set j x))|none=>.bad)
 |_=>.bad
def aSu(i:ah)(f:FE):FS:=λρ=>do
 let d <- f ρ
 match ρ.getD i .uD,d with
 |.lst xs,.lst ys=>if ϒ (xs.length+ys.length<=lim)&&θ ys then .ok (.nx (ρ.set i (.lst (xs++ys)))) else .bad
 |_,_=>.bad
noncomputable def aOw:aa D->Res D
 |[.bl b]=>.ok (.int (if b then 1 else 0))
 |[.int i]=>.ok (.int i)
 |_=>.bad
section
variable [KFrag]
def W9{X:Cx}:oW X (.type "int") (rs aOw ag):=by
 rintro Ψ s σ H xs us Q I vr ⟨ds,d,r,e,k⟩;unfold aOw at e;split at e
 .cases e;obtain⟨vv,uu,rfl,rfl,r,v⟩:=mJ r vr;cases r.inv;cases v;exact call_int_bool ⟨.int _,H,I.tok _,⟨_,rfl⟩,k.int⟩
 .cases e;obtain⟨vv,uu,rfl,rfl,r,v⟩:=mJ r vr;cases r.inv;obtain⟨t,rfl⟩:=v;exact call_int_int ⟨.int _,H,I,⟨_,rfl⟩,k.int⟩
 .exact bx e
section
variable {X:Cx} {own:ah->aq} {e:Expr} {fe:FE} {re:aq} {pos:c9}
def aMk{i j:ah}{x y:Str}{p1 py apos cpos:c9}(ho:own i=ag)(hN:X.N[i]?=ae x)(hv:Vis X.env.scope x)(hnd:X.N.Nodup)(hj:X.N[j]?=ae y)(hy:Loc X.env.scope y)(hoj:own j=ai)(hd:nDb x:=by decide)(hcd:nCd x:=by decide)
 (hbase:ji (.Name x p1) "pop" X.env (cw (.Name x p1) X.env)=cw (.Name x p1) X.env:=by rfl)
 (hline:(apos.endLine==cpos.line)=ag:=by rfl)
 (hs:fq (.Call (.Attribute (.Name x p1) "pop" apos) [] [] cpos) (ae (.Name y py)) pos.line X.env=pure ai:=by rfl)(hf:zFn X y:=by first|exact .inl rfl|exact .inr rfl|assumption) :
  PS X (.Assign [.Name y py] (.Call (.Attribute (.Name x p1) "pop" apos) [] [] cpos) pos) (tS own (aMj i j)):=
 PS.imp (Y4 hnd hj hy (aPw nh Ak PySem.F.type_list_pop aPy (m9 hN hv hd hcd) hbase hline) hs hf) λD' σ H z0=>by
 obtain⟨ρ,fl,E,h,q⟩:=z0;unfold aMj at h;split at h
 .rename_i xs hx;split at h
  .rename_i dx hdx;cases h;obtain⟨a,o,hσ,r,hin,ha,hm⟩:=E.ownAt ho (by rw[hx];intro z;cases z);rw[hx] at r hin;obtain⟨vs,hl,rr⟩:=CJ r;obtain⟨v,hvx,rv⟩:=rr.get hdx;have hlen:=rr.length;refine⟨_,hσ,.inl ⟨rfl,vs,.of hl⟩,a,vs,v,rfl,rfl,hl,by rw[hlen];exact hvx,?_⟩;have hin':θ xs=ag:=hin;have pall:∀y∈xs,y.pure=ag:=λy hy=>kZ.mp hin' y hy
   have pdx:dx.pure=ag:=pall dx (nI hdx);have pe:θ xs.dropLast=ag:=kZ.mpr λy hy=>pall y (List.dropLast_subset _ hy)
   have er:cL All H vs.dropLast xs.dropLast:=by
    rw[Ca,Ca,hlen];exact rr.take _
   obtain⟨E2,k2⟩:=E.mut (o:=.lst vs.dropLast) (d:=.lst xs.dropLast) ho hσ rfl (.lst aM trivial (er.upd pe hl rfl)) pe;have r1:=(cL.cons rv .nil).upd (o:=.lst vs.dropLast) (by rw[θ,pdx];rfl) hl rfl;cases r1 with
   |cons r1 _=>
    have E3:=E2.set hoj (v:=v) (d:=dx) (r1.cU pdx);exact q _ _ (k2.trans λb ob eb nb=>⟨eb,by rw[uU hoj];exact nb⟩) E3
  .exact bx h
 .exact bx h
def aR1{i:ah}{x:Str}{p1 apos cpos:c9}(ho:own i=ag)(hN:X.N[i]?=ae x)(hv:Vis X.env.scope x)(he:PE X e (gE fe re))(hd:nDb x:=by decide)(hcd:nCd x:=by decide)
 (hbase:ji (.Name x p1) "extend" X.env (cw (.Name x p1) X.env)=cw (.Name x p1) X.env:=by rfl)
 (hs1:zSE X e []:=by rfl)
 (hfew:zFw X cpos [e]:=by rfl)
 (hline:(apos.endLine==cpos.line)=ag:=by rfl)
 (hs:fq (.Call (.Attribute (.Name x p1) "extend" apos) [e] [] cpos) aj pos.line X.env=pure ai:=by rfl) :
  PS X (.Expr (.Call (.Attribute (.Name x p1) "extend" apos) [e] [] cpos) pos) (tS own (aSu i fe)):=
 PS.imp (zM (aBd nh sC Cb aDc (m9 hN hv hd hcd) (nO he vL hs1) hbase hfew hline hs1 rfl) hs) λD' σ H z0=>by
 obtain⟨ρ,fl,E,h,q⟩:=z0;obtain⟨d,h1,h2⟩:=bJ h;split at h2
 .rename_i xs ys hx;split at h2
  .rename_i hk;cases h2;rw[bj,eB] at hk;obtain⟨a,o,hσ,r,hin,ha,hm⟩:=E.ownAt ho (by rw[hx];intro z;cases z);rw[hx] at r hin;obtain⟨vs,hl,rr⟩:=CJ r;refine⟨_,hσ,.inl ⟨rfl,vs,.of hl⟩,ρ,_,E.er,h1,λv H' s rv _=>?_⟩;obtain⟨b,zs,rfl,hb,_,rz⟩:=rv.inv;have E':=E.same s;have hl':=s _ _ hl;refine⟨a,b,vs,zs,rfl,rfl,hl',hb,by rw[rr.length,rz.length];exact dj hk.1 (by rw[eS];decide),?_⟩;have hp:θ (xs++ys)=ag:=by rw[v8,bj];exact⟨hin,hk.2⟩
   obtain⟨E2,k2⟩:=E'.mut (o:=.lst (vs++zs)) (d:=.lst (xs++ys)) ho hσ rfl (.lst aM trivial (((rr.same s).append rz).upd hp hl' rfl)) hp;exact q _ _ ((KU.same s).trans k2) E2
  .exact bx h2
 .exact bx h2
end
section
variable {own:ah->aq} {a e:Expr}
def aTw(E:ES own H σ ρ)(ho:own i=ai)(h:fZ i ρ=.ok d):∃v,σ[i]?=ae (ae v)/\Rep (λa=>¬Own own σ a) H v d:=by
 obtain⟨v,hv,r,e⟩:=E.er.var h;have hne:ρ.getD i .uD≠.uD:=λz=>by
  rw[z] at e;subst e;exact Rep.uD r
 obtain⟨w,hw,hr⟩:=E.at_ i hne;rw[hv] at hw;cases hw;have r2:=hr ho;rw[e] at r2;exact⟨v,hv,r2⟩
end
section
variable {X:Cx} {a e:Expr}
def tV{a:am}{vs:aa V}(I:Inv X Ψ σ H s)(e:H a=ae (.lst vs)):∃o,Inv X Ψ σ (upd H a (.frz o (.lst vs))) s:=by
 obtain⟨its,n,r,ho,hz⟩:=I.lst e;refine⟨_,I.write (by rw[e];trivial) (.inl rfl) (λ_ _ _ q=>q) ⟨_,ho⟩ ⟨ho,hz,its,n,r,ho⟩⟩
end
end
def aEm(i:ah)(t:D->aa D->Res (aa D))(body:FS):FS:=λρ=>do
 let d <- fZ i ρ
 match d with
 |.scr xs=>vR t body xs ρ
 |_=>.bad
section
variable [KFrag]
section
def aR2{i:ah}(hK:KFrag.K=X.K)(hN:X.N[i]?=ae x)(hv:Vis X.env.scope x)(hd:nDb x:=by decide)(hcd:nCd x:=by decide) :
  PI X tg (.Name x pos) (λσ H R=>∃v items,σ[i]?=ae (ae v)/\Rep All H v (.scr items)/\∀J,(∀P:am->Prop,Rep P H v (.scr items)->ItQ X.K P J H items)->R J H):=by
 rintro Ψ s σ H R I ⟨v,items,hσ,r,q⟩;refine thn (m9 hN hv hd hcd Ψ s σ H (λw H1=>w=v/\H1=H) I ⟨v,hσ,rfl,rfl⟩) λu s1 ⟨w,H1,I1,ru,e1,e2⟩=>?_
 subst e1 e2;obtain⟨a,xs,rfl,ee,rr⟩:=r.inv;cases ru;obtain⟨its,rv,p,hz⟩:=I1.list (ee.sq hK);refine lT p.isList ?_;refine⟨s1.heap.objs.size,[s1.heap.objs.size],_,_,H1,rfl,I1.kept λb o e=>cg _ e,zN a _,⟨_,dt _ rfl,rfl,rfl⟩,λb hb=>?_,q _ λP r=>.scr a hK rfl r⟩;have e:b=s1.heap.objs.size:=by simpa using hb
 subst e;exact I1.aL7 (bd _) (I1.hok.fresh (bd _))
def aEn(hK:KFrag.K=X.K)(ho:own i=ai)(hp:k8 (av X.prog X.w) X.A X.env X.xe)(hc:X.calm=ag)(hN:X.N[i]?=ae x)(hv:Vis X.env.scope x)(ht:TgS own g t)(hg:PG X tg g)(hb:PSs X body (tS own fb))
 (hs:∀z,fg (.Name x px) X.env z=pure z:=by intro _;rfl)(hd:nDb x:=by decide)(hcd:nCd x:=by decide):PS X (.For tg (.Name x px) body [] pos) (tS own (aEm i t fb)):=PS.imp (QH hp hc (aR2 hK hN hv hd hcd) hg hb hs) λD' σ H z0=>by
 obtain⟨ρ,fl,E,h,q⟩:=z0;obtain⟨d,h1,h⟩:=bJ h;split at h
 .rename_i items;obtain⟨v,hv,r⟩:=aTw E ho h1;exact⟨v,items,hv,r.all,λJ hJ=>L_ ht E (hJ _ r) h q⟩
 .exact bx h
end
end
theorem W_:eM "reversed"=ae (.type "reversed"):=0x6
variable [KFrag]
def cL.rev{P:am->Prop}{H:Hp}:∀{vs:aa V}{ds:aa D},cL P H vs ds->cL P H vs.reverse ds.reverse
 |_,_,.nil=>.nil
 |_,_,.cons r t=>by rw[uf,uf];exact t.rev.snoc r
def aEo{ds:aa D}(h:θ ds=ag):θ ds.reverse=ag:=kZ.mpr λy hy=>kZ.mp h y (List.mem_reverse.mp hy)
theorem aIe{xs:aa V}{its acc:aa ak}(r:Vals xs its)(hl:acc.length=its.length)(h:∀j v,acc[j]?=ae v->its[its.length-1-j]?=ae v):Vals xs.reverse acc:=by
 have e:acc=its.reverse:=by
  refine Cc λj=>?_
  by_cases hj:j<its.length
  .have h1:acc[j]?=ae (acc[j]' 0x1):=eg 0x1;have h2:=h j _ h1;rw[h1,List.getElem?_reverse hj,h2]
  .rw[ug 0x1,ug (by rw[xI];lia)]
 rw[e];clear e h hl;induction r with
 |nil=>exact .nil
 |cons h t ih=>
  rw[uf,uf];exact ih.append (.cons h .nil)
end Mi
namespace Wl
open PySem PySem.Spec
noncomputable abbrev liO(xs:ax ak)(n:ah)(sl:ax (az ak):=#[]):bP:={cls:=.type "list",data:=.seq xs n,slots:=sl}
def aEp:mr (.type "list") "keys"=pure aj:=by rw[ni,nj];kernel_rfl
def noGet:mr (.type "list") "__getattr__"=pure aj:=by rw[ni,nj];kernel_rfl
theorem aEq:xE table "list.__getattribute__"=ae Builtin.«object.__getattribute__»:=Cd (id':= "object.__getattribute__") 0x8 0x6 0x6 0x8
theorem u0(a:am)(xs:ax ak)(n:ah)(sl:ax (az ak))(u:fN):lP (Builtin.«object.__getattribute__» ⟨[.ref a,.str "keys" u],[]⟩) (λA R s=>s.heap.get? a=ae (liO xs n sl)/\raisesAttr (.ref a) "keys" A R s):=.of_wp λprog w A R s hs=>by
 obtain⟨hp,g,d,tk,os⟩:=s;obtain⟨e,hh,q⟩:=hs;have ty:(⟨hp,g,d,tk,os⟩:au).TypeIs (.ref a) "list":=⟨_,e,rfl⟩
 have no:=aEp
 wp_walk
 exact Ce hh q (Cf 0x6 (by size_fits))
section
variable {prog:cb} {w:br} {A:cu} {E:ak->au->Prop} {hp:bm} {g:ax uh} {d:ui} {tk:ah} {os:uj} {a:am} {xs:ax ak} {n:ah} {sl:ax (az ak)}
def gone(e:hp.get? a=ae (liO xs n sl))(hh:A.handled=aj)(hk:kw=[])(q:∀h' tk' x,Cg hp h' x (.ref a) "keys"->E (.ref x) ⟨h',g,d,tk',os⟩) :
  ϑ (av prog w) A (call (.builtin "list.__getattribute__") ([.ref a]++[.str "keys" u]) kw) Q E ⟨hp,g,d,tk,os⟩:=by
 subst hk;exact kj xL ⟨_,e,rfl⟩ aEq (F.args_list_getattribute_2 _ _) (u0 a xs n sl u) ⟨e,hh,λh' tk' x hx=>q h' tk' x hx⟩
def lacks(e:hp.get? a=ae (liO xs n sl))(hh:A.handled=aj)(q:∀h' tk',(∀b o,hp.get? b=ae o->h'.get? b=ae o)->Q aj ⟨h',g,d,tk',os⟩):ϑ (av prog w) A (xS (.ref a) "keys") Q E ⟨hp,g,d,tk,os⟩:=by
 have ty:∀tk',(⟨hp,g,d,tk',os⟩:au).TypeIs (.ref a) "list":=λ_=>⟨_,e,rfl⟩
 have f3:=xL.lookup;have f4:=xL.bind (.ref a);have f5:=noGet;have sub:=Ci
 wp_walk using gone e hh
 case hk=>rfl
 intro h' tk' x hx;obtain⟨t,u,ex⟩:=hx.there;show ϑ _ _ (Cj _ _ _ _ _ _ _) _ _ _
 wp_walk
 exact q _ _ hx.keeps
end
def aKc{h:bm}(e:h.get? c=ae o)(hc:o.cls=.type T)(ed:h.get? d=ae od)(hd:od.cls=.type U)(ne:(jf T==jf U)=ai):c≠d:=λq=>by
 subst q;rw[e] at ed;cases ed;rw[hc] at hd;rw[hd] at ne;simp at ne
def Prs{prog:cb}{w:br}{K:Type}[fF K](knd:KeyKind prog w K)(items:ax ak)(ps:aa (K×ak))(h:bm):Prop:=items.size=ps.length/\∀(i:ah)(kv:K×ak),ps[i]?=ae kv->∃(p:am)(x:ak)(o:bP)(n:ah),items[i]?=ae (fR p)/\h.get? p=ae o/\o.cls=.type "tuple"/\o.data=.seq #[x,kv.2] n/\knd.is kv.1 x=ag
def Prs.keep[fF K]{knd:KeyKind prog w K}{ps:aa (K×ak)}{h h':bm}(x:Prs knd items ps h)(k:∀c o,o.cls=.type "tuple"->h.get? c=ae o->h'.get? c=ae o):Prs knd items ps h':=
 ⟨x.1,λi kv e=>let ⟨p,v,o,n,h1,h2,h3,h4,h5⟩:=x.2 i kv e;⟨p,v,o,n,h1,k p o h3 h2,h3,h4,h5⟩⟩
end Wl
namespace Wt
open PySem PySem.Spec Wl
noncomputable abbrev tpO(xs:ax ak)(n:ah)(sl:ax (az ak)):bP:={cls:=.type "tuple",data:=.seq xs n,slots:=sl}
def aEp:mr (.type "tuple") "keys"=pure aj:=by rw[ni,nj];kernel_rfl
def noGet:mr (.type "tuple") "__getattr__"=pure aj:=by rw[ni,nj];kernel_rfl
theorem aEq:xE table "tuple.__getattribute__"=ae Builtin.«object.__getattribute__»:=Cd (id':= "object.__getattribute__") 0x8 0x6 0x6 0x8
theorem u0(a:am)(xs:ax ak)(n:ah)(sl:ax (az ak))(u:fN):lP (Builtin.«object.__getattribute__» ⟨[.ref a,.str "keys" u],[]⟩) (λA R s=>s.heap.get? a=ae (tpO xs n sl)/\raisesAttr (.ref a) "keys" A R s):=.of_wp λprog w A R s hs=>by
 obtain⟨hp,g,d,tk,os⟩:=s;obtain⟨e,hh,q⟩:=hs;have ty:(⟨hp,g,d,tk,os⟩:au).TypeIs (.ref a) "tuple":=⟨_,e,rfl⟩
 have no:=aEp
 wp_walk
 exact Ce hh q (Cf 0x6 (by size_fits))
section
variable {prog:cb} {w:br} {A:cu} {E:ak->au->Prop} {hp:bm} {g:ax uh} {d:ui} {tk:ah} {os:uj} {a:am} {xs:ax ak} {n:ah} {sl:ax (az ak)}
def gone(e:hp.get? a=ae (tpO xs n sl))(hh:A.handled=aj)(hk:kw=[])(q:∀h' tk' x,Cg hp h' x (.ref a) "keys"->E (.ref x) ⟨h',g,d,tk',os⟩) :
  ϑ (av prog w) A (call (.builtin "tuple.__getattribute__") ([.ref a]++[.str "keys" u]) kw) Q E ⟨hp,g,d,tk,os⟩:=by
 subst hk;exact kj ya ⟨_,e,rfl⟩ aEq (F.args_tuple_getattribute_2 _ _) (u0 a xs n sl u) ⟨e,hh,λh' tk' x hx=>q h' tk' x hx⟩
def lacks(e:hp.get? a=ae (tpO xs n sl))(hh:A.handled=aj)(q:∀h' tk',(∀b o,hp.get? b=ae o->h'.get? b=ae o)->Q aj ⟨h',g,d,tk',os⟩):ϑ (av prog w) A (xS (.ref a) "keys") Q E ⟨hp,g,d,tk,os⟩:=by
 have ty:∀tk',(⟨hp,g,d,tk',os⟩:au).TypeIs (.ref a) "tuple":=λ_=>⟨_,e,rfl⟩
 have f3:=ya.lookup;have f4:=ya.bind (.ref a);have f5:=noGet;have sub:=Ci
 wp_walk using gone e hh
 case hk=>rfl
 intro h' tk' x hx;obtain⟨t,u,ex⟩:=hx.there;show ϑ _ _ (Cj _ _ _ _ _ _ _) _ _ _
 wp_walk
 exact q _ _ hx.keeps
end
end Wt
namespace Wl
open PySem PySem.Spec
section
variable {prog:cb} {w:br} {A:cu} {E:ak->au->Prop} {hp:bm} {g:ax uh} {d:ui} {tk:ah} {os:uj} {a:am} {xs:ax ak} {n:ah} {sl:ax (az ak)}
noncomputable def tyN:aq->en
 |true=>"list"
 |false=>"tuple"
abbrev sqO(b:aq)(xs:ax ak)(n:ah)(sl:ax (az ak)):bP:={cls:=.type (tyN b),data:=.seq xs n,slots:=sl}
def aKd:aq->bm->am->am->ah->Prop
 |true,h,it,l,k=>h.IsListIter it l k
 |false,h,it,l,k=>h.IsTupleIter it l k
def aR3(z:aKd b h it l k)(e:h.get? c=ae o)(hc:o.cls=.type "tuple"):c≠it:=by
 cases b<;>exact let ⟨oi,ei,ci,_⟩:=z;aKc e hc ei ci 0x4
def aMl(z:aKd b h it l k)(e:h'.get? it=h.get? it):aKd b h' it l k:=by
 cases b<;>exact let ⟨oi,ei,r⟩:=z;⟨oi,e.trans ei,r⟩
def aR4(e:hp.get? a=ae (sqO b xs n sl))(hh:A.handled=aj)(q:∀h' tk',(∀b o,hp.get? b=ae o->h'.get? b=ae o)->Q aj ⟨h',g,d,tk',os⟩):ϑ (av prog w) A (xS (.ref a) "keys") Q E ⟨hp,g,d,tk,os⟩:=by
 cases b
 .exact Wt.lacks e hh q
 .exact lacks e hh q
end
section
variable {prog:cb} {w:br} {A:cu} {E:ak->au->Prop} {s:au} {it l:am} {items:ax ak} {nl k:ah} {sl:ax (az ak)}
def aMm{Q:az ak->au->Prop}(z:aKd b s.heap it l k)(el:s.heap.get? l=ae (sqO b items nl sl))(hx:items[k]?=ae x)(hQ:∀h',aKd b h' it l (k+1)->l8 it s.heap h'->Q (ae x) {s with heap:=h'}):ϑ (av prog w) A (gr (.ref it)) Q E s:=by
 cases b
 .exact zm z ⟨_,el,rfl,_,rfl⟩ hx hQ
 .exact zk z ⟨_,el,rfl,_,rfl⟩ hx hQ
def aR5{Q:az ak->au->Prop}(hh:A.handled=aj)(z:aKd b s.heap it l k)(el:s.heap.get? l=ae (sqO b items nl sl))(hx:items[k]?=aj)(hQ:∀h',Ck it s.heap h'->Q aj {s with heap:=h'}):ϑ (av prog w) A (gr (.ref it)) Q E s:=by
 cases b
 .exact zn hh z ⟨_,el,rfl,_,rfl⟩ hx hQ
 .exact zl hh z ⟨_,el,rfl,_,rfl⟩ hx hQ
def aTx{Q:ak->au->Prop}(el:s.heap.get? l=ae (sqO b items nl sl))(hQ:∀oi,aKd b (s.heap.push oi) s.heap.objs.size l 0->Q (.ref s.heap.objs.size) {s with heap:=s.heap.push oi}):ϑ (av prog w) A (gX (.ref l)) Q E s:=by
 cases b
 .exact uc ⟨_,el,rfl,_,rfl⟩ (hQ _ ⟨_,dt _ rfl,rfl,rfl⟩)
 .exact lT ⟨_,el,rfl,_,rfl⟩ (hQ _ ⟨_,dt _ rfl,rfl,rfl⟩)
end
section
variable {prog:cb} {w:br} {K:Type} [fF K] {knd:KeyKind prog w K} {A:cu} {R:Except ak Flow->au->Prop} {it l d:am} {items:ax ak} {ps:aa (K×ak)} {nl:ah} {sl:ax (az ak)}
theorem aIf(hh:A.handled=aj)(hdi:d≠it)(hdl:d≠l)(hil:l≠it) :
  ∀(m k:ah)(s:au)(kvs:aa (K×ak)),k+m=items.size->kvs.length+m<=bg->aKd b s.heap it l k->s.heap.get? l=ae (sqO b items nl sl)->Prs knd items ps s.heap->s.heap.DictOf knd d kvs->
  (∀h' tk,h'.DictOf knd d (sD kvs (ps.drop k))->(∀c o,c≠d->c≠it->s.heap.get? c=ae o->h'.get? c=ae o)->R (.ok (.ret .none)) {s with heap:=h',toks:=tk})->
  codeAny (av prog w) A (.builtin "dict.update.loop" ⟨[.ref d,.ref it,iz k,.none],[]⟩) R s:=by
 intro m;induction m with
 |zero=>
  intro k s kvs hkm hl Z el Pp hd q;refine ii Wz.RM ?_;rw[il (show plainId "dict.update.loop"=ag by decide +kernel) _];refine aw (aR5 hh Z el (yb 0x1) λh' kp=>?_);refine aw ?_;unfold D0;rw[xh];refine aw (bf (bf (bf ?_)));have e:ps.drop k=[]:=oQ (by have:=Pp.1;lia);rw[e] at q;obtain⟨o,es,ep,ho,r⟩:=hd;exact q _ s.toks ⟨o,es,ep,kp d o hdi ho,r⟩ λc o _ c1 e=>kp c o c1 e
 |succ m ih=>
  intro k s kvs hkm hl Z el Pp hd q;have hlp:k<ps.length:=by have:=Pp.1;lia
  obtain⟨p,x,o,n,hi,hp,hpc,hpd,his⟩:=Pp.2 k ps[k] (eg hlp);have hpi:p≠it:=aR3 Z hp hpc;refine ii Wz.RM ?_;rw[il (show plainId "dict.update.loop"=ag by decide +kernel) _];refine aw (aMm Z el hi λh' Z' kp=>?_);have hp':h'.get? p=ae o:=(kp.2 p hpi).trans hp;refine aw (ic (aw (jq ?_)));refine aw (sy ⟨_,hp',hpc⟩ ?_);rw[ao 0x4];refine aw (kz hp' hpd (bf ?_));show ϑ _ _ (vh [x,ps[k].2] (dictSet d x ps[k].2)) _ _ _;have hd':h'.DictOf knd d kvs:=let ⟨o,es,ep,ho,r⟩:=hd;⟨o,es,ep,(kp.2 d hdi).trans ho,r⟩
  obtain⟨od,es,ep,ho,hc,_⟩:=id hd';refine ic (Cm his hd' (λh2 hd2' sb=>?_) 0x1);refine bf ⟨yc _ 0x6,?_⟩;have ek:(iz (k+1):ak)=iz ((k+1:ah):af):=rfl;rw[ek];have hdrop:ps.drop k=ps[k]::ps.drop (k+1):=ie hlp;have ls:(mz kvs ps[k].1 ps[k].2).length<=kvs.length+1:=by
   unfold mz;split
   .rw[aS];lia
   .rw[cx];exact bd _
  have keep:∀c o,c≠d->c≠it->s.heap.get? c=ae o->h2.get? c=ae o:=λc o c0 c1 e=>(sb.2 c c0).trans ((kp.2 c c1).trans e)
  have hdc:∀c (oc:bP),oc.cls=.type "tuple"->s.heap.get? c=ae oc->c≠d/\c≠it:=λc oc hoc e=>⟨let ⟨o1,_,_,e1,c1,_⟩:=hd;aKc e hoc e1 c1.1 0x4,aR3 Z e hoc⟩
  refine ih (k+1) _ (mz kvs ps[k].1 ps[k].2) 0x1 0x1 (aMl Z' (sb.2 it (Ne.symm hdi))) (keep l _ (Ne.symm hdl) hil el) (Pp.keep λc oc hoc e=>keep c oc (hdc c oc hoc e).1 (hdc c oc hoc e).2 e) hd2' λh3 tk hd3 kp3=>?_
  exact q h3 tk (by rw[hdrop];exact hd3) λc o c0 c1 e=>kp3 c o c0 c1 (keep c o c0 c1 e)
end
section
variable {prog:cb} {w:br} {K:Type} [fF K] {knd:KeyKind prog w K} {A:cu} {E:ak->au->Prop} {hp:bm} {g:ax uh} {dr:ui} {tk:ah} {os:uj} {l:am} {items:ax ak} {ps:aa (K×ak)} {nl:ah} {sl:ax (az ak)}
theorem aIg(hh:A.handled=aj)(el:hp.get? l=ae (sqO b items nl sl))(Pp:Prs knd items ps hp)(hz:items.size<=1000000)
 (q:∀h' tk',h'.DictOf knd hp.objs.size (sD [] ps)->(∀c o,hp.get? c=ae o->h'.get? c=ae o)->Q (.ref hp.objs.size) ⟨h',g,dr,tk',os⟩) :
  ϑ (av prog w) A (call (.type "dict") [.ref l]) Q E ⟨hp,g,dr,tk,os⟩:=by
 have hnew:(hp.push {cls:=.type "dict",data:=.dict #[]}).DictOf knd hp.objs.size []:=Ao hp;have up:∀c o,hp.get? c=ae o->(hp.push {cls:=.type "dict",data:=.dict #[]}).get? c=ae o:=λc o e=>cg _ e
 have lt:∀{c o},hp.get? c=ae o->hp.objs.size≠c:=λe=>jz (bE e)
 refine Co (Q₁:=λv s₁=>v=.ref hp.objs.size/\s₁=⟨hp.push {cls:=.type "dict",data:=.dict #[]},g,dr,tk,os⟩) F.kt_called_dict (F.kt_typeCall_dict_1 _) F.entry_dict_init (kt_code_dict_new _ ⟨rfl,rfl⟩) λv s₁ hv=>?_
 obtain⟨rfl,rfl⟩:=hv;have ty:(⟨hp.push {cls:=.type "dict",data:=.dict #[]},g,dr,tk,os⟩:au).TypeIs (.ref hp.objs.size) "dict":=hnew.typeIs;have ez:=up _ _ el;have tz:(⟨hp.push {cls:=.type "dict",data:=.dict #[]},g,dr,tk,os⟩:au).TypeIs (.ref l) (tyN b):=⟨_,ez,rfl⟩
 refine⟨ty,F.args_dict_init_2 _ _,aw (aw (Cp ty (bf ?_)))⟩;refine aw (sy tz ?_);rw[ao (by cases b<;>decide)];refine aw (aR4 ez hh λh' tk' kp=>?_);rw[ao (show(aj:az ak).isNone=ag from rfl)];refine aw (ko (aw (aTx (kp _ _ ez) λoi z0=>bf ⟨yc _ 0x6,?_⟩)));have hd':h'.DictOf knd hp.objs.size []:=let ⟨o,es,ep,ho,r⟩:=hnew;⟨o,es,ep,kp _ _ ho,r⟩
 have ltd:hp.objs.size<h'.objs.size:=let ⟨o,es,ep,ho,r⟩:=hd';bE ho
 have ltl:l<h'.objs.size:=bE (kp _ _ ez);refine aIf (ps:=ps) (it:=h'.objs.size) (l:=l) (items:=items) (nl:=nl) (sl:=sl) (show A.in1.handled=aj from hh) (de ltd) (lt el) (de ltl) items.size 0 _ [] 0x1 (by rw[eW,eS];lia) z0 (cg _ (kp _ _ ez)) (Pp.keep λc o _ e=>cg _ (kp c o (up c o e))) (let ⟨o,es,ep,ho,r⟩:=hd';⟨o,es,ep,cg _ ho,r⟩) λh2 tk2 hd2 kp2=>?_
 exact⟨rfl,q h2 tk2 hd2 λc o e=>kp2 c o (λx=>lt e x.symm) (de (bE (kp c o (up c o e)))) (cg _ (kp c o (up c o e)))⟩
end
end Wl
namespace Mi
open PySem L2 PySem.SeqAt PySem.Spec PyProof.Rows
def oK:aa D->az (aa (D×D))
 |[]=>ae []
 |.tup [k,v]::r=>if oZ k&&v.pure then (oK r).map ((k,v)::·) else aj
 |_::_=>aj
def cG(kvs:aa (D×D))(more:aa (D×D)):aa (D×D):=more.foldl (λacc p=>putD acc p.1 p.2) kvs
def JP:D->Res D
 |.lst xs=>match oK xs with
  |some ps=>if ϒ (xs.length<=1000) then .ok (.dct (cG [] ps)) else .bad
  |none=>.bad
 |_=>.bad
section
variable [KFrag]
theorem aA9(I:Inv X Ψ σ H s):∀{xs:aa D}{vs:aa V}{us:aa ak}{ps:aa (D×D)},cL All H vs xs->Vals vs us->oK xs=ae ps->
  ∃(kvs:aa (Key×V))(prs:aa (Key×ak)),KV kvs prs/\oV All H kvs ps/\θ (ps.map (·.2))=ag/\us.length=prs.length/\∀(i:ah)(kv:Key×ak),prs[i]?=ae kv->∃(p:am)(x:ak)(o:bP)(n:ah),us[i]?=ae (fR p)/\s.heap.get? p=ae o/\o.cls=.type "tuple"/\o.data=.seq #[x,kv.2] n/\(dJ X.prog X.w).is kv.1 x=ag
 |[],_,_,_,.nil,.nil,h=>by
  cases h;exact⟨[],[],.nil,.nil,rfl,rfl,λi kv h=>by simp at h⟩
 |d::xs,_,_,ps,.cons r t,.cons rv tv,h=>by
  unfold oK at h;split at h
  .rename_i h0;cases h0
  .rename_i k v r' h0;injection h0 with h0 h1
   subst h0 h1;split at h
   .rename_i hf;rw[bj] at hf;obtain⟨ps',hp,rfl⟩:=nS.mp h;obtain⟨kvs,prs,g1,g2,g3,g4,g5⟩:=aA9 I t tv hp;obtain⟨a,ws,rfl,ea,rr⟩:=r.iZ;cases rv;obtain⟨its,rvs,o,ho,hc,n,hd⟩:=jJ I ea;cases rr with
    |cons rk rr=>
     cases rr with
     |cons rw_ rr=>
      cases rr;cases rvs with
      |cons q1 rvs=>
       cases rvs with
       |cons q2 rvs=>
        cases rvs;rename_i wk ww uk uw;obtain⟨key,hk1,hk2⟩:∃key:Key,kD key=k/\(dJ X.prog X.w).is key uk=ag:=by
         cases rk with
         |int i=>exact⟨.inl i,rfl,zT q1⟩
         |str x=>exact⟨.inr x,rfl,zT q1⟩
         |_=>cases hf.1
        subst hk1;refine⟨(key,ww)::kvs,(key,uw)::prs,.cons ⟨rfl,q2⟩ g1,.cons rw_ g2,by rw[ba,θ,hf.2,g3];rfl,by rw[b9,b9,g4],λi kv hi=>?_⟩;cases i with
        |zero=>
         simp at hi;subst hi;exact⟨a,uk,o,n,rfl,ho,hc,hd,hk2⟩
        |succ i=>
         obtain⟨p,x,o',n',z1,z2⟩:=g5 i kv (by simpa using hi);exact⟨p,x,o',n',by simpa using z1,z2⟩
   .cases h
  .cases h
theorem JQ:∀{more:aa (Key×V)}{ds:aa (D×D)}{kvs:aa (Key×V)}{es:aa (D×D)},oV P H more ds->oV P H kvs es->(kvs.map (·.1)).Nodup->oV P H (jC kvs more) (cG es ds)/\((jC kvs more).map (·.1)).Nodup
 |_,_,_,_,.nil,r,n=>⟨r,n⟩
 |_,_,_,_,.cons (k:=k) rv t,r,n=>by have:=JQ t (aA8 (k:=k) rv r n) (oF n);exact this
theorem yD:∀{ds es:aa (D×D)},θ (ds.map (·.2))=ag->θ (es.map (·.2))=ag->θ ((cG es ds).map (·.2))=ag
 |[],_,_,h=>h
 | (k,v)::ds,es,h,h2=>by
  rw[ba,θ,bj] at h;exact yD (ds:=ds) h.2 (l_ h.1 h2)
section
theorem aKe(hf:∀d0 d,f d0=.ok d->∃xs ps,(d0=.lst xs\/d0=.tup xs)/\oK xs=ae ps/\xs.length<=1000/\d=.dct (cG [] ps))(hc:X.calm=ag)(hg:Gl X "dict")(hm:X.mg "dict"=aj)(he:PE X e (gE fe re))(hs:dw [e] X.env=[(ai,cw e X.env)]:=by rfl) :
  PE X (.Call (.Name "dict" p) [e] [] pos) (gE (b1 f fe) ag):=by
 rintro Ψ s σ H Q I ⟨ρ,d,E,h,q⟩;obtain⟨d0,h1,h2⟩:=bJ h;obtain⟨xs,ps,h0,hps,hb,rfl⟩:=hf _ _ h2;refine jI (vJ I hg hm aIc ?_);refine l9 ?_ hs rfl;rw[hs];show ϑ _ _ (ny [(ai,cw e X.env)]) _ _ s;refine sv (thn (he Ψ s σ H (λv H1=>dO H H1/\Rep All H1 v d0) I ⟨ρ,_,E,h1,λv H1 s1 r1 _=>⟨s1,r1⟩⟩) λu s1 ⟨x,H1,I1,ru,sm,rx⟩=>?_);obtain⟨a,vs,its,b,nl,sl,rfl,rr,rv,hl⟩:∃a vs its b nl sl,x=.ref a/\cL All H1 vs xs/\Vals vs its/\s1.heap.get? a=ae (Wl.sqO b its.toArray nl sl):=by
  rcases h0 with rfl|rfl
  .obtain⟨_,_,rfl,e,p,r⟩:=rx.inv;obtain⟨hz,its,nl,rv,hl⟩:_/\∃(its:aa ak)(n:ah),Vals _ its/\s1.heap.get? _=ae {cls:=.type "list",data:=.seq its.toArray n}:=I1.hok _ _ e;exact⟨_,_,its,ag,nl,_,rfl,r,rv,hl⟩
  .obtain⟨a,vs,rfl,ea,rr⟩:=rx.iZ;obtain⟨hz,its,rv,⟨cl,dd,da,sl⟩,hl,e1,nl,e2⟩:vs.length<=bg/\∃its:aa ak,Vals vs its/\mZ s1.heap a its.toArray:=I1.hok a _ ea;simp only[Prod.mk.injEq] at e1 e2;obtain⟨e2,e3⟩:=e2;subst e1 e2 e3;exact⟨_,_,its,ai,nl,sl,rfl,rr,rv,hl⟩
 cases ru;refine su ?_;obtain⟨kvs,prs,g1,g2,g3,g4,g5⟩:=aA9 I1 rr rv hps;have hlen:its.length<=1000:=by rw[<-rv.length,rr.length];exact hb
 obtain⟨hp,g,dr,tk,os⟩:=s1;refine Wl.aIg (knd:=dJ X.prog X.w) (ps:=prs) (items:=its.toArray) (I1.ok.hd hc) hl ⟨by rw[b6];exact g4,λi kv hi=>?_⟩ (by rw[b6];lia) λh' tk' hd kp=>?_
 .obtain⟨p,x,o,n,z1,z2⟩:=g5 i kv hi;exact⟨p,x,o,n,by simpa using z1,z2⟩
 .have hfr:H1 hp.objs.size=aj:=I1.hok.fresh (bd _);have rel:KV (jC [] kvs) (sD [] prs):=g1.merge .nil;have hz2:(jC [] kvs).length<=bg:=by
   have:=oX kvs [];have l1:kvs.length=prs.length:=kN g1;rw[eW] at this;rw[eS];lia
  obtain⟨rk,nd⟩:=JQ (kvs:=[]) g2 oV.nil gS;have sp:dO H1 (upd H1 hp.objs.size (.dK (jC [] kvs))):=dO.upd hfr;have rk2:∀{P:am->Prop},oV P (upd H1 hp.objs.size (.dK (jC [] kvs))) (jC [] kvs) (cG [] ps):=λ{P}=>(rk.keep (.same sp) λ_ h=>h).cU (yD g3 rfl)
  refine⟨.ref hp.objs.size,_,I1.laid (a:=hp.objs.size) (t':=tk') (o:=.dK (jC [] kvs)) kp (bd _) (Y_ hz2 (je.mpr ?_) rel hd),rfl,?_⟩
  .exact Ne.symm (de I1.big)
  .exact q _ _ (sm.trans sp) (.dK aM trivial rk2 nd) λ_=>.dK aM (sm.free hfr) rk2 nd
def aEr(hc:X.calm=ag)(hg:Gl X "dict")(hm:X.mg "dict"=aj)(he:PE X e (gE fe re))(hs:dw [e] X.env=[(ai,cw e X.env)]:=by rfl) :
  PE X (.Call (.Name "dict" p) [e] [] pos) (gE (b1 JP fe) ag):=aKe (λd0 d h=>by
 unfold JP at h
 repeat' split at h
 .rename_i h1 h2;exact⟨_,_,.inl rfl,h1,d6 h2,(Res.ok.inj h).symm⟩
 all_goals exact bx h) hc hg hm he hs
end
end
def bFz(f:FE):FE:=λρ=>do
 let d <- f ρ
 match d with
 |.lst xs=>if θ xs then .ok (.scr xs) else .bad
 |_=>.bad
section
variable [KFrag]
section
variable {X:Cx} {e:Expr} {f:FE}
def tFz(t:TE):TE:=λσ H Q=>t σ H λv H1=>∃a vs,v=.ref a/\H1 a=ae (.lst vs)/\∀o,Q v (upd H1 a (.frz o (.lst vs)))
def aTy(h:PE X e t):PE X e (tFz t):=by
 intro Ψ s σ H Q I q;refine fu (h Ψ s σ H _ (I.wish _) q) (λu s1 ⟨v,H1,I1,r,a,vs,ev,ea,k⟩=>?_) λ_ _ z=>z
 obtain⟨o,I2⟩:=tV I1 ea;exact⟨v,_,I2,r,k o⟩
def aR6(h:PE X e (gE f ag)):PE X e (gE (bFz f) ag):=PE.imp (aTy h) λσ H Q ⟨ρ,d,E,h,q⟩=>by
 obtain⟨d0,h1,h2⟩:=bJ h;split at h2
 .rename_i xs;split at h2
  .rename_i hp;cases h2;refine⟨ρ,_,E,h1,λv H1 s1 r n=>?_⟩;cases n rfl with
   |@lst a vs _ ea pa ra=>
    refine⟨a,vs,rfl,ea,λo=>?_⟩;have noT:∀ob,H1 a=ae ob->aLw ob=ag:=λob z=>by rw[ea] at z;cases z;rfl
    have s2:dO H (upd H1 a (.frz o (.lst vs))):=λb ob eb=>by
     rw[bB (λz=>by rw[z,show H a=aj from pa] at eb;cases eb)];exact s1 b ob eb
    have rp:∀P:am->Prop,Rep P (upd H1 a (.frz o (.lst vs))) (.ref a) (.scr xs):=λP=>.frz (.inl ⟨o,aM⟩) ((RL noT ra hp).cU hp)
    exact q _ _ s2 (rp _) λ_=>rp _
  .exact bx h2
 .exact bx h2
end
end
noncomputable abbrev KI:=aa (af×aa af)
noncomputable def upK(kv:KI)(x y:af):KI:=kv.map λp=>if p.1=x then (p.1,p.2++[y]) else p
def nb1(is:aa ah)(fk:FE):aa D->KI->aa D->Res (KI×aa D)
 |[],kv,ρ=>.ok (kv,ρ)
 |d::t,kv,ρ=>do
  let ρ1 <- tgN is d ρ
  let k <- fk ρ1
  match k with
  |.int n=>if ϒ (n∈kv.map (·.1)) then .bad else nb1 is fk t (kv++[(n,[])]) ρ1
  |_=>.bad
def nb2(is:aa ah)(gc:FT)(fa fb:FE):aa D->KI->aa D->Res KI
 |[],kv,_=>.ok kv
 |d::t,kv,ρ=>do
  let ρ1 <- tgN is d ρ
  let c <- gc ρ1
  if c then (do
   let a <- fa ρ1
   let b <- fb ρ1
   match a,b with
   |.int x,.int y=>if ϒ (x∈kv.map (·.1))&&ϒ (y∈kv.map (·.1)) then nb2 is gc fa fb t (upK (upK kv x y) y x) ρ1 else .bad
   |_,_=>.bad) else nb2 is gc fa fb t kv ρ1
def sNb(i:ah)(is:aa ah)(fi:FI)(fk:FE)(js:aa ah)(fj:FI)(gc:FT)(fa fb:FE):FS:=λρ=>do
 let p <- fi ρ
 match ρ.getD i .uD with
 |.dct []=>if p.2&&ϒ (p.1.length<100000) then (do
   let r <- nb1 is fk p.1 [] (ρ.set i .uD)
   let q <- fj r.2
   if q.2&&ϒ (q.1.length<100000) then (do
    let kv <- nb2 js gc fa fb q.1 r.1 r.2
    .ok (.rt (.dct (kv.map λp=>(.int p.1,.scr (p.2.map .int)))))) else .bad) else .bad
 |_=>.bad
section
variable [KFrag]
section
variable {own:ah->aq} {X:Cx} {e:Expr} {fe f:FE}
noncomputable def kvH(ks:aa (af×am)):aa (Key×V):=ks.map λp=>(.inl p.1,.ref p.2)
inductive GK(H0 H:Hp):aa (af×am)->KI->Prop
 |nil:GK H0 H [] []
 |cons {k:af} {b:am} {l:aa af} {ks:aa (af×am)} {kv:KI}:H b=ae (.lst (l.map .int))->H0 b=aj->b∉ks.map (·.2)->k∉ks.map (·.1)->GK H0 H ks kv->GK H0 H ((k,b)::ks) ((k,l)::kv)
def GK.keep(h:GK H0 H ks kv)(q:∀c o,c∈ks.map (·.2)->H c=ae o->H' c=ae o):GK H0 H' ks kv:=by
 induction h with
 |nil=>exact .nil
 |cons e f n m _ ih=>exact .cons (q _ _ (bu ..) e) f n m (ih λc o hc=>q c o (bo _ hc))
def GK.keys(h:GK H0 H ks kv):kv.map (·.1)=ks.map (·.1):=by
 induction h with
 |nil=>rfl
 |cons e f n m _ ih=>rw[ba,ba,ih]
def GK.nd(h:GK H0 H ks kv):((kvH ks).map (·.1)).Nodup:=by
 induction h with
 |nil=>exact gS
 |cons e f n m _ ih=>
  refine df.mpr ⟨λz=>?_,ih⟩;obtain⟨q,hq,z⟩:=aE.mp z;obtain⟨r,hr,rfl⟩:=aE.mp hq;cases z;exact m (Cq (f:=(·.1)) hr)
def GK.new(h:GK H0 H ks kv):∀b∈ks.map (·.2),H0 b=aj/\∃o,H b=ae o:=by
 induction h with
 |nil=>exact λb hb=>by cases hb
 |cons e f n m _ ih=>exact λb hb=>(bi.mp hb).elim (λz=>z▸⟨f,_,e⟩) (ih b)
def GK.snoc(h:GK H0 H ks kv)(e:H b=ae (.lst []))(f:H0 b=aj)(n:b∉ks.map (·.2))(m:k∉ks.map (·.1)):GK H0 H (ks++[(k,b)]) (kv++[(k,[])]):=by
 induction h with
 |nil=>exact .cons e f (λz=>by cases z) (λz=>by cases z) .nil
 |@cons k' b' l' ks' kv' e' f' n' m' _ ih=>
  rw[ba,bi,gz] at n m;refine .cons e' f' ?_ ?_ (ih n.2 m.2)
  .show b'∉(ks'++[(k,b)]).map (·.2);rw[bS,cj];exact λz=>z.elim n' λz=>n.1 (em.mp z).symm
  .show k'∉(ks'++[(k,b)]).map (·.1);rw[bS,cj];exact λz=>z.elim m' λz=>m.1 (em.mp z).symm
theorem aEs:∀{kv:KI},x∉kv.map (·.1)->upK kv x y=kv
 |[],_=>rfl
 |p::kv,h=>by
  rw[ba,bi,gz] at h;show(if p.1=x then _ else p)::upK kv x y=_;rw[ap (Ne.symm h.1),aEs h.2]
def aIh(kv:KI):(upK kv x y).map (·.1)=kv.map (·.1):=by
 unfold upK;rw[bp];exact c_ λp _=>by
  show(if p.1=x then (p.1,p.2++[y]) else p).1=p.1;split<;>rfl
theorem XC{n:ah}{kv:KI}(h:∀p∈kv,p.2.length<=n):∀p∈upK kv x y,p.2.length<=n+1:=λp hp=>by
 obtain⟨q,hq,rfl⟩:=aE.mp hp;have:=h q hq;split
 .show(q.2++[y]).length<=_;rw[cx];exact Nat.succ_le_succ this
 .lia
def GK.at_(h:GK H0 H ks kv)(hx:x∈kv.map (·.1))(hl:∀p∈kv,p.2.length<=n):∃(b:am)(l:aa af),wN (kvH ks) (.inl x)=ae (.ref b)/\H b=ae (.lst (l.map V.int))/\l.length<=n/\b∈ks.map (·.2)/\∀H' y,(∀c o,c≠b->c∈ks.map (·.2)->H c=ae o->H' c=ae o)->H' b=ae (.lst (l.map V.int++[.int y]))->GK H0 H' ks (upK kv x y):=by
 induction h with
 |nil=>cases hx
 |@cons k b l ks kv e f nb nk t ih=>
  by_cases hk:k=x
  .subst hk;refine⟨b,l,?_,e,hl _ (bu ..),bu ..,λH' y q1 q2=>?_⟩
   .show wN ((fy k,V.ref b)::kvH ks) (.inl k)=_;rw[tG rfl]
   .show GK H0 H' ((k,b)::ks) ((if k=k then (k,l++[y]) else (k,l))::upK kv k y);rw[ao rfl,aEs (by rw[t.keys];exact nk)];exact .cons (by rw[bS];exact q2) f nb nk (t.keep λc o hc ec=>q1 c o (λz=>nb (by rw[<-z];exact hc)) (bo _ hc) ec)
  .have hx':x∈kv.map (·.1):=by
    rcases bi.mp hx with z|z
    .exact aT z.symm hk
    .exact z
   obtain⟨b',l',g1,g2,g3,g4,g5⟩:=ih hx' λp hp=>hl p (bo _ hp)
   refine⟨b',l',?_,g2,g3,bo _ g4,λH' y q1 q2=>?_⟩
   .show wN ((fy k,V.ref b)::kvH ks) (.inl x)=_;rw[tH (by intro z;cases z;exact hk rfl)];exact g1
   .show GK H0 H' ((k,b)::ks) ((if k=x then (k,l++[y]) else (k,l))::upK kv x y);rw[ap hk];exact .cons (q1 b _ (λz=>nb (by rw[z];exact g4)) (bu ..) e) f nb nk (g5 H' y (λc o hc hm=>q1 c o hc (bo _ hm)) q2)
def aIi{ks:aa (af×am)}(h:x∉ks.map (·.1)):wN (kvH ks) (.inl x)=aj:=by
 unfold wN;rw[Option.map_eq_none_iff,List.find?_eq_none];intro p hp z;obtain⟨q,hq,rfl⟩:=aE.mp hp;have z:(fy q.1:Key)=.inl x:=d6 z;cases z;exact h (Cq (f:=(·.1)) hq)
theorem RN{P:am->Prop}:∀l:aa af,cL P H (l.map V.int) (l.map δ)
 |[]=>.nil
 |x::l=>.cons (.int x) (RN l)
theorem aAa{H0:Hp}:∀{ks:aa (af×am)}{kv:KI}{H:Hp},Inv X Ψ σ H s->GK H0 H ks kv->∃H',Inv X Ψ σ H' s/\(∀c,c∉ks.map (·.2)->H' c=H c)/\∀P:am->Prop,oV P H' (kvH ks) (kv.map λp=>(.int p.1,.scr (p.2.map .int)))
 |_,_,H,I,.nil=>⟨H,I,λ_ _=>rfl,λ_=>.nil⟩
 |_,_,H,I,.cons (k:=k) (b:=b) (l:=l) (ks:=ks) e f n m t=>by
  obtain⟨o,I1⟩:=tV I e;obtain⟨H',I',q,r⟩:=aAa I1 (t.keep (H':=upd H b (.frz o (.lst (l.map .int)))) λc oc hc ec=>by rw[bB (λz=>n (by rw[<-z];exact hc))];exact ec);refine⟨H',I',λc hc=>?_,λP=>.cons (k:=.inl k) (.frz (.inl ⟨o,?_⟩) (RN l)) (r P)⟩
  .rw[ba,bi,gz] at hc;rw[q c hc.2,bB hc.1]
  .rw[q b n,aM]
def EN(P:am->Prop)(H:Hp)(σ:L2.St)(ρ:aa D):Prop:=σ.length=ρ.length/\∀i,ρ.getD i .uD≠.uD->∃v,σ[i]?=ae (ae v)/\Rep P H v (ρ.getD i .uD)
def EN.er{P:am->Prop}(E:EN P H σ ρ):ER H σ ρ:=λi hi=>let ⟨v,a,b⟩:=E.2 i hi;⟨v,a,b.all⟩
def EN.keep{P P':am->Prop}(E:EN P H σ ρ)(k:GX P H H')(m:∀a o,H a=ae o->P a->P' a):EN P' H' σ ρ:=⟨E.1,λi hi=>let ⟨v,a,b⟩:=E.2 i hi;⟨v,a,b.aBo k m⟩⟩
def EN.set{P:am->Prop}(E:EN P H σ ρ)(r:Rep P H v d):EN P H (σ.set i (ae v)) (ρ.set i d):=by
 refine⟨by rw[ud,ud];exact E.1,λj hj=>?_⟩;rw[gQ] at hj ⊢;split at hj
 .rename_i h;obtain⟨rfl,h⟩:=h;rw[ao ⟨rfl,h⟩];exact⟨v,by rw[im (by rw[E.1];exact h)],r⟩
 .rename_i h;rw[ap h];obtain⟨w,a,b⟩:=E.2 j hj;refine⟨w,?_,b⟩;rw[ff,a];intro z;subst z;refine h ⟨rfl,?_⟩;rw[<-E.1];exact(ej.mp a).1
def EN.sets{P:am->Prop}:∀{is:aa ah}{vs:aa V}{ds:aa D}{σ:L2.St}{ρ:aa D},EN P H σ ρ->cL P H vs ds->EN P H (nU is vs σ) (aBm is ds ρ)
 |[],_,_,_,_,E,_=>E
 |_::_,_,_,_,_,E,.nil=>E
 |_::_,_,_,_,_,E,.cons r t=>(E.set r).sets t
theorem yZ:∀{is:aa ah}{vs:aa V}{σ:L2.St},i∉is->(nU is vs σ)[i]?=σ[i]?
 |[],_,_,_=>rfl
 |_::_,[],_,_=>rfl
 |j::is,v::vs,σ,h=>by
  rw[bi,gz] at h;show(nU is vs (σ.set j (ae v)))[i]?=_;rw[yZ h.2,ff (Ne.symm h.1)]
def tPN(i:ah)(fk:FE):TS:=λD σ H=>∃a ks n ρ,σ[i]?=ae (ae (.ref a))/\H a=ae (.dK (kvH ks))/\n∉ks.map (·.1)/\ks.length<lim/\fk ρ=.ok (.int n)/\(∀H1,dO H H1->ER H1 σ ρ)/\∀p H1,H p=aj->H1 p=ae (.lst [])->dO H H1->D.nx σ (upd H1 a (.dK (kvH (ks++[(n,p)]))))
def aTz{i:ah}{x:Str}{k:Expr}{fk:FE}{rk:aq}{p1 p4 pos pos':c9}(hu:X.A.units+20<bw)(hN:X.N[i]?=ae x)(hv:Vis X.env.scope x)(hk:PE X k (gE fk rk))
 (hs:fq (.List [] p4) (ae (.Subscript (.Name x p1) k pos')) pos.line X.env=pure ai:=by rfl)(hd:nDb x:=by decide)(hcd:nCd x:=by decide) :
  PS X (.Assign [.Subscript (.Name x p1) k pos'] (.List [] p4) pos) (tPN i fk):=PS.imp (aLn 0x1 (m9 hN hv hd hcd) hk (aD7 vL) hs) λD σ H ⟨a,ks,n,ρ,h1,h2,h3,h4,h5,h6,q⟩=>by
 refine⟨eI _,λp hp=>⟨_,h1,ρ,_,h6 _ (dO.upd hp),h5,λv H1 s1 r _=>?_⟩⟩;cases r;have sm:dO H H1:=(dO.upd hp).trans s1;have g:=aDe.k (k:=.inl n) (v:=.ref p) (sm _ _ h2) (by unfold kvH;rw[aS];exact Z4 (bz h4));rw[L2.Y8 _ (aIi h3)] at g;refine⟨a,_,rfl,g,?_⟩;have:=q p H1 hp (s1 _ _ aM) sm;unfold kvH at this ⊢;rw[bS] at this;exact this
def tAK(i:ah)(fk fe:FE):TS:=λD σ H=>∃a ks b l x y ρ,σ[i]?=ae (ae (.ref a))/\H a=ae (.dK ks)/\wN ks (.inl x)=ae (.ref b)/\H b=ae (.lst l)/\l.length<bg/\ER H σ ρ/\fk ρ=.ok (.int x)/\fe ρ=.ok (.int y)/\∀H1,dO H H1->D.nx σ (upd H1 b (.lst (l++[.int y])))
def aVp:R2:=λx y H Q=>∃a kvs k v,x=.ref a/\y=kV k/\H a=ae (.dK kvs)/\wN kvs k=ae v/\Q v H
def aVq(hu:X.A.units+20<bw):IxR X aVp:=λvalue slice Ψ s σ H x y v u Q I rx ry h hs=>by
 obtain⟨a,kvs,k,w,rfl,rfl,e,hv,q⟩:=h;cases rx;have g:Y9 H a (kV k) (wN kvs k):=.k e;rw[hv] at g;exact BX hu I g ry hs (λ_ h=>h) q
def aR7{i:ah}{x:Str}{k:Expr}{fk:FE}{rk re:aq}{p1 p2 apos cpos pos:c9}(hu:X.A.units+20<bw)(hN:X.N[i]?=ae x)(hv:Vis X.env.scope x)(hk:PE X k (gE fk rk))(he:PE X e (gE fe re))(hp:J8 k:=by exact λ_ _=>rfl)(hd:nDb x:=by decide)(hcd:nCd x:=by decide)
 (hbase:ji (.Subscript (.Name x p1) k p2) "append" X.env (cw (.Subscript (.Name x p1) k p2) X.env)=cw (.Subscript (.Name x p1) k p2) X.env:=by rfl)
 (hs1:zSE X e []:=by rfl)
 (hfew:zFw X cpos [e]:=by rfl)
 (hline:(apos.endLine==cpos.line)=ag:=by rfl)
 (hs:fq (.Call (.Attribute (.Subscript (.Name x p1) k p2) "append" apos) [e] [] cpos) aj pos.line X.env=pure ai:=by rfl) :
  PS X (.Expr (.Call (.Attribute (.Subscript (.Name x p1) k p2) "append" apos) [e] [] cpos) pos) (tAK i fk fe):=
 PS.imp (zM (aBd nh wg B2 zR (aPt (aVq hu) (m9 hN hv hd hcd) hk hp) (nO he vL hs1) hbase hfew hline hs1 rfl) hs) λD σ H ⟨a,ks,b,l,x,y,ρ,h1,h2,h3,h4,h5,h6,h7,h8,q⟩=>by
 refine⟨_,h1,ρ,_,h6,h7,λkv H1 s1 r1 _=>?_⟩;cases r1;refine⟨a,ks,.inl x,.ref b,rfl,rfl,s1 _ _ h2,h3,.inl ⟨rfl,_,.of (s1 _ _ h4)⟩,ρ,_,h6.same s1,h8,λev H2 s2 r2 _=>?_⟩;cases r2;exact⟨b,l,.int y,rfl,rfl,s2 _ _ (s1 _ _ h4),h5,q H2 (s1.trans s2)⟩
def tFK(i:ah):TS:=λD σ H=>∃H0 a ks kv,σ[i]?=ae (ae (.ref a))/\H0 a≠aj/\H a=ae (.dK (kvH ks))/\GK H0 H ks kv/\∀H',(∀c,H0 c≠aj->H' c=H c)->(∀P:am->Prop,P a->Rep P H' (.ref a) (.dct (kv.map λp=>(.int p.1,.scr (p.2.map .int)))))->D.rt (.ref a) H'
def aMn{i:ah}{x:Str}{px pos:c9}(hN:X.N[i]?=ae x)(hv:Vis X.env.scope x)(hd:nDb x:=by decide)(hcd:nCd x:=by decide) :
  PSs X [.Return (ae (.Name x px)) pos] (tFK i):=λΨ s σ H D I ⟨H0,a,ks,kv,h1,h2,h3,h4,q⟩=>by
 obtain⟨H',I',k,r⟩:=aAa I h4;have nb:∀c,H0 c≠aj->H' c=H c:=λc hc=>k c λz=>hc (h4.new c z).1
 exact zL (aD4 (m9 hN hv hd hcd)) Ψ s σ H' D I' ⟨_,h1,q H' nb λP pa=>.dK (by rw[nb a h2];exact h3) pa (r P) h4.nd⟩
def tgE{P:am->Prop}(r:Rep P H v d)(h:tgN is d ρ=.ok ρ')(E:EN P H σ ρ):∃a vs,v=.ref a/\H a=ae (.tup vs)/\vs.length=is.length/\EN P H (nU is vs σ) ρ':=by
 cases d<;>simp only[tgN] at h<;>(try (exact bx h;done))
 split at h
 .rename_i hl;cases h;obtain⟨a,vs,rfl,e,rr⟩:=r.iZ;exact⟨a,vs,rfl,e,by rw[rr.length];exact d6 hl,E.sets rr⟩
 .exact bx h
theorem aR8{i:ah}{is js:aa ah}{t1 t2 it1 it2 c:Expr}{sp sa sb ret:bq}{fi fj:FI}{fk fa fb:FE}{gc:FT}{pA pB pC:c9}(hF:own i=ag)(hx:own rtX=ai)(hi1:i∉is)(hi2:i∉js)(hp:k8 (av X.prog X.w) X.A X.env X.xe)(hc0:X.calm=ag)
 (h1:PI X t1 it1 (gI X.K fi))(g1:PG X t1 (aPd X.K is.length (gIx is)))(hP:PS X sp (tPN i fk))(h2:PI X t2 it2 (gI X.K fj))(g2:PG X t2 (aPd X.K js.length (gIx js)))(hc:PT X c (gT gc))(hA:PS X sa (tAK i fa fb))(hB:PS X sb (tAK i fb fa))(hR:PSs X [ret] (tFK i))
 (hs1:∀x,fg it1 X.env x=pure x:=by intro _;rfl)(hs2:∀x,fg it2 X.env x=pure x:=by intro _;rfl) :
  PSs X [.For t1 it1 [sp] [] pA,.For t2 it2 [.If c [sa,sb] [] pC] [] pB,ret] (tS own (sNb i is fi fk js fj gc fa fb)):=λΨ s σ H D I ⟨ρ,fl,E,h,q⟩=>by
 obtain⟨⟨items,kk⟩,f1,f2⟩:=bJ h;dsimp only at f2;split at f2
 rotate_left
 .exact bx f2
 rename_i hxs;split at f2
 rotate_left
 .exact bx f2
 rename_i hkk;rw[bj,eB] at hkk;obtain⟨⟨kv1,ρ1⟩,f3,f4⟩:=bJ f2;obtain⟨⟨items2,kk2⟩,f5,f6⟩:=bJ f4;dsimp only at f5 f6;split at f6
 rotate_left
 .exact bx f6
 rename_i hkk2;rw[bj,eB] at hkk2;obtain⟨kv,f7,f8⟩:=bJ f6;cases f8;obtain⟨a,o,hσ,r,hin,ha,hm⟩:=E.ownAt hF (by rw[hxs];intro z;cases z);have hOa:Own own σ a:=⟨i,hF,hσ⟩
 have hil:i<ρ.length:=by rw[<-E.len];exact(ej.mp hσ).1
 rw[hxs] at r;obtain⟨H0,I0,E0,ha0,k0⟩:∃H0,Inv X Ψ σ H0 s/\ES own H0 σ ρ/\H0 a=ae (.dK [])/\KU own σ H σ H0:=by
  cases r with
  |dK e p rk nd=>cases rk;exact⟨H,I,E,e,λ_ _ e n=>⟨e,n⟩⟩
  |dT e p rk nd=>
   cases rk;obtain⟨E2,k2⟩:=E.mut (o:=.dK []) (d:=.dct []) hF hσ rfl (.dK aM trivial .nil gS) rfl;refine⟨_,oE I e,?_,aM,k2⟩;have:ρ.set i (.dct [])=ρ:=by
    rw[<-hxs,dz,eg hil];exact List.set_getElem_self ..
   rw[this] at E2;exact E2
 have q0:=q.step k0;refine tD (QH hp hc0 h1 g1 (zL hP) hs1) (tD (QH hp hc0 h2 g2 (zL (aPb hc (tD hA (zL hB)) aD3)) hs2) hR) Ψ s σ H0 D I0 ?_;refine⟨ρ,items,kk,E0.er,f1,λJ H1 s1 _ hJ=>?_⟩;have sk:∀{P:am->Prop}{Ha Hb:Hp},dO Ha Hb->GX P Ha Hb:=λs c oc e _=>s c oc e
 let P:aa (af×am)->am->Prop:=λks c=>c≠a/\c∉ks.map (·.2)
 have E1:EN (P []) H1 σ (ρ.set i .uD):=by
  refine⟨by rw[ud];exact E0.len,λj hj=>?_⟩;rw[gQ] at hj ⊢;split at hj
  .exact aT rfl hj
  rename_i hij;rw[ap hij];obtain⟨v,h2,h3⟩:=(E0.same s1).at_ j hj;refine⟨v,h2,?_⟩;cases ho:own j with
  |false=>exact(h3 ho).mono λc hn=>⟨λz=>hn (z▸hOa),λz=>by cases z⟩
  |true=>
   obtain⟨b,ob,rfl,g2,g3,g4,g5,g6⟩:=(E0.same s1).own j v ho h2;refine g2.aSt g3 ⟨λz=>?_,λz=>by cases z⟩;subst z;have:=g6 i hF hσ;subst this;exact hij ⟨rfl,hil⟩
 have It1:ItQ X.K (P []) J H1 items:=(hJ hkk.1).keep' (λ_ _ e _=>e) λc oc ec hn=>⟨(λz=>by
  subst z;rw[show H0 c=aj from hn] at ha0;cases ha0),λz=>by cases z⟩
 refine⟨λn m σ' H'=>m=items.length-n/\n<=items.length/\∃ks kv ρ',nb1 is fk (items.drop n) kv ρ'=.ok (kv1,ρ1)/\ks.length<=n/\(∀p∈kv,p.2=[])/\H' a=ae (.dK (kvH ks))/\GK H0 H' ks kv/\EN (P ks) H' σ' ρ'/\ItQ X.K (P ks) J H' items/\σ'[i]?=ae (ae (.ref a))/\∀c o,H0 c=ae o->c≠a->H' c=ae o,⟨_,rfl,eI _,[],[],_,f3,bd _,λp hp=>(by cases hp),s1 _ _ ha0,.nil,E1,It1,hσ,λc o e _=>s1 _ _ e⟩,?_⟩;rintro n m σ' H' ⟨rfl,hle,ks,kv',ρ',n1,n2,n3,n4,n5,n6,n7,n8,n9⟩;rcases oy n items.length with hlt|hge
 ·-- a turn of the first loop
  refine .inr ?_;obtain⟨j1,j2⟩:=n7.go (eg hlt);rw[ie hlt] at n1;refine⟨j1,λσ2 H2=>∃ks kv ρ',nb1 is fk (items.drop (n+1)) kv ρ'=.ok (kv1,ρ1)/\ks.length<=n+1/\(∀p∈kv,p.2=[])/\H2 a=ae (.dK (kvH ks))/\GK H0 H2 ks kv/\EN (P ks) H2 σ2 ρ'/\ItQ X.K (P ks) J H2 items/\σ2[i]?=ae (ae (.ref a))/\∀c o,H0 c=ae o->c≠a->H2 c=ae o,λσ2 H2 z=>⟨items.length-(n+1),by lia,rfl,hlt,z⟩,λv H2 hy=>?_⟩;obtain⟨sH,rx⟩:=j2 v H2 hy;obtain⟨ρ2,z1,z2⟩:=bJ n1;obtain⟨kd,z3,z4⟩:=bJ z2;obtain⟨ad,vs,ev,hq,hvl,E2⟩:=tgE rx z1 (n6.keep (sk sH) λ_ _ _ z=>z);split at z4
  rotate_left
  .exact bx z4
  rename_i nn;split at z4
  .exact bx z4
  rename_i hnn;rw[eB,n5.keys] at hnn;refine⟨ad,vs,ev,.of hq,hvl,B_ _ _ _ hvl ⟨a,ks,nn,ρ2,(yZ hi1).trans n8,sH _ _ n4,hnn,by have:lim=1000000:=rfl;lia,z3,λH3 s3=>(E2.keep (sk s3) λ_ _ _ z=>z).er,λp H3 hp0 hp1 s3=>?_⟩⟩;have hpa:p≠a:=λz=>by rw[z,sH _ _ n4] at hp0;cases hp0
  have hpk:p∉ks.map (·.2):=λz=>by
   obtain⟨_,oo,eo⟩:=n5.new p z;rw[sH _ _ eo] at hp0;cases hp0
  have kk:GX (P ks) H2 (upd H3 a (.dK (kvH (ks++[(nn,p)])))):=λc oc ec hc=>by
   rw[bB (λz=>?_)]
   .exact s3 _ _ ec
   .subst z;rcases hc with hc|hc
    .exact hc.1 rfl
    .rw[sH _ _ n4] at ec;cases ec;cases hc
  have mm:∀c oc,H2 c=ae oc->P ks c->P (ks++[(nn,p)]) c:=λc oc ec hc=>⟨hc.1,λz=>by
   rw[bS,cj] at z;rcases z with z|z
   .exact hc.2 z
   .rw[em.mp z,hp0] at ec;cases ec⟩
  refine⟨ks++[(nn,p)],kv'++[(nn,[])],ρ2,z4,by rw[cx,iF];lia,λq hq=>?_,aM,GK.snoc (n5.keep λc oc hc ec=>?_) (by rw[bB hpa];exact hp1) ?_ hpk hnn,E2.keep kk mm,(n7.keep' (sk sH) λ_ _ _ z=>z).keep' kk mm,(yZ hi1).trans n8,λc oc ec hn=>by rw[bB hn];exact s3 _ _ (sH _ _ (n9 c oc ec hn))⟩
  .rcases cj.mp hq with h|h
   .exact n3 q h
   .rw[em.mp h]
  .rw[bB (λz=>by rw[z] at hc;rw[(n5.new a hc).1] at ha0;cases ha0)];exact s3 _ _ (sH _ _ ec)
  .cases hh:H0 p with
   |none=>rfl
   |some oo=>
    rw[sH _ _ (n9 p oo hh hpa)] at hp0;cases hp0
 .refine .inl ⟨n7.stop hge,?_⟩;rw[oQ hge] at n1;cases n1;clear It1 E1 n7 hJ;refine⟨ρ1,items2,kk2,n6.er,f5,λJ2 H2 s2 _ hJ2=>?_⟩;have kb:∀{Ha Hb:Hp}{b:am}{l:aa V}{o':HO},dO Ha Hb->Ha b=ae (.lst l)->b∈ks.map (·.2)->GX (P ks) Ha (upd Hb b o'):=λ{Ha Hb b l o'} ss eb hb c oc ec hc=>by
   rw[bB (λz=>?_)]
   .exact ss _ _ ec
   .subst z;rcases hc with hc|hc
    .exact hc.2 hb
    .rw[eb] at ec;cases ec;cases hc
  have hna:∀b∈ks.map (·.2),b≠a:=λb hb z=>by
   have:=(n5.new b hb).1;rw[z,ha0] at this;cases this
  have It2:ItQ X.K (P ks) J2 H2 items2:=(hJ2 hkk2.1).keep' (λ_ _ e _=>e) λc oc ec hn=>⟨(λz=>by
   subst z;rw[show H' c=aj from hn] at n4;cases n4),λz=>by
   obtain⟨_,oo,eo⟩:=n5.new c z;rw[show H' c=aj from hn] at eo;cases eo⟩
  refine⟨λn m σ'' H''=>m=items2.length-n/\n<=items2.length/\∃kv' ρ',nb2 js gc fa fb (items2.drop n) kv' ρ'=.ok kv/\(∀p∈kv',p.2.length<=2*n)/\H'' a=ae (.dK (kvH ks))/\GK H0 H'' ks kv'/\EN (P ks) H'' σ'' ρ'/\ItQ X.K (P ks) J2 H'' items2/\σ''[i]?=ae (ae (.ref a))/\∀c o,H0 c=ae o->c≠a->H'' c=ae o,⟨_,rfl,eI _,kv1,ρ1,f7,λp hp=>by rw[n3 p hp];exact eI _,s2 _ _ n4,n5.keep λc oc _ e=>s2 _ _ e,n6.keep (sk s2) λ_ _ _ z=>z,It2,n8,λc oc e hn=>s2 _ _ (n9 c oc e hn)⟩,?_⟩;rintro n m σ2 H3 ⟨rfl,hle2,kv2,ρ2,m1,m2,m3,m4,m5,m6,m7,m8⟩;rcases oy n items2.length with hlt2|hge2
  .refine .inr ?_;obtain⟨j1,j2⟩:=m6.go (eg hlt2);rw[ie hlt2] at m1;refine⟨j1,λσ'' H''=>∃kv' ρ',nb2 js gc fa fb (items2.drop (n+1)) kv' ρ'=.ok kv/\(∀p∈kv',p.2.length<=2*(n+1))/\H'' a=ae (.dK (kvH ks))/\GK H0 H'' ks kv'/\EN (P ks) H'' σ'' ρ'/\ItQ X.K (P ks) J2 H'' items2/\σ''[i]?=ae (ae (.ref a))/\∀c o,H0 c=ae o->c≠a->H'' c=ae o,λσ2 H2 z=>⟨items2.length-(n+1),by lia,rfl,hlt2,z⟩,λv H4 hy=>?_⟩;obtain⟨sH,rx⟩:=j2 v H4 hy;obtain⟨ρ3,z1,z2⟩:=bJ m1;obtain⟨ad,vs,ev,hq,hvl,E2⟩:=tgE rx z1 (m5.keep (sk sH) λ_ _ _ z=>z);obtain⟨cc,z3,z4⟩:=bJ z2;have hσ2:=(yZ (vs:=vs) (is:=js) hi2).trans m7;refine⟨ad,vs,ev,.of hq,hvl,B_ _ _ _ hvl ⟨ρ3,cc,E2.er,z3,λH5 s5=>?_⟩⟩;have s15:=sH.trans s5;cases cc with
   |false=>
    rw[ap 0x4] at z4;exact⟨kv2,ρ3,z4,λp hp=>by have:=m2 p hp;lia,s15 _ _ m3,m4.keep λc oc _ e=>s15 _ _ e,E2.keep (sk s5) λ_ _ _ z=>z,m6.keep' (sk s15) λ_ _ _ z=>z,hσ2,λc oc e hn=>s15 _ _ (m8 c oc e hn)⟩
   |true=>
    rw[ao rfl] at z4;obtain⟨da,z5,z6⟩:=bJ z4;obtain⟨db,z7,z8⟩:=bJ z6;split at z8
    rotate_left
    .exact bx z8
    rename_i x y;split at z8
    rotate_left
    .exact bx z8
    rename_i hxy;rw[bj,eB,eB] at hxy;have lz:∀{k:ah},k<=2*n+1->k<bg:=λhk=>Z4 (bz (by have:lim=1000000:=rfl;lia))
    have G5:=m4.keep (H':=H5) λc oc _ e=>s15 _ _ e
    obtain⟨b,l,g1,g2,g3,g4,g5⟩:=G5.at_ hxy.1 m2;refine⟨a,_,b,_,x,y,ρ3,hσ2,s15 _ _ m3,g1,g2,by rw[aS];exact lz 0x1,(E2.keep (sk s5) λ_ _ _ z=>z).er,z5,z7,λH6 s6=>?_⟩;have k6:=kb (o':=.lst (l.map V.int++[.int y])) s6 g2 g4;have G6:=g5 (upd H6 b (.lst (l.map V.int++[.int y]))) y (λc oc hc _ ec=>by rw[bB hc];exact s6 _ _ ec) aM;have E6:=(E2.keep (sk s5) λ_ _ _ z=>z).keep k6 λ_ _ _ z=>z
    have a6:upd H6 b (.lst (l.map V.int++[.int y])) a=ae (.dK (kvH ks)):=by rw[bB (Ne.symm (hna b g4))];exact s6 _ _ (s15 _ _ m3)
    obtain⟨b2,l2,w1,w2,w3,w4,w5⟩:=G6.at_ (x:=y) (by rw[aIh];exact hxy.2) (XC m2);refine⟨a,_,b2,_,y,x,ρ3,hσ2,a6,w1,w2,by rw[aS];exact lz 0x1,E6.er,z7,z5,λH7 s7=>?_⟩;have k7:=kb (o':=.lst (l2.map V.int++[.int x])) s7 w2 w4;refine⟨_,ρ3,z8,λp hp=>by have:=XC (XC m2) p hp;lia,by rw[bB (Ne.symm (hna b2 w4))];exact s7 _ _ a6,w5 _ x (λc oc hc _ ec=>by rw[bB hc];exact s7 _ _ ec) aM,E6.keep k7 λ_ _ _ z=>z,((m6.keep' (sk s15) λ_ _ _ z=>z).keep' k6 λ_ _ _ z=>z).keep' k7 λ_ _ _ z=>z,hσ2,λc oc ec hn=>?_⟩;have hcn:∀b∈ks.map (·.2),c≠b:=λb hb z=>by
     have:=(n5.new b hb).1;rw[<-z,ec] at this;cases this
    rw[bB (hcn b2 w4)];refine s7 _ _ ?_;rw[bB (hcn b g4)];exact s6 _ _ (s15 _ _ (m8 c oc ec hn))
  .refine .inl ⟨m6.stop hge2,?_⟩;rw[oQ hge2] at m1;cases m1;refine⟨H0,a,ks,kv,m7,(by rw[ha0];exact λz=>by cases z),m3,m4,λH4 k4 r4=>(kRt.old q0 hx) _ _ (λc oc ec hn=>?_) (r4 _ (.inl hOa))⟩;rw[k4 c (by rw[ec];exact λz=>by cases z)];exact m8 c oc ec λz=>hn (z▸hOa)
end
end
open PySem.W
def aCt(h:bm)(d:am)(es:ax oe)(ep:ah):Prop:=∃o,h.get? d=ae o/\o.ExactDict/\o.data=.dict es ep
def aCt.ty{s:au}(x:aCt s.heap d es ep):s.TypeIs (.ref d) "dict":=let ⟨o,e,c,_⟩:=x;⟨o,e,c.1⟩
def aCt.at(x:aCt h d es ep)(k:∀o,h.get? d=ae o->h'.get? d=ae o):aCt h' d es ep:=let ⟨o,e,r⟩:=x;⟨o,k o e,r⟩
section
variable {prog:cb} {w:br} {A:cu} {E:ak->au->Prop} {s:au} {d it:am} {es:ax oe} {ep i:ah}
theorem aIj(hd:(d==fS)=ai)(x:aCt s.heap d es ep)(q:Q (.ref s.heap.objs.size) {s with heap:=s.heap.push {cls:=.type "dict_keyiterator",data:=.fields #[.ref d,.int 0 0,.int es.size 0,.int ep 0]}}):ϑ (av prog w) A (gX (.ref d)) Q E s:=by
 have T:=x.ty;obtain⟨o,e1,e2,e3⟩:=x;refine wpAny_pyIter_slot T Cr (nL Cr T F.entry_dict_iter (?_:ϑ _ _ (Builtin.«dict.__iter__» _) _ _ _) (F.args_dict_iter_1 _));unfold Builtin.«dict.__iter__» D1 D2;refine aw (aw (Cp T (?_:ϑ _ _ (pure (fR d)) _ _ s)));refine bf (?_:ϑ _ _ ((if d==fS then _ else _) >>= _) _ _ s);rw[ap (by rw[hd];simp)];refine aw (bf (aw (yd e1 e3 (aw (ye e1 e3 ?_)))));exact aw (gu (bf ⟨_,rfl,"dict_keyiterator",_,⟨_,dt _ rfl,rfl⟩,qS.lookup,q⟩))
theorem aIk(y:s.heap.IsKeyIter it d i es.size ep)(x:aCt s.heap d es ep)(hi:i<es.size)(q:∀h',h'.IsKeyIter it d (i+1) es.size ep->l8 it s.heap h'->Q (ae es[i].key) {s with heap:=h'}):ϑ (av prog w) A (gr (.ref it)) Q E s:=by
 have T:=y.typeIs;obtain⟨o,o1,o2,o3⟩:=y;obtain⟨od,e1,e2,e3⟩:=x;have own:Ct "dict_keyiterator"=ai:=by decide
 unfold gr;refine aw (xu (v3 T qS (nL qS T Cu ?_ (Cv _))));refine aw (bf (aw (aw ?_)))
 first|refine aw (ul T (bf (aw (um o1 o3 ?_))))|refine aw (uo T (bf (aw (um o1 o3 ?_))))
 rw[own];refine(?_:ϑ _ _ (ite ((fR d==kK)=ag) _ _) _ _ s);rw[ap 0x7];refine aw (bf (aw (yd e1 e3 ?_)));rw[ap 0x2];refine aw (bf (aw (ye e1 e3 ?_)));rw[ap 0x2];refine bf ?_;simp only[show ¬((i:af)<0) from by lia,gd,l5,Cw hi];refine aw ?_
 first|refine aw (ul T (bf (aw (yf T ?_))))|refine aw (uo T (bf (aw (yf T ?_))))
 refine aw (m:=setField (.ref it) 1 (iz ((i:af)+1))) (Cy o1 o3 0x2 ?_);have z:(s.heap.update it (Obj.mapFields (·.setIfInBounds 1 (iz ((i:af)+1))))).IsKeyIter it d (i+1) es.size ep:=⟨_,kC _ o1 (Obj.isFreed_of_fields (Cz o3 _)),(Obj.cls_mapFields ..).trans o2,by rw[Cz o3];simp[iz]⟩
 refine aw (ic (aw (yf z.typeIs (?_:ϑ _ _ (pure es[i].key) _ _ _))));exact bf (bf ⟨_,rfl,bf (q _ z (CA ..))⟩)
theorem aMo(hh:A.handled=aj)(y:s.heap.IsKeyIter it d i es.size ep)(x:aCt s.heap d es ep)(hi:es.size<=i)(q:∀h',Ck it s.heap h'->Q aj {s with heap:=h'}):ϑ (av prog w) A (gr (.ref it)) Q E s:=by
 have T:=y.typeIs;obtain⟨o,o1,o2,o3⟩:=y;obtain⟨od,e1,e2,e3⟩:=x;have own:Ct "dict_keyiterator"=ai:=by decide
 unfold gr;refine aw (xu (v3 T qS (nL qS T Cu ?_ (Cv _))));refine aw (bf (aw (aw ?_)))
 first|refine aw (ul T (bf (aw (um o1 o3 ?_))))|refine aw (uo T (bf (aw (um o1 o3 ?_))))
 rw[own];refine(?_:ϑ _ _ (ite ((fR d==kK)=ag) _ _) _ _ s);rw[ap 0x7];refine aw (bf (aw (yd e1 e3 ?_)));rw[ap 0x2];refine aw (bf (aw (ye e1 e3 ?_)));rw[ap 0x2];refine bf ?_;simp only[show ¬((i:af)<0) from by lia,gd,l5,yb hi];refine aw ?_
 first|refine aw (ul T (bf ?_))|refine aw (uo T (bf ?_))
 refine aw (m:=setField (.ref it) 0 .none) (Cy o1 o3 0x2 (aw ?_));simp only[newExc,xA];refine aw (gu (aw (m:=CB _ _) (mT (a:=kK) (by first|rfl|(simp only[CB];rfl)) (gu ?_ (by size_fits)))) (by size_fits));simp only[raiseNew];have hh':A.in1.handled=aj:=hh;refine aw (wpAny_handled ?hd);rw[hh'];refine aw (bf (wpAny_throw ?thrown));refine aw (CC (b:=ag) (T:= "StopIteration") ⟨_,dt _ rfl,rfl⟩ isSubtype_stop ?_);exact bf (q _ (((CA ..).extBut.push _).push _))
def aEt(hh:A.handled=aj)(I d:am)(hne:d≠I)(es:ax oe)(ep:ah):Walks prog w A I [I,d] [I] es.size (λi v=>∃h:i<es.size,v=es[i].key) (λi h=>h.IsKeyIter I d i es.size ep/\aCt h d es ep) where
 sub:=λb hb=>bi.mpr (.inl (em.mp hb))
 frame:=λ_ _ _ st hk=>⟨Heap.IsKeyIter.at st.1 λo e=>hk I 0x2 o e,st.2.at λo e=>hk d 0x2 o e⟩
 item:=λi s Q E hi st hQ=>aIk st.1 st.2 hi λh' z sb=>hQ _ h' s.toks ⟨hi,rfl⟩ ⟨z,st.2.at λo e=>sb.extBut d o hne e⟩ λb o hb e=>sb.extBut b o (λh=>hb (by simp[h])) e
 done:=λs Q E st hQ=>aMo hh st.1 st.2 (bd _) λh' ex=>hQ h' s.toks λb o hb e=>ex b o (λh=>hb (by simp[h])) e
 self:=λ_ _ _ _ at_ q=>wpAny_pyIter_keyiter at_.1 q
end
section
variable {prog:cb} {w:br} {A:cu} {E:ak->au->Prop} {s:au} {r:am}
def aU0(s:au)(F:ax ak->Prop)(q:lb)(s':au):Prop:=∃(h':bm)(tk:ah)(acc:ax ak)(c:ah),q=.ok (.ret (.ref s.heap.objs.size))/\s'={s with heap:=h',toks:=tk}/\(∀b o,s.heap.get? b=ae o->h'.get? b=ae o)/\h'.get? s.heap.objs.size=ae {cls:=.type "list",dict:=aj,data:=.seq acc c,slots:=#[]}/\F acc
def aMp
  (key:ϑ (av prog w) A.in1 (qV (.ref s.heap.objs.size) (.ref r) (.ref s.heap.objs.size)) (λfin s'=>match fin with|.done f=>aU0 s F (.ok f) s'|.again c'=>c'.quiet=ag/\codeAny (av prog w) A c' (aU0 s F) s') (λe s'=>aU0 s F (.error e) s') {s with heap:=s.heap.push {cls:=.type "list",data:=.seq ([]:aa ak).toArray}})
  (q:∀h' tk acc,(∀b o,s.heap.get? b=ae o->h'.get? b=ae o)->s.heap.objs.size<=h'.objs.size->F acc->Q acc.toList {s with heap:=h',toks:=tk}):ϑ (av prog w) A (oB (.ref r)) Q E s:=by
 have last:∀{h':bm}{tk:ah}{acc:ax ak}{c:ah},(∀b o,s.heap.get? b=ae o->h'.get? b=ae o)->h'.get? s.heap.objs.size=ae {cls:=.type "list",dict:=aj,data:=.seq acc c,slots:=#[]}->F acc->ϑ (av prog w) A (load s.heap.objs.size >>= λo=>match o.data with|.seq xs _=>pure xs.toList|_=>unsupported "internal:collect") Q E {s with heap:=h',toks:=tk}:=λkp at_ f=>aw (wpAny_load at_ (bf (q _ _ _ kp (jy (bE at_)) f)))
 unfold oB;refine aw (wpAny_runValue (ii entry_proto_collect' (?_:ϑ _ _ (xk [] >>= λl=>again (.builtin "list.__iadd__" ⟨[l,.ref r],[]⟩)) _ _ s)));rw[il PySem.F.plain_proto_collect];refine aw (gu (bf ⟨gL CD _,ii entry_list_iadd' (?_:ϑ _ _ (qV _ _ _) _ _ _)⟩));rw[il CD];refine fu key (λfin s' x=>?_) λe s' ⟨_,_,_,_,z,_⟩=>nomatch z
 cases fin with
 |done f=>
  obtain⟨h',tk,acc,c,e,rfl,kp,at_,f⟩:=x;cases e;exact last kp at_ f
 |again c1=>
  refine⟨x.1,mh x.2 λp s2 y=>?_⟩;obtain⟨h',tk,acc,c,rfl,rfl,kp,at_,f⟩:=y;exact last kp at_ f
def aMq(lo:(d==fS)=ai):KdlSrc prog w "dict" d d es.size (λi v=>∃h:i<es.size,v=es[i].key) (λh=>aCt h d es ep) where
 type:=λ_ x=>x.ty
 there:=λh x=>by obtain⟨o,e,_⟩:=x;exact⟨bE e,bE e⟩
 keep:=λ_ _ x k=>x.at λo e=>k d (.inl rfl) o e
 notList:=rfl
 notTuple:=rfl
 hint:=λ_ _ _ _ x q=>kdl_hint_dict x.ty q
 iter:=λ_ s hh x=>⟨_,_,λ_ _ q=>aIj lo x q,aEt hh _ d (by obtain⟨o,e,_⟩:=x;exact de (bE e)) es ep,⟨_,dt _ rfl,rfl,rfl⟩,x.at λo e=>cg _ e⟩
theorem aEu(hh:A.handled=aj)(lo:(d==fS)=ai)(x:aCt s.heap d es ep)(hz:es.size<=bg)
 (q:∀h' tk,(∀b o,s.heap.get? b=ae o->h'.get? b=ae o)->s.heap.objs.size<=h'.objs.size->Q (es.toList.map (·.key)) {s with heap:=h',toks:=tk}):ϑ (av prog w) A (oB (.ref d)) Q E s:=by
 have lt:d<s.heap.objs.size:=by obtain⟨o,e,_⟩:=x;exact bE e
 refine aMp (F:=λacc=>acc.toList=es.toList.map (·.key)) (kdl_extend (aMq lo) hh (x.at λo e=>cg _ e) s.heap.objs.size (jz lt) (jz lt) _ 0 (dt _ rfl) (λh' tk acc c kp at_ it=>⟨h',tk,acc,c,rfl,rfl,λb o e=>kp b o (de (bE e)) (cg _ e),at_,?_⟩) hz) λh' tk acc kp sz e=>by rw[e];exact q h' tk kp sz
 refine Cc λi=>?_
 by_cases hi:i<es.size
 .obtain⟨v,hv⟩:∃v,acc[i]?=ae v:=⟨acc[i]'(by rw[it.1];exact hi),by simp[it.1,hi]⟩
  obtain⟨_,e⟩:=it.2 i v hv;rw[kl,hv,e,iE,kl,Cw hi];rfl
 .rw[kl,yb (by rw[it.1];lia),ug (by simpa using hi)]
end
variable [KFrag]
section
def aR9(I:Inv X Ψ σ H s)(e:H a=ae (.dT kvs)):∃(es:ax oe)(ep:ah)(xs:aa (aa Key×am×ak)),aCt s.heap a es ep/\(a==fS)=ai/\kvs.length<=bg/\KT H kvs xs/\es.toList=xs.map (entryOfKey (jv (dJ X.prog X.w))):=by
 obtain⟨z,hd,xs,rel,o,es,ep,h1,h2,h3,h4,_⟩:=aDd I.hok e;exact⟨es,ep,xs,⟨o,h1,h2,h3⟩,hd,z,rel,h4⟩
end
end Mi
namespace Wn
open PySem PySem.Spec
section
variable {prog:cb} {w:br} {A:cu} {E:ak->au->Prop} {s:au}
def both{α:Type}{M:mE}{c:Prop}[lq c]{a b:eP α}{Q:α->au->Prop}(h1:ϑ M A a Q E s)(h2:ϑ M A b Q E s):ϑ M A (if c then a else b) Q E s:=by
 by_cases h:c
 .rw[ao h];exact h1
 .rw[ap h];exact h2
def aRa(l:am)(items:ax ak)(n:ah)(dd:az am)(sl:ax (az ak))(t:fN) :
  lP (Builtin.«enumerate.__new__» ⟨[.type "enumerate",.ref l],[("start",.int 1 t)]⟩) (λ_ R s=>s.heap.get? l=ae {cls:=.type "list",dict:=dd,data:=.seq items n,slots:=sl}/\
   ∀h' e it tk,it=s.heap.objs.size->e=it+1->rf h' e it 1 .none->h'.IsListIter it l 0->h'.objs.size=it+2->(∀b o,s.heap.get? b=ae o->h'.get? b=ae o)->R (.ok (.ret (.ref e))) {s with heap:=h',toks:=tk}):=.of_wp λprog w A R s hs=>by
 obtain⟨hp,g,d,tk,os⟩:=s;obtain⟨hl,q⟩:=hs;have sub:=sub_enumerate;have p:Heap.IsList (Shared.heap ⟨hp,g,d,tk,os⟩) l items:=⟨_,hl,rfl,n,rfl⟩
 have hz:(hp.push {cls:=.type "list_iterator",data:=.fields #[.ref l,.int 0 0]}).objs.size=hp.objs.size+1:=ix ..;have fin:∀(tk':ah),R (.ok (.ret (.ref (hp.push {cls:=.type "list_iterator",data:=.fields #[.ref l,.int 0 0]}).objs.size))) ⟨(hp.push {cls:=.type "list_iterator",data:=.fields #[.ref l,.int 0 0]}).push {cls:=.type "enumerate",data:=.fields #[.none,.bool ai,.ref hp.objs.size,iz 1,.none,.none]},g,d,tk',os⟩:=λtk'=>by
  refine q _ _ _ tk' rfl hz (dt _ rfl) ⟨_,cg _ (dt _ rfl),rfl,rfl⟩ ?_ λb o e=>cg _ (cg _ e)
  rw[ix,hz]
 wp_walk using yg hl
 refine wpAny_stack_any λst=>bf ?_
 refine both ?_ ?_
 .wp_walk using yg hl,lT p
  exact⟨_,rfl,fin tk⟩
 .wp_walk using yg hl,lT p
  exact⟨_,rfl,fin tk⟩
def aU1(a:ak)(t:fN):checkTypeCall "enumerate" ⟨[a],[("start",.int 1 t)]⟩=pure ():=by kernel_rfl
def aU2(a:ak)(t:fN):checkBuiltinCall "enumerate.__new__" ⟨[.type "enumerate",a],[("start",.int 1 t)]⟩=pure ():=by kernel_rfl
def aU3(a b:ak)(t:fN):argsOk "object.__init__" ⟨[a,b],[("start",.int 1 t)]⟩:=by kernel_rfl
def aMr{self b:ak}{t:fN}{R:PySem.Fin->au->Prop}(hT:s.TypeIs self "enumerate")(q:R (.done (.ret .none)) s):ϑ (av prog w) A (Builtin.«object.__init__» ⟨[self,b],[("start",.int 1 t)]⟩) R E s:=by
 have hl:=yh.init.lookup;have hm:=yh.made
 repeat (any_goals (first|assumption|wp_step))
theorem aMs{l:am}{items:ax ak}{t:fN}{Q:ak->au->Prop}(hL:s.heap.IsList l items)
 (q:∀h' e it tk,it=s.heap.objs.size->e=it+1->rf h' e it 1 .none->h'.IsListIter it l 0->h'.objs.size=it+2->(∀b o,s.heap.get? b=ae o->h'.get? b=ae o)->Q (.ref e) {s with heap:=h',toks:=tk}) :
  ϑ (av prog w) A (call (.type "enumerate") [.ref l] [("start",.int 1 t)]) Q E s:=by
 have ft:=yh;obtain⟨c,tl,m0⟩:=ft.mro;have m1:=ft.made;have m2:=ft.sub;have m3:=ft.notType;have m4:=ft.canCreate;have k1:=aU1 (.ref l) t;obtain⟨⟨cl,dd,da,sl⟩,e,hc,n,hd⟩:=hL;simp only at hc hd;subst hc hd;refine wpAny_call (codeAny_of_tree (show ϑ _ _ (callAny (.type "enumerate") _) _ _ _ from bf ⟨yc _ 0x6,ii F.entry_type_call ?_⟩));rw[Around.under_plain (weight_type_call_type "enumerate" _ _) (units_type_call_type "enumerate" _ _)]
 repeat (any_goals (first|assumption|wp_step))
 have step:∀c (R:lb->au->Prop),c=(CF (.builtin "enumerate.__new__") ⟨[.type "enumerate",.ref l],[("start",.int 1 t)]⟩)->(∀h' e it tk,it=s.heap.objs.size->e=it+1->rf h' e it 1 .none->h'.IsListIter it l 0->h'.objs.size=it+2->(∀b o,s.heap.get? b=ae o->h'.get? b=ae o)->R (.ok (.ret (.ref e))) {s with heap:=h',toks:=tk})->codeAny (av prog w) A.in1 c R s:=λc R hc hq=>by
  subst hc;exact CH ft.plain F.entry_enumerate_new (mT (aU2 (.ref l) t) (aRa l items n dd sl t prog w A.in1 R s ⟨e,hq⟩))
 refine mh (step _ (λr s1=>∃h' a it tk,r=.ok (.ret (.ref a))/\s1={s with heap:=h',toks:=tk}/\rf h' a it 1 .none/\Q (.ref a) s1) rfl λh' a it tk x1 x2 x3 x4 x5 x6=>⟨h',a,it,tk,rfl,rfl,x3,q h' a it tk x1 x2 x3 x4 x5 x6⟩) λr s1 hr=>?_
 obtain⟨h',a,it,tk,rfl,rfl,x3,hq⟩:=hr;have hT:({s with heap:=h',toks:=tk}:au).TypeIs (.ref a) "enumerate":=⟨_,x3,rfl⟩
 have hli:=ft.init.lookup;have hbi:=ft.init.bind (.ref a)
 repeat (any_goals (first|assumption|wp_step))
 have step2:∀c (R:lb->au->Prop),c=(CF (.builtin "object.__init__") ⟨[.ref a,.ref l],[("start",.int 1 t)]⟩)->R (.ok (.ret .none)) {s with heap:=h',toks:=tk}->codeAny (av prog w) A.in1 c R {s with heap:=h',toks:=tk}:=λc R hc hq=>by
  subst hc;exact CH ft.init.plain F.entry_object_init (ft.init.check _ _ _ _ _ _ _ _ hT (aU3 _ _ _) (aMr hT hq))
 refine mh (step2 _ (λr s2=>r=.ok (.ret .none)/\s2={s with heap:=h',toks:=tk}) rfl ⟨rfl,rfl⟩) λr s2 hr=>?_
 obtain⟨rfl,rfl⟩:=hr
 repeat (any_goals (first|assumption|wp_step))
end
theorem shift{prog:cb}{w:br}{A:cu}{it:am}{fp:aa am}{n:ah}{P:ah->ak->Prop}{St:ah->bm->Prop}(D:Draws prog w A it fp n P St)(m:ah):Draws prog w A it fp (m+n) (λj v=>P (j-m) v) (λj h=>∃i,j=m+i/\St i h) where
 live:=λj h ⟨i,_,st⟩=>D.live i h st
 frame:=λj h h' ⟨i,e,st⟩ k=>⟨i,e,D.frame i h h' st k⟩
 item:=λj s Q E hj ⟨i,e,st⟩ hQ=>D.item i s Q E 0x1 st λx h' tk px st' sb=>hQ x h' tk (by rw[e,wx];exact px) ⟨i+1,by lia,st'⟩ sb
 done:=λs Q E ⟨i,e,st⟩ hE=>by
  obtain rfl:n=i:=by lia
  exact D.done s Q E st hE
def over{prog:cb}{w:br}{A:cu}(hh:A.handled=aj)(it l:am)(items:ax ak)(i:ah)(hi:items[i]?=aj):Draws prog w A it [it,l] 0 (λ_ _=>ij) (λ_ h=>h.IsListIter it l i/\h.IsList l items) where
 live:=λ_ _ st=>let ⟨o,ho,_⟩:=st.1;⟨o,ho⟩
 frame:=λ_ _ _ st k=>⟨st.1.at λo e=>k it (bu ..) o e,st.2.at λo e=>k l 0x2 o e⟩
 item:=λj s Q E hj=>aT hj (Nat.not_lt_zero _)
 done:=λs Q E st hE=>wpAny_nextOf_list_end hh st.1 st.2 hi hE
end Wn
namespace Mi
open PySem L2 PySem.SeqAt PySem.Spec PyProof.Rows
def aEv(m:ah)(a:FE)(fr:aq):FI:=λρ=>do let x <- a ρ;let xs <- aQx x;pure (LC m xs,fr||x.pure)
section
variable [KFrag]
def aKf{h:bm}{a b:am}{o u:bP}{T U:en}(e:h.get? a=ae o)(hc:o.cls=.type T)(e':h.get? b=ae u)(hc':u.cls=.type U)(ne:(jf T==jf U)=ai):a≠b:=λq=>by
 subst q;rw[e] at e';cases e';rw[hc] at hc';rw[hc'] at ne;simp at ne
theorem aBx{P:cb}{w:br}{K:cm}{elts:aa Expr}{x1}{tp:c9}(m:ah)(a e it:am)(hne:e≠it):Turn P w K (.Tuple elts x1 tp) (aUq K m a) [e,it] e (λi h=>(∃old,rf h e it ((m+i:ah):af) old)/\h.IsListIter it a i) where
 mem:=bu ..
 obj:=λi h ⟨⟨old,h1⟩,o,h2,_,h3⟩ b hb=>by
  simp only[bi,np,or_false] at hb;rcases hb with rfl|rfl
  .exact⟨_,h1,λv z=>nomatch(show zp _=zq v from z)⟩
  .exact⟨o,h2,λv z=>by rw[h3] at z;cases z⟩
 keep:=λi h h' ⟨⟨old,h1⟩,h2⟩ k=>⟨⟨old,k e (bu ..) _ h1⟩,h2.at λo q=>k it 0x2 o q⟩
 item:=by
  intro Y hP hw hK hc i Ψ s σ H E I hf ⟨⟨old,h1⟩,h2⟩ ⟨xs,x,hq,hx⟩;subst hP hw hK;obtain⟨its,rv,p,hz⟩:=I.list hq;obtain⟨u,hu,ru⟩:=rv.get hx;have hlt:e<s.heap.objs.size:=bE h1;obtain⟨oi,e2,c2,d2⟩:=id h2;obtain⟨ol,e3,c3,_⟩:=id p.isList;have nai:a≠it:=aKf e3 c3 e2 c2 0x4;have nea:e≠a:=aKf h1 rfl e3 c3 0x4;have D:=Wn.shift (Draws.list (prog:=Y.prog) (w:=Y.w) (A:=Y.A.in1) (show Y.A.in1.handled=aj from I.ok.hd hc) it a nai its.toArray) m;have hil:i<its.toArray.size:=by
   have:=(ej.mp hu).1;simpa using this
  refine wpAny_pyNext_enum_itemD D h1 ⟨i,rfl,h2,p.isList⟩ 0x1 hne (by simp[hne,nea]) λv h' tk o0 o1 o2 o3 o4 o5=>?_
  rw[wx] at o0;obtain rfl:u=v:=by
   have:its[i]?=ae v:=by simpa using o0
   rw[hu] at this;exact di this
  obtain⟨i',ei,st1,st2⟩:=o2;obtain rfl:i'=i+1:=by lia
  refine⟨_,rfl,wpAny_letOwnedTupleGo_enum o1 λh'' g1 g2=>?_⟩;have sb:l8 e h' h'':=g2;have kk:∀b o,b∉[e,it]->s.heap.get? b=ae o->h''.get? b=ae o:=λb o hb eb=>by
   simp only[bi,np,or_false,gz] at hb;exact(sb.2 b hb.1).trans (o5 b o hb.1 hb.2 eb)
  have t3:h''.get? s.heap.objs.size=ae {cls:=.type "tuple",data:=.seq #[.int ((m+i:ah):af) tk,u]}:=(sb.2 _ (jz hlt)).trans o3;refine⟨.ref s.heap.objs.size,upd H s.heap.objs.size (.tup [.int ((m+i:ah):af),x]),W7 (s:=s) (h':=h'') (t':=tk+1) (ch:=[e,it]) I kk (λb hb=>hf b hb) (bd _) ?_,rfl,⟨_,x,λys hy=>by rw[I.yP hy hq];exact hx,rfl,I.hok.fresh (bd _),rfl⟩,⟨⟨u,?_⟩,?_⟩,λb hb=>?_⟩
  .exact⟨by show 2<=bg;rw[eS];decide,[.int ((m+i:ah):af) tk,u],.cons ⟨_,rfl⟩ (.cons ru .nil),⟨_,t3,rfl,0,rfl⟩⟩
  .have:((m+(i+1):ah):af)=((m+i:ah):af)+1:=by lia
   rw[this];exact g1
  .obtain⟨o,ho,r⟩:=st1;exact⟨o,(sb.2 it (Ne.symm hne)).trans ho,r⟩
  .rw[bB]
   .exact(hf b hb).1
   .intro z;simp only[bi,np,or_false] at hb;rcases hb with h|h
    .rw[<-h,z] at hlt;exact fT _ hlt
    .have:=bE e2;rw[<-h,z] at this;exact fT _ this
 done:=by
  intro Y hP hw hK hc i Ψ s σ H E I hf ⟨⟨old,h1⟩,h2⟩ ⟨xs,hq,hx⟩;subst hP hw hK;obtain⟨its,rv,p,hz⟩:=I.list hq;obtain⟨f0,f1,f2,f3,f4,f5⟩:=hf it 0x2;have hl:=rv.length;exact wpAny_pyNext_enum_endD (Wn.over (show Y.A.in1.handled=aj from I.ok.hd hc) it a its.toArray i (by simp;lia)) h1 ⟨h2,p.isList⟩ λh' eb=>⟨rfl,I.turned (t':=s.toks) (λb o hb e=>eb b o hb e) f0 f1 f3 f4 f5⟩
 self:=λ_ _ _ _ _ ⟨⟨old,h1⟩,_⟩ h=>CI h1 h
section
variable {X:Cx} {a:Expr} {fa:FE} {ra:aq} {p pos:c9}
def aMt{M:mE}{A:cu}{E:ak->au->Prop}{s:au}{T:en}{args:aa (aq×eP ak)}{kws:aa (az Str×eP ak)}{Q:ak->au->Prop}(hp:args.any (·.1)=ai)(hk:kws.any (·.1.isNone)=ai)
 (h:ϑ M A (evalArgs (.type T) ag args kws) (λa s₁=>ϑ M A (call (.type T) a.pos a.kw) Q E s₁) E s):ϑ M A (callWith pos (.type T) [] args kws) Q E s:=by
 unfold callWith;refine aw (ic (fu h (λa s1 h1=>aw (B3 ?_)) λ_ _ x=>x));rw[hp,hk];exact aw (bf (aw (fu h1 (λr s2 hr=>aw (ic (wpAny_point (bf hr)))) λ_ _ x=>x)))
def aIl{elts:aa Expr}{x1}{tp kp cp:c9}{j:ah}(hg:Gl X "enumerate")(hm:X.mg "enumerate"=aj)(ha:PA X [a] (gA (aD fa aV) ra))(hs:dw [a] X.env=[(ai,cw a X.env)]:=by rfl) :
  PI X (.Tuple elts x1 tp) (.Call (.Name "enumerate" p) [a] [⟨ae "start",.Constant (.int 1) j cp,kp⟩] pos) (gI X.K (aEv 1 fa ra)):=by
 intro Ψ s σ H R I ⟨ρ,items,k,E,h,q⟩;obtain⟨d,h1,h⟩:=bJ h;obtain⟨its,h2,h⟩:=bJ h;cases h;have hd:d=.lst its:=by
  unfold aQx at h2;split at h2
  .cases h2;rfl
  .cases h2
 subst hd;have hb:aD fa aV ρ=.ok [ξ its]:=by
  unfold aD;rw[h1];rfl
 refine jI (vJ I hg hm D3 (aMt (by rw[hs];rfl) rfl ?_));have hA:=ha pos Ψ s σ H (λvs H1=>∃v,vs=[v]/\dO H H1/\Rep All H1 v (.lst its)/\(ra=ag->Rep (New H) H1 v (.lst its))) I ⟨ρ,_,E,hb,λvs H1 s1 r1 n1=>by
  cases r1 with
  |cons r t=>
   cases t;refine⟨_,rfl,s1,r,λz=>?_⟩;cases n1 z with
   |cons r' _=>exact r'⟩
 rw[hs] at hA ⊢;refine evalArgs_kwB rfl (thn hA λus s1 ⟨vs,H1,I1,r1,q1⟩=>kws_cons (zc (kws_nil ?_)));obtain⟨v,rfl,s1',r,n⟩:=q1;cases r1 with
 |cons rv rr=>
  cases rr;obtain⟨l,ys,rfl,hl,rr⟩:=r.lW (K:=X.K);cases rv;obtain⟨vs,rvs,pl,hz⟩:=I1.list hl;refine Wn.aMs (s:={s1 with toks:=s1.toks+1}) pl.isList λh' e it tk e1 e2 e3 e4 e5 e6=>CI e3 ?_
  subst e2 e1;have hp1:∀b o,s1.heap.get? b=ae o->h'.get? b=ae o:=e6;refine⟨s1.heap.objs.size+1,[s1.heap.objs.size+1,s1.heap.objs.size],_,_,H1,rfl,I1.kept (t':=tk) λb o e=>hp1 b o e,aBx 1 l (s1.heap.objs.size+1) s1.heap.objs.size (Nat.succ_ne_self _),⟨⟨_,e3⟩,e4⟩,λb hb=>?_,q _ H1 s1' (.enf 1 l its rfl r rfl) λhk=>.enf 1 l its rfl ?_ rfl⟩
  .simp only[bi,np,or_false] at hb;rcases hb with rfl|rfl
   .exact I1.aL7 (i0 _) (I1.hok.fresh (i0 _))
   .exact I1.aL7 (bd _) (I1.hok.fresh (bd _))
  .rw[jn] at hk;rcases hk with hk|hk
   .exact n hk
   .cases hk
end
end
def sortedK:aa D->Res D
 |[.dct kvs]=>if kvs.all (λp=>!isTup p.1)&&bF (nQ kvs) then .ok (.lst (iK (nQ kvs))) else .bad
 |ds=>fD ds
def aEw(k v:D):Res D:=if oZ k&&v.pure then .ok (.dct [(k,v)]) else .bad
section
variable [KFrag]
section
def aBy(hp:PySem.Pairs (dJ P w) es vs):∀{kvs:aa (Key×V)}{ds:aa (D×D)},KV kvs vs->oV Q H kvs ds->Vals (kvs.map λp=>kV p.1) (es.map (·.key))/\cL All H (kvs.map λp=>kV p.1) (nQ ds):=by
 induction hp with
 |nil=>
  intro kvs ds r u;cases r;cases u;exact⟨.nil,.nil⟩
 |cons h _ t ih=>
  intro kvs ds r u;cases r with
  |cons g r=>
   cases u with
   |@cons k _ _ _ _ _ u=>
    obtain⟨h1,h2⟩:=ih r u;obtain⟨g1,g2⟩:=g;refine⟨.cons (aR0 (by rw[show k=_ from g1];exact h)) h1,.cons ?_ h2⟩;cases k with
    |inl i=>exact .int i
    |inr x=>exact .str x
def Rep.aVr(r:Rep All H v d)(hp:d.pure=ag)(ha:H a=ae ob)(hm:aDz ob=ag):Rep All (upd H a o) v d:=by
 have:=(cL.cons r .nil).upd (o:=o) (by rw[θ,hp];rfl) ha hm;cases this with
 |cons r _=>exact r
def aBz(hK:KFrag.K=X.K)(hc:X.calm=ag)(hu:X.A.units+20<bw):oW X (.builtin "sorted") (rs sortedK ag):=by
 intro Ψ s σ H xs us Q I vr ⟨ds,d,r,e,k⟩;unfold sortedK at e;split at e
 .rename_i kvs;split at e
  .rename_i hl;rw[bj] at hl;cases e;have fin:∀p xs',H p=aj->cL All H xs' (iK (nQ kvs))->Q (.ref p) (upd H p (.lst xs')):=λp xs' hp r'=>by
    have sp:dO H (upd H p (.lst xs')):=dO.upd hp;exact k _ _ sp (.lst aM trivial (r'.same sp)) λ_=>.lst aM hp ((r'.cU (BZ hl.2)).same sp)
   obtain⟨vv,uu,rfl,rfl,r,v⟩:=mJ r vr;cases r with
   |dK e _ rk _=>
    cases v;obtain⟨hz,lo,vs,rel,o,es,ep,e1,e2,e3,_,hp,_⟩:=VP I.hok e;obtain⟨r1,r2⟩:=aBy hp rel rk;have hlen:es.size<=bg:=by rw[<-fA,<-aS,<-r1.length,aS];exact hz
    exact uT hK I hu r1 (by rw[aS,fA];exact hlen) r2 hl.2 (λQ' E' h=>aEu (I.ok.hd hc) lo ⟨o,e1,e2,e3⟩ hlen λh' tk kp sz=>h h' tk kp sz) fin
   |dT e _ rt _=>
    cases rt with
    |cons r t=>
     have:=hl.1;rw[ik,bj] at this;cases this.1
    |nil=>
     cases v;obtain⟨es,ep,zs,raw,lo,hz,rel,he⟩:=aR9 I e;have h0:zs=[]:=by cases rel;rfl
     subst h0;have h1:es.toList=[]:=he;exact uT hK I hu .nil (eI _) .nil hl.2 (λQ' E' h=>aEu (I.ok.hd hc) lo raw (by rw[<-fA,h1];exact eI _) λh' tk kp sz=>by rw[h1];exact h h' tk kp sz) fin
  .cases e
 .exact fL hK hu Ψ s σ H xs us Q I vr ⟨_,d,r,e,k⟩
def aMu(h:oZ d=ag):∃k:Key,d=kD k:=by
 cases d<;>first|exact⟨.inl _,rfl⟩|exact⟨.inr _,rfl⟩|cases h
def aRb(r:Rep P H v (kD k)):v=kV k:=by
 cases k with
 |inl i=>cases r;rfl
 |inr x=>cases r;rfl
def XF{r1 r2:aq}(hk1:PE X k1 (gE g1 r1))(hv1:PE X v1 (gE h1 r2)):PE X (.Dict [ae k1] [v1] pos) (gE (b2 aEw g1 h1) ag):=
 PE.imp (aDh (vO hk1 hv1 V5) rfl rfl 0x2 (rh rfl)) λσ H Q ⟨ρ,d,E,h,q⟩=>by
 obtain⟨a1,e1,hA⟩:=bJ h;obtain⟨a2,e2,hB⟩:=bJ hA;clear h hA;unfold aEw at hB;split at hB
 .rename_i hg;cases hB;rw[bj] at hg;obtain⟨k,rfl⟩:=aMu hg.1;intro p hp;have s0:dO H (upd H p (.dK [])):=dO.upd hp;refine⟨ρ,_,E.same s0,e1,λw1 H1 s1 q1 _=>?_⟩;obtain rfl:=aRb q1;refine⟨ρ,_,(E.same s0).same s1,e2,λw2 H2 s2 q2 _=>?_⟩;have sm:dO (upd H p (.dK [])) H2:=s1.trans s2;refine⟨sm _ _ aM,[(k,w2)],rfl,rh rfl,?_⟩;have sf:dO H (upd H2 p (.dK (jC [] [(k,w2)]))):=λb o e=>by
   rw[bB (eY e hp)];exact sm b o (s0 b o e)
  have rk:∀P:am->Prop,oV P (upd H2 p (.dK (jC [] [(k,w2)]))) (jC [] [(k,w2)]) [(kD k,a2)]:=λP=>.cons ((q2.aVr hg.2 (sm _ _ aM) rfl).cU hg.2) .nil
  exact q _ _ sf (.dK aM trivial (rk All) (by simp[jC,putK])) λ_=>.dK aM hp (rk _) (by simp[jC,putK])
 .cases hB
end
end
def aMv(f:FE):FI:=λρ=>do
 let d <- f ρ
 match d with
 |.scr xs=>if θ xs then .ok (xs,ag) else .bad
 |_=>.bad
noncomputable def iM(own:ah->aq)(i:ah):ah->aq:=λj=>own j||j==i
def aRc(i:ah)(f:FE)(g:FS):FS:=λρ=>do
 let d <- f ρ
 match d with
 |.lst xs=>if θ xs then g (ρ.set i (.lst xs)) else .bad
 |_=>.bad
noncomputable def MJ(f g:FS):FS:=λρ=>do
 let r <- f ρ
 match r with
 |.nx ρ'=>g ρ'
 |.rt d=>.ok (.rt d)
 |_=>.bad
noncomputable def XH(i:ah)(g:FS):FS:=λρ=>match ρ.getD i .uD with
 |.lst xs=>g (ρ.set i (.scr xs))
 |_=>.bad
noncomputable def RP(i:ah)(g:FS):FS:=λρ=>match ρ.getD i .uD with
 |.lst xs=>(do
   let r <- g (ρ.set i (.scr xs))
   match r with
   |.rt d=>.ok (.rt d)
   |_=>.bad)
 |_=>.bad
def aEx(i:ah)(f:FE):FS:=λρ=>do
 let d <- f ρ
 match ρ.getD i .uD,d with
 |.lst xs,.scr ys=>if ϒ (xs.length+ys.length<=lim)&&θ ys then .ok (.nx (ρ.set i (.lst (xs++ys)))) else .bad
 |_,_=>.bad
def aUt:D->D->D->D->Res D
 |.int a,.int i,.int b,.int j=>.ok (.dct (putD [(.int a,.int i)] (.int b) (.int j)))
 |_,_,_,_=>.bad
def aRd(k v l w:FE):FE:=λρ=>do
 let k <- k ρ
 let v <- v ρ
 let l <- l ρ
 let w <- w ρ
 aUt k v l w
def aMw(l:am)(items:ax ak)(n:ah)(b:am)(items2:ax ak)(n2:ah)(sm:ax (az ak))(hc0:¬(!items.isEmpty&&nN (items.size+items2.size))=ag)(hc1:items.size<=bg)(hs2:items.size+items2.size<=bg+1) :
  lP (Builtin.«list.extend» ⟨[.ref l,.ref b],[]⟩) (λ_ R s=>s.heap.get? l=ae {cls:=.type "list",dict:=aj,data:=.seq items n,slots:=#[]}/\s.heap.get? b=ae {cls:=.type "list",dict:=aj,data:=.seq items2 n2,slots:=sm}/\R (.ok (.ret kK)) {s with heap:=s.heap.update l (fx λx=>x++items2),toks:=s.toks}):=
 .of_wp λprog w A R s h=>by
  obtain⟨hp,g,d,tk,os⟩:=s;obtain⟨hl,hb,h⟩:=h;have f3:=Bf;have hz':(items++items2).size<=bg+1:=by rw[B9];exact hs2
  wp_walk using (i9 hl rfl),wpAny_loadPart' hl,wpAny_loadPart' hb;exact⟨_,rfl,h⟩
section
variable [KFrag]
section
variable {X:Cx} {own:ah->aq} {e:Expr} {fe f:FE} {g g1:FS}
def aAb(hK:KFrag.K=X.K)(hl:PE X l (gE f rl)):PI X tg l (gI X.K (aMv f)):=by
 intro Ψ s σ H R I ⟨ρ,items,k,E,h,q⟩;obtain⟨d,h1,h⟩:=bJ h;split at h
 .rename_i its;split at h
  .rename_i hpu;cases h;refine thn (hl Ψ s σ H (λv H1=>dO H H1/\Rep All H1 v (.scr items)) I ⟨ρ,_,E,h1,λv H1 s1 r1 _=>⟨s1,r1⟩⟩) λu s1 ⟨v,H1,I1,ru,sm,r1⟩=>?_
   obtain⟨a,xs,rfl,ee,rr⟩:=r1.inv;cases ru;obtain⟨its,rv,p,hz⟩:=I1.list (ee.sq hK);refine lT p.isList ?_;refine⟨s1.heap.objs.size,[s1.heap.objs.size],_,_,H1,rfl,I1.kept λb o e=>cg _ e,zN a _,⟨_,dt _ rfl,rfl,rfl⟩,λb hb=>?_,q _ H1 sm (.scr a hK rfl r1) λ_=>.scr a hK rfl (r1.cU ?_)⟩
   .have e:b=s1.heap.objs.size:=by simpa using hb
    subst e;exact I1.aL7 (bd _) (I1.hok.fresh (bd _))
   .exact hpu
  .exact bx h
 .exact bx h
def y_:iM own i i=ag:=by unfold iM;simp
def v_(h:iM own i j=ag):own j=ag\/j=i:=by
 unfold iM at h;simpa using h
def rP(h:own j=ag):iM own i j=ag:=by unfold iM;rw[h];rfl
def Own.to(h:Own own σ b):Own (iM own i) σ b:=by
 obtain⟨j,hj,e⟩:=h;exact⟨j,rP hj,e⟩
def aC0(ho:own i=ai):rO (iM own i) i=own:=by
 funext j
 unfold rO iM;by_cases h:j=i
 .subst h;rw[ho];simp
 .have:(j==i)=ai:=by simpa using h
  rw[this,mv];simp
def KL(own:ah->aq)(i:ah)(σ:L2.St)(H:Hp)(σ':L2.St)(H':Hp):Prop:=∀a o,H a=ae o->¬Own (iM own i) σ a->H' a=ae o/\¬Own own σ' a
def kL(own:ah->aq)(i:ah)(D:Ends)(σ:L2.St)(H:Hp):Fl->Prop
 |.nx ρ=>∀σ' H',KL own i σ H σ' H'->ES own H' σ' ρ->D.nx σ' H'
 |.bk ρ=>∀σ' H',KL own i σ H σ' H'->ES own H' σ' ρ->D.bk σ' H'
 |.ct ρ=>∀σ' H',KL own i σ H σ' H'->ES own H' σ' ρ->D.ct σ' H'
 |.rt d=>kRt (iM own i) D σ H d
def kL.step{D:Ends}(k:KU (iM own i) σ H σ' H')(h:kL own i D σ H fl):kL own i D σ' H' fl:=by
 cases fl with
 |nx ρ=>exact λσ2 H2 k2 e=>h σ2 H2 (λa o e n=>let ⟨e1,n1⟩:=k a o e n;k2 a o e1 n1) e
 |bk ρ=>exact λσ2 H2 k2 e=>h σ2 H2 (λa o e n=>let ⟨e1,n1⟩:=k a o e n;k2 a o e1 n1) e
 |ct ρ=>exact λσ2 H2 k2 e=>h σ2 H2 (λa o e n=>let ⟨e1,n1⟩:=k a o e n;k2 a o e1 n1) e
 |rt d=>exact kS.step (fl:=.rt d) k h
def tL(own:ah->aq)(i:ah)(f:FS):TS:=λD σ H=>∃ρ fl,ES (iM own i) H σ ρ/\f ρ=.ok fl/\kL own i D σ H fl
def MK{st:bq}{rest:aa bq}(h1:PS X st (tS (iM own i) g1))(h2:PSs X rest (tL own i g)):PSs X (st::rest) (tL own i (MJ g1 g)):=PSs.imp (tD h1 h2) λD σ H z=>by
 obtain⟨ρ,fl,E,h,q⟩:=z;obtain⟨r,h1,h2⟩:=bJ h;refine⟨ρ,r,E,h1,?_⟩;cases r with
 |nx ρ'=>exact λσ' H' k E'=>⟨ρ',fl,E',h2,q.step k⟩
 |bk ρ'=>exact bx h2
 |ct ρ'=>exact bx h2
 |rt d=>cases h2;exact q
def aKg(E:ES own H σ ρ)(ho:own i=ag)(hσ:σ[i]?=ae (ae (.ref a)))(hd:ρ.getD i .uD=.lst ds)(hua:H a=ae (.lst vs))(rr:cL All H vs ds):ES (rO own i) (upd H a (.frz o (.lst vs))) σ (ρ.set i (.scr ds))/\¬Own (rO own i) σ a:=by
 obtain⟨a',oa,ea,ra,hin,hHa,hma,huq⟩:=E.own i _ ho hσ;cases ea;rw[hd] at ra hin;have hna:¬Own (rO own i) σ a:=λ⟨j,hj,e⟩=>(oJ hj).2 (huq j (oJ hj).1 e)
 have hOa:Own own σ a:=⟨i,ho,hσ⟩
 have hl:i<ρ.length:=by rw[<-E.len];exact(ej.mp hσ).1
 have noT:∀ob,H a=ae ob->aLw ob=ag:=λob z=>by rw[hua] at z;cases z;rfl
 refine⟨⟨by simp[E.len],λj hj=>?_,λj w hj hw=>?_⟩,hna⟩
 .rw[gQ] at hj ⊢;by_cases h:i=j/\i<ρ.length
  .rw[ao h];obtain⟨rfl,_⟩:=h;exact⟨_,hσ,λ_=>.frz (.inl ⟨o,aM⟩) ((RL noT rr hin).cU hin)⟩
  .rw[ap h] at hj ⊢;have hij:i≠j:=λz=>h ⟨z,hl⟩
   obtain⟨w,h1,h2⟩:=E.at_ j hj;refine⟨w,h1,λhj2=>?_⟩;have hoj:own j=ai:=by
    unfold rO at hj2;cases hq:own j with
    |false=>rfl
    |true=>rw[hq] at hj2;simp at hj2;exact aT hj2.symm hij
   refine(h2 hoj).keep (λb ob hb hp=>?_) λb hb hq=>hb hq.of
   rw[bB]
   .exact hb
   .intro z;subst z;rcases hp with hp|hp
    .exact hp hOa
    .rw[hua] at hb;cases hb;cases hp
 .obtain⟨hoj,hji⟩:=oJ hj;rw[gQ,ap λz=>hji z.1.symm];obtain⟨b,ob,h1,h2,h3,h4,h5,h6⟩:=E.own j w hoj hw;subst h1;have hba:b≠a:=λz=>by subst z;exact hji (huq j hoj hw)
  refine⟨b,ob,rfl,?_,h3,by rw[bB hba];exact h4,h5,λk hk hs=>h6 k (oJ hk).1 hs⟩;refine(h2.aSt (P':=λc=>c=b) h3 rfl).keep (λc oc hc hp=>?_) λ_ _=>trivial
  rw[bB]
  .exact hc
  .intro z;subst z;rcases hp with hp|hp
   .exact hba hp.symm
   .rw[hua] at hc;cases hc;cases hp
def aEy(hx:iM own i rtX=ai:=by rfl)(ho:own i=ai:=by rfl)(h2:PSs X ss (tS own g)):PSs X ss (tL own i (XH i g)):=by
 rintro Ψ s σ H D' I ⟨ρ,fl,E,h,q⟩;unfold XH at h;split at h
 .rename_i xs hxs;obtain⟨a,o,hσ,r,hin,ha,hm⟩:=E.ownAt y_ (by rw[hxs];intro z;cases z);rw[hxs] at r;obtain⟨vs,hl,rr⟩:=CJ r;obtain⟨o,If⟩:=tV I hl;obtain⟨EF,hna⟩:=aKg E y_ hσ hxs hl rr;rw[aC0 ho] at EF hna;have hOa:Own (iM own i) σ a:=⟨i,y_,hσ⟩
  have hx0:own rtX=ai:=by
   cases q:own rtX with
   |false=>rfl
   |true=>rw[rP q] at hx;cases hx
  have kk:∀σ' H',KU own σ (upd H a (.frz o (.lst vs))) σ' H'->KL own i σ H σ' H':=λσ' H' k b ob e n=>k b ob (by rw[bB (λz=>by subst z;exact n hOa)];exact e) λz=>n z.to
  refine h2 Ψ s σ _ D' If ⟨_,fl,EF,h,?_⟩;cases fl with
  |nx ρ=>exact λσ' H' k E'=>q σ' H' (kk σ' H' k) E'
  |bk ρ=>exact λσ' H' k E'=>q σ' H' (kk σ' H' k) E'
  |ct ρ=>exact λσ' H' k E'=>q σ' H' (kk σ' H' k) E'
  |rt d=>
   refine kRt.mk hx0 λv H' hk rv=>kRt.old q hx v H' (λb ob hb hn=>hk b ob ?_ λz=>hn z.to) (rv.mono λb hb=>?_)
   .rw[bB (λz=>by subst z;exact hn hOa)];exact hb
   .rcases hb with hb|hb
    .exact .inl hb.to
    .exact .inr (by
      have:b≠a:=λz=>by subst z;rw[aM] at hb;cases hb
      rw[bB this] at hb;exact hb)
 .exact bx h
def aIm(E:ES own H σ ρ)(ho:own i=ai):ES (iM own i) H (σ.set i aj) (ρ.set i .uD):=by
 have hs:∀j v,(σ.set i aj)[j]?=ae (ae v)->i≠j/\σ[j]?=ae (ae v):=λj v h=>by
  by_cases hij:i=j
  .subst hij;rw[oT] at h;split at h
   .split at h<;>cases h
   .exact aT rfl ‹_›
  .rw[ff hij] at h;exact⟨hij,h⟩
 have hO:∀b,Own (iM own i) (σ.set i aj) b↔Own own σ b:=λb=>by
  constructor
  .rintro⟨j,hj,e⟩;obtain⟨h1,h2⟩:=hs j _ e;rcases v_ hj with h|h
   .exact⟨j,h,h2⟩
   .exact aT h.symm h1
  .rintro⟨j,hj,e⟩;have hij:i≠j:=λz=>by subst z;rw[ho] at hj;cases hj
   exact⟨j,rP hj,by rw[ff hij];exact e⟩
 have hP:(λa=>¬Own (iM own i) (σ.set i aj) a)=λa=>¬Own own σ a:=funext λa=>by rw[hO]
 refine⟨by simp[E.len],λj hj=>?_,λj w hj hw=>?_⟩
 .rw[gQ] at hj ⊢;by_cases h:i=j/\i<ρ.length
  .rw[ao h] at hj;exact aT rfl hj
  .rw[ap h] at hj ⊢;obtain⟨w,h1,h2⟩:=E.at_ j hj;have hij:i≠j:=λz=>h ⟨z,by subst z;rw[<-E.len];exact(ej.mp h1).1⟩
   rw[hP];refine⟨w,by rw[ff hij];exact h1,λhj2=>h2 ?_⟩;cases hq:own j with
   |false=>rfl
   |true=>rw[rP hq] at hj2;cases hj2
 .obtain⟨hij,hw⟩:=hs j w hw;rw[gQ,ap λz=>hij z.1];have hoj:own j=ag:=(v_ hj).resolve_right λz=>hij z.symm
  obtain⟨b,ob,h1,h2,h3,h4,h5,h6⟩:=E.own j w hoj hw;refine⟨b,ob,h1,h2,h3,h4,h5,λk hk hs2=>?_⟩;obtain⟨hik,hs3⟩:=hs k _ hs2;exact h6 k ((v_ hk).resolve_right λz=>hik z.symm) hs3
def aEz{rest:aa bq}(hx0:iM own i rtX=ai)(ho:own i=ai)(hN:X.N.Nodup)(hi:X.N[i]?=ae x)(hx:Loc X.env.scope x)(he:PE X e (gE fe ag))(hr:PSs X rest (tL own i g))(hs:zSw X e x pos' pos:=by rfl)(hf:zFn X x:=by first|exact .inl rfl|exact .inr rfl|assumption) :
  PSs X (.Assign [.Name x pos'] e pos::rest) (tS own (aRc i fe g)):=PSs.imp (tD (Y4 hN hi hx he hs hf) hr) λD σ H z=>by
 obtain⟨ρ,fl,E,h,q⟩:=z;obtain⟨d,h1,h2⟩:=bJ h;split at h2
 .rename_i xs;split at h2
  .rename_i hp;refine⟨ρ,_,E.er,h1,λv H' s r n=>?_⟩;obtain⟨a,ob,rfl,hn,ha,hm⟩:=aK8 (n rfl) (show inner (.lst xs)=ag from hp);obtain⟨E2,k⟩:=(aIm E ho).aUr s y_ hn r (show inner (.lst xs)=ag from hp) ha hm;rw[CL,CL] at E2;have hO:∀b,Own (iM own i) (σ.set i (ae (.ref a))) b->b=a\/Own own σ b:=λb ⟨j,hj,e⟩=>by
    by_cases hij:i=j
    .subst hij;rw[oT] at e;split at e
     .split at e<;>cases e
      exact .inl rfl
     .exact aT rfl ‹_›
    .rw[ff hij] at e;exact .inr ⟨j,(v_ hj).resolve_right λz=>hij z.symm,e⟩
   have hx1:own rtX=ai:=by
    cases q:own rtX with
    |false=>rfl
    |true=>rw[rP q] at hx0;cases hx0
   have kk:∀σ' H2,KL own i (σ.set i (ae (.ref a))) H' σ' H2->KU own σ H σ' H2:=λσ' H2 k b o e nn=>k b o (s b o e) λz=>by
    rcases hO b z with z|z
    .subst z;rw[show H b=aj from hn] at e;cases e
    .exact nn z
   refine⟨_,fl,E2,h2,?_⟩;cases fl with
   |nx ρ=>exact λσ' H2 k E'=>q σ' H2 (kk σ' H2 k) E'
   |bk ρ=>exact λσ' H2 k E'=>q σ' H2 (kk σ' H2 k) E'
   |ct ρ=>exact λσ' H2 k E'=>q σ' H2 (kk σ' H2 k) E'
   |rt d=>
    refine kRt.mk hx0 λv H2 hk rv=>kRt.old q hx1 v H2 (λb o e nn=>hk b o (s b o e) λz=>?_) (rv.mono λb hb=>?_)
    .rcases hO b z with z|z
     .subst z;rw[show H b=aj from hn] at e;cases e
     .exact nn z
    .rcases hb with hb|hb
     .rcases hO b hb with z|z
      .subst z;exact .inr hn
      .exact .inl z
     .refine .inr ?_;cases q:H b with
      |none=>rfl
      |some o=>rw[s b o q] at hb;cases hb
  .exact bx h2
 .exact bx h2
def aAc(ho:own i=ag)(hr:PSs X ss (tS (rO own i) g))(hx:own rtX=ai:=by rfl):PSs X ss (tS own (RP i g)):=by
 rintro Ψ s σ H D' I ⟨ρ,fl,E,h,q⟩;unfold RP at h;split at h
 .rename_i xs hxs;obtain⟨r2,h3,h4⟩:=bJ h;obtain⟨a,o,hσ,r,hin,ha,hm⟩:=E.ownAt ho (by rw[hxs];intro z;cases z);rw[hxs] at r;obtain⟨vs,hl,rr⟩:=CJ r;obtain⟨o,If⟩:=tV I hl;obtain⟨EF,hna⟩:=aKg E ho hσ hxs hl rr;have hOa:Own own σ a:=⟨i,ho,hσ⟩
  refine hr Ψ s σ _ D' If ⟨_,r2,EF,h3,?_⟩;cases r2 with
  |rt d2=>
   cases h4;refine kRt.mk (by cases q:rO own i rtX with|false=>rfl|true=>have:=(oJ q).1;rw[hx] at this;cases this) λv H' hk rv=>kRt.old q hx v H' (λb ob hb hn=>hk b ob ?_ λz=>hn z.of) (rv.mono λb hb=>?_)
   .rw[bB (λz=>by subst z;exact hn hOa)];exact hb
   .rcases hb with hb|hb
    .exact .inl hb.of
    .exact .inr (by
      have:b≠a:=λz=>by subst z;rw[aM] at hb;cases hb
      rw[bB this] at hb;exact hb)
  |_=>exact bx h4
 .exact bx h
def aMx:MtM X "list.extend" (λx vs H Q=>∃l b xs zs,x=.ref l/\vs=[.ref b]/\H l=ae (.lst xs)/\SqL X.K H b zs/\xs.length+zs.length<=bg/\Q .non (upd H l (.lst (xs++zs)))):=by
 intro Ψ s σ H x vs v us Q I rx rv h;obtain⟨l,b,xs,zs,rfl,rfl,hH,hB,hz,q⟩:=h;cases rx;obtain⟨u,rfl,ru⟩:=rv.one;cases ru;obtain⟨z,its,n,r,hl,e⟩:=I.aOr hH;obtain⟨its2,r2,⟨o2,n2,e2,c2,d2,t2⟩,_⟩:=I.list hB;obtain⟨oc2,od2,ot2,os2⟩:=o2;dsimp only at c2 d2 t2;subst c2 d2 t2;have z2:=r2.length;have hsz:its.toArray.size+its2.toArray.size<=bg:=by rw[b6,b6];lia
 have hlong:¬(!its.toArray.isEmpty&&nN (its.toArray.size+its2.toArray.size))=ag:=by
  rw[Y7 hsz,li];exact nB
 refine kj sC ⟨_,e,rfl⟩ Ai (Aj _ _) (aMw l its.toArray n b its2.toArray n2 os2 hlong (by rw[b6];lia) 0x1) ⟨e,e2,?_⟩;refine⟨.non,_,I.aPx hH e 0x2 (r.append r2) ?_,rfl,q⟩;rw[cx];lia
def aMy(hK:KFrag.K=X.K)(ho:own i=ag)(hN:X.N[i]?=ae x)(hv:Vis X.env.scope x)(he:PE X e (gE fe re))(hd:nDb x:=by decide)(hcd:nCd x:=by decide)
 (hbase:ji (.Name x p1) "extend" X.env (cw (.Name x p1) X.env)=cw (.Name x p1) X.env:=by rfl)
 (hs1:zSE X e []:=by rfl)
 (hfew:zFw X cpos [e]:=by rfl)
 (hline:(apos.endLine==cpos.line)=ag:=by rfl)
 (hs:fq (.Call (.Attribute (.Name x p1) "extend" apos) [e] [] cpos) aj pos.line X.env=pure ai:=by rfl) :
  PS X (.Expr (.Call (.Attribute (.Name x p1) "extend" apos) [e] [] cpos) pos) (tS own (aEx i fe)):=
 PS.imp (zM (aBd nh sC Cb aMx (m9 hN hv hd hcd) (nO he vL hs1) hbase hfew hline hs1 rfl) hs) λD' σ H z0=>by
 obtain⟨ρ,fl,E,h,q⟩:=z0;obtain⟨d,h1,h2⟩:=bJ h;split at h2
 .rename_i xs ys hx;split at h2
  .rename_i hk;cases h2;rw[bj,eB] at hk;obtain⟨a,o,hσ,r,hin,ha,hm⟩:=E.ownAt ho (by rw[hx];intro z;cases z);rw[hx] at r hin;obtain⟨vs,hl,rr⟩:=CJ r;refine⟨_,hσ,.inl ⟨rfl,vs,.of hl⟩,ρ,_,E.er,h1,λv H' s rv _=>?_⟩;obtain⟨b,zs,rfl,hb,rz⟩:=rv.inv;have E':=E.same s;have hl':=s _ _ hl;refine⟨a,b,vs,zs,rfl,rfl,hl',hb.sq hK,by rw[rr.length,rz.length];exact dj hk.1 (by rw[eS];decide),?_⟩;have hp:θ (xs++ys)=ag:=by rw[v8,bj];exact⟨hin,hk.2⟩
   obtain⟨E2,k2⟩:=E'.mut ho hσ rfl (.lst aM trivial (((rr.same s).append rz).upd hp hl' rfl)) hp;exact q _ _ ((KU.same s).trans k2) E2
  .exact bx h2
 .exact bx h2
variable {k1 v1 k2 v2:Expr} {g1 h1 g2 h2:FE}
def aMz{r1 r2 r3 r4:aq}(hk1:PE X k1 (gE g1 r1))(hv1:PE X v1 (gE h1 r2))(hk2:PE X k2 (gE g2 r3))(hv2:PE X v2 (gE h2 r4)):PE X (.Dict [ae k1,ae k2] [v1,v2] pos) (gE (aRd g1 h1 g2 h2) ag):=
 PE.imp (aDh (vO hk1 hv1 (vO hk2 hv2 V5)) rfl rfl 0x2 (rh rfl)) λσ H Q z0=>by
 obtain⟨ρ,d,E,h,q⟩:=z0;obtain⟨a1,e1,hA⟩:=bJ h;obtain⟨a2,e2,hB⟩:=bJ hA;obtain⟨a3,e3,hC⟩:=bJ hB;obtain⟨a4,e4,hD⟩:=bJ hC;clear h hA hB hC;unfold aUt at hD;split at hD
 .rename_i x i y j;cases hD;intro p hp;have s0:dO H (upd H p (.dK [])):=dO.upd hp;refine⟨ρ,_,E.same s0,e1,λw1 H1 s1 q1 _=>?_⟩;cases q1.inv;refine⟨ρ,_,(E.same s0).same s1,e2,λw2 H2 s2 q2 _=>?_⟩;cases q2.inv;refine⟨ρ,_,((E.same s0).same s1).same s2,e3,λw3 H3 s3 q3 _=>?_⟩;cases q3.inv;refine⟨ρ,_,(((E.same s0).same s1).same s2).same s3,e4,λw4 H4 s4 q4 _=>?_⟩;cases q4.inv;have sm:dO (upd H p (.dK [])) H4:=((s1.trans s2).trans s3).trans s4;refine⟨sm _ _ aM,[(.inl x,.int i),(.inl y,.int j)],rfl,rh rfl,?_⟩;have sf:dO H (upd H4 p (.dK (jC [] [(fy x,V.int i),(fy y,V.int j)]))):=λb o e=>by
   rw[bB (eY e hp)];exact sm b o (s0 b o e)
  have rk:∀P:am->Prop,oV P (upd H4 p (.dK (jC [] [(fy x,V.int i),(fy y,V.int j)]))) (putK [(fy x,V.int i)] (fy y) (V.int j)) (putD [(.int x,.int i)] (.int y) (.int j)):=λP=>yW (.int j) (.cons (.int i) .nil) 0x2
  have nd:((putK [(fy x,V.int i)] (fy y:Key) (V.int j)).map (·.1)).Nodup:=oF 0x2;exact q _ _ sf (.dK aM trivial (rk All) nd) λ_=>.dK aM hp (rk _) nd
 .exact bx hD
end
end
open PySem.W
def aUu(a v b w:D):Res D:=if o7 [] a&&o7 [(a,v)] b&&v.pure&&w.pure&&a.pure&&b.pure then .ok (.dct (putD (putD [] a v) b w)) else .bad
def aRe(k v l w:FE):FE:=λρ=>do
 let k <- k ρ
 let v <- v ρ
 let l <- l ρ
 let w <- w ρ
 aUu k v l w
variable [KFrag]
theorem RQ{A:cu}{Q:jl->au->Prop}{E:ak->au->Prop}(hu:A.units+1<bw)(I:Inv X Ψ σ H s)(g:aDe H a y v H')(ry:RelV y u)(rv:RelV v r)(h:∀s',Inv X Ψ σ H' s'->Q () s') :
  ϑ (av X.prog X.w) A (dictSet a u r) Q E s:=by
 rcases g with ⟨kvs,k,e,ey,l,eH⟩|⟨kvs,k,b,e,ey,eb,l,eH⟩
 .subst ey eH;obtain⟨z,hd,vs,rel,dd⟩:=VP I.hok e;have hz:vs.length<=bg:=by rw[<-rel.length];exact z
  have hl:(putK kvs k v).length<=bg:=by have:=mD kvs k v;lia
  refine Cm (hsz:=hz) (zT ry) dd λh' dd' hs=>h _ ?_
  have he:∃q,h'.get? a=ae q:=let ⟨q,_,_,hq,_⟩:=dd';⟨q,hq⟩
  exact zU I (by rw[e];exact True.intro) hs he (Y_ hl hd (rel.put k rv) dd')
 .subst ey eH;cases (show u=fR b from ry);obtain⟨z,hd,xs,rel,dd⟩:=aDd I.hok e;have hz:xs.length<=bg:=by rw[<-kN rel];exact z
  have hl:(putK kvs k v).length<=bg:=by have:=mD kvs k v;lia
  refine wpAny_dictSet_heap (hsz:=hz) (show A.units<bw by lia) (xV I.hok eb) dd λh' dd' hs=>h _ ?_
  obtain⟨q,es,ep,hq,h2,h3,h4,_,h5⟩:=dd';refine zU I (by rw[e];exact True.intro) hs ⟨q,hq⟩ ⟨hl,hd,_,(rel.put k eb rv).keeps λc ys ec=>?_,q,es,ep,hq,h2,h3,h4,h5⟩;rw[bB (aHb ec e (λz=>nomatch z))];exact ec
theorem aN0{k1 v1 k2 v2:Expr}{g1 h1 g2 h2:FE}{r1 r2 r3 r4:aq}(hu:X.A.units+20<bw)(hk1:PE X k1 (gE g1 r1))(hv1:PE X v1 (gE h1 r2))(hk2:PE X k2 (gE g2 r3))(hv2:PE X v2 (gE h2 r4)):PE X (.Dict [ae k1,ae k2] [v1,v2] pos) (gE (aRe g1 h1 g2 h2) ag):=by
 rintro Ψ s σ H Q I ⟨ρ,d,E,h,q⟩;obtain⟨a1,e1,hA⟩:=bJ h;obtain⟨a2,e2,hB⟩:=bJ hA;obtain⟨a3,e3,hC⟩:=bJ hB;obtain⟨a4,e4,hD⟩:=bJ hC;clear h hA hB hC;unfold aUu at hD;split at hD
 .rename_i hc;cases hD;simp only[bj] at hc;obtain⟨⟨⟨⟨⟨c1,c2⟩,p2⟩,p4⟩,p1⟩,p3⟩:=hc;have hp:=I.hok.fresh (bd s.heap.objs.size);have I1:=I.laid (a:=s.heap.objs.size) (o:=.dK []) (h':=s.heap.push {cls:=.type "dict",data:=.dict #[]}) (t':=s.toks) (λ_ _ q=>cg _ q) (bd _) (J_ s.heap I.big);have s0:dO H (upd H s.heap.objs.size (.dK [])):=dO.upd hp;refine wpAny_Dict_any rfl rfl 0x2 (rh rfl) (thn (vO hk1 hv1 (vO hk2 hv2 V5) Ψ _ σ _ (λps H4=>∃w1 w2 w3 w4,ps=[(w1,w2),(w3,w4)]/\dO (upd H s.heap.objs.size (.dK [])) H4/\Rep All H4 w1 a1/\Rep All H4 w2 a2/\Rep All H4 w3 a3/\Rep All H4 w4 a4) I1 ?_) λvs s2 ⟨ps,H4,I2,rel,w1,w2,w3,w4,ep,sm,z1,z2,z3,z4⟩=>?_)
  .refine⟨ρ,_,E.same s0,e1,λw1 H1 s1 q1 _=>⟨ρ,_,(E.same s0).same s1,e2,λw2 H2 s2 q2 _=>⟨ρ,_,((E.same s0).same s1).same s2,e3,λw3 H3 s3 q3 _=>⟨ρ,_,(((E.same s0).same s1).same s2).same s3,e4,λw4 H4 s4 q4 _=>?_⟩⟩⟩⟩;exact⟨w1,w2,w3,w4,rfl,((s1.trans s2).trans s3).trans s4,((q1.same s2).same s3).same s4,(q2.same s3).same s4,q3.same s4,q4⟩
  .subst ep;have ed:H4 s.heap.objs.size=ae (.dK []):=sm _ _ aM;cases rel with
   |@cons _ x1 _ _ rr1 t=>
    cases t with
    |@cons _ x2 _ _ rr2 t=>
     cases t;obtain⟨H5,o5,I5,g5,m5,rp5⟩:=aMc I2 (ad:=s.heap.objs.size) (ds:=[]) (.dK ed trivial .nil gS) rfl z1 c1 (eC Nat.zero_lt_one (by rw[eS];lia)) z2 p2;unfold storeAll;rw[xi];refine aw (aw (RQ 0x1 I5 g5 rr1.1 rr1.2 λs3 I3=>bf ?_));show ϑ _ _ (forIn [x2] CM _) _ _ _;have kp:∀{v:V}{d:D},Rep All H4 v d->d.pure=ag->Rep All (upd H4 s.heap.objs.size o5) v d:=λr hp=>(r.cU hp).keep (P:=λ_=>c8) (CK ed rfl) λ_ z=>z.elim
     obtain⟨H6,o6,I6,g6,m6,rp6⟩:=aMc I3 (ad:=s.heap.objs.size) rp5 (l_ p2 rfl) (kp z3 p3) c2 (by
      show(putD [] a1 a2).length<_;rw[eS,putD,iF];lia) (kp z4 p4) p4
     rw[xi];refine aw (aw (RQ 0x1 I6 g6 rr2.1 rr2.2 λs4 I4=>bf ?_));show ϑ _ _ (forIn [] CM _) _ _ _;rw[xh];refine bf ⟨.ref s.heap.objs.size,_,I4,rfl,?_⟩;rw[zK] at rp6 ⊢;have hin:=l_ (k:=a3) p4 (l_ (k:=a1) (ds:=[]) p2 rfl);refine q _ _ (λb o e=>?_) rp6 λ_=>?_
     .rw[bB (eY e hp)];exact sm b o (s0 b o e)
     .cases rp6 with
      |dK e _ r n=>exact .dK e hp (r.cU hin) n
      |dT e _ r n=>exact .dT e hp (r.cU hin) n
 .exact bx hD
end Mi
namespace Mi
open PySem L2 PySem.SeqAt PySem.Spec PyProof.Rows
def CT:D->Res D
 |.tup xs=>match oK xs with
  |some ps=>if ϒ (xs.length<=1000) then .ok (.dct (cG [] ps)) else .bad
  |none=>.bad
 |_=>.bad
variable [KFrag]
def aC1{X:Cx}{e:Expr}{fe:FE}{re:aq}{p pos:c9}(hc:X.calm=ag)(hg:Gl X "dict")(hm:X.mg "dict"=aj)(he:PE X e (gE fe re))(hs:dw [e] X.env=[(ai,cw e X.env)]:=by rfl) :
  PE X (.Call (.Name "dict" p) [e] [] pos) (gE (b1 CT fe) ag):=by
 refine aKe (λd0 d h=>?_) hc hg hm he hs;unfold CT at h
 repeat' split at h
 .rename_i h1 h2;exact⟨_,_,.inr rfl,h1,d6 h2,(Res.ok.inj h).symm⟩
 all_goals exact bx h
end Mi
namespace Lw
open PySem PySem.Spec
section
variable {prog:cb} {w:br} {A:cu} {E:ak->au->Prop} {s:au}
noncomputable abbrev lsO(acc:ax ak)(c:ah):bP:={cls:=.type "list",dict:=aj,data:=.seq acc c,slots:=#[]}
theorem aN1{T:en}{R:lb->au->Prop}(ty:s.TypeIs (.ref I) T)(n1:(jf T==jf "list")=ai)(n2:(jf T==jf "tuple")=ai)(hSI:S≠I)(hS:s.heap.get? S=ae {cls:=.type "list",data:=.seq #[]})
 (it:∀(h:bm) (tk:ah) (Q:ak->au->Prop) (E:ak->au->Prop),(∀b o,b≠S->s.heap.get? b=ae o->h.get? b=ae o)->Q (.ref I) {s with heap:=h,toks:=tk}->ϑ (av prog w) A.in1 (gX (.ref I)) Q E {s with heap:=h,toks:=tk})
 (hint:∀(h:bm) (tk:ah) (Q:aq->au->Prop) (E:ak->au->Prop),(∀b o,b≠S->s.heap.get? b=ae o->h.get? b=ae o)->(∀b tk',Q b {s with heap:=h,toks:=tk'})->ϑ (av prog w) A.in1 (yi (.ref I)) Q E {s with heap:=h,toks:=tk})
 (key:∀(h:bm) (c tk:ah),(∀b o,b≠S->s.heap.get? b=ae o->h.get? b=ae o)->h.get? S=ae (lsO #[] c)->codeAny (av prog w) A (.builtin "list.extend.loop" ⟨[.ref S,.ref I,.none],[]⟩) R {s with heap:=h,toks:=tk}) :
  ϑ (av prog w) A.in1 (Builtin.«list.__init__» ⟨[.ref S,.ref I],[]⟩)
   (λfin s'=>match fin with|.done f=>R (.ok f) s'|.again c'=>c'.quiet=ag/\codeAny (av prog w) A c' R s') (λe s'=>R (.error e) s') s:=by
 show ϑ _ _ (do let old <- CO (.ref S);D4 (.ref S) (λ_=>#[]);letGo old.toList.reverse;qV (.ref S) (.ref I) .none) _ _ s;refine aw ?_;unfold CO;refine aw (kz hS rfl (bf ?_));show ϑ _ _ (jr S (λ_=>#[]) >>= λ_=>letGo (#[]:ax ak).toList.reverse >>= λ_=>qV (.ref S) (.ref I) .none) _ _ s;refine aw (i9 hS rfl ?_);have hS₂:=kC (fx (λ_=>(#[]:ax ak))) hS rfl;have oth:∀b o,b≠S->s.heap.get? b=ae o->(s.heap.update S (fx (λ_=>(#[]:ax ak)))).get? b=ae o:=λb o hb z=>(ki _ _ (Ne.symm hb)).trans z
 refine aw (jt ?_);generalize s.heap.update S (fx (λ_=>(#[]:ax ak)))=hA at hS₂ oth;unfold qV;refine aw (sy (T:=T) (let ⟨o,e,c⟩:=ty;⟨o,oth _ o (Ne.symm hSI) e,c⟩) ?_);have d1:CS (.ref S) (.ref I)=ai:=by simp[CS,hSI]
 simp only[d1,n1,n2,mv,iv,gd];refine aw (it hA s.toks _ _ oth ?_);refine aw (ic (hint hA s.toks _ _ oth λb tk=>?_));refine yj (λ_=>?_) (λ_=>bf ⟨gL CU _,key _ _ _ oth hS₂⟩);refine aw (ko (aw ?_));show ϑ _ _ (jr S (·.push .none) >>= λ_=>jr S (·.pop)) _ _ _;refine aw (i9 hS₂ rfl ?_);have hS₃:=kC (fx (·.push kK)) hS₂ rfl;refine i9 (hz:=by seq_fits) hS₃ rfl ?_;have hS₄:=kC (fx (·.pop)) hS₃ rfl;exact bf ⟨gL CU _,key _ _ _ (λb o hb z=>(ki _ _ (Ne.symm hb)).trans ((ki _ _ (Ne.symm hb)).trans (oth b o hb z))) hS₄⟩
end
def aN2:mr (.type "list_reverseiterator") "__len__"=pure aj:=by rw[ni,nj];kernel_rfl
theorem aIn:Slot "list_reverseiterator" "__length_hint__" "list_reverseiterator.__length_hint__":=
 .of (owner:= "list_reverseiterator") (n:= "__length_hint__") (by rw[ni,nj];kernel_rfl) 0x6 0x6 0x6
  (by first|exact .inl 0x6|exact .inr 0x6) (by rw[CY];kernel_rfl)
def aIo:isSubtype (.type "list_reverseiterator") (.type "list_reverseiterator")=pure ag:=by rw[CY];kernel_rfl
section
variable {prog:cb} {w:br} {A:cu} {E:ak->au->Prop} {s:au}
theorem aU4(ty:s.TypeIs (.ref I) "list_reverseiterator")(h:∀b tk,Q b {s with toks:=tk}):ϑ (av prog w) A (yi (.ref I)) Q E s:=by
 unfold yi;refine aw (xv ty aN2 ?_);dsimp only;refine yj (λhab=>aT hab 0x6) (λ_=>?_);rw[ap 0x2];refine aw (xv ty aIn.lookup ?_);generalize hid:("list_reverseiterator.__length_hint__" : en)=id0
 wp_delta
 rw[show splitId id0=ae ("list_reverseiterator","__length_hint__") from by subst hid;decide +kernel];subst hid;refine aw (CC (T:= "list_reverseiterator") (b:=ag) ty aIo ?_);refine yj (λhab=>aT hab 0x4) (λ_=>?_);rw[ao 0x6,ap 0x4];exact bf (h _ _)
def aIp{Q:ak->au->Prop}(hh:A.handled=aj)(hn:xs.size<=bg)(hne:l≠I)(hit:s.heap.IsRevIter I l ((xs.size:af)-1))(hl:s.heap.IsList l xs)
 (q:∀h' tk acc' c',(∀b o,b≠I->s.heap.get? b=ae o->h'.get? b=ae o)->h'.get? s.heap.objs.size=ae (lsO acc' c')->ItemsOf (λi v=>xs[xs.size-1-i]?=ae v) acc' xs.size->Q (.ref s.heap.objs.size) {s with heap:=h',toks:=tk}) :
  ϑ (av prog w) A (call (.type "list") [.ref I]) Q E s:=by
 refine Co (Q₁:=λobj s₁=>obj=.ref s.heap.objs.size/\s₁={s with heap:=s.heap.push {cls:=.type "list",data:=.seq #[]}}) PySem.F.called_list (PySem.F.typeCall_list_1 _) PySem.F.entry_list_init
  (code_list_new _ ⟨rfl,rfl⟩) λobj s₁ h₁=>?_
 obtain⟨rfl,rfl⟩:=h₁;have hS:(s.heap.push {cls:=.type "list",data:=.seq #[]}).get? s.heap.objs.size=ae {cls:=.type "list",data:=.seq #[]}:=dt _ rfl;have lt:∀{b:am}{o:bP},s.heap.get? b=ae o->s.heap.objs.size≠b:=λz=>jz (bE z)
 have l1:s.heap.objs.size≠I:=let ⟨o,e,_⟩:=hit;lt e
 have l2:s.heap.objs.size≠l:=let ⟨o,e,_⟩:=hl;lt e
 have hit':=hit.at (h':=s.heap.push {cls:=.type "list",data:=.seq #[]}) λo e=>cg _ e
 have hl':(s.heap.push {cls:=.type "list",data:=.seq #[]}).IsList l xs:=hl.at λo e=>cg _ e
 refine⟨⟨_,hS,rfl⟩,PySem.F.args_list_init_2 _ _,?_⟩;refine aN1 (A:=A.in1) (T:= "list_reverseiterator") hit'.typeIs 0x4 0x4 l1 hS (λh tk Q E k z=>?_) (λh tk Q E k z=>?_) λh c tk k z=>?_
 .exact wpAny_pyIter_revIter (hit'.at λo e=>k _ o (Ne.symm l1) e) z
 .exact aU4 (hit'.at λo e=>k _ o (Ne.symm l1) e).typeIs z
 .have W:=Walks.listRev (prog:=prog) (w:=w) (A:=A.in1.in1) hh I l hne xs;refine codeAny_extend_loopS (A:=A.in1) W.toS hn s.heap.objs.size (by simp only[bi,np,or_false,gz];exact⟨l1,l2⟩) .none xs.size 0 _ #[] c rfl (eI _) ⟨eI _,by simpa using hit'.at λo e=>k _ o (Ne.symm l1) e,hl'.at λo e=>k _ o (Ne.symm l2) e⟩ z (ItemsOf.nil _) λs' acc' c' hm hS' hacc=>?_
  rw[Moved.eq_with hm];refine⟨rfl,q s'.heap s'.toks acc' c' (λb o hb e=>hm.heap b o (λhmem=>?_) (k b o (Ne.symm (lt e)) (cg _ e))) hS' hacc⟩;rcases bi.mp hmem with e'|hmem
  .exact lt e e'.symm
  .exact hb (em.mp hmem)
end
end Lw
namespace Mi
open PySem L2 PySem.SeqAt PySem.Spec PyProof.Rows
def aSv:D->Res D
 |.lst xs=>if θ xs&&ϒ (xs.length<=lim) then .ok (.lst xs.reverse) else .bad
 |_=>.bad
variable [KFrag]
section
variable {X:Cx} {e:Expr} {fe:FE} {re:aq} {p p2 pos pos2:c9}
def tLR(t:TE):TE:=λσ H Q=>t σ H λv H1=>∃a xs,v=.ref a/\H1 a=ae (.lst xs)/\∀p,H1 p=aj->Q (.ref p) (upd H1 p (.lst xs.reverse))
def aN3{t:TE}(hc:X.calm=ag)(hg:Gl X "list")(hm:X.mg "list"=aj)(hg2:Gl X "reversed")(hm2:X.mg "reversed"=aj)(he:PE X e t)(hs:dw [e] X.env=[(ai,cw e X.env)]:=by rfl)
 (hs2:dw [.Call (.Name "reversed" p2) [e] [] pos2] X.env=[(ai,cw (.Call (.Name "reversed" p2) [e] [] pos2) X.env)]:=by rfl) :
  PE X (.Call (.Name "list" p) [.Call (.Name "reversed" p2) [e] [] pos2] [] pos) (tLR t):=by
 intro Ψ s σ H Q I h;refine jI (vJ I hg hm uV ?_);refine l9 ?_ hs2 rfl;rw[hs2];show ϑ _ _ (ny [(ai,cw (.Call (.Name "reversed" p2) [e] [] pos2) X.env)]) _ _ s;refine sv ?_;refine jI (vJ I hg2 hm2 W_ ?_);refine l9 ?_ hs rfl;rw[hs];show ϑ _ _ (ny [(ai,cw e X.env)]) _ _ s;refine sv (thn (he Ψ s σ H _ I h) λu s1 ⟨x,H1,I1,ru,t,xs,ex0,ex,q⟩=>?_);subst ex0;cases ru;obtain⟨hz,its,n,rv,ho⟩:=I1.hok t _ ex;have htt:s1.heap.IsList t its.toArray:=⟨_,ho,rfl,n,rfl⟩
 refine su ?_;have hz':its.toArray.size<=bg:=by rw[b6,<-rv.length];exact hz
 refine call_reversed_list htt ?_;refine su ?_;have hne:t≠s1.heap.objs.size:=de (bE ho);generalize hO:s1.heap.push (revObj t ((its.toArray.size:af)-1))=hB;have kB:∀b o,s1.heap.get? b=ae o->hB.get? b=ae o:=λb o z=>by rw[<-hO];exact cg _ z
 have iB:hB.IsRevIter s1.heap.objs.size t ((its.toArray.size:af)-1):=by rw[<-hO];exact⟨_,dt _ rfl,rfl,rfl⟩
 have szB:hB.objs.size=s1.heap.objs.size+1:=by rw[<-hO];exact ix ..
 refine Lw.aIp (s:={s1 with heap:=hB}) (I:=s1.heap.objs.size) (l:=t) (xs:=its.toArray) (I1.ok.hd hc) hz' hne iB (htt.at λo e=>kB _ o e) λh' tk acc c k hS hacc=>?_
 have hS:h'.get? hB.objs.size=ae (Lw.lsO acc c):=hS;have k:∀b o,b≠s1.heap.objs.size->hB.get? b=ae o->h'.get? b=ae o:=k;have hfr:H1 hB.objs.size=aj:=I1.hok.fresh (by rw[szB];lia);have hlen:acc.toList.length=its.length:=by have:=hacc.1;simpa using this
 have hv:Vals xs.reverse acc.toList:=aIe rv hlen λj v hj=>by
  have:=hacc.2 j v (by simpa using hj);simpa using this
 exact⟨.ref hB.objs.size,_,I1.laid (a:=hB.objs.size) (o:=.lst xs.reverse) (h':=h') (t':=tk) (λb o e=>k b o (de (bE e)) (kB b o e)) (by rw[szB];lia) ⟨by rw[xI];exact hz,acc.toList,c,hv,by simpa using hS⟩,rfl,q _ hfr⟩
def aIq(hc:X.calm=ag)(hg:Gl X "list")(hm:X.mg "list"=aj)(hg2:Gl X "reversed")(hm2:X.mg "reversed"=aj)(he:PE X e (gE fe re))(hs:dw [e] X.env=[(ai,cw e X.env)]:=by rfl)
 (hs2:dw [.Call (.Name "reversed" p2) [e] [] pos2] X.env=[(ai,cw (.Call (.Name "reversed" p2) [e] [] pos2) X.env)]:=by rfl) :
  PE X (.Call (.Name "list" p) [.Call (.Name "reversed" p2) [e] [] pos2] [] pos) (gE (b1 aSv fe) ag):=PE.imp (aN3 hc hg hm hg2 hm2 he hs hs2) λσ H Q z0=>by
 obtain⟨ρ,d,E,h,q⟩:=z0;obtain⟨d0,h1,h2⟩:=bJ h;unfold aSv at h2;split at h2
 rotate_left
 .exact bx h2
 rename_i ds;split at h2
 rotate_left
 .exact bx h2
 rename_i hb;cases h2;rw[bj] at hb;refine⟨ρ,_,E,h1,λv H1 sm r1 _=>?_⟩;obtain⟨t,xs,rfl,ex,_,rr⟩:=r1.inv;refine⟨t,xs,rfl,ex,λp hfr=>?_⟩;have sm2:dO H1 (upd H1 p (.lst xs.reverse)):=dO.upd hfr;exact q _ _ (sm.trans sm2) (.lst aM trivial (rr.rev.same sm2)) λ_=>.lst aM (sm.free hfr) ((rr.rev.cU (aEo hb.1)).same sm2)
end
end Mi
set_option hygiene false
local macro_rules|`(0x12)=>`(aQ (dB hK) 0x3 B.len dC 0xd)|`(0x13)=>`(gW rfl (aZ (aX sc.nd rfl 0x0) (aZ (aX sc.nd rfl 0x0) (eO))))|`(0x14)=>`(St kvs cells seed NS Q L T nv bare rings (.int c) (.int (c / 8)) (.lst (SM.map enP)))|`(0x15)=>`(R++news R (gf (E R[rows.length])))|`(0x16)=>`(cR ai 7 (b2 (bQ .add) o8 (b2 getD gK (b2 (bQ .mod) (b2 (bQ .add) (b2 (bQ .fdiv) (b2 (bQ .fdiv) cQ aDq) (b2 (bQ .add) (b2 (bQ .mul) wO wO) fJ)) (b2 (bQ .mul) lH xX)) aLt))) ag)|`(0x17)=>`(c7 iW 0x3 B.tuple iI (aB (aQ (fL hK hu) 0x3 B.sorted fO 0xd) aG))|`(0x18)=>`((V.map (cT nf)).map norm)|`(0x19)=>`(St kvs cells seed NS Q L T nv bare rings (.int c) (.int (c / 8)) (.lst (L.map enP)))|`(0x1a)=>`(aN gV (aD cQ aV))|`(0x1b)=>`(ws nk dk s best R pl rows lv x8 x9 x10 x11)|`(0x1c)=>`(aX sc.nd rfl 0x0)|`(0x1d)=>`(ea kvs Q V)|`(0x1e)=>`(cellAt ns 0)|`(0x1f)=>`((both V).map kvD)|`(0x20)=>`(aU p6 hr 0x4 0x3 (aB aA (aB aH aG)))|`(0x21)=>`(b2 getD cQ dM)|`(0x22)=>`(Q.map (cP nf))|`(0x23)=>`(aN gV (aD fW aV))|`(0x24)=>`((fQ (["number","name"]:aa Str)))|`(0x25)=>`(.lst (SM.map enP))|`(0x26)=>`((0+(ys.length:af)))|`(0x27)=>`(.int Q.length)|`(0x28)=>`(fP (aD (aN (cZ .lt) (aD fW (aD gH aV))) (aD (aN (cZ .gt) (aD fW (aD gH aV))) aV)))|`(0x29)=>`(St kvs cells seed NS Q L T nv bare rings (.int c) m sm)|`(0x2a)=>`(.int (c / 8))|`(0x2b)=>`(bTB (b2 (bY .eq) (b2 (bQ .mod) gD rB) fJ))|`(0x2c)=>`(b2 getD cQ fJ)|`(0x2d)=>`(aN (bV 3 dX) (aD gD (aD gK (aD o8 aV))))|`(0x2e)=>`(aQ (dB hK) 0x3 B.len dC 0xb)|`(0x2f)=>`(c0 / 8 % (1+c0 % 8))
set_option hygiene true
section
local macro_rules | `(tactic| trivial) => `(tactic| first | exact Or.inl rfl | exact Or.inr rfl | exact Or.inr (Or.inl rfl) | exact Or.inr (Or.inr rfl))
namespace Lk15
open PySem L2 Mi PySem.W
local macro_rules|`(0xb)=>`(aB (a_ aA aH) aG)|`(0xc)=>`(aB aA (aB aA aG))|`(0xd)=>`(aB aA aG)|`(0xe)=>`(a_ aA aH)
noncomputable def top(i:ah):bq:=PySem.Challenge.pw_hookmill_k15_whole_one_telling.main.body.getD i (.Pass ⟨0,0,0,0⟩)
abbrev nW:bq:=top 17
noncomputable def G7:ah->aq:=λi=>ai
def iQ:FS:=bO (sIf (bTB (b2 (bY (.ord .lt)) gD 0x1a)) (lJ (b2 getD cQ gD) ai) o_) (lJ dM ag)
def bZ:aa D->Res D:=fnS 2 2 iQ
abbrev rQ:bq:=top 18
noncomputable def RT:ah->aq:=λi=>i==5
def aIr:FS:=bO (cR ai 9 (b2 (bQ .mul) (b2 (bQ .mod) (b2 (bQ .fdiv) cQ (bC (.int 64))) rB) (b2 (bQ .add) wO rB)) ag) (bO (sIf (bTB (b2 (bY .eq) wO fW)) (cR ai 9 fJ ag) o_) 0x16)
def aRf:FS:=bO (cR ai 7 (bC (.str "")) ag) (bO (BK (uB (aD j6 aV) rC) (tg1 8) aIr) (QG 5 o8 (b2 getD (QF (aD (b2 (bQ .add) rB (b2 (bQ .mod) gD aBk)) (aD (b2 (bQ .add) rB (b2 (bQ .mod) gD aBk)) (aD (b2 (bQ .mod) (b2 (bQ .fdiv) gD aBk) aH8) (aD (b2 (bQ .mod) (b2 (bQ .fdiv) gD aBk) aH8) (aD dM aV)))))) lH)))
def rR:FS:=bO (cR ai 2 (bC (.str "abcdefghijklmnopqrstuvwxyz")) ag) (bO (cR ai 3 (b2 (bQ .add) fJ (b2 (bQ .mod) cQ WK)) ag) (bO (cR ai 4 (b2 (bQ .mod) (b2 (bQ .fdiv) cQ WK) j6) ag) (bO (cR ag 5 (bC (.dct [])) ag) (bO (BK (uB (aD aH8 aV) rC) (tg1 6) aRf) (WL 5)))))
def k_:aa D->Res D:=fnS 2 10 rR
abbrev mO:bq:=top 20
noncomputable def CV:ah->aq:=λi=>i==2
def rb1:FS:=aSs 2 (b2 (bQ .mod) (b2 (bQ .add) (b2 (bQ .fdiv) gD (b2 (bQ .add) j6 fJ)) (b2 (bQ .mul) j6 j6)) (b2 (bQ .add) j6 fJ)) (b2 getD cQ j6)
def mQ:FS:=bO (cR ag 2 (QF aV) ag) (bO (BK (uB (aD 0x1a aV) rC) (tg1 3) rb1) (WL 2))
def dW:aa D->Res D:=fnS 2 4 mQ
abbrev qH:bq:=top 21
noncomputable def MN:ah->aq:=λi=>i==4
def rb3:FS:=bO (cR ai 6 (aCs j6 (wW (b2 (bQ .add) 0x1a (b2 (bQ .mul) rB gH))) (wW (b2 (bQ .add) (b2 (bQ .add) 0x1a (b2 (bQ .mul) rB gH)) rB))) ag) (BJ 4 (fP (aD (fP (aD dM (aD (aN (cZ .lt) (aD lH aV)) aV))) (aD (fP (aD dM (aD (aN (cZ .gt) (aD lH aV)) aV))) aV))))
def rb2:FS:=BJ 4 (fP (aD (fP (aD dM (aD (b2 getD j6 gH) aV))) (aD (b2 getD cQ gH) aV)))
def qI:FS:=bO (cR ai 3 (aN (bV 2 dW) (aD (aN aA6 (aD (b2 (bQ .add) 0x1a (b2 (bQ .mul) rB gD)) aV)) (aD gK aV))) ag) (bO (cR ag 4 (QF aV) ag) (bO (BK (uB (aD 0x1a aV) rC) (tg1 5) rb2) (bO (BK (uB (aD gD aV) rC) (tg1 5) rb3) (WL 4))))
def jN:aa D->Res D:=fnS 3 7 qI
abbrev qJ:bq:=top 22
noncomputable def MP:ah->aq:=λi=>i==3
def aRg:FS:=bO (BJ 3 (fP (aD (aN (cZ .lt) (aD 0x21 (aD 0x2c aV))) (aD (aN (cZ .gt) (aD 0x21 (aD 0x2c aV))) aV)))) (cR ai 0 (aCs cQ (wW rB) aDr) ag)
def aN4:FT:=bTB (b2 (bY (.ord .gt)) 0x1a fJ)
def qK:FS:=bO (cR ag 3 (QF aV) ag) (bO (sIf (bTB (b2 (bY (.ord .gt)) (b2 (bQ .mod) gK aQ9) dM)) (bO (cR ai 0 (aN (bV 2 dW) (aD cQ (aD (b2 (bQ .fdiv) gK aQ9) aV))) ag) (aOv aN4 aRg)) o_) (lJ (b2 (bQ .add) j6 (aN (bV 3 jN) (aD cQ (aD gD (aD gK aV))))) ag))
def jO:aa D->Res D:=fnS 3 4 qK
abbrev qL:bq:=top 19
noncomputable def XJ:ah->aq:=λi=>ai
def u5:FS:=bO (cR ai 2 (b2 getD cQ (b2 (bQ .mod) gD 0x1a)) ai) (bO (cR ai 3 (dR 5 (b_ cQ ai) uQ (bTB (b2 (bY .ne) gH gK)) gH ai) ag) (bO (cR ai 4 (b2 getD j6 (b2 (bQ .mod) (b2 (bQ .fdiv) gD 0x1a) (aN gV (aD j6 aV)))) ai) (lJ (fP (aD (aN (cZ .lt) (aD gK (aD fW aV))) (aD (aN (cZ .gt) (aD gK (aD fW aV))) aV))) ai)))
def jB:aa D->Res D:=fnS 2 5 u5
abbrev jD:bq:=top 23
noncomputable def RV:ah->aq:=λi=>i==4||i==6
def gbr:FS:=sIf (A_ (bTB (b2 (bY (.ord .lt)) (b2 (bQ .mod) xX WK) aBk)) (bTB (b2 (bY (.ord .lt)) 0x23 WK))) (bO (cR ai 12 (b2 getD j6 (b2 (bQ .mod) iH (aN gV (aD j6 aV)))) ai) (bO (BJ 4 (fP (aD (b2 (bQ .add) 0x23 fJ) (aD Q5 aV)))) (cR ai 5 (b2 (bQ .add) gH (dR 13 (uB (aD (b2 (bQ .add) (b2 getD cQ Q5) fJ) aV) rC) uQ gB (fP (aD 0x23 (aD uA aV))) ai)) ag))) (sIf (A_ (bTB (bCh (bY (.ord .le)) (bY (.ord .lt)) aBk (b2 (bQ .mod) xX WK) aHs)) (bTB (b2 (bY (.ord .gt)) (aN gV (aD Q6 aV)) fJ))) (bO (BJ 6 (aN (bV 2 jB) (aD Q6 (aD iH aV)))) (cR ai 5 (dR 13 (b_ gH ai) uQ (bTB (b2 (bY .uF) uA (b2 getD lH (b1 aTl fJ)))) uA ai) ag)) (sIf (bTB (b2 (bY .eq) (b2 (bQ .mod) xX WK) aHs)) (cR ai 7 (b2 (bQ .add) o8 fJ) ag) (sIf (bTB (b2 (bY .eq) (b2 (bQ .mod) xX WK) aSr)) (cR ai 8 (b2 (bQ .add) wO (b2 (bQ .mod) iH (b2 (bQ .pow) (bC (.int 10)) (bC (.int 50))))) ag) o_)))
def aC2:FS:=bO (cR ai 10 (b2 (bQ .fdiv) xX WK) ag) (bO (sAl 11 5) (bO (sIf (bTB (b2 (bY .eq) (b2 (bQ .mod) xX WK) aH8)) (cR ai 11 (dR 13 (b_ gH ai) uQ (bTB (b2 (bY .eq) (b2 getD uA fJ) dM)) uA ai) ag) o_) gbr))
def rT:FS:=bO (cR ai 3 (aN KQ (aD cQ aV)) ag) (bO (cR ag 4 (QF aV) ag) (bO (cR ai 5 (QF aV) ag) (bO (cR ag 6 (QF aV) ag) (bO (cR ai 7 dM ag) (bO (cR ai 8 dM ag) (bO (aBn 1 (tg1 9) aC2) (bO (cR ag 6 (b2 (bQ .add) lH (aN (bV 3 jO) (aD gH (aD o8 (aD gK aV))))) ag) (lJ (fP (aD (aN nA (aD fW aV)) (aD (aN nA (aD (aN fD (aD lH aV)) aV)) (aD wO aV)))) ai))))))))
def lA:aa D->Res D:=fnS 3 13 rT
abbrev iR:bq:=top 27
noncomputable def G8:ah->aq:=λi=>ai
def G9:FS:=bO (sIf (bTB (b2 (bY (.ord .lt)) 0x1a rB)) (lJ cQ ai) o_) (bO (cR ai 2 (b2 (bQ .mod) gD (b2 (bQ .sub) 0x1a fJ)) ag) (bO (cR ai 3 (b2 (bQ .add) (b2 (bQ .add) gK fJ) (b2 (bQ .mod) (b2 (bQ .fdiv) gD aSr) (b2 (bQ .sub) (b2 (bQ .sub) 0x1a fJ) gK))) ag) (bO (aKb (b2 getD cQ gK) (tgN [4,5])) (bO (aKb (b2 getD cQ j6) (tgN [6,7])) (bO (cR ai 8 (dR 10 (uB (aD 0x1a aV) rC) uQ (A_ (bTB (b2 (bY .ne) iH gK)) (bTB (b2 (bY .ne) iH j6))) (b2 getD cQ iH) ai) ag) (bO (cR ai 9 (uY (aD (fP (aD fW (aD lH aV))) (aD (fP (aD gH (aD o8 aV))) aV))) ag) (bO (sIf (bTB (b2 (bY .eq) (b2 (bQ .mod) (b2 (bQ .fdiv) gD aH8) rB) fJ)) (cR ai 9 (uY (aD (fP (aD fW (aD o8 aV))) (aD (fP (aD lH (aD gH aV))) aV))) ag) o_) (lJ (aN nA (aD (aN fD (aD (b2 (bQ .add) wO (dR 10 (b_ xX ai) uQ gB (fP (aD (aN (cZ .lt) (aD iH aV)) (aD (aN (cZ .gt) (aD iH aV)) aV))) ai)) aV)) aV)) ai))))))))
def kE:aa D->Res D:=fnS 2 10 G9
abbrev wZ:bq:=top 24
noncomputable def aC3:ah->aq:=λi=>ai
def aC4:FS:=bO (cR ai 1 dM ag) (bO (BK (b_ 0x2c ai) (tgN [2,3]) (cR ai 1 (b2 (bQ .add) (b2 (bQ .add) gD (aN aOw (aD (b2 (bY .eq) (b2 getD gK dM) dM) aV))) (aN aOw (aD (b2 (bY .eq) (b2 getD j6 dM) dM) aV))) ag)) (lJ gD ai))
def d9:aa D->Res D:=fnS 1 4 aC4
abbrev iT:bq:=top 28
noncomputable def G_:ah->aq:=λi=>ai
def uJ:FS:=bO (aKb cQ (tgN [4,5,6])) (bO (sIf (A_ (bTB (b2 (bY .eq) gK fJ)) (bTB (b2 (bY (.ord .gt)) 0x23 dM))) (bO (cR ai 7 (b2 (bQ .mod) j6 0x23) ag) (bO (aKb (b2 getD fW o8) (tgN [8,9])) (sIf (bTB (b2 (bY .isin) xX gD)) (bO (cR ai 10 (b2 getD gD (b2 (bQ .sub) fJ (aN aOw (aD (b2 (bY .eq) xX (b2 getD gD fJ)) aV)))) ai) (lJ (fP (aD (b2 aQz (b2 aQz (aCs fW aDr (wW o8)) (fP (aD (fP (aD wO (aD iH aV))) aV))) (aCs fW (wW (b2 (bQ .add) o8 fJ)) aDr)) (aD gH (aD lH aV)))) ai)) o_))) o_) (bO (sIf (bTB (b2 (bY .eq) gK rB)) (lJ (fP (aD fW (aD (aN (bV 2 kE) (aD gH (aD j6 aV))) (aD lH aV)))) ai) o_) (bO (sIf (A_ (bTB (b2 (bY .eq) gK aQ9)) (bTB (b2 (bY (.ord .gt)) (aN (bV 1 d9) (aD cQ aV)) fJ))) (bO (cR ai 11 (fP (aD dM (aD (b2 (bQ .mod) j6 (aN (bV 1 d9) (aD cQ aV))) aV))) ag) (bO (cR ai 10 (fP (aD dM (aD (b2 (bQ .mod) (b2 (bQ .fdiv) j6 aQ9) (aN (bV 1 d9) (aD cQ aV))) aV))) ag) (bO (cR ai 12 (aRe Q6 iH iH Q6) ag) (bO (cR ai 13 (dR 14 (b_ gH ai) uQ gB (dR 15 (b_ (fZ 14) ai) uQ gB (bM aLu Q5 (aD (fZ 15) (aD (fZ 15) aV))) ai) ag) ag) (lJ (fP (aD fW (aD (aN nA (aD (aN fD (aD (dR 14 (b_ uA ai) uQ gB (fP (aD (aN (cZ .lt) (aD (fZ 14) aV)) (aD (aN (cZ .gt) (aD (fZ 14) aV)) aV))) ai) aV)) aV)) (aD lH aV)))) ai))))) o_) (bO (sIf (bTB (b2 (bY .eq) gK aBk)) (lJ (fP (aD fW (aD gH (aD (b2 (bQ .add) lH fJ) aV)))) ai) o_) (lJ cQ ai)))))
def kI:aa D->Res D:=fnS 4 14 uJ
abbrev kJ:bq:=top 29
noncomputable def HB:ah->aq:=λi=>i==3
def cbd:FS:=bO (cR ai 4 (fP (aD (b2 getD gD (b2 getD fW dM)) (aD (b2 getD fW fJ) aV))) ai) (bO (cR ai 5 (fP (aD (b2 getD gD (b2 getD gH dM)) (aD (b2 getD gH fJ) aV))) ai) (BJ 3 0x28))
def HD:FS:=bO (cR ai 2 (aN fD (aD (dR 6 (b_ 0x21 ai) (JG 2) gB (fP (aD (b2 getD gD lH) (aD o8 aV))) ai) aV)) ag) (bO (cR ag 3 (QF aV) ag) (bO (BK (b_ 0x2c ai) (tgN [4,5]) cbd) (lJ (fP (aD (aN nA (aD gK aV)) (aD (aN nA (aD (aN fD (aD j6 aV)) aV)) (aD (b2 getD cQ rB) aV)))) ai)))
def gJ:aa D->Res D:=fnS 2 6 HD
abbrev rW:bq:=top 30
noncomputable def RW:ah->aq:=λi=>i==3||i==6
def fb1:FS:=bO (cR ai 4 (b2 (bQ .add) (b2 (bQ .add) fW fJ) (b2 (bQ .mod) (b2 (bQ .fdiv) gD (b2 (bQ .add) gH fJ)) (b2 getD (QF (aD rB (aD (b2 (bQ .pow) (bC (.int 10)) (bC (.int 50))) aV))) (b2 (bQ .mod) gD rB)))) ag) (BJ 3 fW)
def fb2:FS:=QG 6 (b2 getD (b2 getD 0x21 gH) dM) (b2 getD j6 gH)
def RX:FS:=bO (cR ag 3 (QF aV) ag) (bO (cR ai 4 dM ag) (bO (BK (uB (aD (aN gV (aD 0x21 aV)) aV) rC) (tg1 5) fb1) (bO (cR ag 3 (aN (bV 2 dW) (aD j6 (aD gK aV))) ag) (bO (cR ag 6 (b2 aEw dM dM) ag) (bO (BK (uB (aD (aN gV (aD 0x21 aV)) aV) rC) (tg1 5) fb2) (lJ (aN (bV 2 gJ) (aD cQ (aD lH aV))) ag))))))
def nG:aa D->Res D:=fnS 3 7 RX
abbrev tW:bq:=top 2
noncomputable def aC5:ah->aq:=λi=>ai
def aC6:FS:=bO (cR ai 3 (dR 4 (b_ gD ai) (JG 2) gB 0x28 ai) ag) (lJ (fP (aD (aN nA (aD (aN fD (aD cQ aV)) aV)) (aD (aN nA (aD (aN fD (aD j6 aV)) aV)) (aD gK aV)))) ai)
def tX:aa D->Res D:=fnS 3 4 aC6
abbrev lB:bq:=top 11
noncomputable def RZ:ah->aq:=λi=>i==2
def R0:FS:=bO (cR ag 2 (b1 JP gD) ag) (bO (QG 2 dM dM) (bO (cR ai 3 (dR 5 (b_ 0x21 ai) (JG 2) gB (fP (aD (b2 getD gK gH) (aD lH aV))) ai) ag) (bO (cR ai 4 (dR 5 (b_ 0x2c ai) (JG 2) gB (fP (aD (fP (aD (b2 getD gK (b2 getD gH dM)) (aD (b2 getD gH fJ) aV))) (aD (fP (aD (b2 getD gK (b2 getD lH dM)) (aD (b2 getD lH fJ) aV))) aV))) ai) ag) (lJ (aN (bV 3 tX) (aD j6 (aD fW (aD (b2 getD cQ rB) aV)))) ag))))
def dF:aa D->Res D:=fnS 2 5 R0
abbrev xF:bq:=top 1
noncomputable def aC7:ah->aq:=λi=>i==1
def aRh:FS:=bO (QG 1 gK j6) (QG 1 j6 gK)
def aC8:FS:=bO (cR ag 1 (bC (.dct [])) ag) (bO (BK (b_ 0x2c ai) (tgN [2,3]) aRh) (WL 1))
def tY:aa D->Res D:=fnS 1 4 aC8
abbrev qM:bq:=top 12
noncomputable def MT:ah->aq:=λi=>i==2
def aRi:FT:=bTB (b2 (bY .isin) (fP (aD j6 (aD (aN gV (aD gH aV)) aV))) gD)
def aRj:FS:=BJ 5 (b2 getD gD (fP (aD j6 (aD (aN gV (aD gH aV)) aV))))
def aRk:FS:=aRc 5 (QF aV) (MJ (aOv aRi aRj) (XH 5 (QG 2 j6 gH)))
def M3:FS:=bO (cR ai 1 (aN (bV 1 tY) (aD cQ aV)) ag) (bO (cR ag 2 (bC (.dct [])) ag) (bO (BK (b_ 0x21 ai) (tgN [3,4]) aRk) (WL 2)))
def jP:aa D->Res D:=fnS 1 6 M3
abbrev qN:bq:=top 14
noncomputable def XM:ah->aq:=λi=>i==2
def stb:FS:=aSu 2 (dR 4 (aMv (b2 getD cQ j6)) uQ (bTB (b2 (bY .eq) (b2 getD fW dM) dM)) (fP (aD (b2 getD fW fJ) (aD j6 aV))) ai)
def XN:FS:=bO (cR ag 2 (QF aV) ag) (bO (aEm 1 (tg1 3) stb) (bO (sIf (bTr gK) (lJ (bFz (uY (aD (b2 getD (aN (cZ .lt) (aD gK aV)) fJ) aV))) ag) o_) (lJ gD ai)))
def mR:aa D->Res D:=fnS 2 4 XN
abbrev u_:bq:=top 15
noncomputable def XQ:ah->aq:=λi=>i==4||i==5||i==6
def aRl:FE:=b2 getD (b2 getD j6 dM) (aN gV (aD lH aV))
def aSw:FS:=sIf (A_ (bTr o8) (bTB (b2 (bY .ne) xX aRl))) (bO (sIf (bTB (b2 (bY (.ord .gt)) xX aRl)) (lJ (bC .non) ag) o_) (cR ai 7 (bC (.bl ai)) ag)) o_
def wib:FS:=bO (sIf (bTB (b2 (bY .uF) iH gH)) (bO (BJ 4 iH) (QG 5 iH 0x23)) o_) (bO (BJ 9 (b2 getD gH iH)) (BJ 9 Q6))
def M4:FS:=bO (cR ai 8 (b2 getD fW (aN gV (aD lH aV))) ai) (aRc 9 (uY (aD (b2 getD cQ wO) aV)) (MJ (BK (aMv (b2 getD gD wO)) (tgN [10,11]) wib) (MJ aSw (XH 9 (BJ 6 xX)))))
def XR:FT:=bTB (b2 (bY (.ord .lt)) (aN gV (aD lH aV)) 0x23)
def XS:FS:=bO (cR ag 4 (uY (aD gK aV)) ag) (bO (cR ag 5 (aRd dM dM gK fJ) ag) (bO (cR ag 6 (QF aV) ag) (bO (cR ai 7 (b2 (bY .notN) j6 (bC .non)) ag) (bO (aOv XR M4) (RP 6 (RP 4 (lJ (fP (aD lH (aD fW aV))) ai)))))))
def gZ:aa D->Res D:=fnS 4 12 XS
abbrev rY:bq:=top 13
noncomputable def R1:ah->aq:=λi=>ai
def fwb:FS:=bO (cR ai 5 (aN (bV 4 gZ) (aD cQ (aD gD (aD fW (aD j6 aV))))) ag) (sIf (bTB (b2 (bY .notN) gH (bC .non))) (sAl 3 5) o_)
def R3:FS:=bO (cR ai 3 (bC .non) ag) (bO (BK (aMv (aN (bV 2 mR) (aD gD (aD gK aV)))) (tg1 4) fwb) (lJ j6 ai))
def dX:aa D->Res D:=fnS 3 6 R3
abbrev rZ:bq:=top 5
noncomputable def R4:ah->aq:=λi=>i==1
def sE:FS:=bO (cR ag 1 (bC (.dct [])) ag) (sNb 1 [2,3] (b_ 0x21 ai) gK [4,5] (b_ 0x2c ai) (bTB (b2 (bY .ne) (b2 getD fW dM) dM)) (b2 getD fW dM) (b2 getD gH dM))
def nH:aa D->Res D:=fnS 1 6 sE
abbrev jQ:bq:=top 6
noncomputable def wA:ah->aq:=λi=>i==2||i==3
def hbody:FS:=sIf (bTB (b2 (bY .uF) gH gK)) (bO (QG 2 gH (bC (.bl ag))) (BJ 3 gH)) o_
def hloop:FS:=bO (aMj 3 4) (BK (aMv (b2 getD cQ fW)) (tg1 5) hbody)
def jR:FS:=bO (cR ag 2 (b2 aEw gD (bC (.bl ag))) ag) (bO (cR ag 3 (uY (aD gD aV)) ag) (bO (aOv (bTr j6) hloop) (lJ (aN sortedK (aD gK aV)) ag)))
def d_:aa D->Res D:=fnS 2 6 jR
abbrev XX:bq:=top 4
noncomputable def aN5:ah->aq:=λi=>i==2||i==3
def aRm:FS:=sIf (bTB (b2 (bY .uF) fW gK)) (bO (cR ai 6 (bFz (aN (bV 2 d_) (aD gD (aD fW aV)))) ag) (bO (aEm 6 (tg1 7) (QG 2 o8 (bC (.bl ag)))) (BJ 3 lH))) o_
def aN6:FS:=bO (cR ai 1 (aN (bV 1 nH) (aD cQ aV)) ag) (bO (cR ag 2 (bC (.dct [])) ag) (bO (cR ag 3 (QF aV) ag) (bO (BK (b_ 0x21 ai) (tgN [4,5]) aRm) (WL 3))))
def xG:aa D->Res D:=fnS 1 8 aN6
abbrev aF0:bq:=top 9
noncomputable def aU5:ah->aq:=λi=>i==4
def aU6:FS:=bO (cR ai 1 (b1 CT 0x21) ag) (bO (cR ai 2 (aN (bV 1 jP) (aD cQ aV)) ag) (bO (cR ai 3 (aN fD (aD (dR 7 (b_ (aN (bV 1 xG) (aD cQ aV)) ag) uQ gB 0x2d ag) aV)) ag) (bO (cR ag 4 (QF aV) ag) (bO (aBn 3 (tgN [5,6]) (aEx 4 lH)) (lJ (aN fD (aD (dR 7 (aEv 1 fW ai) (JG 2) gB (fP (aD wO (aD o8 aV))) ai) aV)) ag)))))
def uC:aa D->Res D:=fnS 1 7 aU6
abbrev aF1:bq:=top 8
noncomputable def aRn:ah->aq:=λi=>ai
def aRo:FS:=lJ (aN (bV 2 dF) (aD cQ (aD (aN (bV 1 uC) (aD cQ aV)) aV))) ag
def jT:aa D->Res D:=fnS 1 1 aRo
abbrev jU:bq:=top 25
noncomputable def M5:ah->aq:=λi=>i==4
def M6:FS:=bO (cR ai 1 (aN gV (aD 0x21 aV)) ag) (bO (cR ai 2 (aN (bV 1 d9) (aD cQ aV)) ag) (bO (cR ai 3 (b2 (bQ .add) (aN KQ (aD 0x21 aV)) (dR 6 (b_ 0x21 ai) (JG 2) gB (fP (aD (b2 (bQ .add) lH gD) (aD o8 aV))) ai)) ag) (bO (cR ag 4 (aN KQ (aD 0x2c aV)) ag) (bO (BK (b_ 0x2c ai) (tg1 5) (BJ 4 (aN nA (aD (dR 6 (b_ gH ai) uQ gB (bIf (bTB (b2 (bY .eq) (b2 getD lH dM) dM)) (fP (aD dM (aD (b2 (bQ .add) (b2 getD lH fJ) gK) aV))) (fP (aD (b2 (bQ .add) (b2 getD lH dM) gD) (aD (b2 getD lH fJ) aV)))) ai) aV)))) (lJ (fP (aD (aN nA (aD j6 aV)) (aD (aN nA (aD (aN fD (aD fW aV)) aV)) (aD (b2 (bQ .mul) rB (b2 getD cQ rB)) aV)))) ai)))))
def dN:aa D->Res D:=fnS 1 6 M6
abbrev g_:bq:=top 26
noncomputable def CW:ah->aq:=λi=>i==8
def CZ:FS:=bO (cR ai 2 (aN (bV 1 dN) (aD cQ aV)) ag) (bO (sIf (bTB (b2 (bY .eq) (aN gV (aD 0x2c aV)) dM)) (lJ gK ai) o_) (bO (cR ai 3 (aN gV (aD 0x21 aV)) ag) (bO (cR ai 4 (aN (bV 1 d9) (aD cQ aV)) ag) (bO (aKb (b2 getD 0x2c (b2 (bQ .mod) gD (aN gV (aD 0x2c aV)))) (tgN [5,6])) (bO (cR ai 7 (dR 10 (b_ (fP (aD gH (aD lH aV))) ai) uQ gB (bIf (bTB (b2 (bY .eq) (b2 getD iH dM) dM)) (fP (aD dM (aD (b2 (bQ .add) (b2 getD iH fJ) fW) aV))) (fP (aD (b2 (bQ .add) (b2 getD iH dM) j6) (aD (b2 getD iH fJ) aV)))) ai) ag) (bO (cR ag 8 (dR 10 (b_ (b2 getD gK fJ) ai) uQ (A_ (bTB (b2 (bY .ne) (b2 getD iH dM) gH)) (bTB (b2 (bY .ne) (b2 getD iH dM) (b2 getD o8 dM)))) iH ai) ag) (bO (BK (b_ (uY (aD (fP (aD gH (aD (b2 getD o8 fJ) aV))) (aD (fP (aD (b2 getD o8 dM) (aD lH aV))) aV))) ag) (tg1 9) (BJ 8 (fP (aD (aN (cZ .lt) (aD xX aV)) (aD (aN (cZ .gt) (aD xX aV)) aV))))) (lJ (fP (aD (b2 getD gK dM) (aD (aN nA (aD (aN fD (aD wO aV)) aV)) (aD (b2 getD gK rB) aV)))) ai))))))))
def jV:aa D->Res D:=fnS 2 10 CZ
abbrev sG:bq:=top 31
noncomputable def R5:ah->aq:=λi=>ai
def R6:FS:=lJ (KN (b1 (aDs .int) cQ) (aQa (b1 (aDs .bool) cQ))) ag
def lC:aa D->Res D:=fnS 1 1 R6
abbrev sI:bq:=top 32
noncomputable def R7:ah->aq:=λi=>i==3
def ldb:FS:=bO (cR ai 5 (b2 getD cQ fW) ai) (bO (sIf (bOr (aCr (bTr (b1 (aDs .tuple) gH))) (bOr (bTB (b2 (bY .ne) (aN gV (aD gH aV)) rB)) (bOr (aCr (bTr (aN (bV 1 lC) (aD (b2 getD gH dM) aV)))) (aCr (bTr (aN (bV 1 lC) (aD (b2 getD gH fJ) aV))))))) (lJ (bC (.bl ai)) ag) o_) (bO (sIf (bTB (b2 (bY .ne) (b2 getD gH dM) (b2 getD (b2 getD (b2 getD gD dM) fW) dM))) (lJ (bC (.bl ai)) ag) o_) (QG 3 (b2 getD gH dM) (b2 getD gH fJ))))
def R8:FS:=bO (sIf (bOr (aCr (bTr (b1 (aDs .list) cQ))) (bTB (b2 (bY .ne) 0x1a (aN gV (aD (b2 getD gD dM) aV))))) (lJ (bC (.bl ai)) ag) o_) (bO (cR ag 3 (b2 aEw dM dM) ag) (bO (BK (uB (aD 0x1a aV) rC) (tg1 4) ldb) (lJ (b2 (bY .eq) (aN (bV 2 gJ) (aD gD (aD j6 aV))) gK) ag)))
def fB:aa D->Res D:=fnS 3 6 R8
abbrev M7:bq:=top 10
noncomputable def aN7:ah->aq:=λi=>i==4
def aN8:FS:=bO (cR ai 2 (aN (bV 1 uC) (aD cQ aV)) ag) (bO (cR ai 3 (aN (bV 1 uC) (aD gD aV)) ag) (bO (sIf (bTB (b2 (bY .ne) (aN (bV 2 dF) (aD cQ (aD gK aV))) (aN (bV 2 dF) (aD gD (aD j6 aV))))) (lJ (bC .non) ag) o_) (bO (cR ag 4 (bC (.dct [])) ag) (bO (aBn 3 (tgN [5,6]) (QG 4 lH gH)) (lJ (dR 7 (b_ gK ai) (JG 2) gB (fP (aD o8 (aD (b2 getD fW wO) aV))) ai) ag)))))
def j8:aa D->Res D:=fnS 2 7 aN8
abbrev vA:bq:=top 33
noncomputable def X3:ah->aq:=λi=>ai
def X4:FS:=bO (sIf (aCr (bTr gK)) (lJ (KN (b2 (bY .isN) (aN (bV 2 j8) (aD cQ (aD gD aV))) (bC .non)) (b2 (bY .isN) (aN (bV 2 j8) (aD gD (aD cQ aV))) (bC .non))) ag) o_) (lJ (KN (aN (bV 3 fB) (aD (aN (bV 2 j8) (aD cQ (aD gD aV))) (aD cQ (aD gD aV)))) (aN (bV 3 fB) (aD (aN (bV 2 j8) (aD gD (aD cQ aV))) (aD gD (aD cQ aV))))) ag)
def mU:aa D->Res D:=fnS 3 3 X4
abbrev jW:bq:=top 34
noncomputable def C_:ah->aq:=λi=>ai
def DG:FS:=lJ (aN fD (aD (dR 1 (b_ 0x21 ai) (JG 2) gB gK ai) aV)) ag
def h_:aa D->Res D:=fnS 1 1 DG
abbrev M8:bq:=top 35
noncomputable def o_law:ah->aq:=λi=>ai
def tlz:FS:=bO (cR ai 6 (aN (bV 1 jT) (aD fW aV)) ag) (bO (cR ai 7 (aN (bV 1 jT) (aD gH aV)) ag) (bO (cR ai 8 (b2 (bY .eq) lH o8) ag) (bO (sIf (A_ (bTB (b2 (bY .eq) gK dM)) (aCr (bTr wO))) (lJ (bC (.bl ai)) ag) o_) (bO (sIf (A_ (bTr wO) (bOr (bTB (b2 (bY .ne) (aN (bV 1 h_) (aD fW aV)) (aN (bV 1 h_) (aD gH aV)))) (bTB (b2 (bY .ne) (b2 getD fW rB) (b2 getD gH rB))))) (lJ (bC (.bl ai)) ag) o_) (bO (sIf (A_ (bTr wO) (bTB (b2 (bY .ne) (aN (bV 1 d9) (aD fW aV)) (aN (bV 1 d9) (aD gH aV))))) (lJ (bC (.bl ai)) ag) o_) (bO (sIf (bOr (aCr (bTr (aN (bV 3 mU) (aD fW (aD gH (aD wO aV)))))) (aCr (bTr (aN (bV 3 mU) (aD lH (aD gH (aD wO aV))))))) (lJ (bC (.bl ai)) ag) o_) (bO (sIf (aCr (bTr (aN (bV 3 fB) (aD (aN (bV 2 j8) (aD fW (aD lH aV))) (aD fW (aD lH aV)))))) (lJ (bC (.bl ai)) ag) o_) (lJ (KN (b2 (bY .eq) (aN (bV 1 jT) (aD lH aV)) lH) (KN (b2 (bY .eq) (aN (bV 1 jT) (aD o8 aV)) o8) (KN (b2 (bY .eq) (aN (bV 1 jT) (aD fW aV)) lH) (b2 (bY .eq) (aN (bV 1 jT) (aD gH aV)) o8)))) ag))))))))
def lwA:FS:=sIf (bTB (b2 (bY .eq) gK aH8)) (cR ai 5 (aN (bV 3 lA) (aD j6 (aD (b1 aSv (aCs cQ (wW aBk) (wW (bC (.int 68))))) (aD (b2 (bQ .fdiv) gD rB) aV)))) ag) o_
def lwC:FS:=sIf (A_ 0x2b (bTB (b2 (bY (.ord .lt)) gK aHs))) (cR ai 5 (aN (bV 1 dN) (aD gH aV)) ag) o_
def lwB:FS:=sIf (bTB (b2 (bY .eq) gK aHs)) (cR ai 5 (aN (bV 2 jV) (aD fW (aD (aN (bV 2 bZ) (aD cQ (aD rB aV))) aV))) ag) o_
def lwD:FS:=sIf (bOr 0x2b (bTB (b2 (bY .eq) gK aHs))) (cR ai 4 (aN (bV 1 dN) (aD fW aV)) ag) o_
def aU7:FS:=bO (cR ai 1 (aN (bV 2 bZ) (aD cQ (aD dM aV))) ag) (bO (cR ai 2 (b2 (bQ .mod) (aN (bV 2 bZ) (aD cQ (aD fJ aV))) aSr) ag) (bO (cR ai 3 (aN (bV 2 k_) (aD gD (aD (b2 (bQ .fdiv) (aN (bV 2 bZ) (aD cQ (aD fJ aV))) aSr) aV))) ag) (bO (cR ai 4 (aN (bV 3 lA) (aD j6 (aD (aCs cQ (wW aBk) (wW (bC (.int 68)))) (aD (b2 (bQ .fdiv) gD rB) aV)))) ag) (bO (cR ai 5 (aN (bV 4 kI) (aD fW (aD (aCs (aN KQ (aD j6 aV)) aDr (wW rB)) (aD gK (aD (aN (bV 2 bZ) (aD cQ (aD rB aV))) aV))))) ag) (bO lwA (bO lwB (bO lwC (bO lwD (bO (cR ai 5 (aN (bV 3 nG) (aD gH (aD (aN (bV 2 bZ) (aD cQ (aD aQ9 aV))) (aD (aN (bV 2 bZ) (aD cQ (aD rB aV))) aV)))) ag) tlz)))))))))
def aC9:aa D->Res D:=fnS 1 9 aU7
noncomputable abbrev HF:aa Str:=["script","k"]
noncomputable abbrev R9:aa Str:=["cell","sides","letters","size","at","stock","k","name","j","step"]
noncomputable abbrev DK:aa Str:=["some","seed","found","k"]
noncomputable abbrev M9:aa Str:=["loose","bare","seed","spots","ties","k","pair"]
noncomputable abbrev M_:aa Str:=["loose","bare","seed","ties"]
noncomputable abbrev vB:aa Str:=["loose","more","one","rest","other"]
noncomputable abbrev iC:aa Str:=["stock","cells","seed","names","pieces","loose","ties","bare","rings","cell","more","some","name"]
noncomputable abbrev iU:aa Str:=["ties","cell","at","there","one","other","third","fourth","rest","pairs"]
noncomputable abbrev aCa:aa Str:=["net","many","one","other"]
noncomputable abbrev fG:aa Str:=["net","names","kind","cell","pieces","ties","rings","at","number","name","other","one","ends","turned_about"]
noncomputable abbrev kO:aa Str:=["net","new","pieces","ties","one","other"]
noncomputable abbrev R_:aa Str:=["net","cell","seed","fresh","last","k","new"]
noncomputable abbrev tZ:aa Str:=["pieces","ties","rings","rows"]
noncomputable abbrev iD:aa Str:=["net","pairs","new","pieces","ties"]
noncomputable abbrev aCb:aa Str:=["net","mates","one","other"]
noncomputable abbrev NB:aa Str:=["net","mates","ends","number","name","around"]
noncomputable abbrev vC:aa Str:=["ends","part","at_rim","number"]
abbrev X5:aa Str:=["names","ends","start","best","order","places","rows","level","number","row","far","hook"]
abbrev SJ:aa Str:=["names","ends","part","best","start","walk"]
noncomputable abbrev SN:aa Str:=["net","beside","number","name","one","other"]
abbrev wB:aa Str:=["beside","start","reached","waiting","current","number"]
noncomputable abbrev aN9:aa Str:=["net","beside","seen","found","number","name","part","member"]
noncomputable abbrev aCc:aa Str:=["net","names","ends","walks","order","rows","numbers"]
noncomputable abbrev SQ:aa Str:=["net"]
noncomputable abbrev iJ:aa Str:=["net","by","on","pieces","ties","tie"]
noncomputable abbrev iG:aa Str:=["net","cell","twice","by","on","one","other","far","ties","pair"]
noncomputable abbrev SX:aa Str:=["found"]
noncomputable abbrev S5:aa Str:=["found","one","other","new","k","pair"]
noncomputable abbrev NK:aa Str:=["one","other","one_way","other_way","back","number","place"]
noncomputable abbrev X6:aa Str:=["one","other","equal"]
noncomputable abbrev aU8:aa Str:=["script","seed","kind","stock","one","other","first","second","equal"]
theorem DN:b7 HF ["script","k"] (aP nW):=0xa
theorem NP:b7 R9 ["cell","sides"] (aP rQ):=0xa
theorem yJ:b7 DK ["some","seed"] (aP mO):=0xa
theorem HH:b7 M9 ["loose","bare","seed"] (aP qH):=0xa
theorem HJ:b7 M_ ["loose","bare","seed"] (aP qJ):=0xa
theorem S6:b7 vB ["loose","more"] (aP qL):=0xa
theorem NQ:b7 iC ["stock","cells","seed"] (aP jD):=0xa
theorem DP:b7 iU ["ties","cell"] (aP iR):=0xa
theorem X7:b7 aCa ["net"] (aP wZ):=0xa
theorem DQ:b7 fG ["net","names","kind","cell"] (aP iT):=0xa
theorem DR:b7 kO ["net","new"] (aP kJ):=0xa
theorem NT:b7 R_ ["net","cell","seed"] (aP rW):=0xa
theorem X8:b7 tZ ["pieces","ties","rings"] (aP tW):=0xa
theorem NZ:b7 iD ["net","pairs"] (aP lB):=0xa
theorem X_:b7 aCb ["net"] (aP xF):=0xa
theorem HN:b7 NB ["net"] (aP qM):=0xa
theorem S7:b7 vC ["ends","part"] (aP qN):=0xa
theorem S8:b7 X5 ["names","ends","start","best"] (aP u_):=0xa
theorem N5:b7 SJ ["names","ends","part"] (aP rY):=0xa
theorem N6:b7 SN ["net"] (aP rZ):=0xa
theorem vD:b7 wB ["beside","start"] (aP jQ):=0xa
theorem aIs:b7 aN9 ["net"] (aP XX):=0xa
theorem aRp:b7 aCc ["net"] (aP aF0):=0xa
theorem aNa:b7 SQ ["net"] (aP aF1):=0xa
theorem HQ:b7 iJ ["net"] (aP jU):=0xa
theorem yK:b7 iG ["net","cell"] (aP g_):=0xa
theorem N7:b7 SX ["found"] (aP sG):=0xa
theorem N8:b7 S5 ["found","one","other"] (aP sI):=0xa
theorem aIt:b7 NK ["one","other"] (aP M7):=0xa
theorem S9:b7 X6 ["one","other","equal"] (aP vA):=0xa
theorem yL:b7 SQ ["net"] (aP jW):=0xa
theorem aRq:b7 aU8 ["script"] (aP M8):=0xa
section
variable [KFrag] {P:cb} {w:br} {K:Frag} {mg:Str->az ak} {base:bm} {fad:am} {fd:hX} (hK:KFrag.K=K) (B:Bt mg)
include hK B
theorem yM(F:Fun K "_law_cell_at" "_law_cell_at" nW fad fd)(hm:mg "_law_cell_at"=ae (.ref fad)):b8 P w K mg base 1 "_law_cell_at" 2 bZ:=by
 have sc:=DN;have nd:=sc.nd;refine eV F hm (F.binds λ_ _ _ _ _ _ us hl=>by obtain⟨_,_,rfl⟩:=Mi.l2 hl;rfl) sc G7 0x4 0x4 λcdv A outer s H E hr=>?_
 have hu:=uH hr;exact aF (gM (bR (WX hK hu) aA 0x12 (bN _)) (aO (cM (a_ aA aA))) cF) (aO (cM aH))
theorem HR(F:Fun K "_law_stock" "_law_stock" rQ fad fd)(hm:mg "_law_stock"=ae (.ref fad)):b8 P w K mg base 1 "_law_stock" 2 k_:=by
 have sc:=NP;have nd:=sc.nd;refine eV F hm (F.binds λ_ _ _ _ _ _ us hl=>by obtain⟨_,_,rfl⟩:=Mi.l2 hl;rfl) sc RT 0x4 0x4 λcdv A outer s H E hr=>?_
 have hu:=uH hr;exact aF (bI aK3) (aF (bI (bH dI aH (bH eU aA aH))) (aF (bI (bH eU (bH gY aA aH) aA)) (aF (bI (tQ)) (aF (jZ du rfl (nT 0x3 B.range (aB aH aG)) (i_ rfl) 0x1c (aF (bI aK3) (aF (jZ du rfl (nT 0x3 B.range 0xd) (i_ rfl) 0x1c (aF (bI (bH xZ (bH eU (bH gY aA aH) aH) (bH dI aA aH))) (aF (gM (bR (jK hK hu) aA aA (bN _)) (aO (bI aH)) cF) (aO (bI (bH dI aA (a_ aA (bH eU (bH dI (bH gY (bH gY aA aH) (bH dI (bH xZ aA aA) aH)) (bH xZ aA aA)) aH)))))))) (aO (rK hu rfl rfl 0x0 aA (a_ (mG (aB (bH dI aH (bH eU aA aH)) (aB (bH dI aH (bH eU aA aH)) (aB (bH eU (bH gY aA aH) aH) (aB (bH eU (bH gY aA aH) aH) (aB aH aG)))))) aA)))))) (aO (wY rfl rfl 0x0))))))
theorem j9(F:Fun K "_law_shuffled" "_law_shuffled" mO fad fd)(hm:mg "_law_shuffled"=ae (.ref fad)):b8 P w K mg base 1 "_law_shuffled" 2 dW:=by
 have sc:=yJ;have nd:=sc.nd;refine eV F hm (F.binds λ_ _ _ _ _ _ us hl=>by obtain⟨_,_,rfl⟩:=Mi.l2 hl;rfl) sc CV 0x4 0x4 λcdv A outer s H E hr=>?_
 have hu:=uH hr;exact aF (bI (mG aG)) (aF (jZ du rfl (nT 0x3 B.range (aB 0x12 aG)) (i_ rfl) 0x1c (aO (aQv rfl rfl 0x0 (bH eU (bH dI (bH gY aA (bH dI aA aH)) (bH xZ aA aA)) (bH dI aA aH)) (a_ aA aA)))) (aO (wY rfl rfl 0x0)))
theorem DW(p9:b8 P w K mg base 1 "_law_shuffled" 2 dW)(F:Fun K "_law_rimmed" "_law_rimmed" qH fad fd)(hm:mg "_law_rimmed"=ae (.ref fad)):b8 P w K mg base 2 "_law_rimmed" 3 jN:=by
 have sc:=HH;have nd:=sc.nd;refine eV F hm (F.binds λ_ _ _ _ _ _ us hl=>by obtain⟨_,_,_,rfl⟩:=Mi.l3 hl;rfl) sc MN 0x4 0x4 λcdv A outer s H E hr=>?_
 have hu:=uH hr;exact aF (bI (aU p9 hr 0x4 0x3 (aB (aIa 0x3 0x3 B.list 0x3 B.range (aB (bH dI 0x12 (bH xZ aH aA)) aG)) 0xd))) (aF (bI (mG aG)) (aF (jZ du rfl (nT 0x3 B.range (aB 0x12 aG)) (i_ rfl) 0x1c (aO (lM rfl rfl 0x0 (bW (aB (bW (aB aH (aB (a_ aA aA) aG))) (aB (a_ aA aA) aG)))))) (aF (jZ du rfl (nT 0x3 B.range 0xd) (i_ rfl) 0x1c (aF (bI (WY hK aA (nR (bH dI 0x12 (bH xZ aH aA))) (nR (bH dI (bH dI 0x12 (bH xZ aH aA)) aH)))) (aO (lM rfl rfl 0x0 (bW (aB (bW (aB aH (aB (aQ (v5 hK hu 0x3) 0x3 B.min v9 0xd) aG))) (aB (bW (aB aH (aB (aQ (x_ hK hu 0x3) 0x3 B.max yC 0xd) aG))) aG))))))) (aO (wY rfl rfl 0x0)))))
theorem DX(p9:b8 P w K mg base 1 "_law_shuffled" 2 dW)(pK:b8 P w K mg base 2 "_law_rimmed" 3 jN)(F:Fun K "_law_closed" "_law_closed" qJ fad fd)(hm:mg "_law_closed"=ae (.ref fad)):b8 P w K mg base 3 "_law_closed" 3 jO:=by
 have sc:=HJ;have nd:=sc.nd;refine eV F hm (F.binds λ_ _ _ _ _ _ us hl=>by obtain⟨_,_,_,rfl⟩:=Mi.l3 hl;rfl) sc MP 0x4 0x4 λcdv A outer s H E hr=>?_
 have hu:=uH hr;exact aF (bI (mG aG)) (aF (gM (bR (aBt hK hu) (bH eU aA aH) aH (bN _)) (aF (bI (aU p9 hr 0x4 0x3 (aB aA (aB (bH gY aA aH) aG)))) (aO (aA7 du (bR (aBt hK hu) 0x12 aH (bN _)) (aF (lM rfl rfl 0x0 (bW (aB (aQ (v5 hK hu 0x3) 0x3 B.min v9 (aB 0xe 0xb)) (aB (aQ (x_ hK hu 0x3) 0x3 B.max yC (aB 0xe 0xb)) aG)))) (aO (bI (WY hK aA (nR aH) (K8)))))))) cF) (aO (cM (bH dI aA (aU pK hr 0x4 0x3 (aB aA 0xc))))))
theorem N_(F:Fun K "_law_tied" "_law_tied" qL fad fd)(hm:mg "_law_tied"=ae (.ref fad)):b8 P w K mg base 1 "_law_tied" 2 jB:=by
 have sc:=S6;have nd:=sc.nd;refine eV F hm (F.binds λ_ _ _ _ _ _ us hl=>by obtain⟨_,_,rfl⟩:=Mi.l2 hl;rfl) sc XJ 0x4 0x4 λcdv A outer s H E hr=>?_
 have hu:=uH hr;exact aF (bI (a_ aA (bH eU aA 0x12))) (aF (oG (show dH vB (aP qL) _ (["end"]:aa Str) from 0x9) rfl rfl rfl (fM aA) (jL 5) (λ_=>aX (show((dh (fQ (["end"]:aa Str)) vB++(["end"]:aa Str)):aa Str).Nodup from 0x6) rfl 0x0) (λ_=>bR (v4 hK hu) aA aA (bN _)) (λ_=>aA) (λ_=>rfl) (o:=ai) rfl sc.nd rfl 0x0 (iN rfl) 0x5) (aF (bI (a_ aA (bH eU (bH gY aA 0x12) 0x12))) (aO (cM (bW (aB (aQ (v5 hK hu 0x3) 0x3 B.min v9 0xc) (aB (aQ (x_ hK hu 0x3) 0x3 B.max yC 0xc) aG)))))))
theorem HS(pM:b8 P w K mg base 1 "_law_tied" 2 jB)(pN:b8 P w K mg base 3 "_law_closed" 3 jO)(F:Fun K "_law_grown" "_law_grown" jD fad fd)(hm:mg "_law_grown"=ae (.ref fad)):b8 P w K mg base 4 "_law_grown" 3 lA:=by
 have sc:=NQ;have nd:=sc.nd;refine eV F hm (F.binds λ_ _ _ _ _ _ us hl=>by obtain⟨_,_,_,rfl⟩:=Mi.l3 hl;rfl) sc RV 0x4 0x4 λcdv A outer s H E hr=>?_
 have hu:=uH hr
 exact aF (bI (c7 (K_ 0x3) 0x3 B.list uV 0xd)) (aF (bI (mG aG)) (aF (bI (mG aG)) (aF (bI (mG aG)) (aF (bI aH) (aF (bI aH) (aF (W6 rfl du rfl rfl 0x0 (i_ rfl) 0x1c (aF (bI (bH gY aA aH)) (aF (aQt (j:=5) rfl rfl sc.nd rfl 0x0 rfl 0x0) (aF (gM (bR (jK hK hu) (bH eU aA aH) aH (bN _)) (aO (oG (show dH iC (aP jD) _ (["end"]:aa Str) from 0x9) rfl rfl rfl (fM aA) (jL 13) (λ_=>aX (show((dh (fQ (["end"]:aa Str)) iC++(["end"]:aa Str)):aa Str).Nodup from 0x6) rfl 0x0) (λ_=>bR (jK hK hu) 0xe aH (bN _)) (λ_=>aA) (λ_=>rfl) (o:=ai) rfl sc.nd rfl 0x0 (iN rfl) 0x5)) cF) (aO (gM (PW.pt (rG (bR (WX hK hu) (bH eU aA aH) aH (bN _)) (mH (bR (WX hK hu) 0x12 aH (bN _))))) (aF (bI (a_ aA (bH eU aA 0x12))) (aF (lM rfl rfl 0x0 (bW (aB (bH dI 0x12 aH) 0xd))) (aO (bI (bH dI aA (iY (show dH iC (aP jD) _ (["hook"]:aa Str) from 0x9) rfl rfl rfl (nT 0x3 B.range (aB (bH dI (a_ aA aA) aH) aG)) (jL 13) (λ_=>aX (show((dh (fQ (["hook"]:aa Str)) iC++(["hook"]:aa Str)):aa Str).Nodup from 0x6) rfl 0x0) (λ_=>bW (aB 0x12 0xd)) (λ_=>rfl))))))) (aO (gM (PW.pt (rG (aI1 (aTp hK hu) (WX hK hu) aH (bH eU aA aH) aH) (mH (bR (aBt hK hu) 0x12 aH (bN _))))) (aF (lM rfl rfl 0x0 (aU pM hr 0x4 0x3 0xc)) (aO (oG (show dH iC (aP jD) _ (["end"]:aa Str) from 0x9) rfl rfl rfl (fM aA) (jL 13) (λ_=>aX (show((dh (fQ (["end"]:aa Str)) iC++(["end"]:aa Str)):aa Str).Nodup from 0x6) rfl 0x0) (λ_=>bR (yV hK hu) aA (a_ aA (aTn aQk aH)) 0x5) (λ_=>aA) (λ_=>rfl) (o:=ai) rfl sc.nd rfl 0x0 (iN rfl) 0x5))) (aO (gM (bR (jK hK hu) (bH eU aA aH) aH (bN _)) (aO (bI (bH dI aA aH))) (aO (gM (bR (jK hK hu) (bH eU aA aH) aH (bN _)) (aO (bI (bH dI aA (bH eU aA (bH aK4 aH aH))))) cF)))))))))))) (aF (bI (bH dI aA (aU pN hr 0x4 0x3 (aB aA 0xc)))) (aO (cM (bW (aB (c7 iW 0x3 B.tuple iI 0xd) (aB 0x17 0xd))))))))))))
theorem yN(F:Fun K "_law_twisted" "_law_twisted" iR fad fd)(hm:mg "_law_twisted"=ae (.ref fad)):b8 P w K mg base 1 "_law_twisted" 2 kE:=by
 have sc:=DP;have nd:=sc.nd;refine eV F hm (F.binds λ_ _ _ _ _ _ us hl=>by obtain⟨_,_,rfl⟩:=Mi.l2 hl;rfl) sc G8 0x4 0x4 λcdv A outer s H E hr=>?_
 have hu:=uH hr;exact aF (gM (bR (WX hK hu) 0x12 aH (bN _)) (aO (cM aA)) cF) (aF (bI (bH eU aA (bH Z5 0x12 aH))) (aF (bI (bH dI (bH dI aA aH) (bH eU (bH gY aA aH) (bH Z5 (bH Z5 0x12 aH) aA)))) (aF (RK (a_ aA aA) (j7 _ 0x4) 0x13) (aF (RK (a_ aA aA) (j7 _ 0x4) 0x13) (aF (oG (show dH iU (aP iR) _ (["k"]:aa Str) from 0x9) rfl rfl rfl (nT 0x3 B.range (aB 0x12 aG)) (jL 10) (λ_=>aX (show((dh (fQ (["k"]:aa Str)) iU++(["k"]:aa Str)):aa Str).Nodup from 0x6) rfl 0x0) (λ_=>PW.pt (rG (bR (v4 hK hu) aA aA (bN _)) (mH (bR (v4 hK hu) aA aA (bN _))))) (λ_=>a_ aA aA) (λ_=>rfl) (o:=ai) rfl sc.nd rfl 0x0 (iN rfl) 0x5) (aF (bI (uZ (aB (bW 0xc) (aB (bW 0xc) aG)))) (aF (gM (bR (jK hK hu) (bH eU (bH gY aA aH) aH) aH (bN _)) (aO (bI (uZ (aB (bW 0xc) (aB (bW 0xc) aG))))) cF) (aO (cM (c7 iW 0x3 B.tuple iI (aB (aQ (fL hK hu) 0x3 B.sorted fO (aB (bH dI aA (iY (show dH iU (aP iR) _ (["pair"]:aa Str) from 0x9) rfl rfl rfl (fM aA) (jL 10) (λ_=>aX (show((dh (fQ (["pair"]:aa Str)) iU++(["pair"]:aa Str)):aa Str).Nodup from 0x6) rfl 0x0) (λ_=>bW (aB (aQ (v5 hK hu 0x3) 0x3 B.min v9 0xd) (aB (aQ (x_ hK hu 0x3) 0x3 B.max yC 0xd) aG))) (λ_=>rfl))) aG)) aG)))))))))))
theorem lD(F:Fun K "_law_rim" "_law_rim" wZ fad fd)(hm:mg "_law_rim"=ae (.ref fad)):b8 P w K mg base 1 "_law_rim" 1 d9:=by
 have sc:=X7;have nd:=sc.nd;refine eV F hm (F.binds λ_ _ _ _ _ _ us hl=>by obtain⟨_,rfl⟩:=Mi.l1 hl;rfl) sc aC3 0x4 0x4 λcdv A outer s H E hr=>?_
 have hu:=uH hr;exact aF (bI aH) (aF (jZ du rfl (fM 0xe) (j7 _ 0x4) 0x13 (aO (bI (bH dI (bH dI aA (c7 W9 0x3 B.int aA4 (aB (qW (jK hK hu) 0xe aH (bN _)) aG))) (c7 W9 0x3 B.int aA4 (aB (qW (jK hK hu) 0xe aH (bN _)) aG)))))) (aO (cM aA)))
theorem yO(pO:b8 P w K mg base 1 "_law_twisted" 2 kE)(p5:b8 P w K mg base 1 "_law_rim" 1 d9)(F:Fun K "_law_changed" "_law_changed" iT fad fd)(hm:mg "_law_changed"=ae (.ref fad)):b8 P w K mg base 2 "_law_changed" 4 kI:=by
 have sc:=DQ;have nd:=sc.nd;refine eV F hm (F.binds λ_ _ _ _ _ _ us hl=>by obtain⟨_,_,_,_,rfl⟩:=Mi.l4 hl;rfl) sc G_ 0x4 0x4 λcdv A outer s H E hr=>?_
 have hu:=uH hr
 exact aF (RK aA (j7 _ 0x4) (gW rfl (aZ 0x1c (aZ 0x1c (aZ 0x1c (eO)))))) (aF (gM (PW.pt (rG (bR (jK hK hu) aA aH (bN _)) (mH (bR (aBt hK hu) 0x12 aH (bN _))))) (aF (bI (bH eU aA 0x12)) (aF (RK (a_ aA aA) (j7 _ 0x4) 0x13) (aO (gM (bR (aQl hK hu) aA aA 0x5) (aF (bI (a_ aA (bH Z5 aH (c7 W9 0x3 B.int aA4 (aB (qW (jK hK hu) aA 0xe (bN _)) aG))))) (aO (cM (bW (aB (bH aEk (bH aEk (WY hK aA (K8) (nR aA)) (bW (aB (bW 0xc) aG))) (WY hK aA (nR (bH dI aA aH)) (K8))) 0xc))))) cF)))) cF) (aF (gM (bR (jK hK hu) aA aH (bN _)) (aO (cM (bW (aB aA (aB (aU pO hr 0x4 0x3 0xc) 0xd))))) cF) (aF (gM (PW.pt (rG (bR (jK hK hu) aA aH (bN _)) (mH (bR (aBt hK hu) (aU p5 hr 0x4 0x3 0xd) aH (bN _))))) (aF (bI (bW (aB aH (aB (bH eU aA (aU p5 hr 0x4 0x3 0xd)) aG)))) (aF (bI (bW (aB aH (aB (bH eU (bH gY aA aH) (aU p5 hr 0x4 0x3 0xd)) aG)))) (aF (bI (aN0 hu aA aA aA aA)) (aF (yX (show dH fG (aP iT) _ (["tie"]:aa Str) from 0x9) rfl rfl rfl (fM aA) (jL 14) (λ_=>aX (show((dh (fQ (["tie"]:aa Str)) fG++(["tie"]:aa Str)):aa Str).Nodup from 0x6) rfl 0x0) (λ_=>iY (show dH (dh (fQ (["tie"]:aa Str)) fG++(["tie"]:aa Str)) _ _ (["end"]:aa Str) from ⟨rfl,by decide +kernel,by decide +kernel,d6 0x3,by decide +kernel,by decide +kernel,by decide +kernel⟩) rfl rfl rfl (fM aA) (jL 15) (λ_=>aX (show((dh (fQ (["end"]:aa Str)) (dh (fQ (["tie"]:aa Str)) fG++(["tie"]:aa Str))++(["end"]:aa Str)):aa Str).Nodup from 0x6) rfl 0x0) (λ_=>aTt PySem.F.plainAttrs_dict nV PySem.F.type_dict_get (aQq hu) aA 0xc (λ_ _ _ _ _ h r=>aM4 h r)) (λ_=>rfl)) (λ_=>rfl) (o:=ai) rfl sc.nd rfl 0x0 (iN rfl) 0x5) (aO (cM (bW (aB aA (aB (c7 iW 0x3 B.tuple iI (aB (aQ (fL hK hu) 0x3 B.sorted fO (aB (iY (show dH fG (aP iT) _ (["tie"]:aa Str) from 0x9) rfl rfl rfl (fM aA) (jL 14) (λ_=>aX (show((dh (fQ (["tie"]:aa Str)) fG++(["tie"]:aa Str)):aa Str).Nodup from 0x6) rfl 0x0) (λ_=>bW (aB (aQ (v5 hK hu 0x3) 0x3 B.min v9 0xd) (aB (aQ (x_ hK hu 0x3) 0x3 B.max yC 0xd) aG))) (λ_=>rfl)) aG)) aG)) 0xd))))))))) cF) (aF (gM (bR (jK hK hu) aA aH (bN _)) (aO (cM (bW (aB aA (aB aA (aB (bH dI aA aH) aG)))))) cF) (aO (cM aA))))))
theorem qX(F:Fun K "_law_carried" "_law_carried" kJ fad fd)(hm:mg "_law_carried"=ae (.ref fad)):b8 P w K mg base 1 "_law_carried" 2 gJ:=by
 have sc:=DR;have nd:=sc.nd;refine eV F hm (F.binds λ_ _ _ _ _ _ us hl=>by obtain⟨_,_,rfl⟩:=Mi.l2 hl;rfl) sc HB 0x4 0x4 λcdv A outer s H E hr=>?_
 have hu:=uH hr;exact aF (bI (aQ (fL hK hu) 0x3 B.sorted fO (aB (iY (show dH kO (aP kJ) _ (["number","name"]:aa Str) from 0x9) rfl rfl rfl (fM 0xe) (rJ _ 6 2) (λ_=>gW rfl (aZ (aX (show((dh 0x24 kO++(["number","name"]:aa Str)):aa Str).Nodup from 0x6) rfl 0x0) (aZ (aX (show((dh 0x24 kO++(["number","name"]:aa Str)):aa Str).Nodup from 0x6) rfl 0x0) (eO)))) (λ_=>bW (aB (a_ aA aA) 0xd)) (λ_=>rfl)) aG))) (aF (bI (mG aG)) (aF (jZ du rfl (fM 0xe) (j7 _ 0x4) 0x13 (aF (bI (bW (aB (a_ aA 0xe) 0xb))) (aF (bI (bW (aB (a_ aA 0xe) 0xb))) (aO (lM rfl rfl 0x0 (bW (aB (aQ (v5 hK hu 0x3) 0x3 B.min v9 0xc) (aB (aQ (x_ hK hu 0x3) 0x3 B.max yC 0xc) aG)))))))) (aO (cM (bW (aB (c7 iW 0x3 B.tuple iI 0xd) (aB 0x17 0xb)))))))
theorem HW(p9:b8 P w K mg base 1 "_law_shuffled" 2 dW)(pk:b8 P w K mg base 1 "_law_carried" 2 gJ)(F:Fun K "_law_fresh" "_law_fresh" rW fad fd)(hm:mg "_law_fresh"=ae (.ref fad)):b8 P w K mg base 2 "_law_fresh" 3 nG:=by
 have sc:=NT;have nd:=sc.nd;refine eV F hm (F.binds λ_ _ _ _ _ _ us hl=>by obtain⟨_,_,_,rfl⟩:=Mi.l3 hl;rfl) sc RW 0x4 0x4 λcdv A outer s H E hr=>?_
 have hu:=uH hr;exact aF (bI (mG aG)) (aF (bI aH) (aF (jZ du rfl (nT 0x3 B.range (aB 0x2e aG)) (i_ rfl) 0x1c (aF (bI (bH dI (bH dI aA aH) (bH eU (bH gY aA (bH dI aA aH)) (a_ (mG (aB aH (aB (bH aK4 aH aH) aG))) (bH eU aA aH))))) (aO (lM rfl rfl 0x0 aA)))) (aF (bI (aU p9 hr 0x4 0x3 0xc)) (aF (bI (XF aH aH)) (aF (jZ du rfl (nT 0x3 B.range (aB 0x2e aG)) (i_ rfl) 0x1c (aO (rK hu rfl rfl 0x0 (a_ (a_ 0xe aA) aH) (a_ aA aA)))) (aO (cM (aU pk hr 0x4 0x3 0xc))))))))
theorem yE(F:Fun K "arranged" "arranged" tW fad fd)(hm:mg "arranged"=ae (.ref fad)):b8 P w K mg base 1 "arranged" 3 tX:=by
 have sc:=X8;have nd:=sc.nd;refine eV F hm (F.binds λ_ _ _ _ _ _ us hl=>by obtain⟨_,_,_,rfl⟩:=Mi.l3 hl;rfl) sc aC5 0x4 0x4 λcdv A outer s H E hr=>?_
 have hu:=uH hr;exact aF (yX (show dH tZ (aP tW) _ (["one","other"]:aa Str) from 0x9) rfl rfl rfl (fM aA) (rJ _ 4 2) (λ_=>gW rfl (aZ (aX (show((dh (fQ (["one","other"]:aa Str)) tZ++(["one","other"]:aa Str)):aa Str).Nodup from 0x6) rfl 0x0) (aZ (aX (show((dh (fQ (["one","other"]:aa Str)) tZ++(["one","other"]:aa Str)):aa Str).Nodup from 0x6) rfl 0x0) (eO)))) (λ_=>bW (aB (aQ (v5 hK hu 0x3) 0x3 B.min v9 0xc) (aB (aQ (x_ hK hu 0x3) 0x3 B.max yC 0xc) aG))) (λ_=>rfl) (o:=ai) rfl sc.nd rfl 0x0 (iN rfl) 0x5) (aO (cM (bW (aB 0x17 (aB 0x17 0xd)))))
theorem uK(pP:b8 P w K mg base 1 "arranged" 3 tX)(F:Fun K "renumbered" "renumbered" lB fad fd)(hm:mg "renumbered"=ae (.ref fad)):b8 P w K mg base 2 "renumbered" 2 dF:=by
 have sc:=NZ;have nd:=sc.nd;refine eV F hm (F.binds λ_ _ _ _ _ _ us hl=>by obtain⟨_,_,rfl⟩:=Mi.l2 hl;rfl) sc RZ 0x4 0x4 λcdv A outer s H E hr=>?_
 have hu:=uH hr;exact aF (bI (aEr 0x3 0x3 B.dict aA)) (aF (rK hu rfl rfl 0x0 aH aH) (aF (yX (show dH iD (aP lB) _ (["number","name"]:aa Str) from 0x9) rfl rfl rfl (fM 0xe) (rJ _ 5 2) (λ_=>gW rfl (aZ (aX (show((dh 0x24 iD++(["number","name"]:aa Str)):aa Str).Nodup from 0x6) rfl 0x0) (aZ (aX (show((dh 0x24 iD++(["number","name"]:aa Str)):aa Str).Nodup from 0x6) rfl 0x0) (eO)))) (λ_=>bW (aB (a_ aA aA) 0xd)) (λ_=>rfl) (o:=ai) rfl sc.nd rfl 0x0 (iN rfl) 0x5) (aF (yX (show dH iD (aP lB) _ (["one","other"]:aa Str) from 0x9) rfl rfl rfl (fM 0xe) (rJ _ 5 2) (λ_=>gW rfl (aZ (aX (show((dh (fQ (["one","other"]:aa Str)) iD++(["one","other"]:aa Str)):aa Str).Nodup from 0x6) rfl 0x0) (aZ (aX (show((dh (fQ (["one","other"]:aa Str)) iD++(["one","other"]:aa Str)):aa Str).Nodup from 0x6) rfl 0x0) (eO)))) (λ_=>bW (aB (bW (aB (a_ aA 0xe) 0xb)) (aB (bW (aB (a_ aA 0xe) 0xb)) aG))) (λ_=>rfl) (o:=ai) rfl sc.nd rfl 0x0 (iN rfl) 0x5) (aO (cM (aU pP hr 0x4 0x3 (aB aA (aB aA 0xb))))))))
theorem S_(F:Fun K "mates_of" "mates_of" xF fad fd)(hm:mg "mates_of"=ae (.ref fad)):b8 P w K mg base 1 "mates_of" 1 tY:=by
 have sc:=X_;have nd:=sc.nd;refine eV F hm (F.binds λ_ _ _ _ _ _ us hl=>by obtain⟨_,rfl⟩:=Mi.l1 hl;rfl) sc aC7 0x4 0x4 λcdv A outer s H E hr=>?_
 have hu:=uH hr;exact aF (bI (tQ)) (aF (jZ du rfl (fM 0xe) (j7 _ 0x4) 0x13 (aF (rK hu rfl rfl 0x0 aA aA) (aO (rK hu rfl rfl 0x0 aA aA)))) (aO (wY rfl rfl 0x0)))
theorem DY(pT:b8 P w K mg base 1 "mates_of" 1 tY)(F:Fun K "ends_around" "ends_around" qM fad fd)(hm:mg "ends_around"=ae (.ref fad)):b8 P w K mg base 2 "ends_around" 1 jP:=by
 have sc:=HN;have nd:=sc.nd;refine eV F hm (F.binds λ_ _ _ _ _ _ us hl=>by obtain⟨_,rfl⟩:=Mi.l1 hl;rfl) sc MT 0x4 0x4 λcdv A outer s H E hr=>?_
 have hu:=uH hr;exact aF (bI (aU pT hr 0x4 0x3 0xd)) (aF (bI (tQ)) (aF (jZ du rfl (fM 0xe) (j7 _ 0x4) 0x13 (aEz rfl rfl sc.nd rfl 0x0 (mG aG) (MK (aA7 du (bR (aQl hK hu) (bW (aB aA (aB 0x12 aG))) aA 0x5) (aO (lM rfl rfl 0x0 (a_ aA (bW (aB aA (aB 0x12 aG))))))) (aEy (h2:=aO (rK hu rfl rfl 0x0 aA aA)))))) (aO (wY rfl rfl 0x0))))
theorem OD(F:Fun K "starts_of" "starts_of" qN fad fd)(hm:mg "starts_of"=ae (.ref fad)):b8 P w K mg base 1 "starts_of" 2 mR:=by
 have sc:=S7;have nd:=sc.nd;refine eV F hm (F.binds λ_ _ _ _ _ _ us hl=>by obtain⟨_,_,rfl⟩:=Mi.l2 hl;rfl) sc XM 0x4 0x4 λcdv A outer s H E hr=>?_
 have hu:=uH hr;exact aF (bI (mG aG)) (aF (aEn hK rfl du rfl rfl 0x0 (i_ rfl) 0x1c (aO (aR1 rfl rfl 0x0 (aBv (show dH vC (aP qN) _ (["far"]:aa Str) from 0x9) rfl rfl rfl (aAb hK (a_ aA aA)) (jL 4) (λ_=>aX (show((dh (fQ (["far"]:aa Str)) vC++(["far"]:aa Str)):aa Str).Nodup from 0x6) rfl 0x0) (λ_=>bR (jK hK hu) 0xe aH (bN _)) (λ_=>bW (aB 0xe 0xd)) (λ_=>rfl))))) (aF (gM (nD aA) (aO (cM (aR6 (uZ (aB (a_ (aQ (v5 hK hu 0x3) 0x3 B.min v9 0xd) aH) aG))))) cF) (aO (cM aA))))
theorem OJ(F:Fun K "walk_from" "walk_from" u_ fad fd)(hm:mg "walk_from"=ae (.ref fad)):b8 P w K mg base 1 "walk_from" 4 gZ:=by
 have sc:=S8;have nd:=sc.nd;refine eV F hm (F.binds λ_ _ _ _ _ _ us hl=>by obtain⟨_,_,_,_,rfl⟩:=Mi.l4 hl;rfl) sc XQ 0x4 0x4 λcdv A outer s H E hr=>?_
 have hu:=uH hr;exact aF (bI (uZ 0xd)) (aF (bI (aMz aH aH aA aH)) (aF (bI (mG aG)) (aF (bI (qW aE7 aA BV (bN _))) (aF (aA7 du (bR (WX hK hu) 0x12 0x12 (bN _)) (aF (bI (a_ aA 0x12)) (aEz rfl rfl sc.nd rfl 0x0 (uZ (aB (a_ aA aA) aG)) (MK (jZ du rfl (aAb hK (a_ aA aA)) (j7 _ 0x4) 0x13 (aF (gM (bR (yV hK hu) aA aA 0x5) (aF (lM rfl rfl 0x0 aA) (aO (rK hu rfl rfl 0x0 aA 0x12))) cF) (aF (lM rfl rfl 0x0 (a_ aA aA)) (aO (lM rfl rfl 0x0 aA))))) (MK (gM (PW.pt (rG (nD aA) (mH (bR (v4 hK hu) aA (a_ 0xe 0x12) (bN _))))) (aF (gM (bR (aBt hK hu) aA (a_ 0xe 0x12) (bN _)) (aO (cM BV)) cF) (aO (bI yI))) cF) (aEy (h2:=aO (lM rfl rfl 0x0 aA)))))))) (aAc rfl (aAc rfl (aO (cM (bW 0xc)))))))))
theorem HX(pU:b8 P w K mg base 1 "walk_from" 4 gZ)(pV:b8 P w K mg base 1 "starts_of" 2 mR)(F:Fun K "first_walk" "first_walk" rY fad fd)(hm:mg "first_walk"=ae (.ref fad)):b8 P w K mg base 2 "first_walk" 3 dX:=by
 have sc:=N5;have nd:=sc.nd;refine eV F hm (F.binds λ_ _ _ _ _ _ us hl=>by obtain⟨_,_,_,rfl⟩:=Mi.l3 hl;rfl) sc R1 0x4 0x4 λcdv A outer s H E hr=>?_
 have hu:=uH hr;exact aF (bI BV) (aF (jZ du rfl (aAb hK (aU pV hr 0x4 0x3 0xc)) (i_ rfl) 0x1c (aF (bI (aU pU hr 0x4 0x3 (aB aA (aB aA 0xc)))) (aO (gM (bR aE7 aA BV (bN _)) (aO (aQt (j:=5) rfl rfl sc.nd rfl 0x0 rfl 0x0)) cF)))) (aO (cM aA)))
theorem HY(F:Fun K "neighbours" "neighbours" rZ fad fd)(hm:mg "neighbours"=ae (.ref fad)):b8 P w K mg base 1 "neighbours" 1 nH:=by
 have sc:=N6;have nd:=sc.nd;refine eV F hm (F.binds λ_ _ _ _ _ _ us hl=>by obtain⟨_,rfl⟩:=Mi.l1 hl;rfl) sc R4 0x4 0x4 λcdv A outer s H E hr=>?_
 have hu:=uH hr;exact aF (bI (tQ)) (aR8 (js:=[4,5]) rfl rfl 0x4 0x4 du rfl (fM 0xe) 0x13 (aTz hu rfl 0x0 aA) (fM 0xe) 0x13 (bR (v4 hK hu) 0xe aH (bN _)) (aR7 hu rfl 0x0 0xe 0xe) (aR7 hu rfl 0x0 0xe 0xe) (aMn rfl 0x0))
theorem uE(F:Fun K "hanging_together" "hanging_together" jQ fad fd)(hm:mg "hanging_together"=ae (.ref fad)):b8 P w K mg base 1 "hanging_together" 2 d_:=by
 have sc:=vD;have nd:=sc.nd;refine eV F hm (F.binds λ_ _ _ _ _ _ us hl=>by obtain⟨_,_,rfl⟩:=Mi.l2 hl;rfl) sc wA 0x4 0x4 λcdv A outer s H E hr=>?_
 have hu:=uH hr;exact aF (bI (XF aA yI)) (aF (bI (uZ 0xd)) (aF (aA7 du (nD aA) (aF (aMk (j:=4) rfl rfl 0x0 sc.nd rfl 0x0 rfl) (aO (jZ du rfl (aAb hK (a_ aA aA)) (i_ rfl) 0x1c (aO (gM (bR (yV hK hu) aA aA 0x5) (aF (rK hu rfl rfl 0x0 aA yI) (aO (lM rfl rfl 0x0 aA))) cF)))))) (aO (cM (aQ (aBz hK 0x3 hu) 0x3 B.sorted fO 0xd)))))
theorem aF2(pW:b8 P w K mg base 1 "neighbours" 1 nH)(pX:b8 P w K mg base 1 "hanging_together" 2 d_)(F:Fun K "parts" "parts" XX fad fd)(hm:mg "parts"=ae (.ref fad)):b8 P w K mg base 2 "parts" 1 xG:=by
 have sc:=aIs;have nd:=sc.nd;refine eV F hm (F.binds λ_ _ _ _ _ _ us hl=>by obtain⟨_,rfl⟩:=Mi.l1 hl;rfl) sc aN5 0x4 0x4 λcdv A outer s H E hr=>?_
 have hu:=uH hr;exact aF (bI (aU pW hr 0x4 0x3 0xd)) (aF (bI (tQ)) (aF (bI (mG aG)) (aF (jZ du rfl (fM 0xe) (j7 _ 0x4) 0x13 (aO (gM (bR (yV hK hu) aA aA 0x5) (aF (bI (aR6 (aU pX hr 0x4 0x3 0xc))) (aF (aEn hK rfl du rfl rfl 0x0 (i_ rfl) 0x1c (aO (rK hu rfl rfl 0x0 aA yI))) (aO (lM rfl rfl 0x0 aA)))) cF))) (aO (wY rfl rfl 0x0)))))
theorem aNb(pZ:b8 P w K mg base 2 "ends_around" 1 jP)(qa:b8 P w K mg base 2 "parts" 1 xG)(qe:b8 P w K mg base 2 "first_walk" 3 dX)(F:Fun K "way" "way" aF0 fad fd)(hm:mg "way"=ae (.ref fad)):b8 P w K mg base 3 "way" 1 uC:=by
 have sc:=aRp;have nd:=sc.nd;refine eV F hm (F.binds λ_ _ _ _ _ _ us hl=>by obtain⟨_,rfl⟩:=Mi.l1 hl;rfl) sc aU5 0x4 0x4 λcdv A outer s H E hr=>?_
 have hu:=uH hr;exact aF (bI (aC1 0x3 0x3 B.dict 0xe)) (aF (bI (aU pZ hr 0x4 0x3 0xd)) (aF (bI (aQ (fL hK hu) 0x3 B.sorted fO (aB (iY (show dH aCc (aP aF0) _ (["part"]:aa Str) from 0x9) rfl rfl rfl (fM (aU qa hr 0x4 0x3 0xd)) (jL 7) (λ_=>aX (show((dh (fQ (["part"]:aa Str)) aCc++(["part"]:aa Str)):aa Str).Nodup from 0x6) rfl 0x0) (λ_=>aU qe hr 0x4 0x3 (aB aA 0xc)) (λ_=>rfl)) aG))) (aF (bI (mG aG)) (aF (W6 rfl du rfl rfl 0x0 (j7 _ 0x4) 0x13 (aO (aMy hK rfl rfl 0x0 aA))) (aO (cM (aQ (fL hK hu) 0x3 B.sorted fO (aB (iY (show dH aCc (aP aF0) _ (["place","number"]:aa Str) from 0x9) rfl rfl rfl (aIl 0x3 B.enum 0xd) (rJ _ 7 2) (λ_=>gW rfl (aZ (aX (show((dh (fQ (["place","number"]:aa Str)) aCc++(["place","number"]:aa Str)):aa Str).Nodup from 0x6) rfl 0x0) (aZ (aX (show((dh (fQ (["place","number"]:aa Str)) aCc++(["place","number"]:aa Str)):aa Str).Nodup from 0x6) rfl 0x0) (eO)))) (λ_=>bW 0xc) (λ_=>rfl)) aG))))))))
theorem aIu(pf:b8 P w K mg base 3 "way" 1 uC)(pg:b8 P w K mg base 2 "renumbered" 2 dF)(F:Fun K "told" "told" aF1 fad fd)(hm:mg "told"=ae (.ref fad)):b8 P w K mg base 4 "told" 1 jT:=by
 have sc:=aNa;have nd:=sc.nd;refine eV F hm (F.binds λ_ _ _ _ _ _ us hl=>by obtain⟨_,rfl⟩:=Mi.l1 hl;rfl) sc aRn 0x4 0x4 λcdv A outer s H E hr=>?_
 have hu:=uH hr;exact aO (cM (aU pg hr 0x4 0x3 (aB aA (aB (aU pf hr 0x4 0x3 0xd) aG))))
theorem sJ(p5:b8 P w K mg base 1 "_law_rim" 1 d9)(F:Fun K "_law_double" "_law_double" jU fad fd)(hm:mg "_law_double"=ae (.ref fad)):b8 P w K mg base 2 "_law_double" 1 dN:=by
 have sc:=HQ;have nd:=sc.nd;refine eV F hm (F.binds λ_ _ _ _ _ _ us hl=>by obtain⟨_,rfl⟩:=Mi.l1 hl;rfl) sc M5 0x4 0x4 λcdv A outer s H E hr=>?_
 have hu:=uH hr;exact aF (bI 0x2e) (aF (bI (aU p5 hr 0x4 0x3 0xd)) (aF (bI (bH dI (c7 (K_ 0x3) 0x3 B.list uV 0xb) (iY (show dH iJ (aP jU) _ (["number","name"]:aa Str) from 0x9) rfl rfl rfl (fM 0xe) (rJ _ 6 2) (λ_=>gW rfl (aZ (aX (show((dh 0x24 iJ++(["number","name"]:aa Str)):aa Str).Nodup from 0x6) rfl 0x0) (aZ (aX (show((dh 0x24 iJ++(["number","name"]:aa Str)):aa Str).Nodup from 0x6) rfl 0x0) (eO)))) (λ_=>bW (aB (bH dI aA aA) 0xd)) (λ_=>rfl)))) (aF (bI (c7 (K_ 0x3) 0x3 B.list uV 0xb)) (aF (jZ du rfl (fM 0xe) (i_ rfl) 0x1c (aO (lM rfl rfl 0x0 (c7 iW 0x3 B.tuple iI (aB (iY (show dH iJ (aP jU) _ (["end"]:aa Str) from 0x9) rfl rfl rfl (fM aA) (jL 6) (λ_=>aX (show((dh (fQ (["end"]:aa Str)) iJ++(["end"]:aa Str)):aa Str).Nodup from 0x6) rfl 0x0) (λ_=>aQh (bR (jK hK hu) 0xe aH (bN _)) (bW (aB aH (aB (bH dI 0xe aA) aG))) (bW (aB (bH dI 0xe aA) 0xb))) (λ_=>rfl)) aG))))) (aO (cM (bW (aB (c7 iW 0x3 B.tuple iI 0xd) (aB 0x17 (aB (bH xZ aH 0xe) aG))))))))))
theorem xH(ph:b8 P w K mg base 2 "_law_double" 1 dN)(p5:b8 P w K mg base 1 "_law_rim" 1 d9)(F:Fun K "_law_led_over" "_law_led_over" g_ fad fd)(hm:mg "_law_led_over"=ae (.ref fad)):b8 P w K mg base 3 "_law_led_over" 2 jV:=by
 have sc:=yK;have nd:=sc.nd;refine eV F hm (F.binds λ_ _ _ _ _ _ us hl=>by obtain⟨_,_,rfl⟩:=Mi.l2 hl;rfl) sc CW 0x4 0x4 λcdv A outer s H E hr=>?_
 have hu:=uH hr;exact aF (bI (aU ph hr 0x4 0x3 0xd)) (aF (gM (bR (jK hK hu) 0x2e aH (bN _)) (aO (cM aA)) cF) (aF (bI 0x2e) (aF (bI (aU p5 hr 0x4 0x3 0xd)) (aF (RK (a_ 0xe (bH eU aA 0x2e)) (j7 _ 0x4) 0x13) (aF (bI (iY (show dH iG (aP g_) _ (["end"]:aa Str) from 0x9) rfl rfl rfl (fM (bW 0xc)) (jL 10) (λ_=>aX (show((dh (fQ (["end"]:aa Str)) iG++(["end"]:aa Str)):aa Str).Nodup from 0x6) rfl 0x0) (λ_=>aQh (bR (jK hK hu) 0xe aH (bN _)) (bW (aB aH (aB (bH dI 0xe aA) aG))) (bW (aB (bH dI 0xe aA) 0xb))) (λ_=>rfl))) (aF (oG (show dH iG (aP g_) _ (["tie"]:aa Str) from 0x9) rfl rfl rfl (fM 0xe) (jL 10) (λ_=>aX (show((dh (fQ (["tie"]:aa Str)) iG++(["tie"]:aa Str)):aa Str).Nodup from 0x6) rfl 0x0) (λ_=>PW.pt (rG (bR (v4 hK hu) 0xe aA (bN _)) (mH (bR (v4 hK hu) 0xe 0xe (bN _))))) (λ_=>aA) (λ_=>rfl) (o:=ag) rfl sc.nd rfl 0x0 (iN rfl) 0x5) (aF (jZ du rfl (fM (uZ (aB (bW (aB aA 0xb)) (aB (bW (aB 0xe 0xd)) aG)))) (i_ rfl) 0x1c (aO (lM rfl rfl 0x0 (bW (aB (aQ (v5 hK hu 0x3) 0x3 B.min v9 0xd) (aB (aQ (x_ hK hu 0x3) 0x3 B.max yC 0xd) aG)))))) (aO (cM (bW (aB 0xe (aB 0x17 0xb))))))))))))
theorem H_(F:Fun K "_law_whole" "_law_whole" sG fad fd)(hm:mg "_law_whole"=ae (.ref fad)):b8 P w K mg base 1 "_law_whole" 1 lC:=by
 have sc:=N7;have nd:=sc.nd;refine eV F hm (F.binds λ_ _ _ _ _ _ us hl=>by obtain⟨_,rfl⟩:=Mi.l1 hl;rfl) sc R5 0x4 0x4 λcdv A outer s H E hr=>?_
 have hu:=uH hr;exact aO (cM (JL (aA0 .int aA 0x3 B.isi lX 0x3 B.int aA4) (ZZ (aQg (aA0 .bool aA 0x3 B.isi lX 0x3 B.bool aMe)))))
theorem IK(po:b8 P w K mg base 1 "_law_whole" 1 lC)(pk:b8 P w K mg base 1 "_law_carried" 2 gJ)(F:Fun K "_law_leads" "_law_leads" sI fad fd)(hm:mg "_law_leads"=ae (.ref fad)):b8 P w K mg base 2 "_law_leads" 3 fB:=by
 have sc:=N8;have nd:=sc.nd;refine eV F hm (F.binds λ_ _ _ _ _ _ us hl=>by obtain⟨_,_,_,rfl⟩:=Mi.l3 hl;rfl) sc R7 0x4 0x4 λcdv A outer s H E hr=>?_
 have hu:=uH hr;exact aF (gM (PW.pt (WW (vX (nD (aA0 .list aA 0x3 B.isi lX 0x3 B.list uV))) (Q9 (bR (v4 hK hu) 0x12 0x2e (bN _))))) (aO (cM yI)) cF) (aF (bI (XF aH aH)) (aF (jZ du rfl (nT 0x3 B.range (aB 0x12 aG)) (i_ rfl) 0x1c (aF (bI (a_ aA aA)) (aF (gM (PW.pt (WW (vX (nD (aA0 .tuple aA 0x3 B.isi lX 0x3 B.tuple iI))) (WW (bR (v4 hK hu) 0x12 aH (bN _)) (WW (vX (nD (aU po hr 0x4 0x3 0xb))) (Q9 (vX (nD (aU po hr 0x4 0x3 0xb)))))))) (aO (cM yI)) cF) (aF (gM (bR (v4 hK hu) 0xe (a_ (a_ 0xe aA) aH) (bN _)) (aO (cM yI)) cF) (aO (rK hu rfl rfl 0x0 0xe 0xe)))))) (aO (cM (qW (jK hK hu) (aU pk hr 0x4 0x3 0xc) aA (bN _))))))
theorem aF3(pf:b8 P w K mg base 3 "way" 1 uC)(pg:b8 P w K mg base 2 "renumbered" 2 dF)(F:Fun K "alike" "alike" M7 fad fd)(hm:mg "alike"=ae (.ref fad)):b8 P w K mg base 4 "alike" 2 j8:=by
 have sc:=aIt;have nd:=sc.nd;refine eV F hm (F.binds λ_ _ _ _ _ _ us hl=>by obtain⟨_,_,rfl⟩:=Mi.l2 hl;rfl) sc aN7 0x4 0x4 λcdv A outer s H E hr=>?_
 have hu:=uH hr;exact aF (bI (aU pf hr 0x4 0x3 0xd)) (aF (bI (aU pf hr 0x4 0x3 0xd)) (aF (gM (bR (v4 hK hu) (aU pg hr 0x4 0x3 0xc) (aU pg hr 0x4 0x3 0xc) (bN _)) (aO (cM BV)) cF) (aF (bI (tQ)) (aF (W6 rfl du rfl rfl 0x0 (j7 _ 0x4) 0x13 (aO (rK hu rfl rfl 0x0 aA aA))) (aO (cM (iY (show dH NK (aP M7) _ (["number","place"]:aa Str) from 0x9) rfl rfl rfl (fM aA) (rJ _ 7 2) (λ_=>gW rfl (aZ (aX (show((dh (fQ (["number","place"]:aa Str)) NK++(["number","place"]:aa Str)):aa Str).Nodup from 0x6) rfl 0x0) (aZ (aX (show((dh (fQ (["number","place"]:aa Str)) NK++(["number","place"]:aa Str)):aa Str).Nodup from 0x6) rfl 0x0) (eO)))) (λ_=>bW (aB aA (aB (a_ aA aA) aG))) (λ_=>rfl))))))))
theorem O1(p7:b8 P w K mg base 4 "alike" 2 j8)(pj:b8 P w K mg base 2 "_law_leads" 3 fB)(F:Fun K "_law_both" "_law_both" vA fad fd)(hm:mg "_law_both"=ae (.ref fad)):b8 P w K mg base 5 "_law_both" 3 mU:=by
 have sc:=S9;have nd:=sc.nd;refine eV F hm (F.binds λ_ _ _ _ _ _ us hl=>by obtain⟨_,_,_,rfl⟩:=Mi.l3 hl;rfl) sc X3 0x4 0x4 λcdv A outer s H E hr=>?_
 have hu:=uH hr;exact aF (gM (vX (nD aA)) (aO (cM (JL (qW aK5 (aU p7 hr 0x4 0x3 0xc) BV (bN _)) (ZZ (qW aK5 (aU p7 hr 0x4 0x3 0xc) BV (bN _)))))) cF) (aO (cM (JL (aU pj hr 0x4 0x3 (aB (aU p7 hr 0x4 0x3 0xc) 0xc)) (ZZ (aU pj hr 0x4 0x3 (aB (aU p7 hr 0x4 0x3 0xc) 0xc))))))
theorem xJ(F:Fun K "_law_names_of" "_law_names_of" jW fad fd)(hm:mg "_law_names_of"=ae (.ref fad)):b8 P w K mg base 1 "_law_names_of" 1 h_:=by
 have sc:=yL;have nd:=sc.nd;refine eV F hm (F.binds λ_ _ _ _ _ _ us hl=>by obtain⟨_,rfl⟩:=Mi.l1 hl;rfl) sc C_ 0x4 0x4 λcdv A outer s H E hr=>?_
 have hu:=uH hr;exact aO (cM (aQ (fL hK hu) 0x3 B.sorted fO (aB (iY (show dH SQ (aP jW) _ (["number","name"]:aa Str) from 0x9) rfl rfl rfl (fM 0xe) (rJ _ 1 2) (λ_=>gW rfl (aZ (aX (show((dh 0x24 SQ++(["number","name"]:aa Str)):aa Str).Nodup from 0x6) rfl 0x0) (aZ (aX (show((dh 0x24 SQ++(["number","name"]:aa Str)):aa Str).Nodup from 0x6) rfl 0x0) (eO)))) (λ_=>aA) (λ_=>rfl)) aG)))
theorem aRr(p6:b8 P w K mg base 1 "_law_cell_at" 2 bZ)(qf:b8 P w K mg base 1 "_law_stock" 2 k_)(pz:b8 P w K mg base 4 "_law_grown" 3 lA)(qg:b8 P w K mg base 2 "_law_changed" 4 kI)(qh:b8 P w K mg base 3 "_law_led_over" 2 jV)(ph:b8 P w K mg base 2 "_law_double" 1 dN)(qi:b8 P w K mg base 2 "_law_fresh" 3 nG)(p8:b8 P w K mg base 4 "told" 1 jT)(pD:b8 P w K mg base 1 "_law_names_of" 1 h_)(p5:b8 P w K mg base 1 "_law_rim" 1 d9)(pG:b8 P w K mg base 5 "_law_both" 3 mU)(p7:b8 P w K mg base 4 "alike" 2 j8)(pj:b8 P w K mg base 2 "_law_leads" 3 fB)(F:Fun K "law" "law" M8 fad fd):aCp P w K mg base CX0 6 fad fd ["script"] (spD aC9 1):=by
 have sc:=aRq;have nd:=sc.nd;refine aQw F sc o_law 0x4 0x4 λcdv A outer s H E hr=>?_
 have hu:=uH hr
 exact aF (bI 0x20) (aF (bI (bH eU 0x20 aH)) (aF (bI (aU qf hr 0x4 0x3 (aB aA (aB (bH gY 0x20 aH) aG)))) (aF (bI (aU pz hr 0x4 0x3 (aB aA (aB (WY hK aA (nR aH) (nR aH)) (aB (bH gY aA aH) aG))))) (aF (bI (aU qg hr 0x4 0x3 (aB aA (aB (WY hK (c7 (K_ 0x3) 0x3 B.list uV 0xd) (K8) (nR aH)) (aB aA (aB 0x20 aG)))))) (aF (gM (bR (jK hK hu) aA aH (bN _)) (aO (bI (aU pz hr 0x4 0x3 (aB aA (aB (aIq 0x3 0x3 B.list 0x3 B.reversed (WY hK aA (nR aH) (nR aH))) (aB (bH gY aA aH) aG)))))) cF) (aF (gM (bR (jK hK hu) aA aH (bN _)) (aO (bI (aU qh hr 0x4 0x3 (aB aA (aB 0x20 aG))))) cF) (aF (gM (PW.pt (rG (bR (jK hK hu) (bH eU aA aH) aH (bN _)) (mH (bR (WX hK hu) aA aH (bN _))))) (aO (bI (aU ph hr 0x4 0x3 0xd))) cF) (aF (gM (PW.pt (WW (bR (jK hK hu) (bH eU aA aH) aH (bN _)) (Q9 (bR (jK hK hu) aA aH (bN _))))) (aO (bI (aU ph hr 0x4 0x3 0xd))) cF) (aF (bI (aU qi hr 0x4 0x3 (aB aA (aB 0x20 (aB 0x20 aG))))) (aF (bI (aU p8 hr 0x4 0x3 0xd)) (aF (bI (aU p8 hr 0x4 0x3 0xd)) (aF (bI (qW (jK hK hu) aA aA (bN _))) (aF (gM (PW.pt (rG (bR (jK hK hu) aA aH (bN _)) (mH (vX (nD aA))))) (aO (cM yI)) cF) (aF (gM (PW.pt (rG (nD aA) (mH (PW.pt (WW (bR (v4 hK hu) (aU pD hr 0x4 0x3 0xd) (aU pD hr 0x4 0x3 0xd) (bN _)) (Q9 (bR (v4 hK hu) 0xe 0xe (bN _)))))))) (aO (cM yI)) cF) (aF (gM (PW.pt (rG (nD aA) (mH (bR (v4 hK hu) (aU p5 hr 0x4 0x3 0xd) (aU p5 hr 0x4 0x3 0xd) (bN _))))) (aO (cM yI)) cF) (aF (gM (PW.pt (WW (vX (nD (aU pG hr 0x4 0x3 (aB aA 0xc)))) (Q9 (vX (nD (aU pG hr 0x4 0x3 (aB aA 0xc))))))) (aO (cM yI)) cF) (aF (gM (vX (nD (aU pj hr 0x4 0x3 (aB (aU p7 hr 0x4 0x3 0xc) 0xc)))) (aO (cM yI)) cF) (aO (cM (JL (qW (jK hK hu) (aU p8 hr 0x4 0x3 0xd) aA (bN _)) (JL (qW (jK hK hu) (aU p8 hr 0x4 0x3 0xd) aA (bN _)) (JL (qW (jK hK hu) (aU p8 hr 0x4 0x3 0xd) aA (bN _)) (ZZ (qW (jK hK hu) (aU p8 hr 0x4 0x3 0xd) aA (bN _)))))))))))))))))))))))))
end
def AtN(K:Frag)(n:Str)(st:bq):Prop:=∃(f:am)(fd:hX),nsIn K e9 n=ae (ae (.ref f))/\Fun K n n st f fd
def aU9{K:Frag}{n:Str}{st:bq}{f:am}{oc kV dc pm cd ct:ak}{od an:az am}{sl:ax (az ak)}(a:nsIn K e9 n=ae (ae (.ref f)))(l:K.lookup f=ae ⟨oc,od,.func (fnOf n n (uN st) (nP st) (aP st) .none kV dc pm an cd ct),sl⟩)(c:codeIn K cd n=ag)(k:keepIn K (.ref f)=ag):AtN K n st:=⟨f,_,a,aJy (st:=st) l c k⟩
def AtL(K:Frag):aa (Str×bq)->Prop
 |[]=>ij
 | (n,s)::r=>AtN K n s/\AtL K r
def ZL(K:Frag):aa Str->Prop
 |[]=>ij
 |n::r=>nsIn K e9 n=ae aj/\ZL K r
def aVs{K:Frag}{n:Str}{s:bq}{r:aa (Str×bq)}(a:AtN K n s)(b:AtL K r):AtL K ((n,s)::r):=⟨a,b⟩
def z_c{K:Frag}{n:Str}{r:aa Str}(a:nsIn K e9 n=ae aj)(b:ZL K r):ZL K (n::r):=⟨a,b⟩
def aRs{l:OpenLaw}{w:br}{K:Frag}{h:bm}{mg:Str->az ak}{fa:am}(X:K.In h)(G:h.Ns e9 mg)(hfa:mg "law"=ae (.ref fa))(A:AtL K [("_law_cell_at",nW),("_law_stock",rQ),("_law_shuffled",mO),("_law_rimmed",qH),("_law_closed",qJ),("_law_tied",qL),("_law_grown",jD),("_law_twisted",iR),("_law_rim",wZ),("_law_changed",iT),("_law_carried",kJ),("_law_fresh",rW),("arranged",tW),("renumbered",lB),("mates_of",xF),("ends_around",qM),("starts_of",qN),("walk_from",u_),("first_walk",rY),("neighbours",rZ),("hanging_together",jQ),("parts",XX),("way",aF0),("told",aF1),("_law_double",jU),("_law_led_over",g_),("_law_whole",sG),("_law_leads",sI),("alike",M7),("_law_both",vA),("_law_names_of",jW)])
 {f31:am}{oc31 kV31 dc31 pm31 cd31 ct31:ak}{od31 an31:az am}{sl31:ax (az ak)}(a31:nsIn K e9 "law"=ae (ae (.ref f31)))(l31:K.lookup f31=ae ⟨oc31,od31,.func (fnOf "law" "law" (uN M8) (nP M8) (aP M8) .none kV31 dc31 pm31 an31 cd31 ct31),sl31⟩)(c31:codeIn K cd31 "law"=ag)(k31:keepIn K (.ref f31)=ag)(C:ZL K ["len","min","max","list","tuple","sorted","range","isinstance","int","bool","str","dict","all","enumerate","sum","zip","abs","reversed"]) :
  ∃fd:hX,(∀(s:au)(v:ak),mf s fd ⟨[v],[]⟩ [("script",v)])/\∀base:bm,K.In base->base.Ns e9 mg->aCp l.prog w K mg base CX0 6 fa fd ["script"] (@spD ⟨K⟩ aC9 1):=by
 have e:=hfa.symm.trans (mg_of X G a31);cases e
 letI:KFrag:=⟨K⟩
 have Y:=λ{n:Str}{v:ak}=>mg_of (n:=n) (v:=v) X G
 have Z:=λ{n:Str}=>mg_none_of (n:=n) X G
 obtain⟨⟨_,_,a0,F0⟩,⟨_,_,a1,F1⟩,⟨_,_,a2,F2⟩,⟨_,_,a3,F3⟩,⟨_,_,a4,F4⟩,⟨_,_,a5,F5⟩,⟨_,_,a6,F6⟩,⟨_,_,a7,F7⟩,⟨_,_,a8,F8⟩,⟨_,_,a9,F9⟩,⟨_,_,a10,F10⟩,⟨_,_,a11,F11⟩,⟨_,_,a12,F12⟩,⟨_,_,a13,F13⟩,⟨_,_,a14,F14⟩,⟨_,_,a15,F15⟩,⟨_,_,a16,F16⟩,⟨_,_,a17,F17⟩,⟨_,_,a18,F18⟩,⟨_,_,a19,F19⟩,⟨_,_,a20,F20⟩,⟨_,_,a21,F21⟩,⟨_,_,a22,F22⟩,⟨_,_,a23,F23⟩,⟨_,_,a24,F24⟩,⟨_,_,a25,F25⟩,⟨_,_,a26,F26⟩,⟨_,_,a27,F27⟩,⟨_,_,a28,F28⟩,⟨_,_,a29,F29⟩,⟨_,_,a30,F30⟩,_⟩:=A;obtain⟨qj,qk,qm,qo,qr,qt,qu,qv,qw,qy,qz,qA,qB,qC,qD,qE,qF,qG,_⟩:=C;have B:Bt mg:=⟨Z qj,Z qk,Z qm,Z qo,Z qr,Z qt,Z qu,Z qv,Z qw,Z qy,Z qz,Z qA,Z qB,Z qC,Z qD,Z qE,Z qF,Z qG⟩
 refine⟨fnOf "law" "law" (uN M8) (nP M8) (aP M8) .none kV31 dc31 pm31 an31 cd31 ct31,λs v=>.of_eq rfl,λbase _ _=>?_⟩;have pH:=aNb (P:=l.prog) (w:=w) (base:=base) rfl B (DY rfl B (S_ rfl B F14 (Y a14)) F15 (Y a15)) (aF2 rfl B (HY rfl B F19 (Y a19)) (uE rfl B F20 (Y a20)) F21 (Y a21)) (HX rfl B (OJ rfl B F17 (Y a17)) (OD rfl B F16 (Y a16)) F18 (Y a18)) F22 (Y a22);have pI:=IK (P:=l.prog) (w:=w) (base:=base) rfl B (H_ rfl B F26 (Y a26)) (qX rfl B F10 (Y a10)) F27 (Y a27);have pJ:=aF3 (P:=l.prog) (w:=w) (base:=base) rfl B pH (uK rfl B (yE rfl B F12 (Y a12)) F13 (Y a13)) F28 (Y a28);exact aRr rfl B (yM rfl B F0 (Y a0)) (HR rfl B F1 (Y a1)) (HS rfl B (N_ rfl B F5 (Y a5)) (DX rfl B (j9 rfl B F2 (Y a2)) (DW rfl B (j9 rfl B F2 (Y a2)) F3 (Y a3)) F4 (Y a4)) F6 (Y a6)) (yO rfl B (yN rfl B F7 (Y a7)) (lD rfl B F8 (Y a8)) F9 (Y a9)) (xH rfl B (sJ rfl B (lD rfl B F8 (Y a8)) F24 (Y a24)) (lD rfl B F8 (Y a8)) F25 (Y a25)) (sJ rfl B (lD rfl B F8 (Y a8)) F24 (Y a24)) (HW rfl B (j9 rfl B F2 (Y a2)) (qX rfl B F10 (Y a10)) F11 (Y a11)) (aIu rfl B pH (uK rfl B (yE rfl B F12 (Y a12)) F13 (Y a13)) F23 (Y a23)) (xJ rfl B F30 (Y a30)) (lD rfl B F8 (Y a8)) (O1 rfl B pJ pI F29 (Y a29)) pJ pI (aJy (st:=M8) l31 c31 k31)
def walk{l:OpenLaw}{q:cb}{loose:aa Str}{XP:(Str->az ak)->bm->Prop}{YP:br->bm->Prop}{d:DefRec}{K:Params->Frag}(main:∀ns:aa af,ns.length<=63->aC9 [.scr (ns.map δ)]=.ok (.bl ag))(hn:l.most=ae 63)(hdf:d.params.defaults=[])
 (hY:∀(w:br) (h:bm),YP w h->(K w.params).In h)
 (F:∀(w:br) (mg:Str->az ak) (fa:am) (h:bm),(K w.params).In h->h.Ns e9 mg->mg d.name=ae (.ref fa)->
   ∃fd:hX,(∀(s:au) (u:ak),mf s fd ⟨[u],[]⟩ [("script",u)])/\∀base:bm,(K w.params).In base->base.Ns e9 mg->aCp l.prog w (K w.params) mg base CX0 6 fa fd ["script"] (@spD ⟨K w.params⟩ aC9 1)) :
  WalkO q loose XP YP l.row.toRowW d [] (λf vs=>wm f vs):=
 L2.aLo (x:= "script") (CX:=λ_=>CX0) (sp:=λw=>@spD ⟨K w.params⟩ aC9 1) hn 0x4 hdf ⟨rfl,by decide,by decide⟩ hY F (λw H a ns hl hO hS=>aEi main hl hO hS) λ_ _ _ _ _ z=>z
end Lk15
end
namespace Lk15
open PySem L2 Mi
noncomputable abbrev Pt:=af×af
local macro_rules|`(0xf)=>`(aC rfl (aC rfl rfl))|`(0x10)=>`(aJ rfl rfl rfl)|`(0x11)=>`(aC rfl rfl)
noncomputable def enP(p:Pt):D:=.tup [.int p.1,.int p.2]
abbrev Tie:=Pt×Pt
def bK(t:Tie):D:=.tup [enP t.1,enP t.2]
def sO(p q:Pt):eqD (enP p) (enP q)=ϒ (p=q):=by
 obtain⟨a,b⟩:=p;obtain⟨c,d⟩:=q;by_cases h1:a=c<;>by_cases h2:b=d<;>simp[enP,eqD,qY,h1,h2]
def ltP(p q:Pt):Prop:=p.1<q.1\/p.1=q.1/\p.2<q.2
noncomputable instance (p q:Pt):lq (ltP p q):=by unfold ltP;infer_instance
def sS(p q:Pt):jY .lt (enP p) (enP q)=ae (ϒ (ltP p q)):=by
 obtain⟨a,b⟩:=p;obtain⟨c,d⟩:=q;by_cases h1:a=c<;>by_cases h2:b=d<;>simp[enP,jY,dY,eqD,h1,h2,jG.int,jG.nat,ltP]
theorem TF(p q:Pt):jY .gt (enP p) (enP q)=ae (ϒ (ltP q p)):=by
 obtain⟨a,b⟩:=p;obtain⟨c,d⟩:=q;by_cases h1:a=c
 .by_cases h2:b=d<;>simp[enP,jY,dY,eqD,h1,h2,jG.int,jG.nat,ltP]
 .simp[enP,jY,dY,eqD,h1,jG.int];simp only[ltP];lia
theorem YB(p q:Pt):bY .ne (enP p) (enP q)=.ok (.bl (!ϒ (p=q))):=by
 rw[<-sO];rfl
noncomputable def ends(T:aa Tie):aa Pt:=T.flatMap λt=>[t.1,t.2]
noncomputable abbrev Pc:=af×Str
noncomputable def pcD(c:Pc):D:=.tup [.int c.1,.str c.2]
theorem qO[BEq α][LawfulBEq α]:∀(l1 l2:aa α),l1.Nodup->(∀x∈l1,x∈l2)->l1.length<=l2.length
 |[],_,_,_=>eI _
 |x::l,l2,hn,h=>by
  rw[df] at hn;have hx:=h x (bu ..);have:=qO l (l2.erase x) hn.2 λy hy=>by
   refine(C0 ?_).mpr (h y (bo _ hy));rintro rfl;exact hn.1 hy
  rw[List.length_erase_of_mem hx] at this;have:0<l2.length:=List.length_pos_of_mem hx;simp only[b9];lia
def bG(Q:aa Pc)(T:aa Tie)(r:af):D:=.tup [.tup (Q.map pcD),.tup (T.map bK),.int r]
def wC(Q:aa Pc):(D.tup (Q.map pcD)).pure=ag:=by
 show θ (Q.map pcD)=ag;induction Q with
 |nil=>rfl
 |cons q Q ih=>rw[ba,θ,ih];rfl
def wD(T:aa Tie):(D.tup (T.map bK)).pure=ag:=by
 show θ (T.map bK)=ag;induction T with
 |nil=>rfl
 |cons q Q ih=>rw[ba,θ,ih];rfl
def mV(l:aa Pt):θ (l.map enP)=ag:=by
 induction l with
 |nil=>rfl
 |cons q Q ih=>rw[ba,θ,ih];rfl
noncomputable def abc:Str:= "abcdefghijklmnopqrstuvwxyz"
noncomputable def ltr(i:af):Str:=⟨#[abc.cps.toList.getD i.toNat 0]⟩
theorem letter(i:af)(h0:0<=i)(h1:i<26):getD (.str abc) (.int i)=.ok (.str (ltr i)):=by
 have hl:ϒ (abc.length<=lim)=ag:=by decide +kernel
 have h26:abc.cps.toList.length=26:=by decide +kernel
 have hix:ixD abc.cps.toList.length i=ae i.toNat:=by
  unfold ixD;rw[ao h0,h26,ao 0x1]
 have hlt:i.toNat<abc.cps.toList.length:=by rw[h26];lia
 show(if ϒ (abc.length<=lim) then ι (((ixD abc.cps.toList.length i).bind λj=>abc.cps.toList[j]?).map λc=>μ ⟨#[c]⟩) else .bad)=_;rw[hl,ao rfl,hix];simp only[B7];unfold ltr;rw[dz,eg hlt];rfl
noncomputable def stS(c0 at_:af)(j:af):af:=if (j==at_)=ag then 1 else c0 / 64 % 2*(j+2)
def chS(lt:af->Str)(c0 at_ k:af)(j:af):Str:=lt ((c0 / 128 / (j*j+1)+k*stS c0 at_ j) % 26)
def nmS(lt:af->Str)(c0 at_ k:af):aa ah->Str->Str
 |[],nm=>nm
 |j::js,nm=>nmS lt c0 at_ k js (nm++chS lt c0 at_ k (0+(j:af)))
theorem JR(hlt:∀i,(lt i).length=1)(hab:∀i:af,0<=i->i<26->getD (.str ab) (.int i)=.ok (.str (lt i)))(hk0:0<=k)(hk1:k<=10):∀(js:aa ah)(nm:Str)(x y:D),(∀j∈js,j<10)->nm.length+js.length<=1000->∃x' y',
  vR (tg1 8) aIr (js.map λ(j:ah)=>δ (0+(j:af))) [.int c0,.int c1,.str ab,.int sz,.int at_,dk,.int k,.str nm,x,y]=.ok (.nx [.int c0,.int c1,.str ab,.int sz,.int at_,dk,.int k,.str (nmS lt c0 at_ k js nm),x',y'])
 |[],nm,x,y,_,_=>⟨x,y,rfl⟩
 |j::js,nm,x,y,hj,hl=>by
  have hj':=hj j (bu ..);rw[b9] at hl;rw[nmS];generalize hjj:(0+(j:af))=jj;have b0:0<=jj:=by lia
  have b1:jj<10:=by lia
  have hsq:jj*jj<100:=by
   have:jj*jj<=9*9:=C1 0x1 0x1 b0 0x1;lia
  have hsq0:0<=jj*jj:=C3 b0 b0;have f1:=jA c0 64 0x4 0x4;have f2:=gG (c0 / 64) 2 0x4;have f3:=fX jj 2;have f4:=aEj (c0 / 64 % 2) (jj+2) (p_ _ 0x1 0x1);have f5:bY .eq (.int jj) (.int at_)=.ok (.bl (jj==at_)):=rfl;have f6:=jA c0 128 0x4 0x4;have f7:=aEj jj jj (p_ _ 0x1 0x1);have f8:=fX (jj*jj) 1;have f9:=jA (c0 / 128) (jj*jj+1) 0x1 0x1;have pi:∀i:af,(δ i).pure=ag:=λ_=>rfl
  have ps:∀i:Str,(μ i).pure=ag:=λ_=>rfl
  have hch:(chS lt c0 at_ k jj).length=1:=by unfold chS;exact hlt _
  obtain⟨x',y',h2⟩:=JR hlt hab hk0 hk1 js (nm++chS lt c0 at_ k jj) (.int jj) (.int (stS c0 at_ jj)) (λj hj2=>hj j (bo _ hj2)) (by rw[str_len,hch];lia);refine⟨x',y',?_⟩;rw[ba,vR,hjj];have s7: 0x16 [.int c0,.int c1,.str ab,.int sz,.int at_,dk,.int k,.str nm,.int jj,.int (stS c0 at_ jj)]=.ok (.nx [.int c0,.int c1,.str ab,.int sz,.int at_,dk,.int k,.str (nm++chS lt c0 at_ k jj),.int jj,.int (stS c0 at_ jj)]):=by
   have g1:=MF k (stS c0 at_ jj) (p_ _ 0x1 0x1);have g2:=fX (c0 / 128 / (jj*jj+1)) (k*stS c0 at_ jj);have g3:=gG (c0 / 128 / (jj*jj+1)+k*stS c0 at_ jj) 26 0x4;have g4:=hab ((c0 / 128 / (jj*jj+1)+k*stS c0 at_ jj) % 26) 0x1 0x1;have g6:=aMf nm (chS lt c0 at_ k jj) (by rw[hch,bD];lia);exact bA (aJ rfl (aJ rfl (aJ (aJ (aJ (aJ rfl rfl f6) (aJ (aJ rfl rfl f7) rfl f8) f9) (aJ rfl rfl g1) g2) rfl g3) g4) g6)
  have step:aIr [.int c0,.int c1,.str ab,.int sz,.int at_,dk,.int k,.str nm,.int jj,y]=0x16 [.int c0,.int c1,.str ab,.int sz,.int at_,dk,.int k,.str nm,.int jj,.int (stS c0 at_ jj)]:=by
   unfold stS;cases he:(jj==at_) with
   |true=>
    rw[ao rfl];exact aL (bA (aJ (aJ (aJ rfl rfl f1) rfl f2) (aJ rfl rfl f3) f4)) (aL (aI8 (bU (aJ rfl rfl (f5.trans (by rw[he])))) rfl) rfl)
   |false=>
    rw[ap 0x2];exact aL (bA (aJ (aJ (aJ rfl rfl f1) rfl f2) (aJ rfl rfl f3) f4)) (aL (aI8 (bU (aJ rfl rfl (f5.trans (by rw[he])))) rfl) rfl)
  have tgx:tg1 8 (.int jj) [.int c0,.int c1,.str ab,.int sz,.int at_,dk,.int k,.str nm,x,y]=.ok [.int c0,.int c1,.str ab,.int sz,.int at_,dk,.int k,.str nm,.int jj,y]:=rfl;rw[tgx,ε,step,s7,ε];exact h2
theorem aF4:∀(js:aa ah)(nm:Str),(nmS lt c0 at_ k js nm).cps.toList=nm.cps.toList++js.flatMap λ(j:ah)=>(chS lt c0 at_ k (0+(j:af))).cps.toList
 |[],nm=>by rw[nmS,C4,d4]
 |j::js,nm=>by
  rw[nmS,aF4 js,hI,<-c6]
  congr 1
  show(nm.cps++(chS lt c0 at_ k (0+(j:af))).cps).toList=_;rw[gw]
theorem aKh(i:ah)(h:i<26):abc.cps.toList.getD i 0=97+i:=by
 have:∀i<26,abc.cps.toList.getD i 0=97+i:=by decide +kernel
 exact this i h
theorem aNc{c0 at_ k k':af}{n:ah}(h0:0<=at_)(h1:at_<n)(hk:0<=k/\k<5)(hk':0<=k'/\k'<5)(h:nmS ltr c0 at_ k (bn n) ""=nmS ltr c0 at_ k' (bn n) ""):k=k':=by
 have e:=cz (λs:Str=>s.cps.toList) h;simp only[aF4] at e;have f:∀(k:af)(l:aa ah),(l.flatMap λ(j:ah)=>(chS ltr c0 at_ k (0+(j:af))).cps.toList)=l.map λ(j:ah)=>abc.cps.toList.getD (((c0 / 128 / ((0+(j:af))*(0+(j:af))+1)+k*stS c0 at_ (0+(j:af))) % 26).toNat) 0:=by
  intro k l;induction l with
  |nil=>rfl
  |cons j l ih=>rw[hI,ih];rfl
 rw[f,f] at e;have e2:=cz (λl=>l[at_.toNat]?) (List.append_cancel_left e);simp only[iE,yk (show at_.toNat<n by lia),Au,D5] at e2;have ha:(0+((at_.toNat:ah):af))=at_:=by lia
 rw[ha] at e2;have hs:stS c0 at_ at_=1:=by unfold stS;rw[ao 0x2]
 rw[hs,vg,vg] at e2;generalize c0 / 128 / (at_*at_+1)=X at e2;rw[aKh _ 0x1,aKh _ 0x1] at e2;lia
def qP(kvs:aa (D×D)):Prop:=∀p∈kvs,∃(s:Str)(v:af),p=(.str s,.int v)/\0<=v/\v<=6
theorem aF5(h:qP kvs)(s:Str):o7 kvs (.str s)=ag:=by
 unfold o7;rw[show keyOk (.str s)=ag from rfl,oP,dy];intro p hp;obtain⟨s',v',rfl,_⟩:=h p hp;rfl
def range_all(n:ah):∀j∈bn n,j<n:=λj hj=>hV.mp hj
theorem aKi(h:a ρ=.ok xs)(hl:xs.length<=lim):QF a ρ=.ok (.lst xs):=by
 unfold QF;rw[h,ε,ao (by simpa using hl)];rfl
def vsS(c1:af)(k:ah):af:=[2+c1 % 4,2+c1 % 4,c1 / 4 % 5,c1 / 4 % 5,0].getD k 0
theorem aF6(c1:af)(k:ah)(hk:k<5):0<=vsS c1 k/\vsS c1 k<=6/\getD (.lst [.int (2+c1 % 4),.int (2+c1 % 4),.int (c1 / 4 % 5),.int (c1 / 4 % 5),.int 0]) (.int (0+(k:af)))=.ok (.int (vsS c1 k)):=by
 match k,hk with
 |0,_=>exact⟨by show 0<=2+c1 % 4;lia,by show 2+c1 % 4<=6;lia,rfl⟩
 |1,_=>exact⟨by show 0<=2+c1 % 4;lia,by show 2+c1 % 4<=6;lia,rfl⟩
 |2,_=>exact⟨by show 0<=c1 / 4 % 5;lia,by show c1 / 4 % 5<=6;lia,rfl⟩
 |3,_=>exact⟨by show 0<=c1 / 4 % 5;lia,by show c1 / 4 % 5<=6;lia,rfl⟩
 |4,_=>exact⟨by show(0:af)<=0;lia,by show(0:af)<=6;lia,rfl⟩
def nmK(c0:af)(k:ah):Str:=nmS ltr c0 0x2f (0+(k:af)) (bn (1+c0 % 8).toNat) ""
def skS(c0 c1:af)(ks:aa ah):aa (D×D):=ks.map λk=>(.str (nmK c0 k),.int (vsS c1 k))
theorem aF7(h:k<5)(h':k'<5)(e:nmK c0 k=nmK c0 k'):k=k':=by
 have:=aNc (jb _ 0x1) (by have:=kF (c0 / 8) (show 0<1+c0 % 8 by lia);lia) 0x1 0x1 e;lia
theorem aKj:∀{ks:aa ah},(∀j∈ks,j<k)->k<5->putD (skS c0 c1 ks) (.str (nmK c0 k)) (.int (vsS c1 k))=skS c0 c1 (ks++[k])
 |[],_,_=>rfl
 |j::ks,h,hk=>by
  have hj:=h j (bu ..);show(if eqD (.str (nmK c0 j)) (.str (nmK c0 k)) then _ else (μ (nmK c0 j),δ (vsS c1 j))::putD (skS c0 c1 ks) (.str (nmK c0 k)) (.int (vsS c1 k)))=_;rw[ap,aKj (λi hi=>h i (bo _ hi)) hk]
  .rfl
  .intro z;have:=aF7 0x1 hk (ir.mp (show(nmK c0 j==nmK c0 k)=ag from z));lia
def aRt(h:∀k∈ks,k<5):qP (skS c0 c1 ks):=λp hp=>by
 obtain⟨k,hk,rfl⟩:=aE.mp hp;obtain⟨a,b,_⟩:=aF6 c1 k (h k hk);exact⟨_,_,rfl,a,b⟩
def aNd(i:af):(ltr i).length=1:=rfl
theorem JS:∀(n m:ah)(x6 x7 x8 x9:D),m+n=5->
  ∃y6 y7 y8 y9,vR (tg1 6) aRf ((oS m n).map λ(j:ah)=>δ (0+(j:af))) [.int c0,.int c1,.str abc,.int (1+c0 % 8),.int 0x2f,.dct (skS c0 c1 (bn m)),x6,x7,x8,x9]=.ok (.nx [.int c0,.int c1,.str abc,.int (1+c0 % 8),.int 0x2f,.dct (skS c0 c1 (bn 5)),y6,y7,y8,y9])
 |0,m,x6,x7,x8,x9,hm=>⟨x6,x7,x8,x9,by rw[show m=5 by lia];rfl⟩
 |n+1,k,x6,x7,x8,x9,hm=>by
  obtain⟨v0,v6,hv⟩:=aF6 c1 k 0x1;have hmem:∀j∈bn k,j<k:=λj hj=>hV.mp hj
  have hfit:=aF5 (aRt (c0:=c0) (c1:=c1) (ks:=bn k) λj hj=>by have:=hmem j hj;lia) (nmK c0 k);have hput:=aKj (c0:=c0) (c1:=c1) hmem 0x1;rw[<-C5] at hput;have hlen:(skS c0 c1 (bn k)).length<=5:=by unfold skS;rw[aS,ju];lia
  obtain⟨u8,u9,hin⟩:=JR (c0:=c0) (c1:=c1) (sz:=1+c0 % 8) (at_:=c0 / 8 % (1+c0 % 8)) (k:=0+(k:af)) (dk:=.dct (skS c0 c1 (bn k))) aNd letter 0x1 0x1 (bn (1+c0 % 8).toNat) "" x8 x9 (λj hj=>by have:=range_all _ j hj;lia) (by
   rw[ju];have:("" : Str).length=0:=rfl;lia)
  have hin:vR (tg1 8) aIr ((bn (1+c0 % 8).toNat).map λ(j:ah)=>δ (0+(j:af))) [.int c0,.int c1,.str abc,.int (1+c0 % 8),.int 0x2f,.dct (skS c0 c1 (bn k)),.int (0+(k:af)),.str "",x8,x9]=.ok (.nx [.int c0,.int c1,.str abc,.int (1+c0 % 8),.int 0x2f,.dct (skS c0 c1 (bn k)),.int (0+(k:af)),.str (nmK c0 k),u8,u9]):=hin;obtain⟨z6,z7,z8,z9,j4⟩:=JS (c0:=c0) (c1:=c1) n (k+1) (.int (0+(k:af))) (.str (nmK c0 k)) u8 u9 0x1;refine⟨z6,z7,z8,z9,?_⟩;rw[uq,ba];generalize nmK c0 k=nm at hfit hput hin j4;generalize hkk:(0+(k:af))=kk at hv hin j4;generalize skS c0 c1 (bn k)=kvs at hfit hput hin hlen;have m5:=gG c1 4 0x4;have a2:=fX 2 (c1 % 4);have d5:=jA c1 4 0x4 0x4;have m7:=gG (c1 / 4) 5 0x4;refine mL (ρ1:=[.int c0,.int c1,.str abc,.int (1+c0 % 8),.int 0x2f,.dct kvs,.int kk,x7,x8,x9]) rfl ?_ j4;rw[<-hput];generalize abc=ab at hin;refine aL (ρ':=[.int c0,.int c1,.str ab,.int (1+c0 % 8),.int 0x2f,.dct kvs,.int kk,.str "",x8,x9]) (bA rfl) ?_;refine aL (ρ':=[.int c0,.int c1,.str ab,.int (1+c0 % 8),.int 0x2f,.dct kvs,.int kk,.str nm,u8,u9]) (mK (uI (n:=1+c0 % 8) 0x11 0x1 0x1) hin) ?_;have h1:(b2 (bQ .add) rB (b2 (bQ .mod) gD aBk)) [.int c0,.int c1,.str ab,.int (1+c0 % 8),.int 0x2f,.dct kvs,.int kk,.str nm,u8,u9]=.ok (.int (2+c1 % 4)):=aJ rfl (aJ rfl rfl m5) a2;have h2:(b2 (bQ .mod) (b2 (bQ .fdiv) gD aBk) aH8) [.int c0,.int c1,.str ab,.int (1+c0 % 8),.int 0x2f,.dct kvs,.int kk,.str nm,u8,u9]=.ok (.int (c1 / 4 % 5)):=aJ (aJ rfl rfl d5) rfl m7;exact rN (kvs:=kvs) (aJ (aKi (aC h1 (aC h1 (aC h2 (aC h2 0x11)))) (by rw[bD];simp)) rfl hv) rfl rfl (by rw[bD];lia) hfit rfl
theorem aIv(c0 c1:af):k_ [.int c0,.int c1]=.ok (.dct (skS c0 c1 (bn 5))):=by
 have m8:=gG c0 8 0x4;have a1:=fX 1 (c0 % 8);have f8:=jA c0 8 0x4 0x4;have ms:=gG (c0 / 8) (1+c0 % 8) 0x1;obtain⟨y6,y7,y8,y9,j4⟩:=JS 5 0 .uD .uD .uD .uD rfl;generalize skS c0 c1 (bn 5)=kvs' at *;have e:rR [.int c0,.int c1,.uD,.uD,.uD,.uD,.uD,.uD,.uD,.uD]=.ok (.rt (.dct kvs')):=by
  refine aL (bA rfl) ?_;refine aL (bA (aJ rfl (aJ rfl rfl m8) a1)) ?_;refine aL (bA (aJ (aJ rfl rfl f8) rfl ms)) ?_;refine aL (dG rfl rfl) ?_;refine aL (mK (uI 0x11 0x1 0x1) j4) ?_;rfl
 show(do let r <- rR _;aDp r)=_;rw[show([δ c0,δ c1]++dg (10-2) D.uD)=[.int c0,.int c1,.uD,.uD,.uD,.uD,.uD,.uD,.uD,.uD] from rfl,e];rfl
theorem aF8(L:aa Pt)(i:af)(h0:0<=i)(h1:i<L.length):∃p∈L,getD (.lst (L.map enP)) (.int i)=.ok (enP p):=by
 obtain⟨h,e⟩:=uX (L.map enP) i h0 (by simpa using h1);rw[aS] at h;refine⟨L[i.toNat],ig _,?_⟩;rw[e];simp
theorem IV(o:jG)(a b:Pt)(r:Pt->Pt->Prop)[∀x y,lq (r x y)](h:∀x y,jY o (enP x) (enP y)=ae (ϒ (r x y))):cZ o [enP a,enP b]=.ok (enP (if r b a then b else a)):=by
 show uP o [enP a,enP b]=_;have hall:([enP a,enP b].all λx=>x.fV aR&&[enP a,enP b].all λy=>(jY o x y).isSome)=ag:=by
  simp only[ik,C6,h,wj,i8];rfl
 rw[uP,ao hall];simp only[iS,C7,h,tq];by_cases hr:r b a
 .simp[hr]
 .simp[hr]
theorem aIw[fF α]{L:aa α}(hn:L.Nodup)(ha:a∈L):(L.filter λx=>!ϒ (x=a)).length+1=L.length:=by
 induction L with
 |nil=>cases ha
 |cons x L ih=>
  rw[df] at hn;rw[ri];by_cases h:x=a
  .subst h;have:(L.filter λy=>!ϒ (y=x))=L:=yl.mpr λy hy=>by
    have:y≠x:=λz=>hn.1 (z▸hy)
    simp[this]
   simp[this]
  .rw[ao (by simp[h])];rcases bi.mp ha with rfl|ha
   .exact aT rfl h
   .have:=ih hn.2 ha;simp only[b9];lia
theorem aNe(L:aa Pt)(more:af)(hn:L.Nodup)(h2:2<=L.length)(hl:L.length<=100000):∃a b,a∈L/\b∈L/\ltP a b/\jB [.lst (L.map enP),.int more]=.ok (bK (a,b)):=by
 have hpos:(0:af)<(L.length:af):=by lia
 have g0:=gG more L.length hpos;obtain⟨one,h1,e1⟩:=aF8 L (more % L.length) (jb _ 0x1) (kF _ hpos);have hf:=aIw hn h1
 let R:=L.filter λx=>!ϒ (x=one)
 have hR:R.length+1=L.length:=hf;have hRp:(0:af)<(R.length:af):=by lia
 have g1:=jA more L.length hpos 0x1;have g2:=gG (more / L.length) R.length hRp;obtain⟨other,h3,e3⟩:=aF8 R (more / L.length % R.length) (jb _ 0x1) (kF _ hRp);have h4:other∈L/\other≠one:=by
  have:=kP.mp h3;exact⟨this.1,by simpa using this.2⟩
 have lL:gV [.lst (L.map enP)]=.ok (.int L.length):=by rw[nF,aS]
 have lR:gV [.lst (R.map enP)]=.ok (.int R.length):=by rw[nF,aS]
 have mn:=IV .lt one other ltP sS;have mx:=IV .gt one other (λx y=>ltP y x) TF;have tri:ltP one other\/ltP other one:=by
  have:one≠other:=λz=>h4.2 z.symm
  simp only[ltP];by_cases hh:one.1=other.1
  .have:one.2≠other.2:=λz=>this (Prod.ext hh z)
   lia
  .lia
 have asym:ltP other one->¬ltP one other:=by
  simp only[ltP];lia
 have body:u5 [.lst (L.map enP),.int more,.uD,.uD,.uD]=.ok (.rt (.tup [enP (if ltP other one then other else one),enP (if ltP one other then other else one)])):=by
  refine aL (rM (aJ rfl (aJ rfl (aK 0x11 lL) g0) e1) rfl) ?_;refine aL (ρ':=[.lst (L.map enP),.int more,enP one,.lst (R.map enP),.uD]) (bA (jM (gC rfl rfl) (by rw[aS,bD];lia) ?_)) ?_
  .rw[oH _ enP (λx=>!ϒ (x=one)) enP]
   .rfl
   .intro acc p;exact gF rfl (bU (aJ rfl rfl (YB p one))) λ_=>⟨rfl,rfl⟩
  refine aL (rM (aJ rfl (aJ (aJ rfl (aK 0x11 lL) g1) (aK 0x11 lR) g2) e3) rfl) ?_;exact d8 (cW (aC (aK 0xf mn) (aC (aK 0xf mx) rfl)) (by rw[bD];simp)) rfl
 have ev:jB [.lst (L.map enP),.int more]=.ok (.tup [enP (if ltP other one then other else one),enP (if ltP one other then other else one)]):=by
  show(do let r <- u5 _;aDp r)=_;rw[show([ξ (L.map enP),δ more]++dg (5-2) D.uD)=[.lst (L.map enP),.int more,.uD,.uD,.uD] from rfl,body];rfl
 rcases tri with h|h
 .have n:¬ltP other one:=λz=>asym z h
  rw[ap n,ao h] at ev;exact⟨one,other,h1,h4.1,h,ev⟩
 .rw[ao h,ap (asym h)] at ev;exact⟨other,one,h4.1,h1,h,ev⟩
theorem TJ(hp:∀x∈xs,x.pure=ag)(hl:xs.length<=10000):∀(n k:ah)(F:aa D)(x3:D),k+n=xs.length->F.Perm (xs.take k)->∃(F':aa D)(y3:D),F'.Perm xs/\
  vR (tg1 3) rb1 ((oS k n).map λ(j:ah)=>δ (0+(j:af))) [.lst xs,.int seed,.lst F,x3]=.ok (.nx [.lst xs,.int seed,.lst F',y3])
 |0,k,F,x3,h1,h2=>⟨F,x3,by rw[iO 0x1] at h2;exact h2,rfl⟩
 |n+1,k,F,x3,h1,h2=>by
  rw[uq,ba];generalize hkk:(0+(k:af))=kk;have hkl:k<xs.length:=by lia
  have hkk':kk=(k:af):=by lia
  have hsq:kk*kk<=10000*10000:=C1 0x1 0x1 0x1 0x1;have hsq0:0<=kk*kk:=C3 0x1 0x1;have g1:=fX kk 1;have g2:=jA seed (kk+1) 0x1 0x1;have g3:=aEj kk kk (p_ _ 0x1 0x1);have g4:=fX (seed / (kk+1)) (kk*kk);have g5:=gG (seed / (kk+1)+kk*kk) (kk+1) 0x1;generalize hj:(seed / (kk+1)+kk*kk) % (kk+1)=j at g5;have j0:0<=j:=by rw[<-hj];exact jb _ 0x1
  have j1:j<kk+1:=by rw[<-hj];exact kF _ 0x1
  have hF:F.length=k:=by rw[h2.length_eq,jh];lia
  have hg:getD (.lst xs) (.int kk)=.ok xs[k]:=by
   obtain⟨h,e⟩:=uX xs kk 0x1 0x1;rw[e]
   congr 2
   lia
  have hperm:(F.take j.toNat++xs[k]::F.drop j.toNat).Perm (xs.take (k+1)):=by
   refine C8.trans ?_;rw[lx,ng hkl];exact(C9 _ h2).trans (List.perm_append_singleton _ _).symm
  obtain⟨F',y3,i1,i2⟩:=TJ hp hl n (k+1) (F.take j.toNat++xs[k]::F.drop j.toNat) (.int kk) 0x1 hperm;refine⟨F',y3,i1,?_⟩;refine mL rfl (aQy (aJ (aJ (aJ rfl (aJ rfl rfl g1) g2) (aJ rfl rfl g3) g4) (aJ rfl rfl g1) g5) (aJ rfl rfl hg) rfl (by rw[bD];lia) (hp _ (ig _)) j0 0x1) ?_;rw[<-i2];rfl
theorem YC(seed:af)(hp:∀x∈xs,x.pure=ag)(hl:xs.length<=10000):∃ys:aa D,ys.Perm xs/\bV 2 dW [.lst xs,.int seed]=.ok (.lst ys):=by
 obtain⟨ys,y3,h1,h2⟩:=TJ hp hl xs.length 0 [] .uD 0x1 0x2;refine⟨ys,h1,(cJ rfl).trans ?_⟩;have e:mQ [.lst xs,.int seed,.uD,.uD]=.ok (.rt (.lst ys)):=by
  refine aL (dG rfl rfl) ?_;refine aL (ρ':=[.lst xs,.int seed,.lst ys,y3]) (mK (uI (aC (aK 0x11 (nF xs)) rfl) 0x1 0x1) ?_) ?_
  .rw[<-h2,show((xs.length:af)).toNat=xs.length by lia,ym]
   try rfl
  rfl
 show(do let r <- mQ _;aDp r)=_;rw[show([ξ xs,δ seed]++dg (4-2) D.uD)=[.lst xs,.int seed,.uD,.uD] from rfl,e];rfl
def zA(f:α->D)(g:D->α)(h:∀a,g (f a)=a)(p:ys.Perm (L.map f)):∃L':aa α,L'.Perm L/\ys=L'.map f:=by
 refine⟨ys.map g,?_,?_⟩
 .refine(p.map g).trans ?_;rw[bp];refine D6 ?_
  conv=>rhs;rw[<-gj L]
  exact c_ λa _=>h a
 .rw[bp]
  conv=>lhs;rw[<-gj ys]
  refine c_ λy hy=>?_
  obtain⟨a,_,rfl⟩:=aE.mp (p.mem_iff.mp hy);show f a=f (g (f a));rw[h]
noncomputable def unI:D->af
 |.int i=>i
 |_=>0
noncomputable def rim(s:af):Pt:=(0,s)
def sV(T:aa Tie)(t:Tie):ends (T++[t])=ends T++[t.1,t.2]:=by simp[ends]
theorem aRu{L:aa Pt}{S:aa af}(hL:∀p∈L,0<p.1):∀(n k:ah)(T:aa Tie)(x4:D),L.length=k+n->k+n<=S.length->T.length+n<=10000->∃(T':aa Tie)(y4:D),(ends T').Perm (ends T++(L.drop k++((S.drop k).take n).map rim))/\(∀t∈T',t∈T\/ltP t.1 t.2)/\T'.length=T.length+n/\
  vR (tg1 5) rb2 ((oS k n).map λ(j:ah)=>δ (0+(j:af))) [.lst (L.map enP),.int bare,.int seed,.lst (S.map δ),.lst (T.map bK),x4,a6]=.ok (.nx [.lst (L.map enP),.int bare,.int seed,.lst (S.map δ),.lst (T'.map bK),y4,a6])
 |0,k,T,x4,h1,_,_=>⟨T,x4,by rw[om 0x1];simp,λt ht=>.inl ht,rfl,rfl⟩
 |n+1,k,T,x4,h1,h2,h3=>by
  have hk1:k<L.length:=by lia
  have hk2:k<S.length:=by lia
  have e1:getD (.lst (S.map δ)) (.int (0+(k:af)))=.ok (.int S[k]):=by
   obtain⟨h,e⟩:=uX (S.map δ) (0+(k:af)) 0x1 (by rw[aS];lia);rw[e];simp
  have e2:getD (.lst (L.map enP)) (.int (0+(k:af)))=.ok (enP L[k]):=by
   obtain⟨h,e⟩:=uX (L.map enP) (0+(k:af)) 0x1 (by rw[aS];lia);rw[e];simp
  have hpos:=hL L[k] (ig _);obtain⟨T',y4,i1,i2,i3,i4⟩:=aRu (S:=S) hL n (k+1) (T++[(rim S[k],L[k])]) (.int (0+(k:af))) 0x1 0x1 (by simp;lia);refine⟨T',y4,?_,λt ht=>?_,by rw[i3];simp;lia,?_⟩
  .refine i1.trans ?_;rw[sV,c6];refine l7 _ ?_;rw[ie hk1,ie hk2,List.take_succ_cons,ba];show(rim S[k]::L[k]::(L.drop (k+1)++((S.drop (k+1)).take n).map rim)).Perm (L[k]::(L.drop (k+1)++rim S[k]::((S.drop (k+1)).take n).map rim));exact(List.Perm.swap ..).trans (C9 _ C8.symm)
  .rcases i2 t ht with h|h
   .rcases cj.mp h with h|h
    .exact .inl h
    .have:t=(rim S[k],L[k]):=by simpa using h
     subst this;exact .inr (.inl hpos)
   .exact .inr h
  .rw[uq,ba];refine mL rfl (lN (cW (aC (cW (aC rfl (aC (aJ rfl rfl e1) rfl)) (by rw[bD];simp)) (aC (aJ rfl rfl e2) rfl)) (by rw[bD];simp)) rfl (by rw[aS,bD];lia) rfl) ?_;rw[<-i4,bS];rfl
def aUa(h1:a ρ=.ok x)(h2:l ρ=.ok i)(h3:h ρ=.ok j)(h4:aBl x i j=.ok d):aCs a l h ρ=.ok d:=by
 unfold aCs;rw[h1,ε,h2,ε,h3,ε,h4]
theorem O2(h1:a ρ=.ok (.int i)):wW a ρ=.ok (ae i):=by
 unfold wW;rw[h1,ε];rfl
def aRv(o:jG)(a b:af)(r:af->af->Prop)[∀x y,lq (r x y)](h:∀x y,jY o (.int x) (.int y)=ae (ϒ (r x y))):cZ o [.lst [.int a,.int b]]=.ok (.int (if r b a then b else a)):=by
 show uP o [.int a,.int b]=_;have hall:([δ a,δ b].all λx=>x.fV aR&&[δ a,δ b].all λy=>(jY o x y).isSome)=ag:=by
  simp only[ik,C6,h,wj,i8];rfl
 rw[uP,ao hall];simp only[iS,C7,h,tq];by_cases hr:r b a
 .simp[hr]
 .simp[hr]
theorem aRw{L:aa Pt}{S:aa af}(hS:S.Nodup)(hb:S.length<=10000):∀(n k:ah)(T:aa Tie)(x4 x6:D),L.length+2*(k+n)=S.length->T.length+n<=10000->∃(T':aa Tie)(y4 y6:D),(ends T').Perm (ends T++(S.drop (L.length+2*k)).map rim)/\(∀t∈T',t∈T\/ltP t.1 t.2)/\T'.length=T.length+n/\
  vR (tg1 5) rb3 ((oS k n).map λ(j:ah)=>δ (0+(j:af))) [.lst (L.map enP),.int bare,.int seed,.lst (S.map δ),.lst (T.map bK),x4,x6]=.ok (.nx [.lst (L.map enP),.int bare,.int seed,.lst (S.map δ),.lst (T'.map bK),y4,y6])
 |0,k,T,x4,x6,h1,_=>⟨T,x4,x6,by rw[om 0x1];simp,λt ht=>.inl ht,rfl,rfl⟩
 |n+1,k,T,x4,x6,h1,h3=>by
  have hi:L.length+2*k<S.length:=by lia
  have hi2:L.length+2*k+1<S.length:=by lia
  have hd:S.drop (L.length+2*k)=S[L.length+2*k]::S[L.length+2*k+1]::S.drop (L.length+2*(k+1)):=by
   rw[ie hi,ie hi2];rfl
  generalize ha:S[L.length+2*k]=a at hd;generalize hb':S[L.length+2*k+1]=b at hd;have hab:a≠b:=by
   have:=(List.drop_sublist (L.length+2*k) S).nodup hS;rw[hd,df] at this;intro z;subst z;exact this.1 (bu ..)
  have lL:gV [.lst (L.map enP)]=.ok (.int L.length):=by rw[nF,aS]
  generalize hkk:(0+(k:af))=kk;have m2:=MF 2 kk (p_ _ 0x1 0x1);have a1:=fX L.length (2*kk);have a2:=fX (L.length+2*kk) 2;have sl:aBl (.lst (S.map δ)) (ae (L.length+2*kk)) (ae (L.length+2*kk+2))=.ok (.lst [.int a,.int b]):=by
   simp only[aBl,eF,eT]
   congr 2
   have e1:xW (S.map δ).length 0 (ae ((L.length:af)+2*kk))=L.length+2*k:=by
    simp only[xW,aS];rw[ap 0x1];lia
   have e2:xW (S.map δ).length (S.map δ).length (ae ((L.length:af)+2*kk+2))=L.length+2*k+2:=by
    simp only[xW,aS];rw[ap 0x1];lia
   unfold cutD;rw[e1,e2,<-xD,hd,show L.length+2*k+2-(L.length+2*k)=2 by lia];rfl
  have mn:=aRv .lt a b (λx y=>x<y) λx y=>rfl
  have mx:=aRv .gt a b (λx y=>y<x) λx y=>rfl
  have main:∃u v:af,(u=a/\v=b\/u=b/\v=a)/\u<v/\cZ .lt [.lst [.int a,.int b]]=.ok (.int u)/\cZ .gt [.lst [.int a,.int b]]=.ok (.int v):=by
   by_cases hlt:b<a
   .rw[ao hlt] at mn;rw[ap 0x1] at mx;exact⟨b,a,.inr ⟨rfl,rfl⟩,hlt,mn,mx⟩
   .rw[ap hlt] at mn;rw[ao 0x1] at mx;exact⟨a,b,.inl ⟨rfl,rfl⟩,by lia,mn,mx⟩
  obtain⟨u,v,huv,hlt,mn,mx⟩:=main;obtain⟨T',y4,y6,i1,i2,i3,i4⟩:=aRw (L:=L) hS hb n (k+1) (T++[(rim u,rim v)]) (.int kk) (.lst [.int a,.int b]) 0x1 (by simp;lia);refine⟨T',y4,y6,?_,λt ht=>?_,by rw[i3];simp;lia,?_⟩
  .refine i1.trans ?_;rw[sV,c6];refine l7 _ ?_;rw[hd];rcases huv with ⟨rfl,rfl⟩|⟨rfl,rfl⟩
   .exact D7 _
   .exact List.Perm.swap ..
  .rcases i2 t ht with h|h
   .rcases cj.mp h with h|h
    .exact .inl h
    .have:t=(rim u,rim v):=by simpa using h
     subst this;exact .inr (.inr ⟨rfl,hlt⟩)
   .exact .inr h
  .rw[uq,ba,hkk];refine mL (ρ1:=[.lst (L.map enP),.int bare,.int seed,.lst (S.map δ),.lst (T.map bK),.int kk,x6]) rfl (aL (ρ':=[.lst (L.map enP),.int bare,.int seed,.lst (S.map δ),.lst (T.map bK),.int kk,.lst [.int a,.int b]]) (bA (aUa rfl (O2 (aJ (aK 0x11 lL) (aJ rfl rfl m2) a1)) (O2 (aJ (aJ (aK 0x11 lL) (aJ rfl rfl m2) a1) rfl a2)) sl)) (lN (xs:=T.map bK) (cW (aC (cW (aC rfl (aC (aK 0x11 mn) rfl)) (by rw[bD];simp)) (aC (cW (aC rfl (aC (aK 0x11 mx) rfl)) (by rw[bD];simp)) rfl)) (by rw[bD];simp)) rfl (by rw[aS,bD];lia) rfl)) ?_;rw[<-i4,bS];rfl
theorem aF9(L:aa Pt)(bare:ah)(seed:af)(hL:∀p∈L,0<p.1)(hl:L.length+2*bare<=5000):∃(R:aa Tie)(S:aa af),S.Nodup/\S.Perm ((bn S.length).map λ(k:ah)=>(k:af))/\(ends R).Perm (L++S.map rim)/\(∀t∈R,ltP t.1 t.2)/\R.length=L.length+bare/\jN [.lst (L.map enP),.int bare,.int seed]=.ok (.lst (R.map bK)):=by
 have lL:gV [.lst (L.map enP)]=.ok (.int L.length):=by rw[nF,aS]
 have m2:=MF 2 (bare:af) (p_ _ 0x1 0x1);have a1:=fX L.length (2*(bare:af));have hr:aA6 [.int (L.length+2*(bare:af))]=.ok (.lst (((bn (L.length+2*bare)).map λ(k:ah)=>(k:af)).map δ)):=by
  show(if ϒ (-1000000<=(L.length:af)+2*(bare:af))&&ϒ ((L.length:af)+2*(bare:af)<=1000000) then τ (ξ ((bn ((L.length:af)+2*(bare:af)).toNat).map λ(k:ah)=>δ k)) else .bad)=_;rw[ao (by rw[bz 0x1,bz 0x1];rfl),show((L.length:af)+2*(bare:af)).toNat=L.length+2*bare by lia,bp];rfl
 obtain⟨ys,p0,s4⟩:=YC (xs:=((bn (L.length+2*bare)).map λ(k:ah)=>(k:af)).map δ) seed (λx hx=>by
  obtain⟨a,_,rfl⟩:=aE.mp hx;rfl) (by simp;lia)
 obtain⟨S,pS,rfl⟩:=zA δ unI (λ_=>rfl) p0;have s1:S.length=L.length+2*bare:=by rw[pS.length_eq];simp
 have s2:∀s∈S,0<=s/\s<S.length:=λs hs=>by
  obtain⟨k,hk,rfl⟩:=aE.mp (pS.mem_iff.mp hs);have:=hV.mp hk;lia
 have s3:S.Nodup:=pS.nodup_iff.mpr (yn _ (λa b hab z=>hab 0x1) nr);obtain⟨T1,z4,t1,t2,t3,t4⟩:=aRu (bare:=bare) (seed:=seed) (a6:=.uD) (L:=L) (S:=S) hL L.length 0 [] .uD 0x1 0x1 (by simp;lia);obtain⟨T2,w4,w6,u1,u2,u3,u4⟩:=aRw (bare:=bare) (seed:=seed) (L:=L) (S:=S) s3 0x1 bare 0 T1 z4 .uD 0x1 (by rw[t3];simp;lia);refine⟨T2,S,s3,by rw[s1];exact pS,?_,λt ht=>?_,by rw[u3,t3];simp,?_⟩
 .refine u1.trans ?_;have t1':(ends T1).Perm (L++(S.take L.length).map rim):=by simpa[ends] using t1
  refine(t1'.append_right _).trans ?_;rw[c6,<-bS];simp only[Nat.mul_zero,B0];rw[lx]
 .rcases u2 t ht with h|h
  .rcases t2 t h with h|h
   .cases h
   .exact h
  .exact h
 .have e:qI [.lst (L.map enP),.int bare,.int seed,.uD,.uD,.uD,.uD]=.ok (.rt (.lst (T2.map bK))):=by
   refine aL (ρ':=[.lst (L.map enP),.int bare,.int seed,.lst (S.map δ),.uD,.uD,.uD]) (bA (i:=3) (aK (xs:=[.lst (((bn (L.length+2*bare)).map λ(k:ah)=>(k:af)).map δ),.int seed]) (aC (aK (xs:=[.int (L.length+2*(bare:af))]) (aC (aJ (aK 0x11 lL) (aJ rfl rfl m2) a1) rfl) hr) 0x11) s4)) ?_;refine aL (ρ':=[.lst (L.map enP),.int bare,.int seed,.lst (S.map δ),.lst [],.uD,.uD]) (dG rfl rfl) ?_;refine aL (ρ':=[.lst (L.map enP),.int bare,.int seed,.lst (S.map δ),.lst (T1.map bK),z4,.uD]) (mK (uI (n:=L.length) (aC (aK 0x11 lL) rfl) 0x1 0x1) ?_) ?_
   .rw[<-t4,show((L.length:af)).toNat=L.length by lia,ym];rfl
   refine aL (ρ':=[.lst (L.map enP),.int bare,.int seed,.lst (S.map δ),.lst (T2.map bK),w4,w6]) (mK (uI (n:=bare) 0x11 0x1 0x1) ?_) ?_
   .rw[<-u4,show((bare:af)).toNat=bare by lia,ym]
    try rfl
   rfl
  show(do let r <- qI _;aDp r)=_;rw[show([ξ (L.map enP),δ bare,δ seed]++dg (7-3) D.uD)=[.lst (L.map enP),.int bare,.int seed,.uD,.uD,.uD,.uD] from rfl,e];rfl
def vOf(kvs:aa (D×D))(s:Str):ah:=match bL kvs (.str s) with
 |some (.int v)=>v.toNat
 |_=>0
theorem aAd{v:ah}(h:bL kvs (.str s)=ae (.int v)):vOf kvs s=v:=by
 unfold vOf;rw[h];rfl
def aRx(kvs:aa (D×D))(pc:Pc):aa Pt:=(bn (vOf kvs pc.2+1)).map λ(h:ah)=>((pc.1,(h:af)):Pt)
def hks(kvs:aa (D×D))(Q:aa Pc):aa Pt:=Q.flatMap (aRx kvs)
structure Gr(kvs:aa (D×D))(Q:aa Pc)(L:aa Pt)(T:aa Tie)(num:af):Prop where
 nd:(ends T++L).Nodup
 qn:(Q.map (·.1)).Nodup
 qb:∀pc∈Q,0<pc.1/\pc.1<=num
 n0:0<=num
 chf:∀pc∈Q,(pc.1,(0:af))∈ends T++L
 num:∀e∈ends T++L,e.1∈Q.map (·.1)
 lt:∀t∈T,ltP t.1 t.2
 ll:L.length<=7*Q.length
 ql:Q.length<=8
 qs:Q.Pairwise λa b=>a.1<b.1
 pm:(ends T++L).Perm (hks kvs Q)
 sk:∀pc∈Q,∃v:ah,v<=6/\bL kvs (.str pc.2)=ae (.int v)
theorem Gr.perm{num:af}(g:Gr kvs Q L T num)(p:(ends T'++L').Perm (ends T++L))(hlt:∀t∈T',ltP t.1 t.2)(hl:L'.length<=L.length):Gr kvs Q L' T' num:=
 ⟨p.nodup_iff.mpr g.nd,g.qn,g.qb,g.n0,λpc h=>p.mem_iff.mpr (g.chf pc h),λe h=>g.num e (p.mem_iff.mp h),hlt,dj hl g.ll,g.ql,g.qs,p.trans g.pm,g.sk⟩
theorem Gr.ln{num:af}(g:Gr kvs Q L T num):L.Nodup:=(fm.mp g.nd).2.1
theorem Gr.tie{num:af}(g:Gr kvs Q L T num){a b:Pt}(ha:a∈L)(hb:b∈L)(h:ltP a b):Gr kvs Q (L.filter λx=>!(ϒ (a=x)||ϒ (b=x))) (T++[(a,b)]) num:=by
 have hab:a≠b:=λz=>by subst z;simp only[ltP] at h;lia
 have split:∀{L:aa Pt},L.Nodup->a∈L->b∈L->(a::b::L.filter λx=>!(ϒ (a=x)||ϒ (b=x))).Perm L:=by
  intro L hn ha hb;refine(List.perm_iff_count).mpr λx=>?_
  rw[Da,Da];have hc:∀{M:aa Pt}(y:Pt),M.Nodup->List.count y M=if y∈M then 1 else 0:=λ{M} y hm=>D8 hm
  rw[hc x hn,hc x (Dc.nodup hn)];simp only[kP,jm,Bool.or_eq_false_iff,ly,ir];by_cases h1:a=x
  .subst h1;have:¬b=a:=λz=>hab z.symm
   simp[ha,this]
  .by_cases h2:b=x
   .subst h2;simp[hb,h1]
   .simp[h1,h2]
 refine g.perm ?_ (λt ht=>?_) (rn ..)
 .rw[sV,c6];exact l7 _ (split g.ln ha hb)
 .rcases cj.mp ht with ht|ht
  .exact g.lt t ht
  .have:t=(a,b):=by simpa using ht
   subst this;exact h
theorem Gr.piece{num:af}(g:Gr kvs Q L T num){n:af}{s:Str}{v:ah}(hn:num<n)(hv:v<=6)(hlk:bL kvs (.str s)=ae (.int v))(hq:Q.length<8):Gr kvs (Q++[(n,s)]) (L++(bn (v+1)).map λ(h:ah)=>((n,(h:af)):Pt)) T n:=by
 have old:∀e∈ends T++L,e.1<=num:=λe he=>by
  obtain⟨pc,h1,h2⟩:=aE.mp (g.num e he);have:=g.qb pc h1;lia
 have newm:∀e∈(bn (v+1)).map (λ(h:ah)=>((n,(h:af)):Pt)),e.1=n:=λe he=>by
  obtain⟨h,_,rfl⟩:=aE.mp he;rfl
 refine⟨?_,?_,λpc h=>?_,by have:=g.n0;lia,λpc h=>?_,λe he=>?_,g.lt,?_,by simp;lia,nt.mpr ⟨g.qs,by simp,λa ha b hb=>by have:=g.qb a ha;rw[show b=(n,s) from by simpa using hb];show a.1<n;lia⟩,?_,λpc h=>?_⟩
 .rw[<-c6];refine fm.mpr ⟨g.nd,?_,λa ha b hb z=>?_⟩
  .refine yn _ ?_ nr;intro a b hab z;have:(a:af)=b:=cz nu z;lia
  .subst z;have:=old a ha;rw[newm a hb] at this;lia
 .rw[bS];refine fm.mpr ⟨g.qn,by simp,λa ha b hb z=>?_⟩;subst z;obtain⟨pc,h1,h2⟩:=aE.mp ha;have:=g.qb pc h1;have:a=n:=by simpa using hb
  lia
 .rcases cj.mp h with h|h
  .have:=g.qb pc h;lia
  .have:pc=(n,s):=by simpa using h
   subst this;have:=g.n0;show 0<n/\n<=n;lia
 .rw[<-c6];rcases cj.mp h with h|h
  .exact dP _ (g.chf pc h)
  .have:pc=(n,s):=by simpa using h
   subst this;exact dS _ (aE.mpr ⟨0,by simp,rfl⟩)
 .rw[<-c6] at he;rw[bS];rcases cj.mp he with he|he
  .exact dP _ (g.num e he)
  .rw[newm e he];exact dS _ 0x2
 .have:=g.ll;simp;lia
 .rw[<-c6];have e:hks kvs (Q++[(n,s)])=hks kvs Q++(bn (v+1)).map λ(h:ah)=>((n,(h:af)):Pt):=by
   simp only[hks,kG,hI,C4,d4,aRx,aAd hlk]
  rw[e];exact g.pm.append_right _
 .rcases cj.mp h with h|h
  .exact g.sk pc h
  .have:pc=(n,s):=by simpa using h
   subst this;exact⟨v,hv,hlk⟩
section
variable {kvs:aa (D×D)} {cells:D} {seed:af} {NS:aa Str}
@[reducible] noncomputable def St(kvs:aa (D×D))(cells:D)(seed:af)(NS:aa Str)(Q:aa Pc)(L:aa Pt)(T:aa Tie)(nv:D)(bare rings:af)(c m sm:D):aa D:=
 [.dct kvs,cells,.int seed,.lst (NS.map μ),.lst (Q.map pcD),.lst (L.map enP),.lst (T.map bK),.int bare,.int rings,c,m,sm,nv]
theorem aRy(hl:L.length<=10000):∃SM:aa Pt,SM.Sublist L/\∀r,gbr 0x14=r->aC2 0x29=r:=by
 have f8:=jA c 8 0x4 0x4;have m8:=gG c 8 0x4;have ce:bY .eq (.int (c % 8)) (.int 5)=.ok (.bl (c % 8==5)):=rfl;have s1:cR ai 10 (b2 (bQ .fdiv) xX WK) ag 0x29=.ok (.nx (St kvs cells seed NS Q L T nv bare rings (.int c) 0x2a sm)):=bA (aJ rfl rfl f8);have s2:sAl 11 5 (St kvs cells seed NS Q L T nv bare rings (.int c) 0x2a sm)=.ok (.nx 0x19):=aTv rfl;have tc:bTB (b2 (bY .eq) (b2 (bQ .mod) xX WK) aH8) 0x19=.ok (c % 8==5):=bU (aJ (aJ rfl rfl m8) rfl ce);unfold aC2;cases h:(c % 8==5) with
 |true=>
  rw[h] at tc;refine⟨L.filter λx=>x.2==0,Dc,λr hr=>?_⟩;have cf:dR 13 (b_ gH ai) uQ (bTB (b2 (bY .eq) (b2 getD uA fJ) dM)) uA ai 0x19=.ok (.lst ((L.filter λx=>x.2==0).map enP)):=by
   refine jM (gC rfl rfl) (by rw[aS,bD];lia) ?_;rw[oH _ enP (λx=>x.2==0) enP]
   .rfl
   .intro acc p;have e1:b2 getD uA fJ (St kvs cells seed NS Q L T nv bare rings (.int c) 0x2a (.lst (L.map enP))++[enP p])=.ok (.int p.2):=aJ rfl rfl rfl;have e2:bY .eq (.int p.2) (.int 0)=.ok (.bl (p.2==0)):=rfl;exact gF rfl (bU (aJ e1 rfl e2)) λ_=>⟨rfl,rfl⟩
  have s3:sIf (bTB (b2 (bY .eq) (b2 (bQ .mod) xX WK) aH8)) (cR ai 11 (dR 13 (b_ gH ai) uQ (bTB (b2 (bY .eq) (b2 getD uA fJ) dM)) uA ai) ag) o_ 0x19=.ok (.nx (St kvs cells seed NS Q L T nv bare rings (.int c) 0x2a (.lst ((L.filter λx=>x.2==0).map enP)))):=uW tc (bA cf);exact aL s1 (aL s2 (aL s3 hr))
 |false=>
  rw[h] at tc;refine⟨L,D9 _,λr hr=>?_⟩;exact aL s1 (aL s2 (aL (mC tc rfl) hr))
def aNf(NS:aa Str)(i:af)(h0:0<=i)(h1:i<NS.length):∃s∈NS,getD (.lst (NS.map μ)) (.int i)=.ok (.str s):=by
 obtain⟨h,e⟩:=uX (NS.map μ) i h0 (by simpa using h1);rw[aS] at h;refine⟨NS[i.toNat],ig _,?_⟩;rw[e];simp
theorem TQ:∀{kvs:aa (D×D)},qP kvs->μ s∈nQ kvs->∃v:ah,v<=6/\bL kvs (.str s)=ae (.int v)
 |[],_,hm=>by cases hm
 |p::r,h,hm=>by
  obtain⟨s',v,rfl,h0,h1⟩:=h _ (bu ..);rw[bL];by_cases e:eqD (.str s') (.str s)=ag
  .rw[ao e];exact⟨v.toNat,by lia,by congr 2;lia⟩
  .rw[ap e];refine TQ (λp hp=>h p (bo _ hp)) ?_;rcases bi.mp (show μ s∈μ s'::nQ r from hm) with z|z
   .cases z;exact aT (by simp[eqD]) e
   .exact z
def aUb(Q:aa Pc):gV [.lst (Q.map pcD)]=.ok 0x27 :=by rw[nF,aS]
def aVt(Q:aa Str):gV [.lst (Q.map μ)]=.ok 0x27 :=by rw[nF,aS]
def aUc(Q:aa Pt):gV [.lst (Q.map enP)]=.ok 0x27 :=by rw[nF,aS]
theorem aNg(hst:qP kvs)(hNS:nQ kvs=NS.map μ)(hne:NS≠[])(hNl:NS.length<=1000)(g:Gr kvs Q L T (Q.length:af))(hT:T.length<=1000)(hb:bare<=1000)(hr:0<=rings) :
  ∃(Q':aa Pc)(L':aa Pt)(T':aa Tie)(nv':D)(rings':af)(bare':ah)(m' sm':D),Gr kvs Q' L' T' (Q'.length:af)/\0<=rings'/\T'.length<=T.length+1/\bare'<=bare+1/\aC2 0x29=.ok (.nx (St kvs cells seed NS Q' L' T' nv' bare' rings' (.int c) m' sm')):=by
 have hll:=g.ll;have hql:=g.ql;obtain⟨SM,hSM,pre⟩:=aRy (kvs:=kvs) (cells:=cells) (seed:=seed) (NS:=NS) (Q:=Q) (L:=L) (T:=T) (nv:=nv) (bare:=bare) (rings:=rings) (c:=c) (m:=m) (sm:=sm) 0x1;have m8:=gG c 8 0x4;have c4:bY (.ord .lt) (.int (c % 8)) (.int 4)=.ok (.bl (ϒ (c % 8<4))):=rfl;have c60:bY (.ord .lt) 0x27 (.int 8)=.ok (.bl (ϒ ((Q.length:af)<8))):=rfl;have c46:bY (.ord .le) (.int 4) (.int (c % 8))=.ok (.bl (ϒ (4<=c % 8))):=rfl;have c66:bY (.ord .lt) (.int (c % 8)) (.int 6)=.ok (.bl (ϒ (c % 8<6))):=rfl;have c1:bY (.ord .gt) (.int SM.length) (.int 1)=.ok (.bl (ϒ ((1:af)<SM.length))):=rfl;have e6:bY .eq (.int (c % 8)) (.int 6)=.ok (.bl (c % 8==6)):=rfl;have e7:bY .eq (.int (c % 8)) (.int 7)=.ok (.bl (c % 8==7)):=rfl;have hNp:(0:af)<(NS.length:af):=by
  cases NS with
  |nil=>exact aT rfl hne
  |cons _ _=>simp
 -- the first test
 have t1:∀b,b=(ϒ (c % 8<4)&&ϒ ((Q.length:af)<8))->A_ (bTB (b2 (bY (.ord .lt)) (b2 (bQ .mod) xX WK) aBk)) (bTB (b2 (bY (.ord .lt)) 0x23 WK)) 0x14=.ok b:=by
  rintro b rfl;cases h1:ϒ (c % 8<4) with
  |true=>rw[h1] at c4;exact CN (bU (aJ (aJ rfl rfl m8) rfl c4)) (bU (aJ (aK 0x11 (aUb Q)) rfl c60))
  |false=>rw[h1] at c4;exact G4 (bU (aJ (aJ rfl rfl m8) rfl c4))
 have t2:∀b,b=(ϒ (4<=c % 8)&&ϒ (c % 8<6)&&ϒ ((1:af)<SM.length))->A_ (bTB (bCh (bY (.ord .le)) (bY (.ord .lt)) aBk (b2 (bQ .mod) xX WK) aHs)) (bTB (b2 (bY (.ord .gt)) (aN gV (aD Q6 aV)) fJ)) 0x14=.ok b:=by
  rintro b rfl;cases h1:ϒ (4<=c % 8) with
  |false=>rw[h1] at c46;exact G4 (bU (aVo rfl (aJ rfl rfl m8) c46))
  |true=>
   rw[h1] at c46;cases h2:ϒ (c % 8<6) with
   |false=>rw[h2] at c66;exact G4 (bU (aUs rfl (aJ rfl rfl m8) c46 rfl c66))
   |true=>rw[h2] at c66;exact CN (bU (aUs rfl (aJ rfl rfl m8) c46 rfl c66)) (bU (aJ (aK 0x11 (aUc SM)) rfl c1))
 have fin:∀{r:Res Fl},gbr 0x14=r->aC2 0x29=r:=λ{r} h=>pre r h
 cases hA:(ϒ (c % 8<4)&&ϒ ((Q.length:af)<8)) with
 |true=>
  rw[bj,eB,eB] at hA;have T1:=t1 ag (by rw[bz hA.1,bz hA.2];rfl);have gm:=gG (c / 8) NS.length hNp;obtain⟨s,hs,es⟩:=aNf NS (c / 8 % NS.length) (jb _ 0x1) (kF _ hNp);obtain⟨v,hv,ev⟩:=TQ (s:=s) hst (by rw[hNS];exact aE.mpr ⟨s,hs,rfl⟩);have gs:getD (.dct kvs) (.str s)=.ok (.int v):=by
   show(if keyOk (.str s) then ι (bL kvs (.str s)) else .bad)=_;rw[ev];rfl
  have f4:=fX (Q.length:af) 1;have hn:((Q.length:af)+1)=((Q++[((Q.length:af)+1,s)]).length:af):=by simp
  have G:=g.piece (n:=(Q.length:af)+1) (s:=s) (v:=v) 0x1 hv ev 0x1;generalize hQ2:Q++[((Q.length:af)+1,s)]=Q2 at hn G;have lQ2:gV [.lst (Q2.map pcD)]=.ok (.int ((Q.length:af)+1)):=by rw[aUb,hn]
  generalize hn1:((Q.length:af)+1)=n at *;refine⟨Q2,_,T,.str s,rings,bare,.int (c / 8),.lst (SM.map enP),by rw[<-hn];exact G,hr,by lia,by lia,fin ?_⟩;have s1:cR ai 12 (b2 getD j6 (b2 (bQ .mod) iH (aN gV (aD j6 aV)))) ai 0x14=.ok (.nx (St kvs cells seed NS Q L T (.str s) bare rings (.int c) 0x2a 0x25)):=rM (aJ rfl (aJ rfl (aK 0x11 (aVt NS)) gm) es) rfl;have s2:BJ 4 (fP (aD (b2 (bQ .add) 0x23 fJ) (aD Q5 aV))) (St kvs cells seed NS Q L T (.str s) bare rings (.int c) 0x2a 0x25)=.ok (.nx (St kvs cells seed NS Q2 L T (.str s) bare rings (.int c) 0x2a 0x25)):=by
   have d0:fP (aD (b2 (bQ .add) 0x23 fJ) (aD Q5 aV)) (St kvs cells seed NS Q L T (.str s) bare rings (.int c) 0x2a 0x25)=.ok (.tup [.int n,.str s]):=cW (aC (aJ (aK 0x11 (aUb Q)) rfl f4) 0x11) (by rw[bD];simp);refine(lN (i:=4) (ρ:=St kvs cells seed NS Q L T (.str s) bare rings (.int c) 0x2a 0x25) (xs:=Q.map pcD) (d:=.tup [.int n,.str s]) d0 rfl (by rw[aS,bD];lia) rfl).trans ?_;rw[<-hQ2];show _=τ (Fl.nx [.dct kvs,cells,.int seed,.lst (NS.map μ),.lst ((Q++[(n,s)]).map pcD),.lst (L.map enP),.lst (T.map bK),.int bare,.int rings,.int c,.int (c / 8),.lst (SM.map enP),.str s]);rw[bS];rfl
  have cf:dR 13 (uB (aD (b2 (bQ .add) (b2 getD cQ Q5) fJ) aV) rC) uQ gB (fP (aD 0x23 (aD uA aV))) ai (St kvs cells seed NS Q2 L T (.str s) bare rings (.int c) 0x2a 0x25)=.ok (.lst (((bn (v+1)).map λ(h:ah)=>((n,(h:af)):Pt)).map enP)):=by
   refine jM (uI (n:=(v:af)+1) (aC (aJ (aJ rfl rfl gs) rfl (fX v 1)) rfl) 0x1 0x1) (by rw[aS,ju,bD];lia) ?_;rw[oH _ (λ(k:ah)=>δ (0+(k:af))) (λ_=>ag) (λ(k:ah)=>enP (n,(k:af)))]
   .rw[show((v:af)+1).toNat=v+1 by lia];rw[yl.mpr (λ_ _=>rfl),bp,eJ];rfl
   .intro acc k;refine gF (ρ:=St kvs cells seed NS Q2 L T (.str s) bare rings (.int c) 0x2a 0x25) (b:=ag) rfl rfl λ_=>⟨?_,rfl⟩
    have d1:fP (aD 0x23 (aD uA aV)) (St kvs cells seed NS Q2 L T (.str s) bare rings (.int c) 0x2a 0x25++[δ (0+(k:af))])=.ok (.tup [.int n,.int (0+(k:af))]):=cW (aC (aK (xs:=[.lst (Q2.map pcD)]) 0x11 lQ2) 0x11) (by rw[bD];simp);refine d1.trans ?_;rw[ur];rfl
  have s3:cR ai 5 (b2 (bQ .add) gH (dR 13 (uB (aD (b2 (bQ .add) (b2 getD cQ Q5) fJ) aV) rC) uQ gB (fP (aD 0x23 (aD uA aV))) ai)) ag (St kvs cells seed NS Q2 L T (.str s) bare rings (.int c) 0x2a 0x25)=.ok (.nx (St kvs cells seed NS Q2 (L++(bn (v+1)).map λ(h:ah)=>((n,(h:af)):Pt)) T (.str s) bare rings (.int c) 0x2a 0x25)):=by
   refine(bA (aJ rfl cf (CP (L.map enP) _ (by simp only[aS,ju,bD];lia) (mV _) (mV _)))).trans ?_;rw[<-bS];rfl
  exact uW T1 (aL s1 (aL s2 s3))
 |false=>
  have T1:=t1 ai hA.symm;cases hB:(ϒ (4<=c % 8)&&ϒ (c % 8<6)&&ϒ ((1:af)<SM.length)) with
  |true=>
   have T2:=t2 ag hB.symm;rw[bj,eB] at hB;obtain⟨a,b,ha,hb',hlt,et⟩:=aNe SM (c / 8) (hSM.nodup g.ln) 0x1 (by have:=hSM.length_le;lia);have G:=g.tie (hSM.mem ha) (hSM.mem hb') hlt;refine⟨Q,_,T++[(a,b)],nv,rings,bare,.int (c / 8),.lst (SM.map enP),G,hr,by simp,by lia,fin (mC T1 (uW T2 ?_))⟩;have s1:BJ 6 (aN (bV 2 jB) (aD Q6 (aD iH aV))) 0x14=.ok (.nx (St kvs cells seed NS Q L (T++[(a,b)]) nv bare rings (.int c) 0x2a 0x25)):=by
    have d0:aN (bV 2 jB) (aD Q6 (aD iH aV)) 0x14=.ok (bK (a,b)):=aK 0xf ((cJ rfl).trans et);refine(lN (i:=6) (ρ:=St kvs cells seed NS Q L T nv bare rings (.int c) 0x2a 0x25) (xs:=T.map bK) (d:=bK (a,b)) d0 rfl (by rw[aS,bD];lia) rfl).trans ?_;show _=τ (Fl.nx [.dct kvs,cells,.int seed,.lst (NS.map μ),.lst (Q.map pcD),.lst (L.map enP),.lst ((T++[(a,b)]).map bK),.int bare,.int rings,.int c,.int (c / 8),.lst (SM.map enP),nv]);rw[bS];rfl
   have gl:getD (.lst ((T++[(a,b)]).map bK)) (.int (-1))=.ok (bK (a,b)):=by
    show ι ((ixD ((T++[(a,b)]).map bK).length (-1)).bind λj=>((T++[(a,b)]).map bK)[j]?)=_;have:ixD ((T++[(a,b)]).map bK).length (-1)=ae T.length:=by
     unfold ixD;rw[ap 0x4,ao (by simp only[aS,cx,b9,eW];lia)]
     congr 1
     simp only[aS,cx,b9,eW];lia
    rw[this];simp
   have cf:dR 13 (b_ gH ai) uQ (bTB (b2 (bY .uF) uA (b2 getD lH (b1 aTl fJ)))) uA ai (St kvs cells seed NS Q L (T++[(a,b)]) nv bare rings (.int c) 0x2a 0x25)=.ok (.lst ((L.filter λx=>!(ϒ (a=x)||ϒ (b=x))).map enP)):=by
    refine jM (gC rfl rfl) (by rw[aS,bD];lia) ?_;rw[oH _ enP (λx=>!(ϒ (a=x)||ϒ (b=x))) enP]
    .rfl
    .intro acc p;have cn:bY .uF (enP p) (bK (a,b))=.ok (.bl (!(ϒ (a=p)||ϒ (b=p)))):=by
      show(if (enP p).fV aR&&ν aR [enP a,enP b] then τ (υ (!([enP a,enP b].any λy=>eqD y (enP p)))) else .bad)=_;rw[ao (show(D.fV aR (enP p)&&ν aR [enP a,enP b])=ag from rfl)];simp only[lj,List.any_nil,sO,mv]
     exact gF (ρ:=St kvs cells seed NS Q L (T++[(a,b)]) nv bare rings (.int c) 0x2a 0x25) rfl (bU (aJ (x:=enP p) rfl (aJ rfl (y:=.int (-1)) rfl gl) cn)) λ_=>⟨rfl,rfl⟩
   exact aL s1 (bA cf)
  |false=>
   have T2:=t2 ai hB.symm;cases h6:(c % 8==6) with
   |true=>
    rw[h6] at e6;refine⟨Q,L,T,nv,rings,bare+1,.int (c / 8),.lst (SM.map enP),g,hr,by lia,by lia,fin (mC T1 (mC T2 (uW (bU (aJ (aJ rfl rfl m8) rfl e6)) ?_)))⟩;exact bA (aJ rfl rfl (fX bare 1))
   |false=>
    rw[h6] at e6;cases h7:(c % 8==7) with
    |true=>
     rw[h7] at e7;have f2:bQ .pow (.int 10) (.int 50)=.ok (.int (10 ^ 50)):=aKa 50 0x4;have f3:=gG (c / 8) (10 ^ 50) 0x4;refine⟨Q,L,T,nv,rings+c / 8 % 10 ^ 50,bare,.int (c / 8),.lst (SM.map enP),g,Int.add_nonneg hr (jb _ 0x4),by lia,by lia,fin (mC T1 (mC T2 (mC (bU (aJ (aJ rfl rfl m8) rfl e6)) (uW (bU (aJ (aJ rfl rfl m8) rfl e7)) ?_))))⟩;exact bA (aJ rfl (aJ rfl (aJ rfl rfl f2) f3) (fX rings _))
    |false=>
     rw[h7] at e7;exact⟨Q,L,T,nv,rings,bare,.int (c / 8),.lst (SM.map enP),g,hr,by lia,by lia,fin (mC T1 (mC T2 (mC (bU (aJ (aJ rfl rfl m8) rfl e6)) (mC (bU (aJ (aJ rfl rfl m8) rfl e7)) rfl))))⟩
theorem TV(hst:qP kvs)(hNS:nQ kvs=NS.map μ)(hne:NS≠[])(hNl:NS.length<=1000):∀(cs:aa af){Q:aa Pc}{L:aa Pt}{T:aa Tie}{rings:af}{bare:ah}{x m sm nv:D},Gr kvs Q L T (Q.length:af)->0<=rings->T.length+cs.length<=1000->bare+cs.length<=1000->
  ∃(Q':aa Pc)(L':aa Pt)(T':aa Tie)(nv':D)(rings':af)(bare':ah)(x' m' sm':D),Gr kvs Q' L' T' (Q'.length:af)/\0<=rings'/\T'.length<=T.length+cs.length/\bare'<=bare+cs.length/\vR (tg1 9) aC2 (cs.map δ) (St kvs cells seed NS Q L T nv bare rings x m sm)=.ok (.nx (St kvs cells seed NS Q' L' T' nv' bare' rings' x' m' sm'))
 |[],Q,L,T,rings,bare,x,m,sm,nv,g,hr,_,_=>⟨Q,L,T,nv,rings,bare,x,m,sm,g,hr,by simp,by simp,rfl⟩
 |c::cs,Q,L,T,rings,bare,x,m,sm,nv,g,hr,h1,h2=>by
  rw[b9] at h1 h2;obtain⟨Q1,L1,T1,n1,r1,b1,m1,s1,g1,hr1,i1,i2,e1⟩:=aNg hst hNS hne hNl g (bare:=bare) 0x1 0x1 hr;obtain⟨Q2,L2,T2,n2,r2,b2,x2,m2,s2,g2,hr2,j1,j2,e2⟩:=TV hst hNS hne hNl cs (rings:=r1) (bare:=b1) (x:=.int c) (m:=m1) (sm:=s1) (nv:=n1) g1 hr1 0x1 0x1;refine⟨Q2,L2,T2,n2,r2,b2,x2,m2,s2,g2,hr2,by simp only[b9];lia,by simp only[b9];lia,?_⟩;exact mL (ρ1:=St kvs cells seed NS Q L T nv bare rings (.int c) m sm) rfl e1 e2
end
def gr0:Gr kvs [] [] [] 0:=⟨by simp[ends],by simp,by simp,by lia,by simp,by simp[ends],by simp,by simp,by simp,by simp,by simp[ends,hks],by simp⟩
noncomputable def aFa:D->Tie
 |.tup [.tup [.int a,.int b],.tup [.int c,.int d]]=>((a,b),(c,d))
 |_=>((0,0),(0,0))
theorem D_(t:Tie):aFa (bK t)=t:=rfl
def cX(U:aa Tie):aa Tie:=(iK (U.map bK)).map aFa
def bT(U:aa Tie):(cX U).Perm U:=by
 have h:=(cA (U.map bK)).map aFa;rw[bp] at h;have e:U.map (aFa ∘ bK)=U:=by
  conv=>rhs;rw[<-gj U]
  exact c_ λt _=>D_ t
 rw[e] at h;exact h
theorem aFb(U:aa Tie):(cX U).map bK=iK (U.map bK):=by
 unfold cX;rw[bp]
 conv=>rhs;rw[<-gj (iK (U.map bK))]
 refine c_ λd hd=>?_
 obtain⟨t,_,rfl⟩:=aE.mp ((cA (U.map bK)).mem_iff.mp hd);rfl
def aNh(s t:Tie):∃k,jY .lt (bK s) (bK t)=ae k:=by
 have e:jY .lt (bK s) (bK t)=(if eqD (enP s.1) (enP t.1) then (if eqD (enP s.2) (enP t.2) then ae (jG.lt.nat 0 0) else jY .lt (enP s.2) (enP t.2)) else jY .lt (enP s.1) (enP t.1)):=rfl;rw[e,sS,sS];split
 .split
  .exact⟨_,rfl⟩
  .exact⟨_,rfl⟩
 .exact⟨_,rfl⟩
theorem EY(U:aa Tie):bF (U.map bK)=ag:=by
 unfold bF;refine dy.mpr λd hd=>?_
 obtain⟨t,ht,rfl⟩:=aE.mp hd;have hk:fY ((U.map bK).headD .non)=5:=by
  cases U with
  |nil=>cases ht
  |cons u U=>rfl
 have h5:fY (bK t)=5:=rfl;have hp:(bK t).plain=ag:=rfl;have hq:(bK t).fV aR=ag:=rfl;rw[hk,h5,hp,hq];refine dy.mpr λb hb=>?_
 obtain⟨u,_,rfl⟩:=aE.mp hb;obtain⟨k,e⟩:=aNh t u;rw[e];rfl
def qQ(U:aa Tie):fD [.lst (U.map bK)]=.ok (.lst ((cX U).map bK)):=by
 show(if bF (U.map bK) then τ (ξ (iK (U.map bK))) else .bad)=_;rw[EY,ao rfl,aFb]
def LeT(s t:Tie):Prop:=leE (bK s) (bK t)=ag
def jE(U:aa Tie):(cX U).Pairwise LeT:=by
 have h:=dU (U.map bK);rw[<-aFb,eh] at h;exact h
theorem O3:∀{xs ys:aa Tie},xs.map bK=ys.map bK->xs=ys
 |[],[],_=>rfl
 |x::xs,y::ys,h=>by
  rw[ba,ba,iu] at h;have e:=cz aFa h.1;rw[D_,D_] at e;rw[e,O3 h.2]
 |[],_::_,h=>by cases h
 |_::_,[],h=>by cases h
def eq_of_sorted{U V:aa Tie}(h:U.Perm V)(h1:U.Pairwise LeT)(h2:V.Pairwise LeT):U=V:=by
 refine O3 (n_ (λd hd=>?_) (h.map bK) (eh.mpr h1) (eh.mpr h2));obtain⟨t,_,rfl⟩:=aE.mp hd;rfl
theorem aIx(h:U.Pairwise LeT):cX U=U:=eq_of_sorted (bT U) (jE U) h
theorem aAe{U V:aa Tie}(h:U.Perm V):cX U=cX V:=eq_of_sorted ((bT U).trans (h.trans (bT V).symm)) (jE U) (jE V)
theorem aFc(a b:af):eqD (.int a) (.int b)=(a==b):=rfl
theorem aFd(a b:Pc):∃k,jY .lt (pcD a) (pcD b)=ae k/\(a.1≠b.1->k=ϒ (a.1<b.1)):=by
 have e:jY .lt (pcD a) (pcD b)=(if eqD (.int a.1) (.int b.1) then (if eqD (.str a.2) (.str b.2) then ae (jG.lt.nat 0 0) else ae (jG.lt.str a.2 b.2)) else ae (jG.lt.int a.1 b.1)):=rfl;rw[e,aFc];by_cases h:a.1=b.1
 .rw[ao (by simp[h])];split
  .exact⟨_,rfl,λz=>aT h z⟩
  .exact⟨_,rfl,λz=>aT h z⟩
 .rw[ap (by simp[h])];exact⟨_,rfl,λ_=>rfl⟩
def uL(U:aa Pc):bF (U.map pcD)=ag:=by
 unfold bF;refine dy.mpr λd hd=>?_
 obtain⟨t,ht,rfl⟩:=aE.mp hd;have hk:fY ((U.map pcD).headD .non)=3:=by
  cases U with
  |nil=>cases ht
  |cons u U=>rfl
 have h5:fY (pcD t)=3:=rfl;have hp:(pcD t).plain=ag:=rfl;have hq:(pcD t).fV aR=ag:=rfl;rw[hk,h5,hp,hq];refine dy.mpr λb hb=>?_
 obtain⟨u,_,rfl⟩:=aE.mp hb;obtain⟨k,e,_⟩:=aFd t u;rw[e];rfl
def LtN(a b:Pc):Prop:=a.1<b.1
def cN(T:aa Tie):θ (T.map bK)=ag:=wD T
def oM(T:aa Pc):θ (T.map pcD)=ag:=wC T
def qR(Q:aa Pc)(V:aa Tie)(r:af):(bG Q V r).pure=ag:=by
 show((D.tup (Q.map pcD)).pure&&((D.tup (V.map bK)).pure&&(ag&&ag)))=ag;rw[wC,wD];rfl
theorem E_:∀{kvs:aa (D×D)},qP kvs->∃NS:aa Str,nQ kvs=NS.map μ
 |[],_=>⟨[],rfl⟩
 |p::kvs,h=>by
  obtain⟨s,v,e,_⟩:=h p (bu ..);obtain⟨NS,ih⟩:=E_ λq hq=>h q (bo _ hq)
  refine⟨s::NS,?_⟩;subst e;show μ s::nQ kvs=_;rw[ih];rfl
theorem JT(h:qP kvs):KQ [.dct kvs]=.ok (.lst (nQ kvs)):=by
 have e:kvs.all (λp=>!isTup p.1)=ag:=dy.mpr λp hp=>by
  obtain⟨s,v,rfl,_⟩:=h p hp;rfl
 show(if kvs.all (λp=>!isTup p.1) then τ (ξ (nQ kvs)) else .bad)=_;rw[e,ao rfl]
theorem aIy{U W:aa Pc}(p:U.Perm W)(h:W.Pairwise LtN):fD [.lst (U.map pcD)]=.ok (.lst (W.map pcD)):=by
 show(if bF (U.map pcD) then τ (ξ (iK (U.map pcD))) else .bad)=_;rw[uL,ao rfl]
 congr 2
 refine n_ (λd hd=>?_) ((cA _).trans (p.map pcD)) (dU _) (eh.mpr (h.imp λ{a b} hab=>?_))
 .obtain⟨t,_,rfl⟩:=aE.mp ((cA (U.map pcD)).mem_iff.mp hd);rfl
 .have hab:a.1<b.1:=hab;obtain⟨k,e,hk⟩:=aFd b a;have e1:=BL (pcD b) (pcD a) k rfl rfl e;rw[hk 0x1,cy 0x1] at e1;unfold leE;rw[<-e1];rfl
def call_v(h:f (ds++dg (m-n) D.uD)=.ok (.rt d)):fnS n m f ds=.ok d:=by
 show(do let r <- f (ds++dg (m-n) D.uD);aDp r)=_;rw[h];rfl
def mW(hρ:ρ.length=n)(ht:t x=.ok bs)(h1:c (ρ++bs)=.ok b)(h2:b=ag->f (ρ++bs)=.ok y/\(k||y.pure)=ag):rD n t c f k ρ acc x=.ok (if b then acc++[y] else acc):=by
 unfold rD;rw[ht,ε,RJ hρ,h1,ε];cases b with
 |false=>rfl
 |true=>
  obtain⟨h3,h4⟩:=h2 rfl;rw[ao rfl,h3,ε,ao h4];rfl
def aVu(h:f ρ=.ok d)(h2:aTk d=.ok b):bTr f ρ=.ok b:=by
 unfold bTr;rw[h];exact h2
def uM(h:f ρ=.ok b):aCr f ρ=.ok (!b):=by
 unfold aCr;rw[h];rfl
def aNi(h1:x ρ=.ok ai)(h2:y ρ=r):bOr x y ρ=r:=by
 unfold bOr;rw[h1];exact h2
theorem TX(h1:a ρ=.ok (.bl ag))(h2:b ρ=r):KN a b ρ=r:=by
 unfold KN;rw[h1];exact h2
theorem aFe(h1:a ρ=.ok x)(h2:f x=.ok y):b1 f a ρ=.ok y:=by
 unfold b1;rw[h1];exact h2
theorem irr(a b:Pt)(h:ltP a b):¬ltP b a:=by
 simp only[ltP] at *;lia
theorem aAf(T:aa Tie):(ends T).length=2*T.length:=by
 induction T with
 |nil=>rfl
 |cons t T ih=>simp only[ends,hI,cx,b9,eW] at *;lia
def ends_app(T R:aa Tie):ends (T++R)=ends T++ends R:=by simp[ends]
def oN{V U:aa Tie}(h:V.Perm U):(ends V).Perm (ends U):=by
 unfold ends;induction h with
 |nil=>exact .nil
 |cons x _ ih=>simpa using ih
 |swap x y l=>
  simp only[hI];rw[<-c6,<-c6];exact Dd _ rL
 |trans _ _ ih1 ih2=>exact ih1.trans ih2
def yF(h:f ρ=.ok (.rt d)):bO f g ρ=.ok (.rt d):=by
 unfold bO;rw[h];rfl
theorem O4(xs:aa D)(j:ah)(h:j<xs.length):getD (.tup xs) (.int (0+(j:af)))=.ok xs[j]:=by
 show ι ((ixD xs.length (0+(j:af))).bind λi=>xs[i]?)=_;have e:ixD xs.length (0+(j:af))=ae j:=by
  unfold ixD;rw[ao 0x1,ao 0x1]
  congr 1
  lia
 rw[e];show ι (xs[j]?)=_;rw[eg h];rfl
structure Net(kvs:aa (D×D))(Q:aa Pc)(T:aa Tie):Prop where
 nd:(ends T).Nodup
 small:T.length<=1000
 qs:Q.Pairwise LtN
 qpos:∀pc∈Q,0<pc.1
 ql:Q.length<=30
 sk:∀pc∈Q,∃v:ah,v<=6/\bL kvs (.str pc.2)=ae (.int v)
 lt:∀t∈T,ltP t.1 t.2
 srt:T.Pairwise LeT
 rims:∃S:aa af,S.Nodup/\S.Perm ((bn S.length).map λ(k:ah)=>(k:af))/\(ends T).Perm (hks kvs Q++S.map rim)
theorem aRz{num:af}{S:aa af}(g:Gr kvs Q L T num)(hS:S.Nodup)(hS2:S.Perm ((bn S.length).map λ(k:ah)=>(k:af)))(pR:(ends R).Perm (L++S.map rim))(hR:∀t∈R,ltP t.1 t.2)(hsm:(T++R).length<=1000):Net kvs Q (cX (T++R)):=by
 have pE:(ends (cX (T++R))).Perm (ends T++L++S.map rim):=by
  refine(oN (bT _)).trans ?_;rw[ends_app,c6];exact l7 _ pR
 have pos:∀e∈ends T++L,0<e.1:=λe he=>by
  obtain⟨pc,h1,h2⟩:=aE.mp (g.num e he);have:=(g.qb pc h1).1;lia
 refine⟨?_,by rw[(bT _).length_eq];exact hsm,g.qs,λpc h=>(g.qb pc h).1,(by have:=g.ql;lia),g.sk,λt ht=>?_,jE _,S,hS,hS2,pE.trans (g.pm.append_right _)⟩
 .refine pE.nodup_iff.mpr (fm.mpr ⟨g.nd,?_,λa ha b hb z=>?_⟩)
  .refine yn _ ?_ hS;intro a b hab z;exact hab (cz nu z)
  .obtain⟨s,_,rfl⟩:=aE.mp hb;have:=pos a ha;rw[z] at this;exact aT this (ox 0)
 .rcases cj.mp ((bT _).mem_iff.mp ht) with h|h
  .exact g.lt t h
  .exact hR t h
def OkT(N:aa af)(t:Tie):Prop:=(t.1.1=0/\(t.2.1=0\/t.2.1∈N))\/(t.1.1∈N/\t.2.1∈N)
structure Wf(Q:aa Pc)(V:aa Tie):Prop where
 qs:(Q.map (·.1)).Pairwise (·<·)
 qp:∀n∈Q.map (·.1),0<n
 ql:(Q.map (·.1)).length<=40
 ok:∀t∈V,OkT (Q.map (·.1)) t
 vl:V.length<=1000
theorem xK:e∈hks kvs Q↔∃pc∈Q,pc.1=e.1/\0<=e.2/\e.2<=vOf kvs pc.2:=by
 unfold hks aRx;simp only[jc,aE,hV];constructor
 .rintro⟨pc,h1,h,h2,rfl⟩;exact⟨pc,h1,rfl,by show(0:af)<=(h:af);lia,by show(h:af)<=_;lia⟩
 .rintro⟨pc,h1,h2,h3,h4⟩;exact⟨pc,h1,e.2.toNat,by lia,Prod.ext h2 (by show((e.2.toNat:ah):af)=e.2;lia)⟩
theorem Net.wf{V:aa Tie}(w:Net kvs Q V):Wf Q V:=by
 obtain⟨S,_,_,p⟩:=w.rims;have cas:∀e∈ends V,e.1=0\/(0<e.1/\e.1∈Q.map (·.1)):=λe he=>by
  rcases cj.mp (p.mem_iff.mp he) with h|h
  .obtain⟨pc,h1,h2,_⟩:=xK.mp h;exact .inr ⟨by have:=w.qpos pc h1;lia,aE.mpr ⟨pc,h1,h2⟩⟩
  .obtain⟨s,_,rfl⟩:=aE.mp h;exact .inl rfl
 refine⟨eh.mpr w.qs,λn h=>?_,by rw[aS];have:=w.ql;lia,λt ht=>?_,w.small⟩
 .obtain⟨pc,h1,rfl⟩:=aE.mp h;exact w.qpos pc h1
 .have me:t.1∈ends V/\t.2∈ends V:=by
   simp only[ends,jc];exact⟨⟨t,ht,by simp⟩,⟨t,ht,by simp⟩⟩
  have hlt:=w.lt t ht;rcases cas _ me.1 with h1|⟨h1,h1'⟩<;>rcases cas _ me.2 with h2|⟨h2,h2'⟩
  .exact .inl ⟨h1,.inl h2⟩
  .exact .inl ⟨h1,.inr h2'⟩
  .simp only[ltP] at hlt;lia
  .exact .inr ⟨h1',h2'⟩
def wF(h1:c ρ=.ok ag)(h2:body ρ=.ok (.nx ρ'))(h3:JN c body n ρ'=r):JN c body (n+1) ρ=r:=by
 rw[JN,h1,ε,ao rfl,h2];exact h3
def xM(h1:c ρ=.ok ai):JN c body (n+1) ρ=.ok (.nx ρ):=by
 rw[JN,h1];rfl
theorem JV(h1:a ρ=.ok x)(h2:l ρ=.ok i)(h3:h ρ=.ok j)(h4:aBl x i j=.ok d):aCs a l h ρ=.ok d:=by
 unfold aCs;rw[h1,ε,h2,ε,h3,ε,h4]
theorem O5(L:aa Pt)(b s:D)(T:aa Tie)(k:aq)(h:k=ϒ (1<L.length)):aN4 [.lst (L.map enP),b,s,.lst (T.map bK)]=.ok k:=by
 have lL:gV [.lst (L.map enP)]=.ok (.int L.length):=by rw[nF,aS]
 have hc:bY (.ord .gt) (.int L.length) (.int 1)=.ok (.bl (ϒ ((1:af)<L.length))):=rfl;refine bU (aJ (aK 0x11 lL) rfl (hc.trans ?_));rw[h]
 congr 2
 exact lr.mpr 0x1
theorem FJ:∀(L:aa Pt)(T:aa Tie),L.Nodup->T.length+L.length<=10000->∃(L':aa Pt)(T':aa Tie),L'.Sublist L/\(ends T'++L').Perm (ends T++L)/\(∀t∈T',t∈T\/ltP t.1 t.2)/\L'.length+T'.length<=L.length+T.length/\
  ∀fuel,L.length<fuel->JN aN4 aRg fuel [.lst (L.map enP),b,s,.lst (T.map bK)]=.ok (.nx [.lst (L'.map enP),b,s,.lst (T'.map bK)])
 |[],T,_,_=>⟨[],T,.refl _,.refl _,λt h=>.inl h,bd _,λfuel hf=>by
   obtain⟨f,rfl⟩:∃f,fuel=f+1:=⟨fuel-1,by lia⟩
   exact xM (O5 [] b s T ai rfl)⟩
 |[a],T,_,_=>⟨[a],T,.refl _,.refl _,λt h=>.inl h,bd _,λfuel hf=>by
   obtain⟨f,rfl⟩:∃f,fuel=f+1:=⟨fuel-1,by lia⟩
   exact xM (O5 [a] b s T ai rfl)⟩
 |a::c::L,T,hn,hl=>by
  have mn:=IV .lt a c ltP sS;have mx:=IV .gt a c (λx y=>ltP y x) TF;have hac:a≠c:=λz=>by subst z;exact(df.mp hn).1 (bu ..)
  obtain⟨u,v,huv,hlt,mn,mx⟩:∃u v:Pt,[u,v].Perm [a,c]/\ltP u v/\cZ .lt [enP a,enP c]=.ok (enP u)/\cZ .gt [enP a,enP c]=.ok (enP v):=by
   have tot:ltP a c\/ltP c a:=by
    obtain⟨a1,a2⟩:=a;obtain⟨c1,c2⟩:=c;simp only[ltP];have:a1≠c1\/a2≠c2:=by
     by_cases h1:a1=c1
     .exact .inr λh2=>hac (by rw[h1,h2])
     .exact .inl h1
    lia
   rcases tot with h|h
   .refine⟨a,c,.refl _,h,?_,?_⟩
    .rw[mn,ap (irr _ _ h)]
    .rw[mx,ao h]
   .refine⟨c,a,.swap ..,h,?_,?_⟩
    .rw[mn,ao h]
    .rw[mx,ap (irr _ _ h)]
  simp only[b9] at hl;obtain⟨L',T',i1,i2,i2',i3,i4⟩:=FJ L (T++[(u,v)]) (df.mp (df.mp hn).2).2 (by simp;lia);refine⟨L',T',(i1.cons _).cons _,?_,λt ht=>?_,by simp only[cx,b9,eW] at i3 ⊢;lia,λfuel hf=>?_⟩
  .refine i2.trans ?_;rw[sV,c6];exact l7 _ (huv.append_right L)
  .rcases i2' t ht with h|h
   .rcases cj.mp h with h|h
    .exact .inl h
    .have:t=(u,v):=by simpa using h
     subst this;exact .inr hlt
   .exact .inr h
  .simp only[b9] at hf;obtain⟨f,rfl⟩:∃f,fuel=f+1:=⟨fuel-1,by lia⟩
   have e0:getD (.lst ((a::c::L).map enP)) (.int 0)=.ok (enP a):=by
    obtain⟨h,e⟩:=uX ((a::c::L).map enP) 0 0x1 (by simp only[aS,b9];lia);rw[e];rfl
   have e1:getD (.lst ((a::c::L).map enP)) (.int 1)=.ok (enP c):=by
    obtain⟨h,e⟩:=uX ((a::c::L).map enP) 1 0x1 (by simp only[aS,b9];lia);rw[e];rfl
   have sl:aBl (.lst ((a::c::L).map enP)) (ae 2) aj=.ok (.lst (L.map enP)):=by
    simp only[aBl,mV,eT]
    congr 2
    have e1:xW ((a::c::L).map enP).length 0 (ae 2)=2:=by
     simp only[xW,aS,b9];rw[ap 0x1];lia
    have e2:xW ((a::c::L).map enP).length ((a::c::L).map enP).length aj=L.length+2:=by
     simp only[xW,aS,b9]
    unfold cutD;rw[e1,e2,show L.length+2-2=(L.map enP).length by simp];exact ub ..
   refine wF (O5 (a::c::L) b s T ag 0x2) ?_ (i4 f 0x1);refine aL (ρ':=[.lst ((a::c::L).map enP),b,s,.lst ((T++[(u,v)]).map bK)]) ?_ (bA (i:=0) (JV rfl rfl rfl sl));refine(lN (i:=3) (ρ:=[.lst ((a::c::L).map enP),b,s,.lst (T.map bK)]) (xs:=T.map bK) (cW (xs:=[enP u,enP v]) (aC (aK (xs:=[enP a,enP c]) (aC (aJ rfl rfl e0) (aC (aJ rfl rfl e1) rfl)) mn) (aC (aK (xs:=[enP a,enP c]) (aC (aJ rfl rfl e0) (aC (aJ rfl rfl e1) rfl)) mx) rfl)) (by rw[bD];simp)) rfl (by rw[aS,bD];lia) rfl).trans ?_;rw[bS];rfl
noncomputable def unE:D->Pt
 |.tup [.int a,.int b]=>(a,b)
 |_=>(0,0)
theorem aFf(L:aa Pt)(bare:ah)(seed:af)(hn:L.Nodup)(hL:∀p∈L,0<p.1)(hl:L.length+2*bare<=900):∃(R:aa Tie)(S:aa af),S.Nodup/\S.Perm ((bn S.length).map λ(k:ah)=>(k:af))/\(ends R).Perm (L++S.map rim)/\(∀t∈R,ltP t.1 t.2)/\R.length<=L.length+bare/\jO [.lst (L.map enP),.int bare,.int seed]=.ok (.lst (R.map bK)):=by
 have m3:=gG seed 3 0x4;have d3:=jA seed 3 0x4 0x4;have hc:bY (.ord .gt) (.int (seed % 3)) (.int 0)=.ok (.bl (ϒ (0<seed % 3))):=rfl;have rest:∀(L':aa Pt)(T:aa Tie),(ends T++L').Perm L->(∀t∈T,ltP t.1 t.2)->L'.length+T.length<=L.length->∃(R:aa Tie)(S:aa af),S.Nodup/\S.Perm ((bn S.length).map λ(k:ah)=>(k:af))/\(ends R).Perm (L++S.map rim)/\(∀t∈R,ltP t.1 t.2)/\R.length<=L.length+bare/\(lJ (b2 (bQ .add) j6 (aN (bV 3 jN) (aD cQ (aD gD (aD gK aV))))) ag) [.lst (L'.map enP),.int bare,.int seed,.lst (T.map bK)]=.ok (.rt (.lst (R.map bK))):=λL' T h1 h2 h3=>by
  obtain⟨R,S,r1,rb,r2,r3,r4,r5⟩:=aF9 L' bare seed (λp hp=>hL p (h1.mem_iff.mp (dS _ hp))) 0x1;refine⟨T++R,S,r1,rb,?_,λt ht=>?_,by rw[cx];lia,?_⟩
  .rw[ends_app];refine(l7 _ r2).trans ?_;rw[<-c6];exact h1.append_right _
  .rcases cj.mp ht with h|h
   .exact h2 t h
   .exact r3 t h
  .refine d8 (aJ rfl (aK (aC rfl 0xf) ((cJ rfl).trans r5)) ?_) rfl;rw[bS];exact CP _ _ (by rw[aS,aS,bD];lia) (cN _) (cN _)
 have fin:∃(R:aa Tie)(S:aa af),S.Nodup/\S.Perm ((bn S.length).map λ(k:ah)=>(k:af))/\(ends R).Perm (L++S.map rim)/\(∀t∈R,ltP t.1 t.2)/\R.length<=L.length+bare/\qK [.lst (L.map enP),.int bare,.int seed,.uD]=.ok (.rt (.lst (R.map bK))):=by
  by_cases h:0<seed % 3
  .obtain⟨ys,p0,s4⟩:=YC (xs:=L.map enP) (seed / 3) (λx hx=>by
    obtain⟨a,_,rfl⟩:=aE.mp hx;rfl) (by simp;lia)
   obtain⟨L1,pL,rfl⟩:=zA enP unE (λ_=>rfl) p0;obtain⟨L',T',i1,i2,i2',i3,i4⟩:=FJ (b:=.int bare) (s:=.int seed) L1 [] (pL.nodup_iff.mpr hn) (by rw[pL.length_eq];simp;lia);obtain⟨R,S,r1,r2,r3,r4,r5,r6⟩:=rest L' T' (i2.trans pL) (λt ht=>by
    rcases i2' t ht with h|h
    .cases h
    .exact h) (by rw[<-pL.length_eq];simpa using i3)
   refine⟨R,S,r1,r2,r3,r4,r5,?_⟩;refine aL (ρ':=[.lst (L.map enP),.int bare,.int seed,.lst []]) (dG rfl rfl) ?_;refine aL (ρ':=[.lst (L'.map enP),.int bare,.int seed,.lst (T'.map bK)]) (uW (bU (aJ (aJ rfl rfl m3) rfl (hc.trans (by rw[bz h])))) ?_) r6;refine aL (ρ':=[.lst (L1.map enP),.int bare,.int seed,.lst []]) (bA (i:=0) (aK (xs:=[.lst (L.map enP),.int (seed / 3)]) (aC rfl (aC (aJ rfl rfl d3) rfl)) s4)) ?_;exact i4 1000 (by rw[pL.length_eq];lia)
  .obtain⟨R,S,r1,r2,r3,r4,r5,r6⟩:=rest L [] (.refl _) (λt ht=>by cases ht) 0x2;refine⟨R,S,r1,r2,r3,r4,r5,?_⟩;refine aL (ρ':=[.lst (L.map enP),.int bare,.int seed,.lst []]) (dG rfl rfl) ?_;exact aL (ρ':=[.lst (L.map enP),.int bare,.int seed,.lst []]) (mC (bU (aJ (aJ rfl rfl m3) rfl (hc.trans (by rw[cy h])))) rfl) r6
 obtain⟨R,S,r1,r2,r3,r4,r5,e⟩:=fin;refine⟨R,S,r1,r2,r3,r4,r5,?_⟩;show(do let r <- qK _;aDp r)=_;rw[show([ξ (L.map enP),δ bare,δ seed]++dg (4-3) D.uD)=[.lst (L.map enP),.int bare,.int seed,.uD] from rfl,e];rfl
theorem aAg(hst:qP kvs)(hne:kvs≠[])(hl:kvs.length<=5)(cs:aa af)(hc:cs.length<=200)(seed:af):∃(Q:aa Pc)(V:aa Tie)(r:af),Net kvs Q V/\Q.length<=8/\V.length<=480/\(∀pc∈Q,pc.1<=Q.length)/\bV 3 lA [.dct kvs,.lst (cs.map δ),.int seed]=.ok (bG Q V r):=by
 obtain⟨NS,hNS⟩:=E_ hst;have lNS:NS.length=kvs.length:=by
  have:=cz fI hNS;simpa[nQ] using this.symm
 have nNS:NS≠[]:=λz=>hne (by rw[z] at lNS;exact List.length_eq_zero_iff.mp lNS.symm)
 obtain⟨Q,L,T,nv,rings,bare,x,m,sm,g,hrg,i1,i2,e1⟩:=TV hst hNS nNS 0x1 cs (bare:=0) (x:=.uD) (m:=.uD) (sm:=.uD) (nv:=.uD) gr0 (yo 0) (by simp;lia) 0x1;have lL:L.length<=210:=by have:=g.ll;have:=g.ql;lia
 have posE:∀p∈ends T++L,0<p.1:=λp hp=>by
  obtain⟨pc,h1,h2⟩:=aE.mp (g.num p hp);have:=(g.qb pc h1).1;lia
 simp only[eW] at i1;obtain⟨R,S,r1,rb,r2,r3,r4,r5⟩:=aFf L bare seed g.ln (λp hp=>posE p (dS _ hp)) 0x1;have lTR:(T++R).length<=1000:=by rw[cx];lia
 have hadd:bQ .add (.lst (T.map bK)) (.lst (R.map bK))=.ok (.lst ((T++R).map bK)):=by
  rw[bS];refine CP _ _ ?_ (cN T) (cN R);rw[aS,aS,bD];rw[cx] at lTR;lia
 have hrim:bV 3 jO [.lst (L.map enP),.int bare,.int seed]=.ok (.lst (R.map bK)):=(cJ rfl).trans r5;have hli:=JT hst;rw[hNS] at hli;have hin:inner (.lst ((T++R).map bK))=ag:=cN _;refine⟨Q,cX (T++R),rings,aRz g r1 rb r2 r3 lTR,g.ql,(by rw[(bT _).length_eq,cx];have:=g.ll;have:=g.ql;lia),λpc hp=>(g.qb pc hp).2,(cJ rfl).trans ?_⟩;have fin:rT [.dct kvs,.lst (cs.map δ),.int seed,.uD,.uD,.uD,.uD,.uD,.uD,.uD,.uD,.uD,.uD]=.ok (.rt (bG Q (cX (T++R)) rings)):=by
  refine aL (ρ':=[.dct kvs,.lst (cs.map δ),.int seed,.lst (NS.map μ),.uD,.uD,.uD,.uD,.uD,.uD,.uD,.uD,.uD]) (bA (aK 0x11 hli)) ?_;refine aL (ρ':=[.dct kvs,.lst (cs.map δ),.int seed,.lst (NS.map μ),.lst [],.uD,.uD,.uD,.uD,.uD,.uD,.uD,.uD]) (dG rfl rfl) ?_;refine aL (ρ':=[.dct kvs,.lst (cs.map δ),.int seed,.lst (NS.map μ),.lst [],.lst [],.uD,.uD,.uD,.uD,.uD,.uD,.uD]) (bA rfl) ?_;refine aL (ρ':=[.dct kvs,.lst (cs.map δ),.int seed,.lst (NS.map μ),.lst [],.lst [],.lst [],.uD,.uD,.uD,.uD,.uD,.uD]) (dG rfl rfl) ?_;refine aL (ρ':=[.dct kvs,.lst (cs.map δ),.int seed,.lst (NS.map μ),.lst [],.lst [],.lst [],.int 0,.uD,.uD,.uD,.uD,.uD]) (bA rfl) ?_;refine aL (ρ':=[.dct kvs,.lst (cs.map δ),.int seed,.lst (NS.map μ),.lst [],.lst [],.lst [],.int 0,.int 0,.uD,.uD,.uD,.uD]) (bA rfl) ?_;refine aL (W8 (d:=.lst (cs.map δ)) (xs:=cs.map δ) rfl rfl e1) ?_;refine aL (ρ':=[.dct kvs,.lst (cs.map δ),.int seed,.lst (NS.map μ),.lst (Q.map pcD),.lst (L.map enP),.lst ((T++R).map bK),.int bare,.int rings,x,m,sm,nv])
   (dG (i:=6) (aJ (x:=.lst (T.map bK)) (y:=.lst (R.map bK)) rfl (aK (xs:=[.lst (L.map enP),.int bare,.int seed]) (aC rfl 0xf) hrim) hadd) hin) ?_
  refine d8 (d:=bG Q (cX (T++R)) rings) (cW (xs:=[.tup (Q.map pcD),.tup ((cX (T++R)).map bK),.int rings]) (aC (aK (xs:=[.lst (Q.map pcD)]) 0x11 rfl) (aC (aK (xs:=[.lst ((cX (T++R)).map bK)]) (aC (aK (xs:=[.lst ((T++R).map bK)]) 0x11 (qQ _)) rfl) rfl) 0x11)) ?_) ?_
  .rw[bD];show 3<=1000000;lia
  .rw[qR];rfl
 show(do let r <- rT _;aDp r)=_;rw[show([D.dct kvs,ξ (cs.map δ),δ seed]++dg (13-3) D.uD)=[.dct kvs,.lst (cs.map δ),.int seed,.uD,.uD,.uD,.uD,.uD,.uD,.uD,.uD,.uD,.uD] from rfl,fin];rfl
noncomputable def cellAt(ns:aa af)(k:ah):af:=ns.getD k 0
theorem cell_eq(ns:aa af)(k:ah):bV 2 bZ [.scr (ns.map δ),.int k]=.ok (.int (cellAt ns k)):=by
 refine(cJ rfl).trans ?_;have hl:gV [.scr (ns.map δ)]=.ok (.int ns.length):=by
  show τ (δ ((ns.map δ).length:af))=_;rw[aS]
 have hc:bY (.ord .lt) (.int k) (.int ns.length)=.ok (.bl (ϒ ((k:af)<ns.length))):=rfl;show(do let r <- iQ [.scr (ns.map δ),.int k];aDp r)=_;by_cases h:k<ns.length
 .have hg:getD (.scr (ns.map δ)) (.int k)=.ok (.int (cellAt ns k)):=by
   show ι ((ixD (ns.map δ).length k).bind λj=>(ns.map δ)[j]?)=_;have:ixD (ns.map δ).length k=ae k:=by
    unfold ixD;rw[ao 0x1,ao (by rw[aS];lia)];rfl
   rw[this];show ι ((ns.map δ)[k]?)=_;rw[iE,eg h];show τ (δ ns[k])=_;rw[cellAt,dz,eg h];rfl
  have e:iQ [.scr (ns.map δ),.int k]=.ok (.rt (.int (cellAt ns k))):=by
   have ht:(bTB (b2 (bY (.ord .lt)) gD 0x1a)) [.scr (ns.map δ),.int k]=.ok ag:=by
    refine bU (aJ rfl (aK 0x11 hl) (hc.trans ?_));rw[bz 0x1]
   unfold iQ bO;rw[uW ht (d8 (aJ rfl rfl hg) rfl)];rfl
  rw[e];rfl
 .have e:iQ [.scr (ns.map δ),.int k]=.ok (.rt (.int (cellAt ns k))):=by
   refine aL (mC (bU (aJ rfl (aK 0x11 hl) (hc.trans ?_))) rfl) (d8 ?_ rfl)
   .rw[cy 0x1]
   .rw[cellAt,dz,ug 0x1];rfl
  rw[e];rfl
noncomputable def news:aa af->aa af->aa af
 |_,[]=>[]
 |R,y::ys=>if y∈R then news R ys else y::news (R++[y]) ys
theorem news_mem:∀{ys R:aa af}{z:af},z∈news R ys->z∈ys
 |[],R,z,h=>h
 |y::ys,R,z,h=>by
  rw[news] at h;split at h
  .exact bo _ (news_mem h)
  .rcases bi.mp h with rfl|h
   .exact bu ..
   .exact bo _ (news_mem h)
theorem O6:∀{ys R:aa af},R.Nodup->(R++news R ys).Nodup
 |[],R,h=>by rw[news,d4];exact h
 |y::ys,R,h=>by
  rw[news];split
  .exact O6 h
  .rename_i hy;have:(R++[y]).Nodup:=by
    rw[fm];exact⟨h,by simp,λa ha b hb z=>hy (by rw[<-em.mp hb,<-z];exact ha)⟩
   have:=O6 (ys:=ys) this;rwa [c6] at this
theorem wG:∀{ys R:aa af}{z:af},z∈ys->z∈R++news R ys
 |y::ys,R,z,h=>by
  rw[news];rcases bi.mp h with rfl|h
  .split
   .exact dP _ (by assumption)
   .simp
  .split
   .exact wG h
   .have:=wG (R:=R++[y]) h;rwa [c6] at this
inductive Rc(f:af->aa af)(s:af):af->Prop
 |refl:Rc f s s
 |step {x y:af}:Rc f s x->y∈f x->Rc f s y
theorem Rc.trans(h:Rc f a b)(g:Rc f b c):Rc f a c:=by
 induction g with
 |refl=>exact h
 |step _ hy ih=>exact ih.step hy
theorem Rc.mem{M:aa af}(hs:s∈M)(hc:∀x∈M,∀y∈f x,y∈M)(h:Rc f s x):x∈M:=by
 induction h with
 |refl=>exact hs
 |step _ hy ih=>exact hc _ ih _ hy
theorem Rc.to{M:aa af}(hs:s∈M)(hc:∀x∈M,∀y∈f x,y∈M)(hfg:∀x∈M,∀y∈f x,y∈g x){x:af}(h:Rc f s x):Rc g s x:=by
 induction h with
 |refl=>exact .refl
 |step hx hy ih=>exact ih.step (hfg _ (hx.mem hs hc) _ hy)
theorem Rc.symm(hsy:∀x y,y∈f x->x∈f y)(h:Rc f s x):Rc f x s:=by
 induction h with
 |refl=>exact .refl
 |step _ hy ih=>exact(Rc.refl.step (hsy _ _ hy)).trans ih
structure Dv(f:af->aa af)(s:af)(R W:aa af):Prop where
 nd:R.Nodup
 sR:s∈R
 wR:∀w∈W,w∈R
 rc:∀r∈R,Rc f s r
 cl:∀r∈R,r∈W\/∀y∈f r,y∈R
def dv0(f:af->aa af)(s:af):Dv f s [s] [s]:=⟨by simp,by simp,λw h=>h,λr h=>by rw[em.mp h];exact .refl,λr h=>.inl h⟩
theorem Dv.step(h:Dv f s R (W++[c])):Dv f s (R++news R (f c)) (W++news R (f c)):=by
 have hc:c∈R:=h.wR c 0x2;refine⟨O6 h.nd,dP _ h.sR,λw hw=>?_,λr hr=>?_,λr hr=>?_⟩
 .rcases cj.mp hw with hw|hw
  .exact dP _ (h.wR w (dP _ hw))
  .exact dS _ hw
 .rcases cj.mp hr with hr|hr
  .exact h.rc r hr
  .exact(h.rc c hc).step (news_mem hr)
 .rcases cj.mp hr with hr|hr
  .rcases h.cl r hr with g|g
   .rcases cj.mp g with g|g
    .exact .inl (dP _ g)
    .rw[em.mp g];exact .inr λy hy=>wG hy
   .exact .inr λy hy=>dP _ (g y hy)
  .exact .inl (dS _ hr)
theorem Dv.fin(h:Dv f s R []):x∈R↔Rc f s x:=
 ⟨h.rc x,λg=>g.mem h.sR λr hr=>(h.cl r hr).resolve_left 0x2⟩
theorem Dv.len{s:af}{R W M:aa af}(h:Dv f s R W)(hs:s∈M)(hc:∀x∈M,∀y∈f x,y∈M):R.length<=M.length:=qO _ _ h.nd λx hx=>(h.rc x hx).mem hs hc
structure Bv(f:af->aa af)(s:af)(R:aa af)(n:ah):Prop where
 nd:R.Nodup
 sR:s∈R
 rc:∀r∈R,Rc f s r
 cl:∀r∈R.take n,∀y∈f r,y∈R
def bv0(f:af->aa af)(s:af):Bv f s [s] 0:=⟨by simp,by simp,λr h=>by rw[em.mp h];exact .refl,λr h=>by cases h⟩
theorem Bv.step(h:Bv f s R n)(hn:n<R.length):Bv f s (R++news R (f R[n])) (n+1):=by
 have hc:R[n]∈R:=ig hn;refine⟨O6 h.nd,dP _ h.sR,λr hr=>?_,λr hr=>?_⟩
 .rcases cj.mp hr with hr|hr
  .exact h.rc r hr
  .exact(h.rc _ hc).step (news_mem hr)
 .rw[yp 0x1,ng hn] at hr;rcases cj.mp hr with hr|hr
  .exact λy hy=>dP _ (h.cl r hr y hy)
  .rw[em.mp hr];exact λy hy=>wG hy
theorem Bv.fin(h:Bv f s R n)(hn:R.length<=n):x∈R↔Rc f s x:=by
 have hcl:=h.cl;rw[iO hn] at hcl;exact⟨h.rc x,λg=>g.mem h.sR hcl⟩
theorem Bv.len{R M:aa af}{n:ah}(h:Bv f s R n)(hs:s∈M)(hc:∀x∈M,∀y∈f x,y∈M):R.length<=M.length:=qO _ _ h.nd λx hx=>(h.rc x hx).mem hs hc
def sortI(l:aa af):aa af:=(iK (l.map δ)).map unI
def sortI_perm(l:aa af):(sortI l).Perm l:=by
 have h:=(cA (l.map δ)).map unI;rw[bp] at h;have e:l.map (unI ∘ δ)=l:=by
  conv=>rhs;rw[<-gj l]
  exact c_ λt _=>rfl
 rw[e] at h;exact h
theorem aFg(l:aa af):(sortI l).map δ=iK (l.map δ):=by
 unfold sortI;rw[bp]
 conv=>rhs;rw[<-gj (iK (l.map δ))]
 refine c_ λd hd=>?_
 obtain⟨t,_,rfl⟩:=aE.mp ((cA (l.map δ)).mem_iff.mp hd);rfl
theorem aNj(a b:af):leE (.int a) (.int b)=ag↔a<=b:=by
 have e:(enc (.int b)<enc (.int a))↔b<a:=by
  show([0,b]:aa af)<[0,a]↔b<a;rw[eL,eL];simp
 unfold leE;rw[jm,ly,e];lia
theorem aIz(l:aa af):(sortI l).Pairwise (·<=·):=by
 have h:=dU (l.map δ);rw[<-aFg,eh] at h;exact h.imp λ{a b} h=>(aNj a b).mp h
theorem aAh(h:l.Nodup):(sortI l).Pairwise (·<·):=by
 have h1:=aIz l;have h2:(sortI l).Pairwise (·≠·):=(sortI_perm l).nodup_iff.mpr h;exact(h1.and h2).imp λ{a b} ⟨h1,h2⟩=>by lia
theorem zB:∀{l m:aa af},l.Pairwise (·<·)->m.Pairwise (·<·)->(∀x,x∈l↔x∈m)->l=m
 |[],[],_,_,_=>rfl
 |[],b::m,_,_,h=>by have:=(h b).mpr (bu ..);cases this
 |a::l,[],_,_,h=>by have:=(h a).mp (bu ..);cases this
 |a::l,b::m,h1,h2,h=>by
  rw[rS] at h1 h2;have e:a=b:=by
   rcases bi.mp ((h a).mp (bu ..)) with g|g
   .exact g
   .rcases bi.mp ((h b).mpr (bu ..)) with g'|g'
    .exact g'.symm
    .have:=h2.1 a g;have:=h1.1 b g';lia
  subst e;rw[zB h1.2 h2.2 λx=>⟨λhx=>by
   rcases bi.mp ((h x).mp (bo _ hx)) with g|g
   .have:=h1.1 x hx;lia
   .exact g,λhx=>by
   rcases bi.mp ((h x).mpr (bo _ hx)) with g|g
   .have:=h2.1 x hx;lia
   .exact g⟩]
structure Ps(f:af->aa af)(N1:aa af)(F:aa (aa af)):Prop where
 nd:F.flatten.Nodup
 cv:∀n∈N1,n∈F.flatten
 cl:∀x∈F.flatten,∀y,Rc f x y->y∈F.flatten
 ea:∀p∈F,∃n q,p=n::q/\n∈N1/\p.Pairwise (·<·)/\∀x,x∈p↔Rc f n x
 hd:F.Pairwise λp q=>p.headD 0<q.headD 0
def ps0(f:af->aa af):Ps f [] []:=⟨by simp,by simp,by simp,by simp,by simp⟩
theorem Ps.skip(h:Ps f N1 F)(hn:n∈F.flatten):Ps f (N1++[n]) F:=
 ⟨h.nd,λm hm=>by
  rcases cj.mp hm with g|g
  .exact h.cv m g
  .rw[em.mp g];exact hn,h.cl,λp hp=>let ⟨m,q,h1,h2,h3⟩:=h.ea p hp;⟨m,q,h1,dP _ h2,h3⟩,h.hd⟩
theorem Ps.more(hsy:∀x y,y∈f x->x∈f y)(h:Ps f N1 F)(hs:(N1++n::N2).Pairwise (·<·))(hc:∀x∈N1++n::N2,∀y∈f x,y∈N1++n::N2)(hn:n∉F.flatten)(hR:R.Nodup)(hm:∀x,x∈R↔Rc f n x):Ps f (N1++[n]) (F++[sortI R])/\(∀x∈sortI R,x∉F.flatten):=by
 have mem:∀x,x∈sortI R↔Rc f n x:=λx=>(sortI_perm R).mem_iff.trans (hm x)
 have new:∀x∈sortI R,x∉F.flatten:=λx hx hF=>hn (h.cl x hF n (((mem x).mp hx).symm hsy))
 have big:∀x∈sortI R,n<=x:=λx hx=>by
  have h1:=((mem x).mp hx).mem 0x2 hc;rcases cj.mp h1 with h1|h1
  .exact aT (h.cv x h1) (new x hx)
  .rcases bi.mp h1 with h1|h1
   .lia
   .have:=(nt.mp hs).2.1;rw[rS] at this;have:=this.1 x h1;lia
 have hnR:n∈sortI R:=(mem n).mpr .refl;have hlt:=aAh hR;obtain⟨q,hq⟩:∃q,sortI R=n::q:=by
  cases e:sortI R with
  |nil=>rw[e] at hnR;cases hnR
  |cons a q=>
   rw[e] at hnR hlt;have:=big a (by rw[e];exact bu ..);rw[rS] at hlt;rcases bi.mp hnR with g|g
   .exact⟨q,by rw[g]⟩
   .have:=hlt.1 n g;lia
 refine⟨⟨?_,λm hm=>?_,λx hx y hy=>?_,λp hp=>?_,?_⟩,new⟩
 .rw[ut,uv,fm];exact⟨h.nd,(sortI_perm R).nodup_iff.mpr hR,λa ha b hb z=>new b hb (z▸ha)⟩
 .rw[ut,uv];rcases cj.mp hm with g|g
  .exact dP _ (h.cv m g)
  .rw[em.mp g];exact dS _ hnR
 .rw[ut,uv] at hx ⊢;rcases cj.mp hx with g|g
  .exact dP _ (h.cl x g y hy)
  .exact dS _ ((mem y).mpr (((mem x).mp g).trans hy))
 .rcases cj.mp hp with g|g
  .obtain⟨m,q,h1,h2,h3⟩:=h.ea p g;exact⟨m,q,h1,dP _ h2,h3⟩
  .rw[em.mp g];exact⟨n,q,hq,by simp,hlt,mem⟩
 .rw[nt];refine⟨h.hd,by simp,λp hp r hr=>?_⟩;rw[em.mp hr,hq];obtain⟨m,q',h1,h2,_⟩:=h.ea p hp;rw[h1];exact(nt.mp hs).2.2 m h2 n 0x2
def eE{I:aa α->aa D->Prop}(xs:aa α)(step:∀ys a zs ρ,xs=ys++a::zs->I ys ρ->∃ρ1 ρ2,t (d a) ρ=.ok ρ1/\body ρ1=.ok (.nx ρ2)/\I (ys++[a]) ρ2){ρ:aa D}(h0:I [] ρ):∃ρ',vR t body (xs.map d) ρ=.ok (.nx ρ')/\I xs ρ':=by
 have key:∀zs ys ρ,xs=ys++zs->I ys ρ->∃ρ',vR t body (zs.map d) ρ=.ok (.nx ρ')/\I xs ρ':=by
  intro zs;induction zs with
  |nil=>
   intro ys ρ e h;rw[d4] at e;subst e;exact⟨ρ,rfl,h⟩
  |cons a zs ih=>
   intro ys ρ e h;obtain⟨ρ1,ρ2,h1,h2,h3⟩:=step ys a zs ρ e h;obtain⟨ρ',g1,g2⟩:=ih (ys++[a]) ρ2 (by rw[e,c6];rfl) h3;exact⟨ρ',mL h1 h2 g1,g2⟩
 exact key xs [] ρ rfl h0
def gR(a b:af):eqD (.int a) (.int b)=ϒ (a=b):=by
 show(a==b)=_;by_cases h:a=b
 .subst h;simp
 .rw[cy h];simpa using h
noncomputable def dA(M:aa af)(f:af->aa af):aa (D×D):=M.map λn=>(.int n,.scr ((f n).map δ))
theorem aFh:∀{M:aa af},x∈M->bL (dA M f) (.int x)=ae (.scr ((f x).map δ))
 |m::M,h=>by
  show(if eqD (.int m) (.int x) then _ else _)=_;rw[gR];by_cases e:m=x
  .subst e;simp
  .rw[cy e,ap 0x2];exact aFh ((bi.mp h).resolve_left (Ne.symm e))
noncomputable def aCu(f:af->aa af)(x y:af):af->aa af:=λn=>if n=x then f n++[y] else f n
def stB(f:af->aa af)(t:Tie):af->aa af:=if t.1.1=0 then f else aCu (aCu f t.1.1 t.2.1) t.2.1 t.1.1
def stN(f:af->aa af)(t:Tie):af->aa af:=aCu (aCu f t.1.1 t.2.1) t.2.1 t.1.1
def TY(V:aa Tie):af->aa af:=V.foldl stB λ_=>[]
theorem aAi:z∈aCu f x y n↔z∈f n\/(n=x/\z=y):=by
 unfold aCu;split
 .rename_i h;simp[h]
 .rename_i h;simp[h]
def aFi(t:Tie)(x y:af):Prop:=(t.1.1=x/\t.2.1=y)\/(t.2.1=x/\t.1.1=y)
def aNk:y∈stN f t x↔y∈f x\/aFi t x y:=by
 unfold stN aFi;rw[aAi,aAi];constructor
 .rintro((h|⟨h1,h2⟩)|⟨h1,h2⟩)
  .exact .inl h
  .exact .inr (.inl ⟨h1.symm,h2.symm⟩)
  .exact .inr (.inr ⟨h1.symm,h2.symm⟩)
 .rintro(h|⟨h1,h2⟩|⟨h1,h2⟩)
  .exact .inl (.inl h)
  .exact .inl (.inr ⟨h1.symm,h2.symm⟩)
  .exact .inr ⟨h1.symm,h2.symm⟩
def aNl:y∈stB f t x↔y∈f x\/(t.1.1≠0/\aFi t x y):=by
 unfold stB;split
 .rename_i h;simp[h]
 .rename_i h;have:=aNk (f:=f) (t:=t) (x:=x) (y:=y);unfold stN at this;rw[this];simp[h]
theorem aKk:∀(V:aa Tie)(f:af->aa af),y∈V.foldl stB f x↔y∈f x\/∃t∈V,t.1.1≠0/\aFi t x y
 |[],f=>by simp
 |t::V,f=>by
  rw[iS,aKk V,aNl];simp only[bi,exists_eq_or_imp,yq]
def zE{V:aa Tie}:y∈TY V x↔∃t∈V,t.1.1≠0/\aFi t x y:=by simp[TY,aKk]
theorem aAj(f:af->aa af)(x y n:af):(aCu f x y n).length<=(f n).length+1:=by
 unfold aCu;split<;>simp
theorem aKl:∀(V:aa Tie)(f:af->aa af)(x:af),(V.foldl stB f x).length<=(f x).length+2*V.length
 |[],f,x=>by simp
 |t::V,f,x=>by
  have h1:=aKl V (stB f t) x;have h2:=aAj (aCu f t.1.1 t.2.1) t.2.1 t.1.1 x;have h3:=aAj f t.1.1 t.2.1 x;have h4:(stB f t x).length<=(f x).length+2:=by
   unfold stB;split
   .lia
   .lia
  rw[iS,b9];lia
section
variable {Q:aa Pc} {V:aa Tie}
def mX(w:Wf Q V):∀x∈Q.map (·.1),∀y∈TY V x,y∈Q.map (·.1):=λx _ y hy=>by
 obtain⟨t,ht,h0,hj⟩:=zE.mp hy;rcases w.ok t ht with ⟨h1,_⟩|⟨h1,h2⟩
 .exact aT h1 h0
 .rcases hj with ⟨_,h⟩|⟨_,h⟩
  .exact h▸h2
  .exact h▸h1
theorem T3(V:aa Tie):∀x y,y∈TY V x->x∈TY V y:=λx y hy=>by
 obtain⟨t,ht,h0,hj⟩:=zE.mp hy;exact zE.mpr ⟨t,ht,h0,hj.symm.imp (λ⟨a,b⟩=>⟨b,a⟩) λ⟨a,b⟩=>⟨b,a⟩⟩
end
theorem aFj(h1:a ρ=.ok (.tup xs))(hp:θ xs=ag)(h2:vR t body xs ρ=r):BK (b_ a ai) t body ρ=r:=by
 refine mK ?_ h2;have:=gC (fr:=ai) h1 (show vQ (.tup xs)=.ok xs from rfl);rw[this,lm,D.pure,hp]
theorem Wf.nd{V:aa Tie}(w:Wf Q V):(Q.map (·.1)).Nodup:=w.qs.imp λ{a b} h=>by lia
theorem aFk{V:aa Tie}(w:Wf Q V)(e:Q=ys++a::zs):a.1∉ys.map (·.1):=λz=>by
 have h:=w.qs;rw[e,bS,ba,nt] at h;have:=h.2.2 a.1 z a.1 (bu ..);lia
noncomputable def kvA(M:aa af)(f:af->aa af):KI:=M.map λn=>(n,f n)
theorem aAk(M:aa af)(f:af->aa af):(kvA M f).map (·.1)=M:=by
 unfold kvA;rw[bp];exact List.map_id'' (λ_=>rfl) M
theorem aKm(M:aa af)(f:af->aa af)(x y:af):upK (kvA M f) x y=kvA M (aCu f x y):=by
 unfold upK kvA;rw[bp];refine c_ λn _=>?_
 show(if n=x then (n,f n++[y]) else (n,f n))=(n,aCu f x y n);unfold aCu;split<;>rfl
theorem aKn{V:aa Tie}{r:af}(w:Wf Q V):∀(zs ys:aa Pc)(a b:D),Q=ys++zs->∃a' b',nb1 [2,3] gK (zs.map pcD) (kvA (ys.map (·.1)) λ_=>[]) [bG Q V r,.uD,a,b,.uD,.uD]=.ok (kvA (Q.map (·.1)) λ_=>[],[bG Q V r,.uD,a',b',.uD,.uD])
 |[],ys,a,b,e=>⟨a,b,by rw[e,d4];rfl⟩
 |p::zs,ys,a,b,e=>by
  obtain⟨a',b',h⟩:=aKn w zs (ys++[p]) (.int p.1) (.str p.2) (by rw[e,c6];rfl);refine⟨a',b',?_⟩;show(if ϒ (p.1∈(kvA (ys.map (·.1)) λ_=>[]).map (·.1)) then Res.bad else nb1 [2,3] gK (zs.map pcD) ((kvA (ys.map (·.1)) λ_=>[])++[(p.1,[])]) [bG Q V r,.uD,.int p.1,.str p.2,.uD,.uD])=_;rw[aAk,cy (aFk w e),ap 0x2,<-h,bS];unfold kvA;rw[bS];rfl
theorem aKo{V:aa Tie}(w:Wf Q V):∀(zs:aa Tie)(f:af->aa af)(a b c d:D),(∀t∈zs,t∈V)->nb2 [4,5] (bTB (b2 (bY .ne) (b2 getD fW dM) dM)) (b2 getD fW dM) (b2 getD gH dM) (zs.map bK) (kvA (Q.map (·.1)) f) [bG Q V r,.uD,a,b,c,d]=.ok (kvA (Q.map (·.1)) (zs.foldl stB f))
 |[],f,a,b,c,d,_=>rfl
 |t::zs,f,a,b,c,d,h=>by
  have hc:bTB (b2 (bY .ne) (b2 getD fW dM) dM) [bG Q V r,.uD,a,b,enP t.1,enP t.2]=.ok (!ϒ (t.1.1=0)):=bU (aJ rfl rfl (by rw[<-gR];rfl));have ih:=aKo (r:=r) w zs (stB f t) a b (enP t.1) (enP t.2) λx hx=>h x (by simp[hx])
  rw[iS,<-ih];rw[ba,nb2,show tgN [4,5] (bK t) [bG Q V r,.uD,a,b,c,d]=.ok [bG Q V r,.uD,a,b,enP t.1,enP t.2] from rfl,ε,hc,ε];by_cases h0:t.1.1=0
  .rw[bz h0,stB,ao h0];rfl
  .have hm:t.1.1∈Q.map (·.1)/\t.2.1∈Q.map (·.1):=(w.ok t (h t 0x2)).resolve_left λz=>h0 z.1
   rw[cy h0,stB,ap h0,<-aKm,<-aKm,ao 0x3,show b2 getD fW dM [bG Q V r,.uD,a,b,enP t.1,enP t.2]=.ok (.int t.1.1) from rfl,ε,show b2 getD gH dM [bG Q V r,.uD,a,b,enP t.1,enP t.2]=.ok (.int t.2.1) from rfl,ε];dsimp only;rw[aAk,bz hm.1,bz hm.2];rfl
theorem O7{Q:aa Pc}{V:aa Tie}{r:af}(w:Wf Q V):bV 1 nH [bG Q V r]=.ok (.dct (dA (Q.map (·.1)) (TY V))):=by
 refine(cJ rfl).trans ?_;have ql:=w.ql;have vl:=w.vl;obtain⟨x2,x3,e1⟩:=aKn w Q [] .uD .uD rfl;have e2:=aKo (r:=r) w V (λ_=>[]) x2 x3 .uD .uD λt h=>h
 have i1:b_ 0x21 ai [bG Q V r,.dct [],.uD,.uD,.uD,.uD]=.ok (Q.map pcD,ag):=(gC (fr:=ai) (d:=.tup (Q.map pcD)) rfl rfl).trans (by rw[lm,wC]);have i2:b_ 0x2c ai [bG Q V r,.uD,x2,x3,.uD,.uD]=.ok (V.map bK,ag):=(gC (fr:=ai) (d:=.tup (V.map bK)) rfl rfl).trans (by rw[lm,wD]);have e:sE [bG Q V r,.uD,.uD,.uD,.uD,.uD]=.ok (.rt (.dct (dA (Q.map (·.1)) (TY V)))):=by
  refine aL (ρ':=[bG Q V r,.dct [],.uD,.uD,.uD,.uD]) rfl ?_;unfold sNb;rw[i1,ε];dsimp only[List.getD_cons_succ,List.getD_cons_zero];rw[ao (by rw[aS,bz (by rw[aS] at ql;lia)];rfl)];have e1':nb1 [2,3] gK (Q.map pcD) [] ([bG Q V r,.dct [],.uD,.uD,.uD,.uD].set 1 .uD)=.ok (kvA (Q.map (·.1)) λ_=>[],[bG Q V r,.uD,x2,x3,.uD,.uD]):=e1;rw[e1',ε];dsimp only;rw[i2,ε];dsimp only;rw[ao (by rw[aS,bz 0x1];rfl),e2,ε];show τ (Fl.rt (D.dct ((kvA (Q.map (·.1)) (TY V)).map λp=>(δ p.1,ο (p.2.map δ)))))=_;unfold kvA;rw[bp];rfl
 show(do let r <- sE _;aDp r)=_;rw[show([bG Q V r]++dg (6-1) D.uD)=[bG Q V r,.uD,.uD,.uD,.uD,.uD] from rfl,e];rfl
noncomputable def kT(R:aa af):aa (D×D):=R.map λr=>(.int r,.bl ag)
theorem aFl:∀{R:aa af},(bL (kT R) (.int x)).isSome=ϒ (x∈R)
 |[]=>by simp[kT,bL]
 |r::R=>by
  show(if eqD (.int r) (.int x) then ae (υ ag) else bL (kT R) (.int x)).isSome=_;rw[gR];by_cases e:r=x
  .subst e;simp
  .rw[cy e,ap 0x2];refine aFl.trans (lr.mpr ?_);simp[Ne.symm e]
theorem aFm:∀{R:aa af},x∉R->putD (kT R) (.int x) (.bl ag)=kT (R++[x])
 |[],_=>rfl
 |r::R,h=>by
  rw[bi,gz] at h;show(if eqD (.int r) (.int x) then _ else _)=_;rw[gR,cy (Ne.symm h.1),ap 0x2];show(δ r,υ ag)::putD (kT R) (.int x) (.bl ag)=_;rw[aFm h.2];rfl
theorem aFn(R:aa af)(x:af):o7 (kT R) (.int x)=ag:=by
 unfold o7;rw[bj];refine⟨rfl,dy.mpr λp hp=>?_⟩;obtain⟨r,_,rfl⟩:=aE.mp hp;rfl
def zF(R:aa af)(x:af):bY .uF (.int x) (.dct (kT R))=.ok (.bl (!ϒ (x∈R))):=by
 show(if o7 (kT R) (.int x) then τ (υ (!(bL (kT R) (.int x)).isSome)) else .bad)=_;rw[aFn,ao rfl,aFl]
theorem FN(U:aa af):bF (U.map δ)=ag:=by
 unfold bF;refine dy.mpr λd hd=>?_
 obtain⟨t,ht,rfl⟩:=aE.mp hd;have hk:fY ((U.map δ).headD .non)=1:=by
  cases U with
  |nil=>cases ht
  |cons u U=>rfl
 rw[hk];have:((U.map δ).all λb=>(jY .lt (.int t) b).isSome)=ag:=by
  refine dy.mpr λb hb=>?_
  obtain⟨u,_,rfl⟩:=aE.mp hb;rfl
 rw[this];rfl
def aNm(R:aa af):nQ (kT R)=R.map δ:=by
 unfold nQ kT;rw[bp];rfl
theorem aFo(R:aa af):sortedK [.dct (kT R)]=.ok (.lst ((sortI R).map δ)):=by
 have h1:(kT R).all (λp=>!isTup p.1)=ag:=by
  refine dy.mpr λp hp=>?_
  obtain⟨r,_,rfl⟩:=aE.mp hp;rfl
 show(if (kT R).all (λp=>!isTup p.1)&&bF (nQ (kT R)) then τ (ξ (iK (nQ (kT R)))) else .bad)=_;rw[h1,aNm,FN,aFg];rfl
theorem wH(a:af):∀(ys R:aa af),news R (ys++[a])=news R ys++(if a∈R++news R ys then [] else [a])
 |[],R=>by simp[news]
 |y::ys,R=>by
  rw[eu,news,news];split
  .exact wH a ys R
  .rw[wH a ys (R++[y])];simp
theorem zG:∀(ys R:aa af),(news R ys).length<=ys.length
 |[],R=>by simp[news]
 |y::ys,R=>by
  rw[news];split
  .have:=zG ys R;simp only[b9];lia
  .have:=zG ys (R++[y]);simp only[b9];lia
theorem aAl(h:f ρ=.ok (.scr xs))(hp:θ xs=ag):aMv f ρ=.ok (xs,ag):=by
 unfold aMv;rw[h,ε];dsimp only;rw[ao hp]
def aS0(h:c∈M):getD (.dct (dA M f)) (.int c)=.ok (.scr ((f c).map δ)):=by
 show ι (bL (dA M f) (.int c))=_;rw[aFh h];rfl
section
variable {M:aa af} {f:af->aa af} {s:af}
def hst(M:aa af)(f:af->aa af)(s:af)(R W:aa af)(x y:D):aa D:=[.dct (dA M f),.int s,.dct (kT R),.lst (W.map δ),x,y]
theorem aCd(hR:R.length<=1000)(hW:W.length<=1000)(hf:(f c).length<=5000):∃y',vR (tg1 5) hbody ((f c).map δ) (hst M f s R W (.int c) y)=.ok (.nx (hst M f s (R++news R (f c)) (W++news R (f c)) (.int c) y')):=by
 obtain⟨ρ,e,y',rfl⟩:=eE (t:=tg1 5) (body:=hbody) (d:=δ) (I:=λys ρ=>∃y',ρ=hst M f s (R++news R ys) (W++news R ys) (.int c) y') (f c) (λys a zs ρ e ⟨y',h⟩=>by
  subst h;have hl:ys.length<=5000:=by rw[e] at hf;simp at hf;lia
  have hn:=zG ys R;refine⟨hst M f s (R++news R ys) (W++news R ys) (.int c) (.int a),hst M f s (R++news R (ys++[a])) (W++news R (ys++[a])) (.int c) (.int a),rfl,?_,_,rfl⟩;rw[wH];by_cases ha:a∈R++news R ys
  .rw[ao ha,d4];exact mC (bU (aJ rfl rfl ((zF _ a).trans (by rw[bz ha];rfl)))) rfl
  .rw[ap ha,<-c6,<-c6];refine uW (bU (aJ rfl rfl ((zF _ a).trans (by rw[cy ha];rfl)))) ?_;refine aL (rN (i:=2) (kvs:=kT (R++news R ys)) (k:=.int a) (d:=.bl ag) rfl rfl rfl (by rw[kT,aS,cx,bD];lia) (aFn _ a) rfl) ?_;refine(lN (i:=3) (xs:=(W++news R ys).map δ) (d:=.int a) rfl rfl (by rw[aS,cx,bD];lia) rfl).trans ?_;rw[aFm ha];unfold hst;rw[bS (l₁:=W++news R ys)];rfl) (ρ:=hst M f s R W (.int c) y) ⟨y,by simp[news]⟩
 exact⟨y',e⟩
theorem aFp(hs:s∈M)(hc:∀x∈M,∀y∈f x,y∈M)(hM:M.length<=100)(hf:∀x,(f x).length<=5000):∀(m:ah),m<=500->∀(R W:aa af)(x y:D),Dv f s R W->M.length+W.length<=m+R.length->∃R' x' y',Dv f s R' []/\∀fuel,m<fuel->JN (bTr j6) hloop fuel (hst M f s R W x y)=.ok (.nx (hst M f s R' [] x' y')):=by
 intro m;induction m with
 |zero=>
  intro _ R W x y dv hm;have:=dv.len hs hc;have hW:W=[]:=xt 0x1;subst hW;refine⟨R,x,y,dv,λfuel hfu=>?_⟩;obtain⟨k,rfl⟩:∃k,fuel=k+1:=⟨fuel-1,by lia⟩
  exact xM rfl
 |succ m ih=>
  intro hm5 R W x y dv hm;rcases List.eq_nil_or_concat W with rfl|⟨W0,c,rfl⟩
  .refine⟨R,x,y,dv,λfuel hfu=>?_⟩;obtain⟨k,rfl⟩:∃k,fuel=k+1:=⟨fuel-1,by lia⟩
   exact xM rfl
  .rw[List.concat_eq_append] at dv hm ⊢;have hR:=dv.len hs hc;have hWR:(W0++[c]).length<=m+1+R.length:=by lia
   have hcM:c∈M:=(dv.rc c (dv.wR c 0x2)).mem hs hc;simp only[cx,iF] at hm hWR;obtain⟨y1,e1⟩:=aCd (M:=M) (f:=f) (s:=s) (R:=R) (W:=W0) (c:=c) (y:=y) 0x1 0x1 (hf c);obtain⟨R',x',y',d1,d2⟩:=ih 0x1 (R++news R (f c)) (W0++news R (f c)) (.int c) y1 dv.step (by simp only[cx];lia);refine⟨R',x',y',d1,λfuel hfu=>?_⟩;obtain⟨k,rfl⟩:∃k,fuel=k+1:=⟨fuel-1,by lia⟩
   have ht:(bTr j6) (hst M f s R (W0++[c]) x y)=.ok ag:=by
    show aTk (.lst ((W0++[c]).map δ))=_;show τ (!((W0++[c]).map δ).isEmpty)=_;simp
   refine wF ht (ρ':=hst M f s (R++news R (f c)) (W0++news R (f c)) (.int c) y1) ?_ (d2 k 0x1);refine aL (ρ':=hst M f s R W0 (.int c) y) ?_ (mK (aAl (aJ (x:=.dct (dA M f)) (y:=.int c) rfl rfl (aS0 hcM)) (eF _)) e1);have hp:((W0++[c]).map δ)[((W0++[c]).map δ).length-1]?=ae (.int c):=by simp
   show(match ((W0++[c]).map δ)[((W0++[c]).map δ).length-1]? with|some z=>τ (Fl.nx (((hst M f s R (W0++[c]) x y).set 3 (.lst ((W0++[c]).map δ).dropLast)).set 4 z))|none=>.bad)=_;rw[hp];simp[hst]
theorem aCe(hs:s∈M)(hc:∀x∈M,∀y∈f x,y∈M)(hM:M.length<=100)(hf:∀x,(f x).length<=5000):∃R:aa af,R.Nodup/\(∀x,x∈R↔Rc f s x)/\bV 2 d_ [.dct (dA M f),.int s]=.ok (.lst ((sortI R).map δ)):=by
 obtain⟨R,x,y,dv,e⟩:=aFp hs hc hM hf M.length 0x1 [s] [s] .uD .uD (dv0 f s) 0x2;refine⟨R,dv.nd,λx=>dv.fin,(cJ rfl).trans ?_⟩;have fin:jR [.dct (dA M f),.int s,.uD,.uD,.uD,.uD]=.ok (.rt (.lst ((sortI R).map δ))):=by
  refine aL (dG 0x10 rfl) ?_;refine aL (dG rfl rfl) ?_;refine aL (e 1000 0x1) ?_;exact d8 (aK 0x11 (aFo R)) rfl
 show(do let r <- jR _;aDp r)=_;rw[show([D.dct (dA M f),δ s]++dg (6-2) D.uD)=[.dct (dA M f),.int s,.uD,.uD,.uD,.uD] from rfl,fin];rfl
end
theorem FP(t:Tie)(V:aa Tie):ends (t::V)=t.1::t.2::ends V:=rfl
def lY{V:aa Tie}(h:t∈V):t.1∈ends V/\t.2∈ends V:=by
 unfold ends;exact⟨jc.mpr ⟨t,h,by simp⟩,jc.mpr ⟨t,h,by simp⟩⟩
def GZ(V:aa Tie)(e f:Pt):Prop:=(e,f)∈V\/(f,e)∈V
theorem GZ.mem{V:aa Tie}(h:GZ V e f):e∈ends V/\f∈ends V:=by
 rcases h with h|h
 .exact lY h
 .exact⟨(lY h).2,(lY h).1⟩
theorem GZ.symm{V:aa Tie}(h:GZ V e f):GZ V f e:=Or.symm h
def aNn{V:aa Tie}(h:e∈ends V):∃f,GZ V e f:=by
 obtain⟨t,ht,h⟩:=jc.mp h;rcases bi.mp h with h|h
 .exact⟨t.2,.inl (by rw[h];exact ht)⟩
 .exact⟨t.1,.inr (by rw[show e=t.2 by simpa using h];exact ht)⟩
theorem T4{V:aa Tie}(h:GZ (t::V) e f)(h1:t.1≠e)(h2:t.2≠e):GZ V e f:=by
 rcases h with h|h
 .rcases bi.mp h with h|h
  .exact aT (by rw[<-h]) h1
  .exact .inl h
 .rcases bi.mp h with h|h
  .exact aT (by rw[<-h]) h2
  .exact .inr h
def wI{V:aa Tie}{e f:Pt}(hn:(ends (t::V)).Nodup)(h:GZ (t::V) e f):(t.1=e->t.2=f)/\(t.2=e->t.1=f):=by
 rw[FP,df,df,bi,gz] at hn;have key:e=t.1\/e=t.2->t=(e,f)\/t=(f,e):=λhe=>by
  have hv:e∉ends V:=by
   rcases he with he|he
   .rw[he];exact hn.1.2
   .rw[he];exact hn.2.1
  rcases h with h|h
  .rcases bi.mp h with h|h
   .exact .inl h.symm
   .exact aT (lY h).1 hv
  .rcases bi.mp h with h|h
   .exact .inr h.symm
   .exact aT (lY h).2 hv
 refine⟨λz=>?_,λz=>?_⟩
 .rcases key (.inl z.symm) with h|h
  .rw[h]
  .rw[h] at hn z;exact aT (show f=e from z) hn.1.1
 .rcases key (.inr z.symm) with h|h
  .rw[h] at hn z;exact aT (show e=f from z.symm) hn.1.1
  .rw[h]
theorem T5{e f g:Pt}:∀{V:aa Tie},(ends V).Nodup->GZ V e f->GZ V e g->f=g
 |[],_,h,_=>by rcases h with h|h<;>cases h
 |t::V,hn,h1,h2=>by
  by_cases z:t.1=e
  .rw[<-(wI hn h1).1 z,<-(wI hn h2).1 z]
  .by_cases y:t.2=e
   .rw[<-(wI hn h1).2 y,<-(wI hn h2).2 y]
   .rw[FP,df,df] at hn;exact T5 hn.2.2 (T4 h1 z y) (T4 h2 z y)
def aNo{V:aa Tie}:b_ 0x2c ai (bG Q V r::ρ)=.ok (V.map bK,ag):=by
 refine(gC 0x10 rfl).trans ?_;rw[wD];rfl
noncomputable def norm(t:Tie):Tie:=(if ltP t.2 t.1 then t.2 else t.1,if ltP t.1 t.2 then t.2 else t.1)
def kvD(kv:Pt×Pt):D×D:=(enP kv.1,enP kv.2)
noncomputable def aS1:aa (Pt×Pt)->Pt->Pt->aa (Pt×Pt)
 |[],p,q=>[(p,q)]
 | (k,v)::r,p,q=>if k=p then (k,q)::r else (k,v)::aS1 r p q
noncomputable def IW:aa (Pt×Pt)->Pt->az Pt
 |[],_=>aj
 | (k,v)::r,p=>if k=p then ae v else IW r p
theorem aFq(p q:Pt):∀m:aa (Pt×Pt),putD (m.map kvD) (enP p) (enP q)=(aS1 m p q).map kvD
 |[]=>rfl
 | (k,v)::r=>by
  rw[ba,kvD,putD,sO,aS1];by_cases h:k=p
  .simp[h,kvD]
  .simp only[h,De,iv,gd];rw[aFq p q r];rfl
theorem YD(p:Pt):∀m:aa (Pt×Pt),bL (m.map kvD) (enP p)=(IW m p).map enP
 |[]=>rfl
 | (k,v)::r=>by
  rw[ba,kvD,bL,sO,IW];by_cases h:k=p
  .simp[h]
  .simp only[h,De,iv,gd];exact YD p r
def aNp(m:aa (Pt×Pt))(p:Pt):o7 (m.map kvD) (enP p)=ag:=by
 unfold o7;rw[show keyOk (enP p)=ag from rfl,oP,dy];intro x hx;obtain⟨y,_,rfl⟩:=aE.mp hx;rfl
theorem O8:∀{m:aa (Pt×Pt)},p∉m.map (·.1)->aS1 m p q=m++[(p,q)]
 |[],_=>rfl
 | (k,v)::r,h=>by
  rw[ba,bi,gz] at h;rw[aS1,ap (λz=>h.1 z.symm),O8 h.2];rfl
theorem T6:∀{m:aa (Pt×Pt)},(m.map (·.1)).Nodup->(p,q)∈m->IW m p=ae q
 | (k,v)::r,hn,h=>by
  rw[ba,df] at hn;rw[IW];rcases bi.mp h with e|h
  .cases e;rw[ao rfl]
  .rw[ap,T6 hn.2 h];rintro rfl;exact hn.1 (aE.mpr ⟨_,h,rfl⟩)
noncomputable def both(T:aa Tie):aa (Pt×Pt):=T.flatMap λt=>[(t.1,t.2),(t.2,t.1)]
def wJ(T:aa Tie):(both T).map (·.1)=ends T:=by
 induction T with
 |nil=>rfl
 |cons t T ih=>simp only[both,ends,hI,bS] at *;rw[ih];rfl
theorem aJ0(T:aa Tie):(both T).length=2*T.length:=by
 induction T with
 |nil=>rfl
 |cons t T ih=>simp only[both,hI,cx,b9,eW] at *;lia
theorem aJ1{V:aa Tie}:GZ V e f->(e,f)∈both V:=λh=>by
 unfold both;rcases h with h|h
 .exact jc.mpr ⟨_,h,by simp⟩
 .exact jc.mpr ⟨_,h,by simp⟩
def look_both{V:aa Tie}(hn:(ends V).Nodup)(h:GZ V e f):IW (both V) e=ae f:=T6 (by rw[wJ];exact hn) (aJ1 h)
theorem JW:∀(T S:aa Tie)(p q:D),(ends (S++T)).Nodup->2*(S++T).length<lim->∃p' q',vR (tgN [2,3]) aRh (T.map bK) [a,.dct ((both S).map kvD),p,q]=.ok (.nx [a,.dct ((both (S++T)).map kvD),p',q'])
 |[],S,p,q,_,_=>⟨p,q,by rw[d4];rfl⟩
 |t::T,S,p,q,hn,hl=>by
  have hS:S++t::T=S++[t]++T:=by simp
  obtain⟨p',q',e⟩:=JW T (S++[t]) (enP t.1) (enP t.2) (by rw[<-hS];exact hn) (by rw[<-hS];exact hl);refine⟨p',q',?_⟩;rw[hS,<-e];have hb:both (S++[t])=(both S++[(t.1,t.2)])++[(t.2,t.1)]:=by simp[both]
  have hd:(ends S++([t.1,t.2]++ends T)).Nodup:=by
   have:ends (S++t::T)=ends S++([t.1,t.2]++ends T):=by simp[ends]
   rwa [this] at hn
  have n1:t.1∉(both S).map (·.1):=by
   rw[wJ];intro h;exact(fm.mp hd).2.2 _ h t.1 0x2 rfl
  have n2:t.2∉(both S++[(t.1,t.2)]).map (·.1):=by
   rw[bS,wJ];intro h;rcases cj.mp h with h|h
   .exact(fm.mp hd).2.2 _ h t.2 0x2 rfl
   .have e:t.2=t.1:=by simpa using h
    have:=(fm.mp (fm.mp hd).2.1).1;rw[e] at this;simp at this
  have hlen:(both S).length+1<lim:=by
   rw[aJ0];rw[cx,b9] at hl;lia
  have s1:=aFq t.1 t.2 (both S);have s2:=aFq t.2 t.1 (both S++[(t.1,t.2)]);rw[O8 n1] at s1;rw[O8 n2,<-hb] at s2;refine mL rfl ?_ rfl;refine aL (ρ':=[a,.dct ((both S++[(t.1,t.2)]).map kvD),enP t.1,enP t.2]) ?_ ?_
  .rw[<-s1];exact rN (k:=enP t.1) (d:=enP t.2) rfl rfl rfl (by rw[aS];lia) (aNp _ _) rfl
  .rw[<-s2];exact rN (i:=1) (kvs:=(both S++[(t.1,t.2)]).map kvD) (k:=enP t.2) (d:=enP t.1) rfl rfl rfl (by rw[aS,cx];exact hlen) (aNp _ _) rfl
theorem aJ2{V:aa Tie}{r:af}(hn:(ends V).Nodup)(hl:2*V.length<lim):bV 1 tY [bG Q V r]=.ok (.dct 0x1f):=by
 obtain⟨p',q',e⟩:=JW V [] .uD .uD (by simpa using hn) (by simpa using hl);refine(cJ rfl).trans (call_v ?_);refine aL (dG rfl rfl) ?_;refine aL (mK aNo e) ?_;rfl
noncomputable def unP:D->Pt
 |.tup [.int a,.int b]=>(a,b)
 |_=>(0,0)
def aS2(p:Pt):unP (enP p)=p:=rfl
def nY(U:aa Pt):aa Pt:=(iK (U.map enP)).map unP
def oO(U:aa Pt):(nY U).Perm U:=by
 have h:=(cA (U.map enP)).map unP;rw[bp] at h;have e:U.map (unP ∘ enP)=U:=by
  conv=>rhs;rw[<-gj U]
  exact c_ λt _=>aS2 t
 rw[e] at h;exact h
theorem aFr(U:aa Pt):(nY U).map enP=iK (U.map enP):=by
 unfold nY;rw[bp]
 conv=>rhs;rw[<-gj (iK (U.map enP))]
 refine c_ λd hd=>?_
 obtain⟨t,_,rfl⟩:=aE.mp ((cA (U.map enP)).mem_iff.mp hd);rfl
theorem I_(U:aa Pt):bF (U.map enP)=ag:=by
 unfold bF;refine dy.mpr λd hd=>?_
 obtain⟨t,ht,rfl⟩:=aE.mp hd;have hk:fY ((U.map enP).headD .non)=3:=by
  cases U with
  |nil=>cases ht
  |cons u U=>rfl
 have h5:fY (enP t)=3:=rfl;have hp:(enP t).plain=ag:=rfl;have hq:(enP t).fV aR=ag:=rfl;rw[hk,h5,hp,hq];refine dy.mpr λb hb=>?_
 obtain⟨u,_,rfl⟩:=aE.mp hb;rw[sS];rfl
theorem aCf(hn:U.Nodup):(nY U).Pairwise ltP:=by
 have h:=dU (U.map enP);rw[<-aFr,eh] at h;have hn':(nY U).Nodup:=(oO U).nodup_iff.mpr hn;refine(List.pairwise_and_iff.mpr ⟨h,hn'⟩).imp λ{a b} hab=>?_
 obtain⟨h1,h2⟩:=hab;have e:=BL (enP b) (enP a) _ rfl rfl (sS b a);unfold leE at h1;rw[<-e] at h1;have h3:¬ltP b a:=by simpa using h1
 unfold ltP at h3 ⊢;have:a.1≠b.1\/a.2≠b.2:=by
  by_cases z:a.1=b.1
  .exact .inr λy=>h2 (Prod.ext z y)
  .exact .inl z
 lia
def mt(V:aa Tie)(e:Pt):Pt:=(IW (both V) e).getD e
theorem O9{V:aa Tie}(hn:(ends V).Nodup)(h:GZ V e f):mt V e=f:=by
 unfold mt;rw[look_both hn h];rfl
theorem FQ{V:aa Tie}(hn:(ends V).Nodup)(h:e∈ends V):GZ V e (mt V e):=by
 obtain⟨f,hf⟩:=aNn h;rw[O9 hn hf];exact hf
noncomputable def pS(p:aa af):D:=.scr (p.map δ)
theorem aFs(h1:fZ i ρ=.ok (.scr xs))(h2:vR t body xs ρ=r):aEm i t body ρ=r:=by
 unfold aEm;rw[h1,ε];exact h2
def aS3(h:f ρ=.ok (.lst xs))(hp:θ xs=ag):bFz f ρ=.ok (.scr xs):=by
 unfold bFz;rw[h,ε];show(if θ xs then _ else _)=_;rw[hp,ao rfl]
theorem Ps.sub{N1 N:aa af}(h:Ps f N1 F)(hN:∀n∈N1,n∈N)(hc:∀x∈N,∀y∈f x,y∈N):∀x∈F.flatten,x∈N:=λx hx=>by
 obtain⟨p,h1,h2⟩:=yr.mp hx;obtain⟨n,q,e,h3,_,h4⟩:=h.ea p h1;exact((h4 x).mp h2).mem (hN n h3) hc
theorem Ps.len{N1 N:aa af}{F:aa (aa af)}(h:Ps f N1 F)(hN:∀n∈N1,n∈N)(hc:∀x∈N,∀y∈f x,y∈N):F.flatten.length<=N.length:=qO _ _ h.nd (h.sub hN hc)
def aCv(Q:aa Pc)(V:aa Tie):D:=.dct (dA (Q.map (·.1)) (TY V))
theorem aJ3(nd:p.Nodup)(hd:∀x∈p,x∉K)(hl:p.length+K.length<=100000):∃g',vR (tg1 7) (QG 2 o8 (bC (.bl ag))) (p.map δ) [a,b,.dct (kT K),c,d,e,f,g]=.ok (.nx [a,b,.dct (kT (K++p)),c,d,e,f,g']):=by
 obtain⟨ρ,h,x,rfl⟩:=eE (t:=tg1 7) (body:=QG 2 o8 (bC (.bl ag))) (d:=δ) (I:=λys ρ=>∃x,ρ=[a,b,.dct (kT (K++ys)),c,d,e,f,x]) p (λys n zs ρ e0 ⟨x,h⟩=>by
  subst h;have hn:n∉K++ys:=λz=>by
   rcases cj.mp z with z|z
   .exact hd n (by rw[e0];simp) z
   .rw[e0] at nd;exact(fm.mp nd).2.2 n z n (bu ..) rfl
  have hyl:ys.length<=p.length:=by rw[e0];simp
  refine⟨[a,b,.dct (kT (K++ys)),c,d,e,f,.int n],[a,b,.dct (kT (K++(ys++[n]))),c,d,e,f,.int n],rfl,?_,_,rfl⟩;refine(rN (i:=2) (kvs:=kT (K++ys)) (k:=.int n) (d:=.bl ag) rfl rfl rfl (by rw[kT,aS,cx,bD];lia) (aFn _ n) rfl).trans ?_;rw[aFm hn,c6];rfl) (ρ:=[a,b,.dct (kT K),c,d,e,f,g]) ⟨g,by rw[d4]⟩
 exact⟨x,h⟩
theorem aJ4{V:aa Tie}{r:af}(w:Wf Q V):∃F:aa (aa af),Ps (TY V) (Q.map (·.1)) F/\F.length<=40/\bV 1 xG [bG Q V r]=.ok (.lst (F.map pS)):=by
 have ql:=w.ql;have hcl:=mX w;have hb:∀n,(TY V n).length<=5000:=λn=>by have:=aKl V (λ_=>[]) n;have:=w.vl;unfold TY;simp at *;lia
 obtain⟨ρ1,e1,F,x4,x5,x6,x7,ps,hl,rfl⟩:=eE (t:=tgN [4,5]) (body:=aRm) (d:=pcD) (I:=λys ρ=>∃F x4 x5 x6 x7,Ps (TY V) (ys.map (·.1)) F/\F.length<=ys.length/\ρ=[bG Q V r,aCv Q V,.dct (kT F.flatten),.lst (F.map pS),x4,x5,x6,x7]) Q (λys a zs ρ e ⟨F,x4,x5,x6,x7,ps,hl,h⟩=>by
  subst h;have eN:Q.map (·.1)=ys.map (·.1)++a.1::zs.map (·.1):=by rw[e,bS];rfl
  have hsub:∀n∈ys.map (·.1),n∈Q.map (·.1):=λn hn=>by rw[eN];exact dP _ hn
  have haN:a.1∈Q.map (·.1):=by rw[eN];simp
  have hyl:ys.length<=40:=by rw[eN] at ql;simp at ql;lia
  have hK:=ps.len hsub hcl;rw[bS,cx];refine⟨[bG Q V r,aCv Q V,.dct (kT F.flatten),.lst (F.map pS),.int a.1,.str a.2,x6,x7],?_⟩;by_cases hn:a.1∈F.flatten
  .refine⟨_,rfl,mC (bU (aJ (x:=.int a.1) rfl rfl ((zF _ a.1).trans (by rw[bz hn];rfl)))) rfl,F,_,_,_,_,ps.skip hn,by lia,rfl⟩
  .obtain⟨R,r1,r2,r3⟩:=aCe (M:=Q.map (·.1)) (f:=TY V) haN hcl 0x1 hb;obtain⟨ps2,hnew⟩:=ps.more (T3 V) (by rw[<-eN];exact w.qs) (by rw[<-eN];exact hcl) hn r1 r2;have hnd:(sortI R).Nodup:=(sortI_perm R).nodup_iff.mpr r1;have hlR:(sortI R).length<=40:=dj (qO _ _ hnd λx hx=>((r2 x).mp ((sortI_perm R).mem_iff.mp hx)).mem haN hcl) ql;obtain⟨g',hg⟩:=aJ3 (a:=bG Q V r) (b:=aCv Q V) (c:=.lst (F.map pS)) (d:=.int a.1) (e:=.str a.2) (f:=pS (sortI R)) (g:=x7) (K:=F.flatten) hnd hnew 0x1;refine⟨[bG Q V r,aCv Q V,.dct (kT (F.flatten++sortI R)),.lst ((F++[sortI R]).map pS),.int a.1,.str a.2,pS (sortI R),g'],rfl,uW (bU (aJ (x:=.int a.1) rfl rfl ((zF _ a.1).trans (by rw[cy hn];rfl)))) ?_,F++[sortI R],.int a.1,.str a.2,pS (sortI R),g',ps2,by simp;lia,?_⟩
   .have r3':bV 2 d_ [aCv Q V,.int a.1]=.ok (.lst ((sortI R).map δ)):=r3;have c1:aN (bV 2 d_) (aD gD (aD fW aV)) [bG Q V r,aCv Q V,.dct (kT F.flatten),.lst (F.map pS),.int a.1,.str a.2,x6,x7]=.ok (.lst ((sortI R).map δ)):=aK 0xf r3';refine aL (ρ':=[bG Q V r,aCv Q V,.dct (kT F.flatten),.lst (F.map pS),.int a.1,.str a.2,pS (sortI R),x7]) (bA (i:=6) (aS3 c1 (eF _))) ?_;refine aL (ρ':=[bG Q V r,aCv Q V,.dct (kT (F.flatten++sortI R)),.lst (F.map pS),.int a.1,.str a.2,pS (sortI R),g']) (aFs (i:=6) (xs:=(sortI R).map δ) rfl hg) ?_;refine(lN (i:=3) (xs:=F.map pS) (d:=pS (sortI R)) rfl rfl (by rw[aS,bD];lia) (eF _)).trans ?_;rw[bS];rfl
   .rw[ut,uv]) (ρ:=[bG Q V r,aCv Q V,.dct [],.lst [],.uD,.uD,.uD,.uD]) ⟨[],_,_,_,_,ps0 _,bd _,rfl⟩
 refine⟨F,ps,by rw[aS] at ql;lia,(cJ rfl).trans ?_⟩;refine call_v (d:=.lst (F.map pS)) ?_;refine aL (ρ':=[bG Q V r,aCv Q V,.uD,.uD,.uD,.uD,.uD,.uD]) (bA (i:=1) (aK (xs:=[bG Q V r]) 0x11 (O7 w))) ?_;refine aL (ρ':=[bG Q V r,aCv Q V,.dct [],.uD,.uD,.uD,.uD,.uD]) (dG (i:=2) rfl rfl) ?_;refine aL (ρ':=[bG Q V r,aCv Q V,.dct [],.lst [],.uD,.uD,.uD,.uD]) (dG (i:=3) rfl rfl) ?_;refine aL (aFj (xs:=Q.map pcD) rfl (wC Q) e1) ?_;rfl
theorem FZ:∀{Q:aa Pc},Q.Pairwise LtN->pc∈Q->Q.find? (λc=>ϒ (c.1=pc.1))=ae pc
 |[],_,h=>by cases h
 |c::Q,hp,h=>by
  rw[iL];rcases bi.mp h with rfl|h
  .simp
  .have h1:=(rS.mp hp).1 pc h;have:¬c.1=pc.1:=by unfold LtN at h1;lia
   rw[cy this];exact FZ (rS.mp hp).2 h
def vq(kvs:aa (D×D))(Q:aa Pc)(n:af):ah:=((Q.find? λc=>ϒ (c.1=n)).map λc=>vOf kvs c.2+1).getD 0
theorem YF(h:Q.Pairwise LtN)(hp:pc∈Q):vq kvs Q pc.1=vOf kvs pc.2+1:=by
 unfold vq;rw[FZ h hp];rfl
theorem aFt{V:aa Tie}(w:Net kvs Q V)(hp:pc∈Q):vOf kvs pc.2<=6:=by
 obtain⟨v,h1,h2⟩:=w.sk pc hp;rw[aAd h2];exact h1
theorem qT{V:aa Tie}(w:Net kvs Q V)(hp:pc∈Q)(h:af):(pc.1,h)∈ends V↔0<=h/\h<=vOf kvs pc.2:=by
 obtain⟨S,_,_,p⟩:=w.rims;rw[p.mem_iff,cj,xK];constructor
 .rintro(⟨c,h1,h2,h3⟩|z)
  .have e:c=pc:=by
    have a:=FZ w.qs h1;have b:=FZ w.qs hp;have h2':c.1=pc.1:=h2;rw[h2',b] at a;cases a;rfl
   subst e;exact h3
  .obtain⟨s,_,e⟩:=aE.mp z;have:=w.qpos pc hp;have e1:(0:af)=pc.1:=cz oI e;lia
 .exact λz=>.inl ⟨pc,hp,rfl,z⟩
def eA(V:aa Tie)(n:af)(k:ah):aa Pt:=(bn k).map λ(j:ah)=>mt V (n,(j:af))
def ea(kvs:aa (D×D))(Q:aa Pc)(V:aa Tie)(n:af):aa Pt:=eA V n (vq kvs Q n)
theorem JX(V:aa Tie)(n:af)(k:ah):(eA V n k).length=k:=by simp[eA]
def aNq(V:aa Tie)(n:af)(k:ah):eA V n (k+1)=eA V n k++[mt V (n,(k:af))]:=by simp[eA,C5]
theorem T7{V:aa Tie}(w:Net kvs Q V){pc:Pc}(hp:pc∈Q){f:Pt}:f∈ea kvs Q V pc.1↔∃h,GZ V (pc.1,h) f:=by
 unfold ea eA;rw[YF w.qs hp];simp only[aE,hV];constructor
 .rintro⟨j,h1,rfl⟩;exact⟨j,FQ w.nd ((qT w hp j).mpr 0x1)⟩
 .rintro⟨h,ht⟩;have:=(qT w hp h).mp ht.mem.1;refine⟨h.toNat,by lia,?_⟩;rw[show((h.toNat:ah):af)=h by lia];exact O9 w.nd ht
def dE(M:aa af)(g:af->aa Pt):aa (D×D):=M.map λn=>(.int n,.scr ((g n).map enP))
theorem aFu:∀{M:aa af},x∈M->bL (dE M g) (.int x)=ae (.scr ((g x).map enP))
 |m::M,h=>by
  show(if eqD (.int m) (.int x) then ae (ο ((g m).map enP)) else bL (dE M g) (.int x))=_;rw[gR];by_cases e:m=x
  .subst e;rw[bz rfl,ao rfl]
  .rw[cy e,ap 0x2];exact aFu ((bi.mp h).resolve_left λz=>e z.symm)
theorem aKp:∀{M:aa af},x∉M->putD (dE M g) (.int x) (.scr ((g x).map enP))=dE (M++[x]) g
 |[],_=>rfl
 |m::M,h=>by
  show(if eqD (.int m) (.int x) then _ else _)=_;have e:¬m=x:=λz=>h (by rw[z];simp)
  rw[gR,cy e,ap 0x2];show _::putD (dE M g) (.int x) (.scr ((g x).map enP))=_;rw[aKp λz=>h (bo _ z)];rfl
def aS4(M:aa af)(g:af->aa Pt)(x:af):o7 (dE M g) (.int x)=ag:=by
 unfold o7;rw[show keyOk (.int x)=ag from rfl,oP,dy];intro p hp;obtain⟨n,_,rfl⟩:=aE.mp hp;rfl
theorem aFv{V:aa Tie}(hn:(ends V).Nodup)(e:Pt):bY .isin (enP e) (.dct 0x1f)=.ok (.bl (ϒ (e∈ends V))):=by
 show(if o7 0x1f (enP e) then τ (υ (bL 0x1f (enP e)).isSome) else .bad)=_;rw[aNp,ao rfl,YD];by_cases h:e∈ends V
 .rw[look_both hn (FQ hn h),bz h];rfl
 .have:IW (both V) e=aj:=by
   have key:∀m:aa (Pt×Pt),e∉m.map (·.1)->IW m e=aj:=by
    intro m;induction m with
    |nil=>intro _;rfl
    |cons kv m ih=>
     intro z;rw[IW,ap (λq=>z (by rw[<-q];simp))];exact ih λq=>z (bo _ q)
   exact key _ (by rw[wJ];exact h)
  rw[this,cy h];rfl
theorem aJ5{V:aa Tie}(hn:(ends V).Nodup)(h:e∈ends V):getD (.dct 0x1f) (enP e)=.ok (enP (mt V e)):=by
 show(if keyOk (enP e) then ι (bL 0x1f (enP e)) else .bad)=_;rw[YD,look_both hn (FQ hn h)];rfl
def aNr{V:aa Tie}{L:aa Pt}:(fP (aD j6 (aD (aN gV (aD gH aV)) aV))) [net,.dct 0x1f,ends_,.int n,nm,.lst (L.map enP)]=.ok (enP (n,(L.length:af))):=by
 refine cW (aC rfl (aC (aK 0x11 (aUc L)) rfl)) (by rw[bD];simp)
theorem aKq{net ends_ nm:D}{kvs:aa (D×D)}{Q:aa Pc}{V:aa Tie}(w:Net kvs Q V){pc:Pc}(hp:pc∈Q):∀(m k fuel:ah),k+m=vOf kvs pc.2+1->m<fuel->
  JN aRi aRj fuel [net,.dct 0x1f,ends_,.int pc.1,nm,.lst ((eA V pc.1 k).map enP)]=.ok (.nx [net,.dct 0x1f,ends_,.int pc.1,nm,.lst ((eA V pc.1 (vOf kvs pc.2+1)).map enP)])
 |0,k,fuel,h,hf=>by
  obtain⟨f,rfl⟩:∃f,fuel=f+1:=⟨fuel-1,by lia⟩
  have e:k=vOf kvs pc.2+1:=by lia
  subst e;refine xM (bU (aJ aNr rfl ((aFv w.nd _).trans ?_)));rw[JX,cy];rw[qT w hp];lia
 |m+1,k,fuel,h,hf=>by
  obtain⟨f,rfl⟩:∃f,fuel=f+1:=⟨fuel-1,by lia⟩
  have v6:=aFt w hp;have hin:(pc.1,((eA V pc.1 k).length:af))∈ends V:=by
   rw[JX,qT w hp];lia
  refine wF (bU (aJ aNr rfl ((aFv w.nd _).trans ?_))) ?_ (aKq w hp m (k+1) f 0x1 0x1)
  .rw[bz hin]
  .refine(lN (d:=enP (mt V (pc.1,(k:af)))) (aJ rfl aNr ?_) rfl (by rw[aS,JX,bD];lia) rfl).trans ?_
   .have:=aJ5 w.nd hin;rw[JX] at this ⊢;exact this
   .rw[aNq,bS];rfl
theorem aKr(h1:f ρ=.ok (.lst xs))(hp:θ xs=ag)(h2:g (ρ.set i (.lst xs))=r):aRc i f g ρ=r:=by
 unfold aRc;rw[h1,ε];show(if θ xs then _ else _)=_;rw[hp,ao rfl,h2]
theorem YG(h1:f ρ=.ok (.nx ρ'))(h2:g ρ'=r):MJ f g ρ=r:=by
 unfold MJ;rw[h1,ε];exact h2
theorem aFw(h1:ρ.getD i .uD=.lst xs)(h2:g (ρ.set i (.scr xs))=r):XH i g ρ=r:=by
 unfold XH;rw[h1];exact h2
theorem aFx(L:aa Pt):(ο (L.map enP)).pure=ag:=mV L
theorem aNs{V:aa Tie}{r:af}(w:Net kvs Q V):bV 1 jP [bG Q V r]=.ok (.dct (dE (Q.map (·.1)) 0x1d)):=by
 have ql:=w.ql;have wf:=w.wf;obtain⟨ρ1,e1,x3,x4,x5,rfl⟩:=eE (t:=tgN [3,4]) (body:=aRk) (d:=pcD) (I:=λys ρ=>∃a b c,ρ=[bG Q V r,.dct 0x1f,.dct (dE (ys.map (·.1)) 0x1d),a,b,c]) Q (λys a zs ρ e ⟨x,y,z,h⟩=>by
  subst h;have ha:a∈Q:=by rw[e];simp
  have hyl:ys.length<=30:=by rw[e] at ql;simp at ql;lia
  have hnew:=aFk wf e;have v6:=aFt w ha;refine⟨[bG Q V r,.dct 0x1f,.dct (dE (ys.map (·.1)) 0x1d),.int a.1,.str a.2,z],[bG Q V r,.dct 0x1f,.dct (dE ((ys++[a]).map (·.1)) 0x1d),.int a.1,.str a.2,.scr ((ea kvs Q V a.1).map enP)],rfl,?_,_,_,_,rfl⟩;refine aKr (i:=5) (xs:=[]) rfl rfl ?_;refine YG (ρ':=[bG Q V r,.dct 0x1f,.dct (dE (ys.map (·.1)) 0x1d),.int a.1,.str a.2,.lst ((ea kvs Q V a.1).map enP)]) ?_ ?_
  .have:=aKq (net:=bG Q V r) (ends_:=.dct (dE (ys.map (·.1)) 0x1d)) (nm:=.str a.2) w ha (vOf kvs a.2+1) 0 1000 0x1 0x1;unfold ea;rw[YF w.qs ha];exact this
  .refine aFw (i:=5) rfl ?_;refine(rN (i:=2) (kvs:=dE (ys.map (·.1)) 0x1d) (k:=.int a.1) (d:=.scr ((ea kvs Q V a.1).map enP)) rfl rfl rfl (by rw[dE,aS,aS,bD];lia) (aS4 _ _ _) (aFx _)).trans ?_;rw[aKp hnew,bS];rfl) (ρ:=[bG Q V r,.dct 0x1f,.dct [],.uD,.uD,.uD]) ⟨_,_,_,rfl⟩
 refine(cJ rfl).trans (call_v ?_);refine aL (ρ':=[bG Q V r,.dct 0x1f,.uD,.uD,.uD,.uD]) (bA (i:=1) (aK (xs:=[bG Q V r]) 0x11 (aJ2 w.nd (by have:=w.small;rw[bD];lia)))) ?_;refine aL (ρ':=[bG Q V r,.dct 0x1f,.dct [],.uD,.uD,.uD]) (dG (i:=2) rfl rfl) ?_;refine aL (aFj (xs:=Q.map pcD) rfl (wC Q) e1) ?_;rfl
noncomputable def gU(s:Str)(l:aa af):aa D:=.str s::l.map δ
def aUd(d:D):Prop:=∃(s:Str)(l:aa af),d=.scr (gU s l)
def lE(ds:aa D):Prop:=∀d∈ds,aUd d
theorem O_(o:jG):∀a b:aa af,∃k,dY o (a.map δ) (b.map δ)=ae k
 |[],b=>⟨_,rfl⟩
 |x::a,[]=>⟨_,rfl⟩
 |x::a,y::b=>by
  obtain⟨k,h⟩:=O_ o a b;show ∃k,(if eqD (.int x) (.int y) then dY o (a.map δ) (b.map δ) else jY o (.int x) (.int y))=ae k;split
  .exact⟨k,h⟩
  .exact⟨_,rfl⟩
theorem aAm(o:jG)(s s':Str)(l l':aa af):∃k,dY o (gU s l) (gU s' l')=ae k:=by
 obtain⟨k,h⟩:=O_ o l l';show ∃k,(if eqD (.str s) (.str s') then dY o (l.map δ) (l'.map δ) else jY o (.str s) (.str s'))=ae k;split
 .exact⟨k,h⟩
 .exact⟨_,rfl⟩
theorem xN(n:ah):∀p:aa af,ν n (p.map δ)=ag
 |[]=>by cases n<;>rfl
 |x::p=>by
  rw[ba,ν,xN n p];cases n<;>rfl
def sW(n:ah)(s:Str)(l:aa af):ν n (gU s l)=ag:=by
 unfold gU;rw[ν,xN];cases n<;>rfl
theorem F_(s:Str)(l:aa af):θ (gU s l)=ag:=by
 unfold gU;rw[θ,eF];rfl
structure Pl(pl:aa (D×D))(R:aa af):Prop where
 at_:∀x:af,x=0\/x∈R->∃i:af,bL pl (.int x)=ae (.int i)
 no:∀x:af,¬(x=0\/x∈R)->bL pl (.int x)=aj
 fit:∀x:af,o7 pl (.int x)=ag
 len:pl.length<=R.length+1
theorem qU(x y:af)(d:D):∀pl:aa (D×D),bL (putD pl (.int x) d) (.int y)=if x=y then ae d else bL pl (.int y)
 |[]=>by
  show(if eqD (.int x) (.int y) then ae d else aj)=_;rw[gR];by_cases h:x=y<;>simp[h,bL]
 | (k,v)::pl=>by
  show bL (if eqD k (.int x) then (k,d)::pl else (k,v)::putD pl (.int x) d) (.int y)=if x=y then ae d else if eqD k (.int y) then ae v else bL pl (.int y)
  have ih:=qU x y d pl;by_cases h:eqD k (.int x)=ag
  .rw[ao h];show(if eqD k (.int y) then ae d else bL pl (.int y))=_;by_cases hxy:x=y
   .subst hxy;rw[ao h,ao rfl]
   .have:eqD k (.int y)≠ag:=by
     cases k with
     |int i=>
      rw[gR,eB] at h;rw[gR];intro z;exact hxy (h.symm.trans (d6 z))
     |bl b=>
      have h1:((if b then (1:af) else 0)==x)=ag:=h;show((if b then (1:af) else 0)==y)≠ag;rw[ir] at h1;simp only[ne_eq,ir];intro z;exact hxy (h1.symm.trans z)
     |_=>simp[eqD] at h
    rw[ap this,ap hxy,ap this]
  .rw[ap h];show(if eqD k (.int y) then ae v else bL (putD pl (.int x) d) (.int y))=_;by_cases hxy:x=y
   .subst hxy;rw[ap h,ih,ao rfl,ao rfl]
   .rw[ih,ap hxy,ap hxy]
theorem aFy(h:∀y:af,o7 pl (.int y)=ag)(y:af):o7 (putD pl (.int x) d) (.int y)=ag:=by
 have key:∀pl:aa (D×D),pl.all (λp=>isTup p.1==ai)=ag->(putD pl (.int x) d).all (λp=>isTup p.1==ai)=ag:=by
  intro pl;induction pl with
  |nil=>intro _;rfl
  |cons kv pl ih=>
   intro h;obtain⟨k,v⟩:=kv;rw[ik,bj] at h;show(if eqD k (.int x) then (k,d)::pl else (k,v)::putD pl (.int x) d).all _=ag;split
   .rw[ik,bj];exact h
   .rw[ik,bj];exact⟨h.1,ih h.2⟩
 have h0:=h y;unfold o7 at h0 ⊢;exact key pl h0
theorem YH(x:af)(d:D):∀pl:aa (D×D),(putD pl (.int x) d).length<=pl.length+1
 |[]=>bd _
 | (k,v)::pl=>by
  show(if eqD k (.int x) then (k,d)::pl else (k,v)::putD pl (.int x) d).length<=_;have:=YH x d pl;split<;>simp only[b9]<;>lia
theorem Pl.uF(h:Pl pl R)(x:af):bY .uF (.int x) (.dct pl)=.ok (.bl (!ϒ (x=0\/x∈R))):=by
 show(if o7 pl (.int x) then τ (υ (!(bL pl (.int x)).isSome)) else .bad)=_;rw[h.fit,ao rfl];by_cases e:x=0\/x∈R
 .obtain⟨i,hi⟩:=h.at_ x e;rw[hi,bz e];rfl
 .rw[h.no x e,cy e];rfl
noncomputable def gf(ys:aa Pt):aa af:=(ys.map (·.1)).filter λz=>ϒ (z≠0)
def aNt(ys:aa Pt)(a:Pt):gf (ys++[a])=gf ys++if a.1=0 then [] else [a.1]:=by
 unfold gf;rw[bS,yt];by_cases h:a.1=0<;>simp[h]
def aS5(ys:aa Pt):(gf ys).length<=ys.length:=by
 unfold gf;exact dj (rn ..) 0x2
def ws(nk dk:aa (D×D))(s:af)(best:D)(R:aa af)(pl:aa (D×D))(rows:aa D)(lv:aq)(n x9 x10 x11:D):aa D:=[.dct nk,.dct dk,.int s,best,.lst (R.map δ),.dct pl,.lst rows,.bl lv,n,x9,x10,x11]
theorem aS6(n j:ah)(h:j<n):ixD n (j:af)=ae j:=by
 unfold ixD;rw[ao 0x1,ao 0x1];rfl
theorem aFz(xs:aa D)(j:ah)(h:j<xs.length):getD (.scr xs) (.int (j:af))=.ok xs[j]:=by
 show ι ((ixD xs.length (j:af)).bind λj=>xs[j]?)=_;rw[aS6 _ _ h];show ι (xs[j]?)=_;rw[eg h];rfl
theorem PB(xs:aa D)(j:ah)(h:j<xs.length):getD (.lst xs) (.int (j:af))=.ok xs[j]:=aFz xs j h
def gP(h:ρ.getD i .uD=d)(hd:d≠.uD):fZ i ρ=.ok d:=by
 unfold fZ;rw[h];cases d<;>first|rfl|exact aT rfl hd
def aS7(h1:c ρ=.ok ag)(h2:body ρ=.ok (.rt d)):JN c body (n+1) ρ=.ok (.rt d):=by
 rw[JN,h1,ε,ao rfl,h2];rfl
def aNu(h1:f ρ=.ok (.rt d)):MJ f g ρ=.ok (.rt d):=by
 unfold MJ;rw[h1];rfl
theorem aG0(h1:ρ.getD i .uD=.lst xs)(h2:g (ρ.set i (.scr xs))=.ok (.rt d)):RP i g ρ=.ok (.rt d):=by
 unfold RP;rw[h1];show(do let r <- g (ρ.set i (.scr xs));_)=_;rw[h2];rfl
theorem xO:∀{rows:aa D},lE rows->θ rows=ag
 |[],_=>rfl
 |d::rows,h=>by
  obtain⟨s,l,rfl⟩:=h d (bu ..);rw[θ,xO λd hd=>h d (bo _ hd),i8];exact F_ s l
noncomputable def wkD(rows:aa D)(R:aa af):D:=.tup [.scr rows,.scr (R.map δ)]
section
variable {nk dk:aa (D×D)} {s:af} {best:D} {R:aa af} {pl:aa (D×D)} {rows:aa D} {lv:aq} {n:D} {x10 x11:D}
def aNv(h:ρ.getD i .uD=.bl b):bTr (fZ i) ρ=.ok b:=by
 unfold bTr fZ;rw[h];rfl
theorem aAn(b:aq)(h:b=ϒ (rows.length<R.length)):XR (ws nk dk s best R pl rows lv n x9 x10 x11)=.ok b:=by
 have hc:bY (.ord .lt) (.int rows.length) (.int R.length)=.ok (.bl (ϒ ((rows.length:af)<R.length))):=rfl;refine bU (aJ (aK 0x11 (nF rows)) (aK (xs:=[.lst (R.map δ)]) 0x11 (by rw[nF,aS])) (hc.trans ?_));rw[h]
 congr 2
 exact lr.mpr 0x1
end
section
variable {nk dk:aa (D×D)} {M:aa af} {E:af->aa Pt}
structure Gd(nk dk:aa (D×D))(M:aa af)(E:af->aa Pt):Prop where
 cl:∀x∈M,∀y∈gf (E x),y∈M
 ml:M.length<=100
 el:∀x,(E x).length<=100
 ds:∀x∈M,bL dk (.int x)=ae (.scr ((E x).map enP))
 ns:∀x∈M,∃nm:Str,bL nk (.int x)=ae (.str nm)
end
theorem aAo(f:α->α->α)(h:∀a b,f a b=a\/f a b=b):∀(xs:aa α)(x:α),xs.foldl f x∈x::xs
 |[],x=>by simp
 |y::xs,x=>by
  rw[iS];have:=aAo f h xs (f x y);rcases h x y with e|e
  .rw[e] at this ⊢;rcases bi.mp this with z|z
   .rw[z];simp
   .exact bo _ (bo _ z)
  .rw[e] at this ⊢;exact bo _ this
def aS8(h1:f ρ=.ok (.lst ys))(h2:ρ.getD i .uD=.lst xs)(h3:xs.length+ys.length<=lim)(h4:θ ys=ag):aSu i f ρ=.ok (.nx (ρ.set i (.lst (xs++ys)))):=by
 unfold aSu;rw[h1,ε,h2];show(if ϒ (xs.length+ys.length<=lim)&&θ ys then _ else _)=_;rw[bz h3,h4];rfl
section
theorem GC{p q:aa af}(h1:p.Nodup)(h2:q.Nodup)(h:∀y,y∈p↔y∈q):p.Perm q:=(ux h1 h2).mpr h
end
noncomputable def plc(R:aa af)(x:af):af:=if x=0 then 0 else (R.idxOf x:af)+1
def rwl(R:aa af)(es:aa Pt):aa af:=es.flatMap λe=>[plc R e.1,e.2]
def rowOf(nm:af->Str)(E:af->aa Pt)(R:aa af)(c:af):D:=.scr (gU (nm c) (rwl R (E c)))
def rowsOf(nm:af->Str)(E:af->aa Pt)(R:aa af):aa D:=R.map (rowOf nm E R)
theorem aG1{R S:aa af}(h:x=0\/x∈R):plc (R++S) x=plc R x:=by
 unfold plc;by_cases h0:x=0
 .rw[ao h0,ao h0]
 .rw[ap h0,ap h0,rV,ao (h.resolve_left h0)]
def aNw(h0:x≠0)(h:x∉R):plc (R++[x]) x=((R++[x]).length:ah):=by
 unfold plc;rw[ap h0,rV,ap h];simp
theorem PJ{R S:aa af}:∀{es:aa Pt},(∀e∈es,e.1=0\/e.1∈R)->rwl (R++S) es=rwl R es
 |[],_=>rfl
 |e::es,h=>by
  show plc (R++S) e.1::e.2::rwl (R++S) es=plc R e.1::e.2::rwl R es;rw[aG1 (h e (bu ..)),PJ λe he=>h e (bo _ he)]
theorem aJ6(R:aa af)(es:aa Pt)(e:Pt):rwl R (es++[e])=rwl R es++[plc R e.1,e.2]:=by simp[rwl]
theorem aG2(R:aa af):∀es:aa Pt,(rwl R es).length=2*es.length
 |[]=>rfl
 |e::es=>by
  show(rwl R es).length+1+1=_;rw[aG2 R es,b9];lia
def aNx{E:aa Pt}(h:e∈E)(h0:e.1≠0):e.1∈gf E:=by
 unfold gf;rw[kP];exact⟨aE.mpr ⟨e,h,rfl⟩,bz h0⟩
theorem YJ{E:aa Pt}{R:aa af}(h:∀y∈gf E,y∈R):∀e∈E,e.1=0\/e.1∈R:=λe he=>by
 by_cases h0:e.1=0
 .exact .inl h0
 .exact .inr (h _ (aNx he h0))
def bfs(g:af->aa af):ah->aa af->ah->aa af
 |0,R,_=>R
 |m+1,R,n=>if h:n<R.length then bfs g m (R++news R (g R[n])) (n+1) else R
theorem aG3(g:af->aa af):∀(m:ah)(R:aa af)(n:ah),∃S,bfs g m R n=R++S
 |0,R,n=>⟨[],by rw[d4];rfl⟩
 |m+1,R,n=>by
  unfold bfs;split
  .rename_i h;obtain⟨S,e⟩:=aG3 g m (R++news R (g R[n])) (n+1);exact⟨news R (g R[n])++S,by rw[e,c6]⟩
  .exact⟨[],by rw[d4]⟩
theorem aKs{M:aa af}(hs:s∈M)(hc:∀x∈M,∀y∈g x,y∈M):∀(m:ah)(R:aa af)(n:ah),Bv g s R n->M.length<=m+n->∃n',Bv g s (bfs g m R n) n'/\(bfs g m R n).length<=n'
 |0,R,n,bv,hm=>⟨n,bv,by have:=bv.len hs hc;show R.length<=n;lia⟩
 |m+1,R,n,bv,hm=>by
  unfold bfs;split
  .rename_i h;exact aKs hs hc m _ (n+1) (bv.step h) 0x1
  .exact⟨n,bv,by lia⟩
theorem YK{s:af}{M:aa af}(hs:s∈M)(hc:∀x∈M,∀y∈g x,y∈M):(bfs g M.length [s] 0).Nodup/\(∀x,x∈bfs g M.length [s] 0↔Rc g s x)/\∀x∈bfs g M.length [s] 0,∀y∈g x,y∈bfs g M.length [s] 0:=by
 obtain⟨n,bv,hn⟩:=aKs hs hc M.length [s] 0 (bv0 g s) 0x1;refine⟨bv.nd,λx=>bv.fin hn,λx hx y hy=>?_⟩;have:=bv.cl x;rw[iO hn] at this;exact this hx y hy
theorem aJ7{E:af->aa Pt}{s:af}{R:aa af}{n m:ah}(bv:Bv (λx=>gf (E x)) s R n):(rowsOf nm E (bfs (λx=>gf (E x)) m R n)).take n=(R.take n).map (rowOf nm E R):=by
 obtain⟨S,e⟩:=aG3 (λx=>gf (E x)) m R n;by_cases hn:n<=R.length
 .unfold rowsOf;rw[e,<-xC,yp hn];refine c_ λc hc=>?_
  unfold rowOf;rw[PJ (YJ (bv.cl c hc))]
 .have:m=0\/∃k,m=k+1:=by cases m with|zero=>exact .inl rfl|succ k=>exact .inr ⟨k,rfl⟩
  have hb:bfs (λx=>gf (E x)) m R n=R:=by
   rcases this with rfl|⟨k,rfl⟩
   .rfl
   .unfold bfs;rw[uy 0x1]
  rw[hb,iO (by rw[rowsOf,aS];lia),iO 0x1];rfl
theorem PK:∀{ys R:aa af},(∀x∈R++ys,∀y∈R++ys,φ x=φ y->x=y)->news (R.map φ) (ys.map φ)=(news R ys).map φ
 |[],_,_=>rfl
 |y::ys,R,h=>by
  rw[ba,news,news];have hm:φ y∈R.map φ↔y∈R:=by
   constructor
   .intro z;obtain⟨x,hx,e⟩:=aE.mp z;have:=h x (dP _ hx) y 0x2 e;rw[<-this];exact hx
   .exact λz=>aE.mpr ⟨y,z,rfl⟩
  by_cases hy:y∈R
  .rw[ao (hm.mpr hy),ao hy];have up:∀x,x∈R++ys->x∈R++y::ys:=λx hx=>(cj.mp hx).elim (λq=>dP _ q) λq=>dS _ (bo _ q)
   exact PK λx hx z hz=>h x (up x hx) z (up z hz)
  .rw[ap (λz=>hy (hm.mp z)),ap hy,ba];have:=PK (R:=R++[y]) λx hx z hz=>h x (by simpa[yq] using hx) z (by simpa[yq] using hz)
   rw[bS] at this;rw[<-this];rfl
structure Iso(φ:af->af)(M:aa af)(nm nm':af->Str)(E E':af->aa Pt):Prop where
 z:φ 0=0
 nz:∀x∈M,x≠0/\φ x≠0
 inj:∀x∈M,∀y∈M,φ x=φ y->x=y
 nm:∀x∈M,nm' (φ x)=nm x
 ea:∀x∈M,E' (φ x)=(E x).map λe=>(φ e.1,e.2)
 cl:∀x∈M,∀y∈gf (E x),y∈M
section
variable {φ:af->af} {M:aa af} {nm nm':af->Str} {E E':af->aa Pt}
theorem Iso.ze(i:Iso φ M nm nm' E E')(h:x=0\/x∈M):φ x=0↔x=0:=by
 rcases h with h|h
 .rw[h,i.z]
 .exact⟨λz=>aT z (i.nz x h).2,λz=>aT z (i.nz x h).1⟩
theorem aG4(i:Iso φ M nm nm' E E'){x:af}(hx:x∈M):gf (E' (φ x))=(gf (E x)).map φ:=by
 rw[i.ea x hx];have key:∀es:aa Pt,(∀e∈es,e.1=0\/e.1∈M)->gf (es.map λe=>(φ e.1,e.2))=(gf es).map φ:=by
  intro es;induction es with
  |nil=>intro _;rfl
  |cons e es ih=>
   intro h;have ih:=ih λe he=>h e (bo _ he)
   unfold gf at ih ⊢;rw[ba,ba,ba,ri,ri];have he:=i.ze (h e (bu ..));by_cases h0:e.1=0
   .rw[ap (by simp[he.mpr h0]),ap (by simp[h0])];exact ih
   .rw[ao (by simpa using λz=>h0 (he.mp z)),ao (by simpa using h0),ba,ih]
 exact key _ (YJ (i.cl x hx))
theorem aG5(i:Iso φ M nm nm' E E'):∀(m:ah)(R:aa af)(n:ah),(∀x∈R,x∈M)->bfs (λx=>gf (E' x)) m (R.map φ) n=(bfs (λx=>gf (E x)) m R n).map φ
 |0,R,n,_=>rfl
 |m+1,R,n,h=>by
  unfold bfs;by_cases hn:n<R.length
  .have hn':n<(R.map φ).length:=by rw[aS];exact hn
   rw[lw hn',lw hn];have hc:R[n]∈M:=h _ (ig hn);have hsub:∀x∈R++news R (gf (E R[n])),x∈M:=λx hx=>by
    rcases cj.mp hx with q|q
    .exact h x q
    .exact i.cl _ hc x (news_mem q)
   have e:R.map φ++news (R.map φ) (gf (E' (R.map φ)[n]))=(R++news R (gf (E R[n]))).map φ:=by
    rw[jd,aG4 i hc,PK,bS];intro x hx y hy;refine i.inj x ?_ y ?_
    .rcases cj.mp hx with q|q
     .exact h x q
     .exact i.cl _ hc x q
    .rcases cj.mp hy with q|q
     .exact h y q
     .exact i.cl _ hc y q
   show bfs (λx=>gf (E' x)) m (R.map φ++news (R.map φ) (gf (E' (R.map φ)[n]))) (n+1)=_;rw[e];exact aG5 i m _ (n+1) hsub
  .rw[uy (show ¬n<(R.map φ).length by rw[aS];exact hn),uy hn]
theorem idx_map(i:Iso φ M nm nm' E E'):∀{R:aa af}{x:af},(∀y∈R,y∈M)->x∈M->(R.map φ).idxOf (φ x)=R.idxOf x
 |[],_,_,_=>rfl
 |r::R,x,h,hx=>by
  rw[ba,yu,yu];have ih:=idx_map i (λy hy=>h y (bo _ hy)) hx;by_cases e:r=x
  .subst e;simp
  .have:¬φ r=φ x:=λz=>e (i.inj r (h r (bu ..)) x hx z)
   rw[show(φ r==φ x)=ai by simpa using this,show(r==x)=ai by simpa using e,ih]
def aNy(i:Iso φ M nm nm' E E')(h:∀y∈R,y∈M)(hx:x=0\/x∈M):plc (R.map φ) (φ x)=plc R x:=by
 unfold plc;rcases hx with hx|hx
 .subst hx;rw[i.z,ao rfl,ao rfl]
 .rw[ap (i.nz x hx).2,ap (i.nz x hx).1,idx_map i h hx]
def aNz(i:Iso φ M nm nm' E E'){R:aa af}(h:∀y∈R,y∈M)(hc:c∈M):rowOf nm' E' (R.map φ) (φ c)=rowOf nm E R c:=by
 unfold rowOf;rw[i.nm c hc,i.ea c hc];have key:∀es:aa Pt,(∀e∈es,e.1=0\/e.1∈M)->rwl (R.map φ) (es.map λe=>(φ e.1,e.2))=rwl R es:=by
  intro es;induction es with
  |nil=>intro _;rfl
  |cons e es ih=>
   intro h2;show plc (R.map φ) (φ e.1)::e.2::rwl (R.map φ) (es.map λe=>(φ e.1,e.2))=plc R e.1::e.2::rwl R es;rw[aNy i h (h2 e (bu ..)),ih λe he=>h2 e (bo _ he)]
 rw[key _ (YJ (i.cl c hc))]
theorem aJ8(i:Iso φ M nm nm' E E')(h:∀y∈R,y∈M):rowsOf nm' E' (R.map φ)=rowsOf nm E R:=by
 unfold rowsOf;rw[bp];exact c_ λc hc=>aNz i h (h c hc)
end
def jF(s:Str)(l:aa af):χ (gU s l)=ag:=by
 have key:∀l:aa af,χ (l.map δ)=ag:=by
  intro l;induction l with
  |nil=>rfl
  |cons x l ih=>rw[ba,χ,ih];rfl
 show(ag&&χ (l.map δ))=ag;rw[key];rfl
theorem aG6:∀a b:aa af,dY .gt (a.map δ) (b.map δ)=dY .lt (b.map δ) (a.map δ)
 |[],[]=>rfl
 |[],y::b=>rfl
 |x::a,[]=>rfl
 |x::a,y::b=>by
  show(if eqD (.int x) (.int y) then dY .gt (a.map δ) (b.map δ) else ae (ϒ (y<x)))=(if eqD (.int y) (.int x) then dY .lt (b.map δ) (a.map δ) else ae (ϒ (y<x)));rw[aG6 a b,gR,gR];by_cases h:x=y
  .subst h;rfl
  .have h2:¬y=x:=λz=>h z.symm
   rw[cy h,cy h2]
def aUe(s s':Str)(l l':aa af):dY .gt (gU s l) (gU s' l')=dY .lt (gU s' l') (gU s l):=by
 show(if eqD (.str s) (.str s') then dY .gt (l.map δ) (l'.map δ) else ae (WF s' s))=(if eqD (.str s') (.str s) then dY .lt (l'.map δ) (l.map δ) else ae (WF s' s));rw[aG6];have:eqD (.str s) (.str s')=eqD (.str s') (.str s):=by
  show(s==s')=(s'==s);exact Bool.eq_iff_iff.mpr ⟨λh=>ir.mpr (ir.mp h).symm,λh=>ir.mpr (ir.mp h).symm⟩
 rw[this]
def aO0(s s':Str)(l l':aa af):bY (.ord .gt) (.lst (gU s l)) (.scr (gU s' l'))=.ok (.bl (ϒ (jX (gU s' l')<jX (gU s l)))):=by
 obtain⟨k,h⟩:=aAm .lt s' s l' l;have e:=yS _ _ k (jF s' l') (jF s l) h;refine aMg (sW 11 _ _) (sW 11 _ _) ?_;show dY .gt (gU s l) (gU s' l')=_;rw[aUe,h,e]
def aO1(s s':Str)(l l':aa af):∃k,bY .ne (.lst (gU s l)) (.scr (gU s' l'))=.ok (.bl (!k))/\(k=ag↔gU s l=gU s' l'):=by
 refine⟨qY (gU s l) (gU s' l'),?_,λh=>KR _ _ (jF s l) (jF s' l') h,λh=>by rw[h,rE _ (jF s' l')]⟩;show(if ν 11 (gU s l)&&ν 11 (gU s' l') then τ (υ (!qY (gU s l) (gU s' l'))) else .bad)=_;rw[sW,sW];rfl
theorem aKt(a b:aa D):enc (.scr a)<enc (.scr b)↔jX a<jX b:=by
 show(3::jX a)<(3::jX b)↔_;rw[eL];simp
def Ls(A B:aa D):Prop:=∃P x A' y B',A=P++x::A'/\B=P++y::B'/\x.plain=ag/\y.plain=ag/\enc x<enc y
theorem Ls.lt{A B:aa D}(h:Ls A B):jX A<jX B:=by
 obtain⟨P,x,A',y,B',rfl,rfl,hx,hy,hl⟩:=h;have hne:x≠y:=λz=>by rw[z] at hl;exact aT hl (mP _)
 induction P with
 |nil=>
  show(1::(enc x++jX A'))<(1::(enc y++jX B'));rw[eL];refine .inr ⟨rfl,(ZQ _ _ _ _ (λz e=>hne ?_) λz e=>hne ?_).mpr hl⟩
  .exact(rF x y z [] hx hy (by rw[e,d4])).1
  .exact(rF y x z [] hy hx (by rw[e,d4])).1.symm
 |cons p P ih=>
  show(1::(enc p++jX (P++x::A')))<(1::(enc p++jX (P++y::B')));rw[eL];exact .inr ⟨rfl,(uR _ _ _).mpr ih⟩
theorem Ls.more{A B:aa D}(h:Ls A B)(C:aa D):Ls (A++C) B:=by
 obtain⟨P,x,A',y,B',rfl,rfl,h⟩:=h;exact⟨P,x,A'++C,y,B',by simp,rfl,h⟩
def wK(s:Str)(l:aa af):(ο (gU s l)).plain=ag:=jF s l
structure PlX(pl:aa (D×D))(R:aa af):Prop where
 at_:∀x:af,x=0\/x∈R->bL pl (.int x)=ae (.int (plc R x))
 no:∀x:af,¬(x=0\/x∈R)->bL pl (.int x)=aj
 fit:∀x:af,o7 pl (.int x)=ag
 len:pl.length<=R.length+1
theorem PlX.pl{pl:aa (D×D)}{R:aa af}(h:PlX pl R):Pl pl R:=⟨λx hx=>⟨_,h.at_ x hx⟩,h.no,h.fit,h.len⟩
theorem PlX.put{pl:aa (D×D)}{R:aa af}(h:PlX pl R){x:af}(hx:¬(x=0\/x∈R)):PlX (putD pl (.int x) (.int ((R++[x]).length:ah))) (R++[x]) where
 at_ y hy:=by
  rw[qU];by_cases e:x=y
  .subst e;rw[ao rfl,aNw (λz=>hx (.inl z)) λz=>hx (.inr z)]
  .rw[ap e];have hy':y=0\/y∈R:=by
    rcases hy with hy|hy
    .exact .inl hy
    .rcases cj.mp hy with hy|hy
     .exact .inr hy
     .exact aT (em.mp hy).symm e
   rw[h.at_ y hy',aG1 hy']
 no y hy:=by
  rw[qU,ap λe=>hy (.inr (by rw[e];simp))];exact h.no y λz=>hy (z.imp id λz=>dP _ z)
 fit:=aFy h.fit
 len:=by have:=YH x (.int ((R++[x]).length:ah)) pl;have:=h.len;rw[cx,iF] at *;lia
theorem PlX.get{pl:aa (D×D)}{R:aa af}(h:PlX pl R){x:af}(hx:x=0\/x∈R):getD (.dct pl) (.int x)=.ok (.int (plc R x)):=by
 show(if keyOk (.int x) then ι (bL pl (.int x)) else .bad)=_;rw[h.at_ x hx];rfl
def aVv{s:af}(hs:s≠0):PlX (putD [(.int 0,.int 0)] (.int s) (.int 1)) [s]:=by
 have h0:PlX [(.int 0,.int 0)] []:=⟨λx hx=>by
  have e:x=0:=hx.resolve_right 0x2;subst e;rfl,λx hx=>by
  show(if eqD (.int 0) (.int x) then _ else _)=_;rw[gR,cy λe=>hx (.inl e.symm)];rfl,λx=>rfl,bd _⟩
 exact h0.put (by simp[hs])
theorem aJ9{nk dk:aa (D×D)}{s:af}{best:D}{R:aa af}{pl:aa (D×D)}{rows:aa D}{lv:aq}{n:D}{nm:Str}{x10 x11:D}(E:aa Pt)(hE:E.length<=100)(hR:R.length<=1000)(hp:PlX pl R):∃pl' y10 y11,PlX pl' (R++news R (gf E))/\
  vR (tgN [10,11]) wib (E.map enP) (ws nk dk s best R pl rows lv n (.lst (gU nm [])) x10 x11)=.ok (.nx (ws nk dk s best (R++news R (gf E)) pl' rows lv n (.lst (gU nm (rwl (R++news R (gf E)) E))) y10 y11)):=by
 obtain⟨ρ,h,pl',y10,y11,p',rfl⟩:=eE (t:=tgN [10,11]) (body:=wib) (d:=enP) (I:=λys ρ=>∃pl' y10 y11,PlX pl' (R++news R (gf ys))/\ρ=ws nk dk s best (R++news R (gf ys)) pl' rows lv n (.lst (gU nm (rwl (R++news R (gf ys)) ys))) y10 y11) E (λys a zs ρ e ⟨pl',y10,y11,p',h⟩=>by
  subst h;have hyl:ys.length<=100:=by rw[e] at hE;simp at hE;lia
  have hn:=zG (gf ys) R;have hg:=aS5 ys;have hRl:(R++news R (gf ys)).length<=1200:=by rw[cx];lia
  have hin:∀e∈ys,e.1=0\/e.1∈R++news R (gf ys):=YJ λy hy=>wG hy
  have hsn:R++news R (gf (ys++[a]))=(R++news R (gf ys))++if a.1=0\/a.1∈R++news R (gf ys) then [] else [a.1]:=by
   rw[aNt];by_cases h0:a.1=0
   .rw[ao h0,d4,ao (.inl h0),d4]
   .rw[ap h0,wH,c6];by_cases h1:a.1∈R++news R (gf ys)
    .rw[ao h1,ao (.inr h1)]
    .rw[ap h1,ap λz=>z.elim h0 h1]
  have hrw:rwl (R++news R (gf (ys++[a]))) (ys++[a])=rwl (R++news R (gf ys)) ys++[plc (R++news R (gf (ys++[a]))) a.1,a.2]:=by
   rw[aJ6,hsn,PJ hin]
  have hll:=aG2 (R++news R (gf ys)) ys;rw[hrw];generalize hRR:R++news R (gf ys)=R' at *;generalize hl:rwl R' ys=l at *;have mid:∃pl2,PlX pl2 (R++news R (gf (ys++[a])))/\(a.1=0\/a.1∈R++news R (gf (ys++[a])))/\(sIf (bTB (b2 (bY .uF) iH gH)) (bO (BJ 4 iH) (QG 5 iH 0x23)) o_) (ws nk dk s best R' pl' rows lv n (.lst (gU nm l)) (.int a.1) (.int a.2))=.ok (.nx (ws nk dk s best (R++news R (gf (ys++[a]))) pl2 rows lv n (.lst (gU nm l)) (.int a.1) (.int a.2))):=by
   rw[hsn];by_cases h:a.1=0\/a.1∈R'
   .rw[ao h,d4];exact⟨pl',p',h,mC (bU (aJ (x:=.int a.1) rfl rfl ((p'.pl.uF a.1).trans (by rw[bz h];rfl)))) rfl⟩
   .rw[ap h];have pl3:=p'.len;refine⟨_,p'.put h,.inr 0x2,uW (bU (aJ (x:=.int a.1) rfl rfl ((p'.pl.uF a.1).trans (by rw[cy h];rfl)))) ?_⟩;refine aL (ρ':=ws nk dk s best (R'++[a.1]) pl' rows lv n (.lst (gU nm l)) (.int a.1) (.int a.2)) ((lN (i:=4) (xs:=R'.map δ) (d:=.int a.1) rfl rfl (by rw[aS,bD];lia) rfl).trans (by rw[show R'.map δ++[.int a.1]=(R'++[a.1]).map δ by rw[bS];rfl];rfl)) ?_;exact rN (i:=5) (kvs:=pl') (k:=.int a.1) (d:=.int ((R'++[a.1]).length:ah)) (aK (xs:=[.lst ((R'++[a.1]).map δ)]) 0x11 (by rw[nF,aS])) rfl rfl (by rw[bD];lia) (p'.fit _) rfl
  obtain⟨pl2,q1,q2,q3⟩:=mid;have hi:=q1.get q2;generalize R++news R (gf (ys++[a]))=R2 at *;generalize plc R2 a.1=i at *;refine⟨ws nk dk s best R' pl' rows lv n (.lst (gU nm l)) (.int a.1) (.int a.2),ws nk dk s best R2 pl2 rows lv n (.lst (gU nm (l++[i,a.2]))) (.int a.1) (.int a.2),rfl,?_,pl2,_,_,q1,rfl⟩;refine aL q3 ?_;have e1:∀l:aa af,∀j:af,gU nm l++[.int j]=gU nm (l++[j]):=λl j=>by unfold gU;rw[bS];rfl
  have e2:∀l:aa af,(gU nm l).length=l.length+1:=λl=>by simp[gU]
  refine aL (ρ':=ws nk dk s best R2 pl2 rows lv n (.lst (gU nm (l++[i]))) (.int a.1) (.int a.2)) ((lN (i:=9) (xs:=gU nm l) (d:=.int i) (aJ rfl rfl hi) rfl (by rw[e2,bD];lia) rfl).trans (by rw[e1];rfl)) ?_;refine(lN (i:=9) (xs:=gU nm (l++[i])) (d:=.int a.2) rfl rfl (by rw[e2,bD,cx,iF];lia) rfl).trans ?_;rw[e1,c6];rfl) (ρ:=ws nk dk s best R pl rows lv n (.lst (gU nm [])) x10 x11) ⟨pl,x10,x11,by simpa[gf,news] using hp,by simp[gf,news,rwl]⟩
 exact⟨pl',y10,y11,p',h⟩
def Cs(best:D)(p:ah)(rows:aa D)(lv:aq):Prop:=(best=.non/\lv=ai)\/∃rb ob,best=.tup [.scr rb,ob]/\lE rb/\rb.length=p/\((lv=ag/\∃T,rb=rows++T)\/(lv=ai/\Ls rows rb))
section
variable {nk dk:aa (D×D)} {s:af} {best:D} {R:aa af} {pl:aa (D×D)} {rows:aa D} {lv:aq} {n:D} {nm:Str} {l:aa af} {x10 x11:D} {p:ah}
theorem aO2(hc:Cs best p rows lv)(hl:rows.length<p):(∃lv',Cs best p (rows++[.scr (gU nm l)]) lv'/\aSw (ws nk dk s best R pl rows lv n (.lst (gU nm l)) x10 x11)=.ok (.nx (ws nk dk s best R pl rows lv' n (.lst (gU nm l)) x10 x11)))\/
  ((∃rb ob y T,best=.tup [.scr rb,ob]/\rb=rows++y::T/\y.plain=ag/\enc y<enc (.scr (gU nm l)))/\aSw (ws nk dk s best R pl rows lv n (.lst (gU nm l)) x10 x11)=.ok (.rt .non)):=by
 rcases hc with ⟨h1,rfl⟩|⟨rb,ob,rfl,h1,h2,h3⟩
 .exact .inl ⟨ai,.inl ⟨h1,rfl⟩,mC (G4 (aNv rfl)) rfl⟩
 .rcases h3 with ⟨rfl,T,e⟩|⟨rfl,h3⟩
  .obtain⟨y,T,rfl⟩:∃y T',T=y::T':=by
    cases T with
    |nil=>rw[e,d4] at h2;lia
    |cons y T=>exact⟨y,T,rfl⟩
   obtain⟨s',l',rfl⟩:=h1 y (by rw[e];simp);have hlt:rows.length<rb.length:=by lia
   have hg:aRl (ws nk dk s (.tup [.scr rb,ob]) R pl rows ag n (.lst (gU nm l)) x10 x11)=.ok (.scr (gU s' l')):=by
    refine aJ 0x10 (aK 0x11 (nF rows)) ?_;rw[aFz _ _ hlt]
    congr 1
    subst e;simp
   obtain⟨k1,e1,k1'⟩:=aO1 nm s' l l';have e2:=aO0 nm s' l l';have c1:(A_ (bTr o8) (bTB (b2 (bY .ne) xX aRl))) (ws nk dk s (.tup [.scr rb,ob]) R pl rows ag n (.lst (gU nm l)) x10 x11)=.ok (!k1):=CN (aNv rfl) (bU (aJ rfl hg e1));have c2:(bTB (b2 (bY (.ord .gt)) xX aRl)) (ws nk dk s (.tup [.scr rb,ob]) R pl rows ag n (.lst (gU nm l)) x10 x11)=.ok (ϒ (jX (gU s' l')<jX (gU nm l))):=bU (aJ rfl hg e2);cases k1 with
   |true=>
    have eq:=k1'.mp rfl;refine .inl ⟨ag,.inr ⟨rb,ob,rfl,h1,h2,.inl ⟨rfl,T,?_⟩⟩,mC c1 rfl⟩;rw[e,eq];simp
   |false=>
    have hne:gU nm l≠gU s' l':=λz=>by have:=k1'.mpr z;cases this
    by_cases hgt:jX (gU s' l')<jX (gU nm l)
    .rw[bz hgt] at c2;exact .inr ⟨⟨rb,ob,_,T,rfl,e,wK s' l',(aKt _ _).mpr hgt⟩,uW c1 (yF (uW c2 rfl))⟩
    .rw[cy hgt] at c2;refine .inl ⟨ai,.inr ⟨rb,ob,rfl,h1,h2,.inr ⟨rfl,rows,_,[],_,T,rfl,e,wK nm l,wK s' l',(aKt _ _).mpr ?_⟩⟩,uW c1 (aL (mC c2 rfl) (bA rfl))⟩;refine ue λz=>hne ?_
     have:=xg (lI.mp z) (lI.mp hgt);exact((vU _ _ [] [] (jF s' l') (jF nm l) (by rw[this])).1).symm
  .exact .inl ⟨ai,.inr ⟨rb,ob,rfl,h1,h2,.inr ⟨rfl,h3.more _⟩⟩,mC (G4 (aNv rfl)) rfl⟩
end
section
variable {nk dk:aa (D×D)} {s:af} {best:D} {M:aa af} {E:af->aa Pt} {nm:af->Str}
structure GdX(nk dk:aa (D×D))(M:aa af)(E:af->aa Pt)(nm:af->Str):Prop where
 g:Gd nk dk M E
 nz:0∉M
 ns:∀x∈M,bL nk (.int x)=ae (.str (nm x))
theorem aO3(g:GdX nk dk M E nm)(hn:rows.length<R.length)(hM:∀x∈R,x∈M)(hR:R.length<=100)(hp:PlX pl R)(hc:Cs best M.length rows lv)(hl:rows.length<M.length) :
  (∃pl' lv' y8 y9 y10 y11,PlX pl' 0x15 /\Cs best M.length (rows++[rowOf nm E 0x15 R[rows.length]]) lv'/\M4 0x1b=.ok (.nx (ws nk dk s best 0x15 pl' (rows++[rowOf nm E 0x15 R[rows.length]]) lv' y8 y9 y10 y11)))\/
  ((∃rb ob y T,best=.tup [.scr rb,ob]/\rb=rows++y::T/\y.plain=ag/\enc y<enc (rowOf nm E 0x15 R[rows.length]))/\M4 0x1b=.ok (.rt .non)):=by
 have hcM:R[rows.length]∈M:=hM _ (ig hn);generalize hcc:R[rows.length]=c at hcM ⊢;have hnm:=g.ns c hcM;have hds:=g.g.ds c hcM;obtain⟨pl',y10,y11,p',e1⟩:=aJ9 (x11:=x11) (E c) (g.g.el c) 0x1 hp;have g8:(b2 getD fW (aN gV (aD lH aV))) 0x1b=.ok (.int c):=by
  refine aJ (x:=.lst (R.map δ)) rfl (aK (xs:=[.lst rows]) 0x11 (nF rows)) ?_;rw[PB _ _ (by rw[aS];exact hn),jd,hcc]
 have g9:(uY (aD (b2 getD cQ wO) aV)) (ws nk dk s best R pl rows lv (.int c) x9 x10 x11)=.ok (.lst (gU (nm c) [])):=by
  have:(aD (b2 getD cQ wO) aV) (ws nk dk s best R pl rows lv (.int c) x9 x10 x11)=.ok [.str (nm c)]:=by
   refine aC (aJ rfl rfl ?_) rfl;show(if keyOk (.int c) then ι (bL nk (.int c)) else .bad)=_;rw[hnm];rfl
  unfold uY;rw[this,ε];rfl
 have gE:(b2 getD gD wO) (ws nk dk s best R pl rows lv (.int c) (.lst (gU (nm c) [])) x10 x11)=.ok (.scr ((E c).map enP)):=by
  refine aJ rfl rfl ?_;show(if keyOk (.int c) then ι (bL dk (.int c)) else .bad)=_;rw[hds];rfl
 unfold rowOf;generalize rwl (R++news R (gf (E c))) (E c)=l at e1 ⊢;have pre:∀r,(MJ aSw (XH 9 (BJ 6 xX))) (ws nk dk s best (R++news R (gf (E c))) pl' rows lv (.int c) (.lst (gU (nm c) l)) y10 y11)=r->M4 0x1b=r:=λr h=>by
  refine aL (ρ':=ws nk dk s best R pl rows lv (.int c) x9 x10 x11) (rM (i:=8) g8 rfl) ?_;refine aKr (i:=9) g9 (F_ (nm c) []) ?_;exact YG (mK (aAl gE (mV _)) e1) h
 rcases aO2 (nk:=nk) (dk:=dk) (s:=s) (R:=R++news R (gf (E c))) (pl:=pl') (n:=.int c) (nm:=nm c) (l:=l) (x10:=y10) (x11:=y11) hc hl with ⟨lv',h1,h2⟩|⟨h1,h2⟩
 .refine .inl ⟨pl',lv',.int c,.scr (gU (nm c) l),y10,y11,p',h1,pre _ (YG h2 ?_)⟩;refine aFw (i:=9) (xs:=gU (nm c) l) rfl ?_;exact lN (i:=6) (xs:=rows) (d:=.scr (gU (nm c) l)) rfl rfl (by rw[bD];lia) (F_ (nm c) l)
 .exact .inr ⟨h1,pre _ (aNu h2)⟩
theorem aO4(g:GdX nk dk M E nm)(hs:s∈M):∀(m:ah)(R:aa af)(pl:aa (D×D))(rows:aa D)(lv:aq)(x8 x9 x10 x11:D),Bv (λx=>gf (E x)) s R rows.length->PlX pl R->rows=(R.take rows.length).map (rowOf nm E R)->rows.length<=R.length->Cs best M.length rows lv->M.length<=m+rows.length->
  ((∃rb ob,best=.tup [.scr rb,ob]/\jX rb<jX (rowsOf nm E (bfs (λx=>gf (E x)) m R rows.length)))/\∀fuel,m<fuel->JN XR M4 fuel 0x1b=.ok (.rt .non))\/
  ∃pl' lv' y8 y9 y10 y11,Cs best M.length (rowsOf nm E (bfs (λx=>gf (E x)) m R rows.length)) lv'/\∀fuel,m<fuel->JN XR M4 fuel 0x1b=.ok (.nx (ws nk dk s best (bfs (λx=>gf (E x)) m R rows.length) pl' (rowsOf nm E (bfs (λx=>gf (E x)) m R rows.length)) lv' y8 y9 y10 y11)):=by
 have fin:∀(m:ah)(R:aa af)(pl:aa (D×D))(rows:aa D)(lv:aq)(x8 x9 x10 x11:D),rows=(R.take rows.length).map (rowOf nm E R)->Cs best M.length rows lv->R.length<=rows.length->bfs (λx=>gf (E x)) m R rows.length=R->Cs best M.length (rowsOf nm E (bfs (λx=>gf (E x)) m R rows.length)) lv/\∀fuel,m<fuel->JN XR M4 fuel 0x1b=.ok (.nx (ws nk dk s best (bfs (λx=>gf (E x)) m R rows.length) pl (rowsOf nm E (bfs (λx=>gf (E x)) m R rows.length)) lv x8 x9 x10 x11)):=λm R pl rows lv x8 x9 x10 x11 h1 h2 h3 h4=>by
  rw[iO h3] at h1;have e:rowsOf nm E R=rows:=h1.symm;rw[h4,e];refine⟨h2,λfuel hfu=>?_⟩;obtain⟨k,rfl⟩:∃k,fuel=k+1:=⟨fuel-1,by lia⟩
  exact xM (aAn ai (cy 0x1).symm)
 intro m;induction m with
 |zero=>
  intro R pl rows lv x8 x9 x10 x11 bv hp hr hl hc hm;have:=bv.len hs g.g.cl;exact .inr ⟨pl,lv,x8,x9,x10,x11,fin 0 R pl rows lv x8 x9 x10 x11 hr hc 0x1 rfl⟩
 |succ m ih=>
  intro R pl rows lv x8 x9 x10 x11 bv hp hr hl hc hm;have hR:=bv.len hs g.g.cl;have hM:=g.g.ml;by_cases hn:rows.length<R.length
  .have hcd:=aAn (nk:=nk) (dk:=dk) (s:=s) (best:=best) (pl:=pl) (lv:=lv) (n:=x8) (x9:=x9) (x10:=x10) (x11:=x11) ag (bz hn).symm;have hb:bfs (λx=>gf (E x)) (m+1) R rows.length=bfs (λx=>gf (E x)) m 0x15 (rows.length+1):=by
    rw[bfs,lw hn]
   have bv2:=bv.step hn;have htk: (R++news R (gf (E R[rows.length]))).take (rows.length+1)=R.take rows.length++[R[rows.length]]:=by
    rw[yp 0x1,ng hn]
   have hr2:rows++[rowOf nm E 0x15 R[rows.length]]=((R++news R (gf (E R[rows.length]))).take (rows.length+1)).map (rowOf nm E 0x15):=by
    rw[htk,bS]
    congr 1
    conv=>lhs;rw[hr]
    refine c_ λc hc=>?_
    unfold rowOf;rw[PJ (YJ (bv.cl c hc))]
   rw[hb];rcases aO3 (nk:=nk) (dk:=dk) (s:=s) (best:=best) (x8:=x8) (x9:=x9) (x10:=x10) (x11:=x11) g hn (λx hx=>(bv.rc x hx).mem hs g.g.cl) 0x1 hp hc 0x1 with ⟨pl',lv',y8,y9,y10,y11,p',h1,h2⟩|⟨⟨rb,ob,y,T,h1,h2,h3,h4⟩,h5⟩
   .have e1:(rows++[rowOf nm E 0x15 R[rows.length]]).length=rows.length+1:=by simp
    have:=ih 0x15 pl' (rows++[rowOf nm E 0x15 R[rows.length]]) lv' y8 y9 y10 y11 (by rw[e1];exact bv2) p' (by rw[e1];exact hr2) (by rw[e1,cx];lia) h1 0x1;rw[e1] at this;rcases this with ⟨i1,i2⟩|⟨pl'',lv'',z8,z9,z10,z11,i1,i4⟩
    .refine .inl ⟨i1,λfuel hfu=>?_⟩;obtain⟨k,rfl⟩:∃k,fuel=k+1:=⟨fuel-1,by lia⟩
     exact wF hcd h2 (i2 k 0x1)
    .refine .inr ⟨pl'',lv'',z8,z9,z10,z11,i1,λfuel hfu=>?_⟩;obtain⟨k,rfl⟩:∃k,fuel=k+1:=⟨fuel-1,by lia⟩
     exact wF hcd h2 (i4 k 0x1)
   .refine .inl ⟨⟨rb,ob,h1,?_⟩,λfuel hfu=>?_⟩
    .have hpre:=aJ7 (nm:=nm) (m:=m) bv2;rw[<-hr2] at hpre;refine Ls.lt ⟨rows,y,T,rowOf nm E 0x15 R[rows.length],(rowsOf nm E (bfs (λx=>gf (E x)) m 0x15 (rows.length+1))).drop (rows.length+1),h2,?_,h3,wK _ _,h4⟩;have:=lx (rows.length+1) (rowsOf nm E (bfs (λx=>gf (E x)) m 0x15 (rows.length+1)));rw[hpre,c6] at this;exact this.symm
    .obtain⟨k,rfl⟩:∃k,fuel=k+1:=⟨fuel-1,by lia⟩
     exact aS7 hcd h5
  .exact .inr ⟨pl,lv,x8,x9,x10,x11,fin (m+1) R pl rows lv x8 x9 x10 x11 hr hc 0x1 (by rw[bfs,uy hn])⟩
def wlk(E:af->aa Pt)(M:aa af)(s:af):aa af:=bfs (λx=>gf (E x)) M.length [s] 0
def fU(nm:af->Str)(E:af->aa Pt)(M:aa af)(s:af):aa D:=rowsOf nm E (wlk E M s)
def lF(nm:af->Str)(E:af->aa Pt)(R:aa af):lE (rowsOf nm E R):=λd hd=>by
 obtain⟨c,_,rfl⟩:=aE.mp hd;exact⟨_,_,rfl⟩
theorem aJa(g:GdX nk dk M E nm)(hs:s∈M)(hb:best=.non\/∃rb ob,best=.tup [.scr rb,ob]/\lE rb/\rb.length=M.length) :
  ((∃rb ob,best=.tup [.scr rb,ob]/\jX rb<jX (fU nm E M s))/\bV 4 gZ [.dct nk,.dct dk,.int s,best]=.ok .non)\/((best=.non\/∃rb ob,best=.tup [.scr rb,ob]/\¬jX rb<jX (fU nm E M s))/\bV 4 gZ [.dct nk,.dct dk,.int s,best]=.ok (wkD (fU nm E M s) (wlk E M s))):=by
 have hlv:∃lv,Cs best M.length [] lv/\bY .notN best .non=.ok (.bl lv):=by
  rcases hb with rfl|⟨rb,ob,rfl,h,h2⟩
  .exact⟨ai,.inl ⟨rfl,rfl⟩,rfl⟩
  .exact⟨ag,.inr ⟨rb,ob,rfl,h,h2,.inl ⟨rfl,rb,rfl⟩⟩,rfl⟩
 obtain⟨lv,h1,h2⟩:=hlv;have hM:=g.g.ml;have hs0:s≠0:=λz=>g.nz (by rw[<-z];exact hs)
 have pre:∀d,(bO (aOv XR M4) (RP 6 (RP 4 (lJ (fP (aD lH (aD fW aV))) ai)))) (ws nk dk s best [s] (putD [(.int 0,.int 0)] (.int s) (.int 1)) [] lv .uD .uD .uD .uD)=.ok (.rt d)->bV 4 gZ [.dct nk,.dct dk,.int s,best]=.ok d:=λd h=>by
  refine(cJ rfl).trans (call_v ?_);refine aL (dG rfl rfl) ?_;refine aL (dG rfl ?_) ?_
  .show θ ((if eqD (.int 0) (.int s) then [(δ 0,δ 1)] else [(δ 0,δ 0),(δ s,δ 1)]).map (·.2))=ag;split<;>rfl
  refine aL (dG rfl rfl) ?_;refine aL (bA (aJ (gP rfl ?_) rfl h2)) h;rcases hb with rfl|⟨rb,ob,rfl,_⟩<;>(intro z;cases z)
 rcases aO4 g hs M.length [s] _ [] lv .uD .uD .uD .uD (bv0 _ s) (aVv hs0) rfl 0x2 h1 0x2 with ⟨i1,i2⟩|⟨pl',lv',y8,y9,y10,y11,i1,i4⟩
 .exact .inl ⟨i1,pre _ (yF (i2 1000 0x1))⟩
 .have i1:Cs best M.length (fU nm E M s) lv':=i1;have i4:JN XR M4 1000 (ws nk dk s best [s] (putD [(.int 0,.int 0)] (.int s) (.int 1)) [] lv .uD .uD .uD .uD)=.ok (.nx (ws nk dk s best (wlk E M s) pl' (fU nm E M s) lv' y8 y9 y10 y11)):=i4 1000 0x1;have hlen:(fU nm E M s).length<=M.length:=by
   obtain⟨q1,q2,_⟩:=YK hs g.g.cl;rw[fU,rowsOf,aS];exact qO _ _ q1 λx hx=>((q2 x).mp hx).mem hs g.g.cl
  refine .inr ⟨?_,pre _ (aL i4 ?_)⟩
  .rcases i1 with ⟨z,_⟩|⟨rb,ob,z,z1,z2,z3⟩
   .exact .inl z
   .refine .inr ⟨rb,ob,z,?_⟩;rcases z3 with ⟨_,T,e⟩|⟨_,z3⟩
    .intro hlt;have hT:∀A T:aa D,¬jX (A++T)<jX A:=by
      intro A;induction A with
      |nil=>
       intro T;cases T with
       |nil=>exact mP _
       |cons x T=>
        show ¬(1::(enc x++jX T))<[0];rw[eL];simp
      |cons a A ih=>
       intro T;show ¬(1::(enc a++jX (A++T)))<(1::(enc a++jX A));rw[eL];rintro(z|⟨_,z⟩)
       .exact aT z (ox _)
       .exact ih T ((uR _ _ _).mp z)
     rw[e] at hlt;exact hT _ _ hlt
    .exact w_ z3.lt
  .have ro:=lF nm E (wlk E M s);refine aG0 rfl (aG0 rfl ?_);refine d8 (cW 0xf (by rw[bD];simp)) ?_;show(ai||(θ (fU nm E M s)&&(θ ((wlk E M s).map δ)&&ag)))=ag;rw[fU,xO ro,eF];rfl
end
theorem JZ(h1:¬ltP b a)(h2:¬ltP c b):¬ltP c a:=by unfold ltP at *;lia
noncomputable def mn(m y:Pt):Pt:=if ltP y m then y else m
theorem fold_min:∀(xs:aa Pt)(x:Pt),∀a∈x::xs,¬ltP a (xs.foldl mn x)
 |[],x,a,h=>by
  have:a=x:=by simpa using h
  subst this;show ¬ltP a a;unfold ltP;lia
 |y::xs,x,a,h=>by
  rw[iS];have h1:¬ltP x (mn x y):=by unfold mn;split<;>(unfold ltP at *;lia)
  have h2:¬ltP y (mn x y):=by unfold mn;split<;>(unfold ltP at *;lia)
  have ih:=fold_min xs (mn x y);have h0:=ih (mn x y) (bu ..);rcases bi.mp h with rfl|h
  .exact JZ h0 h1
  .rcases bi.mp h with rfl|h
   .exact JZ h0 h2
   .exact ih a (bo _ h)
theorem aAp:∀(xs:aa Pt)(x:Pt),(xs.map enP).foldl (λm y=>if (jY .lt y m).getD ai then y else m) (enP x)=enP (xs.foldl mn x)
 |[],x=>rfl
 |y::xs,x=>by
  rw[ba,iS,iS,sS];have:(if (ae (ϒ (ltP y x))).getD ai then enP y else enP x)=enP (mn x y):=by
   unfold mn;by_cases h:ltP y x
   .rw[ao h,bz h];rfl
   .rw[ap h,cy h];rfl
  rw[this];exact aAp xs (mn x y)
theorem aJb(P:aa Pt)(h:P≠[]):∃q∈P,(∀a∈P,¬ltP a q)/\cZ .lt [.lst (P.map enP)]=.ok (enP q):=by
 cases P with
 |nil=>exact aT rfl h
 |cons p P=>
  have hall:(((p::P).map enP).all λa=>a.fV aR&&((p::P).map enP).all λb=>(jY .lt a b).isSome)=ag:=by
   refine dy.mpr λa ha=>?_
   obtain⟨q,_,rfl⟩:=aE.mp ha;rw[show(enP q).fV aR=ag from rfl,oP];refine dy.mpr λb hb=>?_
   obtain⟨q',_,rfl⟩:=aE.mp hb;rw[sS];rfl
  have e:cZ .lt [.lst ((p::P).map enP)]=.ok ((P.map enP).foldl (λm y=>if (jY .lt y m).getD ai then y else m) (enP p)):=by
   show(if (((p::P).map enP).all λa=>a.fV aR&&((p::P).map enP).all λb=>(jY .lt a b).isSome) then τ _ else .bad)=_;rw[hall,ao rfl]
  exact⟨_,aAo mn (λa b=>by unfold mn;split<;>simp) P p,fold_min P p,by rw[e,aAp]⟩
noncomputable def yG(E:af->aa Pt)(M:aa af):aa Pt:=M.flatMap λc=>((E c).filter λf=>ϒ (f.1=0)).map λf=>(f.2,c)
def nJ{E:af->aa Pt}:q∈yG E M↔q.2∈M/\(0,q.1)∈E q.2:=by
 unfold yG;simp only[jc,aE,kP,eB];constructor
 .rintro⟨c,hc,f,⟨hf,h0⟩,rfl⟩;refine⟨hc,?_⟩;rw[<-h0];exact hf
 .rintro⟨h1,h2⟩;exact⟨q.2,h1,(0,q.1),⟨h2,rfl⟩,rfl⟩
def Sta(E:af->aa Pt)(M S:aa af):Prop:=(yG E M=[]/\S=M)\/∃q∈yG E M,(∀a∈yG E M,¬ltP a q)/\S=[q.2]
section
variable {nk dk:aa (D×D)} {M:aa af} {E:af->aa Pt} {nm:af->Str}
theorem aJc(g:Gd nk dk M E)(hc:c∈M)(hA:A.length<=10000):stb [.dct dk,pd,.lst (A.map enP),.int c]=.ok (.nx [.dct dk,pd,.lst ((A++((E c).filter λf=>ϒ (f.1=0)).map λf=>(f.2,c)).map enP),.int c]):=by
 have hds:=g.ds c hc;have hel:=g.el c;have gE:(b2 getD cQ j6) [.dct dk,pd,.lst (A.map enP),.int c]=.ok (.scr ((E c).map enP)):=by
  refine aJ rfl rfl ?_;show(if keyOk (.int c) then ι (bL dk (.int c)) else .bad)=_;rw[hds];rfl
 have hcomp:=oH (rD 4 uQ (bTB (b2 (bY .eq) (b2 getD fW dM) dM)) (fP (aD (b2 getD fW fJ) (aD j6 aV))) ai [.dct dk,pd,.lst (A.map enP),.int c]) enP (λf=>ϒ (f.1=0)) (λf=>enP (f.2,c)) (λacc f=>by
  refine gF rfl (bU (aJ 0x10 rfl ?_)) λ_=>⟨cW (aC 0x10 0x11) (by rw[bD];simp),rfl⟩
  show τ (υ (eqD (.int f.1) (.int 0)))=_;rw[gR]) (E c) []
 have hl:((E c).filter λf=>ϒ (f.1=0)).length<=100:=dj (rn ..) hel;have hm:(((E c).filter λf=>ϒ (f.1=0)).map λf=>enP (f.2,c))=(((E c).filter λf=>ϒ (f.1=0)).map λf=>(f.2,c)).map enP:=by rw[bp];rfl
 refine(aS8 (jM (aAl gE (mV _)) (by rw[aS,bD];lia) hcomp) rfl ?_ ?_).trans ?_
 .rw[eJ,aS,aS,bD];lia
 .rw[eJ,hm];exact mV _
 .rw[eJ,hm,bS];rfl
theorem aAq(hE:∀x,(E x).length<=100):∀M:aa af,(yG E M).length<=100*M.length
 |[]=>bd _
 |c::M=>by
  have:=aAq hE M;have hl:((E c).filter λf=>ϒ (f.1=0)).length<=100:=dj (rn ..) (hE c);show((((E c).filter λf=>ϒ (f.1=0)).map λf=>(f.2,c))++yG E M).length<=_;rw[cx,aS,b9];lia
theorem aCg(g:Gd nk dk M E):∃S:aa af,Sta E M S/\(∀x∈S,x∈M)/\bV 2 mR [.dct dk,pS M]=.ok (pS S):=by
 have hM:=g.ml;obtain⟨ρ,e1,x3,rfl⟩:=eE (t:=tg1 3) (I:=λys ρ=>∃x3:D,ρ=[.dct dk,pS M,.lst ((yG E ys).map enP),x3]) M (λys c zs ρ e ⟨x3,h⟩=>by
  subst h;have hyl:ys.length<=100:=by rw[e] at hM;simp at hM;lia
  have hc:c∈M:=by rw[e];simp
  have hA:=aAq g.el ys;refine⟨[.dct dk,pS M,.lst ((yG E ys).map enP),.int c],_,rfl,aJc (pd:=pS M) (A:=yG E ys) g hc 0x1,.int c,?_⟩
  congr 4
  unfold yG;rw[kG,Df]) (ρ:=[.dct dk,pS M,.lst [],.uD]) ⟨.uD,rfl⟩
 have pre:∀d,(bO (sIf (bTr gK) (lJ (bFz (uY (aD (b2 getD (aN (cZ .lt) (aD gK aV)) fJ) aV))) ag) o_) (lJ gD ai)) [.dct dk,pS M,.lst ((yG E M).map enP),x3]=.ok (.rt d)->bV 2 mR [.dct dk,pS M]=.ok d:=λd h=>by
  refine(cJ rfl).trans (call_v ?_);refine aL (ρ':=[.dct dk,pS M,.lst [],.uD]) (dG (i:=2) rfl rfl) ?_;exact aL (aFs (i:=1) (xs:=M.map δ) rfl e1) h
 by_cases hA:yG E M=[]
 .refine⟨M,.inl ⟨hA,rfl⟩,λx h=>h,pre _ ?_⟩;rw[hA];refine aL (ρ':=[.dct dk,pS M,.lst [],x3]) (mC rfl rfl) (d8 rfl ?_);show(ai||θ (M.map δ))=ag;rw[eF];rfl
 .obtain⟨q,hq,hq2,hm⟩:=aJb _ hA;refine⟨[q.2],.inr ⟨q,hq,hq2,rfl⟩,λx hx=>by rw[em.mp hx];exact(nJ.mp hq).1,pre _ ?_⟩;generalize yG E M=A at hA hq hm ⊢;have ht:(bTr gK) [.dct dk,pS M,.lst (A.map enP),x3]=.ok ag:=by
   show τ (!(A.map enP).isEmpty)=_;cases A with
   |nil=>exact aT rfl hA
   |cons a A=>rfl
  refine yF (uW ht (d8 (aS3 (xs:=[.int q.2]) ?_ rfl) rfl));have:(aD (b2 getD (aN (cZ .lt) (aD gK aV)) fJ) aV) [.dct dk,pS M,.lst (A.map enP),x3]=.ok [.int q.2]:=aC (aJ (x:=enP q) (aK (xs:=[.lst (A.map enP)]) 0x11 hm) rfl rfl) rfl;unfold uY;rw[this,ε];rfl
theorem aAr(g:Gd nk dk M E)(hnd:M.Nodup)(hs:s∈M)(hrc:∀x,Rc (λx=>gf (E x)) s x↔x∈M):(wlk E M s).Perm M:=by
 obtain⟨q1,q2,_⟩:=YK hs g.cl;exact GC q1 hnd λy=>(q2 y).trans (hrc y)
theorem aG7(g:GdX nk dk M E nm)(hne:M≠[])(hnd:M.Nodup)(hrc:∀s∈M,∀x,Rc (λx=>gf (E x)) s x↔x∈M):∃S s0,Sta E M S/\s0∈S/\(∀s∈S,s∈M)/\(∀s∈S,¬jX (fU nm E M s)<jX (fU nm E M s0))/\bV 3 dX [.dct nk,.dct dk,pS M]=.ok (wkD (fU nm E M s0) (wlk E M s0)):=by
 obtain⟨S,s1,s2,s3⟩:=aCg g.g;have hS:S≠[]:=by
  rcases s1 with ⟨_,z⟩|⟨q,_,_,z⟩
  .rw[z];exact hne
  .rw[z];simp
 obtain⟨ρ,e1,b,x4,x5,h1,rfl⟩:=eE (t:=tg1 4) (body:=fwb) (d:=δ) (I:=λys ρ=>∃b x4 x5,((ys=[]/\b=.non)\/∃s0∈ys,(∀s∈ys,¬jX (fU nm E M s)<jX (fU nm E M s0))/\b=wkD (fU nm E M s0) (wlk E M s0))/\ρ=[.dct nk,.dct dk,pS M,b,x4,x5]) S (λys c zs ρ e ⟨b,x4,x5,h1,h⟩=>by
  subst h;have hc:c∈M:=s2 c (by rw[e];simp);have hysM:∀s∈ys,s∈M:=λs hs=>s2 s (by rw[e];exact dP _ hs)
  have hbb:b=.non\/∃rb ob,b=.tup [.scr rb,ob]/\lE rb/\rb.length=M.length:=by
   rcases h1 with ⟨_,z⟩|⟨s0,hs0,_,z⟩
   .exact .inl z
   .refine .inr ⟨_,_,z,lF _ _ _,?_⟩;rw[fU,rowsOf,aS,(aAr g.g hnd (hysM s0 hs0) (hrc s0 (hysM s0 hs0))).length_eq]
  have hu:b≠.uD:=by
   rcases h1 with ⟨_,z⟩|⟨s0,_,_,z⟩<;>(rw[z];intro q;cases q)
  refine⟨[.dct nk,.dct dk,pS M,b,.int c,x5],?_⟩;have ha:∀d,bV 4 gZ [.dct nk,.dct dk,.int c,b]=.ok d->(cR ai 5 (aN (bV 4 gZ) (aD cQ (aD gD (aD fW (aD j6 aV))))) ag) [.dct nk,.dct dk,pS M,b,.int c,x5]=.ok (.nx [.dct nk,.dct dk,pS M,b,.int c,d]):=λd h=>bA (i:=5) (aK (xs:=[.dct nk,.dct dk,.int c,b]) (aC rfl (aC rfl (aC rfl (aC (gP rfl hu) rfl)))) h)
  rcases aJa g hc hbb with ⟨⟨rb,ob,i1,i1'⟩,i2⟩|⟨i1,i2⟩
  .refine⟨[.dct nk,.dct dk,pS M,b,.int c,.non],rfl,aL (ha _ i2) (mC rfl rfl),b,.int c,.non,?_,rfl⟩;rcases h1 with ⟨_,z⟩|⟨s0,hs0,hmin,z⟩
   .rw[z] at i1;cases i1
   .refine .inr ⟨s0,dP _ hs0,λs hs=>?_,z⟩;rcases cj.mp hs with hs|hs
    .exact hmin s hs
    .rw[em.mp hs];rw[z] at i1;cases i1;exact w_ i1'
  .refine⟨[.dct nk,.dct dk,pS M,wkD (fU nm E M c) (wlk E M c),.int c,wkD (fU nm E M c) (wlk E M c)],rfl,aL (ha _ i2) (uW rfl rfl),wkD (fU nm E M c) (wlk E M c),.int c,_,.inr ⟨c,by simp,λs hs=>?_,rfl⟩,rfl⟩;rcases cj.mp hs with hs|hs
   .rcases h1 with ⟨z,_⟩|⟨s0,hs0,hmin,z⟩
    .rw[z] at hs;cases hs
    .rcases i1 with z1|⟨rb,ob,z1,z2⟩
     .rw[z1] at z;cases z
     .rw[z] at z1;cases z1;intro hlt;exact z2 (w8 (lI.mp (hmin s hs)) hlt)
   .rw[em.mp hs];exact mP _) (ρ:=[.dct nk,.dct dk,pS M,.non,.uD,.uD]) ⟨.non,.uD,.uD,.inl ⟨rfl,rfl⟩,rfl⟩
 obtain⟨s0,hs0,hmin,rfl⟩:=h1.resolve_left λz=>hS z.1
 refine⟨S,s0,s1,hs0,s2,hmin,(cJ rfl).trans (call_v ?_)⟩;refine aL (ρ':=[.dct nk,.dct dk,pS M,.non,.uD,.uD]) (bA (i:=3) rfl) ?_;refine aL (mK (aAl (xs:=S.map δ) (aK (xs:=[.dct dk,pS M]) 0xf s3) (eF S)) e1) ?_;refine d8 (d:=wkD (fU nm E M s0) (wlk E M s0)) rfl ?_;show(ai||(θ (fU nm E M s0)&&(θ ((wlk E M s0).map δ)&&ag)))=ag;rw[fU,xO (lF _ _ _),eF];rfl
end
theorem lG(g:aa D->D->Res (aa D))(d y:α->D):∀(xs:aa α)(acc:aa D),(∀acc,∀a∈xs,g acc (d a)=.ok (acc++[y a]))->o9 g acc (xs.map d)=.ok (acc++xs.map y)
 |[],acc,_=>by rw[jk,jk,d4];rfl
 |a::xs,acc,h=>by
  show(do let r <- g acc (d a);o9 g r (xs.map d))=_;rw[h acc a (bu ..),ε,lG g d y xs _ λacc b hb=>h acc b (bo _ hb)];simp
def wk2(x:aa D×aa af):D:=wkD x.1 x.2
def unW:D->aa D×aa af
 |.tup [.scr rows,.scr o]=>(rows,o.map unI)
 |_=>([],[])
def aS9(x:aa D×aa af):unW (wk2 x)=x:=by
 show(x.1,(x.2.map δ).map unI)=x;rw[bp];have:x.2.map (unI ∘ δ)=x.2:=by
  conv=>rhs;rw[<-gj x.2]
  exact c_ λt _=>rfl
 rw[this]
theorem vG:∀l:aa af,χ (l.map δ)=ag
 |[]=>rfl
 |x::l=>by rw[ba,χ,vG l];rfl
theorem aG8(s:Str)(l:aa af):(ο (gU s l)).plain=ag:=by
 show(ag&&χ (l.map δ))=ag;rw[vG];rfl
theorem j_:∀{rows:aa D},lE rows->χ rows=ag
 |[],_=>rfl
 |d::rows,h=>by
  obtain⟨s,l,rfl⟩:=h d (bu ..);rw[χ,aG8,j_ λd hd=>h d (bo _ hd)];rfl
theorem T8:∀{rows:aa D},lE rows->ν 10 rows=ag
 |[],_=>rfl
 |d::rows,h=>by
  obtain⟨s,l,rfl⟩:=h d (bu ..);rw[ν,T8 λd hd=>h d (bo _ hd),i8];exact sW 9 s l
theorem T9:∀{a b:aa D},lE a->lE b->∃k,dY .lt a b=ae k
 |[],b,_,_=>⟨_,rfl⟩
 |x::a,[],_,_=>⟨_,rfl⟩
 |x::a,y::b,ha,hb=>by
  obtain⟨k,h⟩:=T9 (λd hd=>ha d (bo _ hd)) λd hd=>hb d (bo _ hd)
  obtain⟨s,l,rfl⟩:=ha x (bu ..);obtain⟨s',l',rfl⟩:=hb y (bu ..);show ∃k,(if eqD (.scr (gU s l)) (.scr (gU s' l')) then dY .lt a b else dY .lt (gU s l) (gU s' l'))=ae k;split
  .exact⟨k,h⟩
  .exact aAm .lt s s' l l'
def aSa(hx:lE x.1)(hy:lE y.1):∃k,jY .lt (wk2 x) (wk2 y)=ae k:=by
 obtain⟨k1,h1⟩:=T9 hx hy;obtain⟨k2,h2⟩:=O_ .lt x.2 y.2;show ∃k,(if eqD (.scr x.1) (.scr y.1) then (if eqD (.scr (x.2.map δ)) (.scr (y.2.map δ)) then dY .lt [] [] else dY .lt (x.2.map δ) (y.2.map δ)) else dY .lt x.1 y.1)=ae k;split
 .split
  .exact⟨_,rfl⟩
  .exact⟨k2,h2⟩
 .exact⟨k1,h1⟩
theorem PL{L:aa (aa D×aa af)}(h:∀x∈L,lE x.1):bF (L.map wk2)=ag:=by
 unfold bF;refine dy.mpr λd hd=>?_
 obtain⟨x,hx,rfl⟩:=aE.mp hd;have hk:fY ((L.map wk2).headD .non)=6:=by
  cases L with
  |nil=>cases hx
  |cons u U=>rfl
 have h6:fY (wk2 x)=6:=rfl;have hp:(wk2 x).plain=ag:=by
  show(χ x.1&&(χ (x.2.map δ)&&ag))=ag;rw[j_ (h x hx),vG];rfl
 have hq:(wk2 x).fV aR=ag:=by
  show(ν 10 x.1&&(ν 10 (x.2.map δ)&&ag))=ag;rw[T8 (h x hx),xN];rfl
 rw[hk,h6,hp,hq];refine dy.mpr λb hb=>?_
 obtain⟨y,hy,rfl⟩:=aE.mp hb;obtain⟨k,e⟩:=aSa (h x hx) (h y hy);rw[e];rfl
def aO5(h1:f ρ=.ok (.scr ys))(h2:ρ.getD i .uD=.lst xs)(h3:xs.length+ys.length<=lim)(h4:θ ys=ag):aEx i f ρ=.ok (.nx (ρ.set i (.lst (xs++ys)))):=by
 unfold aEx;rw[h1,ε,h2];show(if ϒ (xs.length+ys.length<=lim)&&θ ys then _ else _)=_;rw[bz h3,h4];rfl
noncomputable def EP:ah->aa af->aa Pt
 |_,[]=>[]
 |m,o::O=>((m:af),o)::EP (m+1) O
theorem aG9(m:ah):∀(k:ah)(O:aa af),((O.map δ).zipIdx k).map (λp=>D.tup [.int ((m+p.2:ah):af),p.1])=(EP (m+k) O).map enP
 |_,[]=>rfl
 |k,o::O=>by
  rw[ba,Ay,ba,aG9 m (k+1) O];rfl
theorem aAs(m:ah)(O:aa af):LC m (O.map δ)=(EP m O).map enP:=aG9 m 0 O
theorem aGa:∀(m:ah)(O:aa af),(EP m O).map (·.2)=O
 |_,[]=>rfl
 |m,o::O=>by
  show o::(EP (m+1) O).map (·.2)=_;rw[aGa]
theorem aKu:∀(m:ah)(O:aa af),(EP m O).map (·.1)=(bn O.length).map λ(k:ah)=>((m:af)+k)
 |_,[]=>rfl
 |m,o::O=>by
  show(m:af)::(EP (m+1) O).map (·.1)=_;rw[aKu (m+1) O,b9,xl,ba,bp];have e1:((m:af)+((0:ah):af))=m:=by lia
  rw[e1];refine cz _ (c_ λk _=>?_);show((m+1:ah):af)+k=(m:af)+((k+1:ah):af);lia
theorem aCh(U:aa Pt):fD [.lst (U.map enP)]=.ok (.lst ((nY U).map enP)):=by
 show(if bF (U.map enP) then τ (ξ (iK (U.map enP))) else .bad)=_;rw[I_,ao rfl,aFr]
theorem aGb(h:(U.map (·.1)).Perm M)(hM:M.Pairwise (·<·)):(nY U).map (·.1)=M:=by
 have hnd:M.Nodup:=hM.imp λ{a b} z=>by lia
 have hU:(U.map (·.1)).Nodup:=h.nodup_iff.mpr hnd;have hUn:U.Nodup:=(eh.mp hU).imp λ{a b} z e=>z (by rw[e])
 have hp:((nY U).map (·.1)).Perm M:=((oO U).map _).trans h;refine zB ?_ hM λx=>hp.mem_iff
 have h1:(nY U).Pairwise λa b=>a.1≠b.1:=eh.mp (hp.nodup_iff.mpr hnd)
 refine eh.mpr (Dg ?_ (aCf hUn) h1);intro a b z1 z2;unfold ltP at z1;lia
theorem aAt:∀Q:aa Pc,oK (Q.map pcD)=ae (Q.map λc=>(δ c.1,μ c.2))
 |[]=>rfl
 |c::Q=>by
  show(if oZ (.int c.1)&&(μ c.2).pure then (oK (Q.map pcD)).map ((δ c.1,μ c.2)::·) else aj)=_;rw[aAt Q];rfl
theorem J1:∀(Q:aa Pc)(acc:aa (D×D))(n:af),n∈Q.map (·.1)\/(∃s:Str,bL acc (.int n)=ae (.str s))->∃s:Str,bL (cG acc (Q.map λc=>(δ c.1,μ c.2))) (.int n)=ae (.str s)
 |[],acc,n,h=>h.resolve_left 0x2
 |c::Q,acc,n,h=>by
  show ∃s:Str,bL (cG (putD acc (.int c.1) (.str c.2)) (Q.map λc=>(δ c.1,μ c.2))) (.int n)=ae (.str s);refine J1 Q _ n ?_;rw[qU];by_cases e:c.1=n
  .exact .inr ⟨c.2,ao e⟩
  .rw[ap e];rcases h with h|h
   .exact .inl ((bi.mp h).resolve_left λz=>e z.symm)
   .exact .inr h
def nkD(Q:aa Pc):aa (D×D):=cG [] (Q.map λc=>(δ c.1,μ c.2))
theorem aJd(h:Q.length<=30):CT (.tup (Q.map pcD))=.ok (.dct (nkD Q)):=by
 show(match oK (Q.map pcD) with|some ps=>if ϒ ((Q.map pcD).length<=1000) then τ (D.dct (cG [] ps)) else .bad|none=>.bad)=_;rw[aAt];show(if ϒ ((Q.map pcD).length<=1000) then τ (D.dct (nkD Q)) else .bad)=_;rw[bz (by rw[aS];lia),ao rfl]
section
variable {kvs:aa (D×D)} {Q:aa Pc} {V:aa Tie}
theorem T_(w:Net kvs Q V)(hx:x∈Q.map (·.1)):y∈gf (ea kvs Q V x)↔y∈TY V x:=by
 obtain⟨pc,hp,rfl⟩:=aE.mp hx;have wf:=w.wf;have h0:=w.qpos pc hp;unfold gf;rw[kP,zE];simp only[aE,eB];constructor
 .rintro⟨⟨f,hf,rfl⟩,hy⟩;obtain⟨h,ht⟩:=(T7 w hp).mp hf;rcases ht with ht|ht
  .exact⟨_,ht,by show pc.1≠0;lia,.inl ⟨rfl,rfl⟩⟩
  .exact⟨_,ht,hy,.inr ⟨rfl,rfl⟩⟩
 .rintro⟨t,ht,h1,h2⟩;have hm:t.1.1∈Q.map (·.1)/\t.2.1∈Q.map (·.1):=(wf.ok t ht).resolve_left λz=>h1 z.1
  have q1:=wf.qp _ hm.1;have q2:=wf.qp _ hm.2;rcases h2 with ⟨h2,h3⟩|⟨h2,h3⟩
  .refine⟨⟨t.2,(T7 w hp).mpr ⟨t.1.2,.inl ?_⟩,h3⟩,by lia⟩;rw[show(pc.1,t.1.2)=t.1 from Prod.ext h2.symm rfl];exact ht
  .refine⟨⟨t.1,(T7 w hp).mpr ⟨t.2.2,.inr ?_⟩,h3⟩,by lia⟩;rw[show(pc.1,t.2.2)=t.2 from Prod.ext h2.symm rfl];exact ht
theorem aSb(w:Net kvs Q V)(x:af):(ea kvs Q V x).length<=100:=by
 unfold ea;rw[JX];unfold vq;cases h:Q.find? λc=>ϒ (c.1=x) with
 |none=>simp
 |some c=>
  have:=aFt w (List.mem_of_find?_eq_some h);show vOf kvs c.2+1<=100;lia
theorem sX(w:Net kvs Q V)(ps:Ps (TY V) (Q.map (·.1)) F)(hp:p∈F):Gd (nkD Q) (dE (Q.map (·.1)) 0x1d) p 0x1d /\p≠[]/\p.Nodup/\∀s∈p,∀x,Rc (λx=>gf (ea kvs Q V x)) s x↔x∈p:=by
 have wf:=w.wf;have hcl:=mX wf;obtain⟨n,q,e,hn,hlt,hm⟩:=ps.ea p hp;have hsub:∀x∈p,x∈Q.map (·.1):=λx hx=>((hm x).mp hx).mem hn hcl
 have hnd:p.Nodup:=hlt.imp λ{a b} z=>by lia
 have hl:p.length<=30:=by
  have:=qO _ _ hnd hsub;rw[aS] at this;have:=w.ql;lia
 refine⟨⟨λx hx y hy=>?_,by lia,aSb w,λx hx=>aFu (hsub x hx),λx hx=>J1 Q [] x (.inl (hsub x hx))⟩,by rw[e];simp,hnd,λs hs x=>?_⟩
 .exact(hm y).mpr (((hm x).mp hx).step ((T_ w (hsub x hx)).mp hy))
 .have hs':=(hm s).mp hs;have hsN:=hsub s hs;have cl2:∀x∈Q.map (·.1),∀y∈gf (ea kvs Q V x),y∈Q.map (·.1):=λx hx y hy=>hcl x hx y ((T_ w hx).mp hy)
  constructor
  .intro h;exact(hm x).mpr (hs'.trans (Rc.to hsN cl2 (λx hx y hy=>(T_ w hx).mp hy) h))
  .intro h;have h1:Rc (TY V) s x:=(hs'.symm (T3 V)).trans ((hm x).mp h);exact Rc.to hsN hcl (λx hx y hy=>(T_ w hx).mpr hy) h1
theorem UG:∀{F:aa (aa af)}{W:aa af->aa D×aa af},(∀p∈F,(W p).2.Perm p)->((F.map W).flatMap (·.2)).Perm F.flatten
 |[],_,_=>.refl _
 |p::F,W,h=>by
  show((W p).2++(F.map W).flatMap (·.2)).Perm (p++F.flatten);exact(h p (bu ..)).append (UG λq hq=>h q (bo _ hq))
def sY(f:α->aa β){l m:aa α}(h:l.Perm m):(l.flatMap f).Perm (m.flatMap f):=by
 induction h with
 |nil=>exact .refl _
 |cons a _ ih=>exact l7 _ ih
 |swap a b l=>
  show(f b++(f a++_)).Perm (f a++(f b++_));rw[<-c6,<-c6];exact(rL).append_right _
 |trans _ _ h1 h2=>exact h1.trans h2
def wn(net:D)(nk dk:aa (D×D))(x3 x4 x5 x6:D):aa D:=[net,.dct nk,.dct dk,x3,x4,x5,x6]
def prs(O:aa af):aa Pt:=(EP 1 O).map λe=>((e.2,e.1):Pt)
theorem aGc(O:aa af):(prs O).map (·.1)=O:=by unfold prs;rw[bp];exact aGa 1 O
def aO6(O:aa af):(prs O).map (·.2)=(bn O.length).map λ(k:ah)=>((1:af)+k):=by unfold prs;rw[bp];exact aKu 1 O
theorem aGd{F:aa (aa af)}(hW:∀p∈F,bV 3 dX [.dct nk,.dct dk,pS p]=.ok (wk2 (W p))):o9 (rD 7 uQ gB 0x2d ag (wn net nk dk .uD .uD .uD .uD)) [] (F.map pS)=.ok ((F.map W).map wk2):=by
 have h:=lG (rD 7 uQ gB 0x2d ag (wn net nk dk .uD .uD .uD .uD)) pS (λp=>wk2 (W p)) F [] (λacc p hp=>by
  have hf: 0x2d [net,.dct nk,.dct dk,.uD,.uD,.uD,.uD,pS p]=.ok (wk2 (W p)):=aK (aC rfl 0xf) (hW p hp);exact gF (b:=ag) rfl rfl λ_=>⟨hf,rfl⟩)
 rw[h,eJ,bp];rfl
theorem aGe:o9 (rD 7 (JG 2) gB (fP (aD wO (aD o8 aV))) ai (wn net nk dk x3 (.lst (O.map δ)) x5 x6)) [] (LC 1 (O.map δ))=.ok ((prs O).map enP):=by
 rw[aAs,lG _ enP (λe=>enP (e.2,e.1)) (EP 1 O) [] (λacc e _=>by
  exact mW (b:=ag) rfl rfl rfl λ_=>⟨cW 0xf (by rw[bD];simp),rfl⟩),eJ]
 unfold prs;rw[bp];rfl
end
def FW(nm:af->Str)(E:af->aa Pt)(p:aa af)(rows:aa D):Prop:=∃S s0,Sta E p S/\s0∈S/\(∀s∈S,s∈p)/\(∀s∈S,¬jX (fU nm E p s)<jX (fU nm E p s0))/\rows=fU nm E p s0
section
variable {φ:af->af} {p p':aa af} {nm nm':af->Str} {E E':af->aa Pt}
def aSc(cl:∀x∈p,∀y∈gf (E x),y∈p)(hs:s∈p):∀x∈wlk E p s,x∈p:=λx hx=>by
 obtain⟨_,q2,_⟩:=YK hs cl;exact((q2 x).mp hx).mem hs cl
def aO7(i:Iso φ p nm nm' E E')(hl:p'.length=p.length)(hs:s∈p):wlk E' p' (φ s)=(wlk E p s).map φ:=by
 unfold wlk;rw[hl];exact aG5 i p.length [s] 0 λx hx=>by rw[em.mp hx];exact hs
theorem UJ(i:Iso φ p nm nm' E E')(hl:p'.length=p.length)(hs:s∈p):fU nm' E' p' (φ s)=fU nm E p s:=by
 unfold fU;rw[aO7 i hl hs];exact aJ8 i (aSc i.cl hs)
def zH(i:Iso φ p nm nm' E E')(hm:∀y,y∈p'↔∃x∈p,φ x=y):q'∈yG E' p'↔∃q∈yG E p,q'=(q.1,φ q.2):=by
 rw[nJ];constructor
 .rintro⟨h1,h2⟩;obtain⟨c,hc,e⟩:=(hm _).mp h1;rw[<-e,i.ea c hc] at h2;obtain⟨f,hf,ef⟩:=aE.mp h2;have e1:φ f.1=0:=cz oI ef;have e2:f.2=q'.1:=cz nu ef;have h0:=(i.ze (YJ (i.cl c hc) f hf)).mp e1;refine⟨(q'.1,c),nJ.mpr ⟨hc,?_⟩,Prod.ext rfl e.symm⟩;show(0,q'.1)∈E c;rw[<-e2,<-h0];exact hf
 .rintro⟨q,hq,rfl⟩;obtain⟨h1,h2⟩:=nJ.mp hq;refine⟨(hm _).mpr ⟨q.2,h1,rfl⟩,?_⟩;show(0,q.1)∈E' (φ q.2);rw[i.ea q.2 h1];exact aE.mpr ⟨(0,q.1),h2,by rw[i.z]⟩
theorem aO8(i:Iso φ p nm nm' E E')(hm:∀y,y∈p'↔∃x∈p,φ x=y)(hu:∀q∈yG E p,∀r∈yG E p,q.1=r.1->q=r){S S':aa af}(h:Sta E p S)(h':Sta E' p' S'):∀y,y∈S'↔∃x∈S,φ x=y:=by
 rcases h with ⟨h1,rfl⟩|⟨q,hq,hmin,rfl⟩
 .rcases h' with ⟨_,rfl⟩|⟨q',hq',_⟩
  .exact hm
  .obtain⟨q,hq,_⟩:=(zH i hm).mp hq';rw[h1] at hq;cases hq
 .rcases h' with ⟨h1',rfl⟩|⟨q',hq',hmin',rfl⟩
  .have:=(zH i hm).mpr ⟨q,hq,rfl⟩;rw[h1'] at this;cases this
  .obtain⟨r,hr,rfl⟩:=(zH i hm).mp hq';have a:=hmin r hr;have b:=hmin' _ ((zH i hm).mpr ⟨q,hq,rfl⟩);have e:r=q:=hu r hr q hq (by unfold ltP at a b;simp only at a b;lia);subst e;intro y;simp;exact eq_comm
def aO9(i:Iso φ p nm nm' E E')(hl:p'.length=p.length)(hm:∀y,y∈p'↔∃x∈p,φ x=y)(hu:∀q∈yG E p,∀r∈yG E p,q.1=r.1->q=r)(h:FW nm E p r)(h':FW nm' E' p' r'):r'=r:=by
 obtain⟨S,s0,a1,a2,a3,a4,rfl⟩:=h;obtain⟨S',s0',b1,b2,b3,b4,rfl⟩:=h';have hS:=aO8 i hm hu a1 b1;obtain⟨s1,hs1,e⟩:=(hS s0').mp b2;subst e;have c1:¬jX (fU nm' E' p' (φ s1))<jX (fU nm E p s0):=by
  rw[UJ i hl (a3 s1 hs1)];exact a4 s1 hs1
 have c2:¬jX (fU nm E p s0)<jX (fU nm' E' p' (φ s1)):=by
  rw[<-UJ i hl (a3 s0 a2)];exact b4 (φ s0) ((hS _).mpr ⟨s0,a2,rfl⟩)
 have:=xg (lI.mp c1) (lI.mp c2);exact((vU _ _ [] [] (j_ (lF _ _ _)) (j_ (lF _ _ _)) (by rw[fU,fU] at this;rw[this])).1).symm
end
structure Pa(E:af->aa Pt)(M:aa af)(F:aa (aa af)):Prop where
 nd:F.Nodup
 cv:∀n∈M,∃p∈F,n∈p
 ne:∀p∈F,p≠[]
 up:∀p∈F,p.Pairwise (·<·)
 sub:∀p∈F,∀x∈p,x∈M
 rc:∀p∈F,∀s∈p,∀x,Rc (λx=>gf (E x)) s x↔x∈p
section
variable {φ:af->af} {M M':aa af} {nm nm':af->Str} {E E':af->aa Pt} {F F':aa (aa af)}
theorem Pa.nodup(h:Pa E M F)(hp:p∈F):p.Nodup:=(h.up p hp).imp λ{a b} z=>by lia
theorem Pa.aVw(h:Pa E M F)(hp:p∈F)(hq:q∈F)(h1:x∈p)(h2:x∈q):p=q:=zB (h.up p hp) (h.up q hq) λy=>(h.rc p hp x h1 y).symm.trans (h.rc q hq x h2 y)
theorem Pa.cl(h:Pa E M F)(hp:p∈F):∀x∈p,∀y∈gf (E x),y∈p:=λx hx y hy=>(h.rc p hp x hx y).mp (Rc.refl.step hy)
def aSd(i:Iso φ M nm nm' E E')(hs:s∈M):Rc (λx=>gf (E' x)) (φ s) y↔∃x,Rc (λx=>gf (E x)) s x/\φ x=y:=by
 constructor
 .intro h;induction h with
  |refl=>exact⟨s,.refl,rfl⟩
  |step _ hy ih=>
   obtain⟨x,h1,rfl⟩:=ih;have hx:x∈M:=h1.mem hs i.cl;have hy2:=hy;rw[aG4 i hx] at hy2;obtain⟨z,hz,e⟩:=aE.mp hy2;exact⟨z,h1.step hz,e⟩
 .rintro⟨x,h,rfl⟩;induction h with
  |refl=>exact .refl
  |step h1 hy ih=>
   refine ih.step ?_;show _∈gf (E' (φ _));rw[aG4 i (h1.mem hs i.cl)];exact aE.mpr ⟨_,hy,rfl⟩
def iot(φ:af->af)(p:aa af):aa af:=sortI (p.map φ)
theorem PN:y∈iot φ p↔∃x∈p,φ x=y:=by
 unfold iot;rw[(sortI_perm _).mem_iff,aE]
theorem aAu(i:Iso φ M nm nm' E E')(hM:∀y,y∈M'↔∃x∈M,φ x=y)(h:Pa E M F)(h':Pa E' M' F')(hp:p∈F)(hq:q∈F')(h1:x∈p)(h2:φ x∈q):iot φ p=q:=by
 have hnd:(p.map φ).Nodup:=by
  refine eh.mpr ((h.nodup hp).imp_of_mem λ{a b} ha hb hab e=>hab (i.inj a (h.sub p hp a ha) b (h.sub p hp b hb) e))
 refine zB (aAh hnd) (h'.up q hq) λy=>?_
 rw[PN,<-h'.rc q hq _ h2 y,aSd i (h.sub p hp x h1)];constructor
 .rintro⟨z,hz,e⟩;exact⟨z,(h.rc p hp x h1 z).mpr hz,e⟩
 .rintro⟨z,hz,e⟩;exact⟨z,(h.rc p hp x h1 z).mp hz,e⟩
theorem aGf(i:Iso φ M nm nm' E E')(hM:∀y,y∈M'↔∃x∈M,φ x=y)(h:Pa E M F)(h':Pa E' M' F'):(F.map (iot φ)).Perm F':=by
 have to:∀p∈F,iot φ p∈F':=λp hp=>by
  obtain⟨x,hx⟩:∃x,x∈p:=yw _ (h.ne p hp);obtain⟨q,hq,hxq⟩:=h'.cv (φ x) ((hM _).mpr ⟨x,h.sub p hp x hx,rfl⟩);rw[aAu i hM h h' hp hq hx hxq];exact hq
 refine(ux ?_ h'.nd).mpr λq=>?_
 .refine eh.mpr (h.nd.imp_of_mem λ{p q} hp hq hpq e=>hpq ?_);obtain⟨x,hx⟩:∃x,x∈p:=yw _ (h.ne p hp);have hm:φ x∈iot φ q:=by rw[<-e];exact PN.mpr ⟨x,hx,rfl⟩
  obtain⟨y,hy,e2⟩:=PN.mp hm;have:=i.inj y (h.sub q hq y hy) x (h.sub p hp x hx) e2;subst this;exact h.aVw hp hq hx hy
 .rw[aE];constructor
  .rintro⟨p,hp,rfl⟩;exact to p hp
  .intro hq;obtain⟨y,hy⟩:∃y,y∈q:=yw _ (h'.ne q hq);obtain⟨x,hx,rfl⟩:=(hM y).mp (h'.sub q hq y hy);obtain⟨p,hp,hxp⟩:=h.cv x hx;exact⟨p,hp,aAu i hM h h' hp hq hxp hy⟩
theorem Iso.part(i:Iso φ M nm nm' E E')(hs:∀x∈p,x∈M)(cl:∀x∈p,∀y∈gf (E x),y∈p):Iso φ p nm nm' E E':=⟨i.z,λx hx=>i.nz x (hs x hx),λx hx y hy=>i.inj x (hs x hx) y (hs y hy),λx hx=>i.nm x (hs x hx),λx hx=>i.ea x (hs x hx),cl⟩
theorem aGg(i:Iso φ M nm nm' E E')(hM:∀y,y∈M'↔∃x∈M,φ x=y)(h:Pa E M F)(h':Pa E' M' F')(hu:∀q∈yG E M,∀r∈yG E M,q.1=r.1->q=r)(hk:∀p∈F,FW nm E p (k p))(hk':∀p∈F',FW nm' E' p (k' p)):(F.map k).Perm (F'.map k'):=by
 have hp:=aGf i hM h h';have e:F.map k=(F.map (iot φ)).map k':=by
  rw[bp];refine c_ λp hpF=>?_
  have hin:iot φ p∈F':=hp.mem_iff.mp (aE.mpr ⟨p,hpF,rfl⟩);have ip:=i.part (h.sub p hpF) (h.cl hpF);have sub:∀q∈yG E p,q∈yG E M:=λq hq=>by
   obtain⟨a,b⟩:=nJ.mp hq;exact nJ.mpr ⟨h.sub p hpF _ a,b⟩
  refine(aO9 ip ?_ (λy=>PN) (λq hq r hr=>hu q (sub q hq) r (sub r hr)) (hk p hpF) (hk' _ hin)).symm;show(sortI (p.map φ)).length=_;rw[(sortI_perm _).length_eq,aS]
 rw[e];exact hp.map k'
end
theorem UL:(2:ah)<=lim:=by rw[bD];lia
def aKv:(3:ah)<=lim:=by rw[bD];lia
noncomputable def aSx:D->Pc
 |.tup [.int a,.str b]=>(a,b)
 |_=>(0,"")
def eX(U:aa Pc):aa Pc:=(iK (U.map pcD)).map aSx
def fH(U:aa Pc):(eX U).Perm U:=by
 have h:=(cA (U.map pcD)).map aSx;rw[bp] at h;have e:U.map (aSx ∘ pcD)=U:=by
  conv=>rhs;rw[<-gj U]
  exact c_ λt _=>rfl
 rw[e] at h;exact h
theorem aAv(U:aa Pc):(eX U).map pcD=iK (U.map pcD):=by
 unfold eX;rw[bp]
 conv=>rhs;rw[<-gj (iK (U.map pcD))]
 refine c_ λd hd=>?_
 obtain⟨t,_,rfl⟩:=aE.mp ((cA (U.map pcD)).mem_iff.mp hd);rfl
theorem GD(U:aa Pc):fD [.lst (U.map pcD)]=.ok (.lst ((eX U).map pcD)):=by
 show(if bF (U.map pcD) then τ (ξ (iK (U.map pcD))) else .bad)=_;rw[uL,ao rfl,aAv]
theorem YL{U:aa Tie}(r:af)(hl:U.length<=lim):bV 3 tX [.lst (P.map pcD),.lst (U.map bK),.int r]=.ok (bG (eX P) (cX (U.map norm)) r):=by
 refine(cJ rfl).trans (call_v ?_);have hf:o9 (rD 4 (JG 2) gB 0x28 ai [.lst (P.map pcD),.lst (U.map bK),.int r,.uD]) [] (U.map bK)=.ok ((U.map norm).map bK):=by
  rw[lG _ bK (λt=>bK (norm t)) U [] λacc t _=>by
   have e1:=IV .lt t.1 t.2 ltP sS;have e2:=IV .gt t.1 t.2 (λx y=>ltP y x) TF;exact mW (b:=ag) (bs:=[enP t.1,enP t.2]) (y:=bK (norm t)) rfl rfl rfl λ_=>⟨cW (xs:=[enP (norm t).1,enP (norm t).2]) (aC (aK (xs:=[enP t.1,enP t.2]) 0xf e1) (aC (aK (xs:=[enP t.1,enP t.2]) 0xf e2) rfl)) UL,rfl⟩,eJ,bp]
  rfl
 refine aL (ρ':=[.lst (P.map pcD),.lst (U.map bK),.int r,.lst ((U.map norm).map bK)]) (bA (i:=3) (jM (gC rfl rfl) (by rw[aS];exact hl) hf)) ?_;refine d8 (d:=bG (eX P) (cX (U.map norm)) r) (cW (xs:=[.tup ((eX P).map pcD),.tup ((cX (U.map norm)).map bK),.int r]) (aC (aK (xs:=[.lst ((eX P).map pcD)]) (aC (aK (xs:=[.lst (P.map pcD)]) 0x11 (GD P)) rfl) rfl) (aC (aK (xs:=[.lst ((cX (U.map norm)).map bK)]) (aC (aK (xs:=[.lst ((U.map norm).map bK)]) 0x11 (qQ _)) rfl) rfl) 0x11)) aKv) ?_;rw[qR];rfl
noncomputable def kvI(p:Pt):D×D:=(.int p.1,.int p.2)
def fz(Z:aa Pt)(n:af):af:=((Z.find? λp=>ϒ (p.1=n)).map (·.2)).getD 0
theorem t6(n:af):∀(Z:aa Pt)(acc:aa (D×D)),(Z.map (·.1)).Nodup->bL (cG acc (Z.map kvI)) (.int n)=if n∈Z.map (·.1) then ae (.int (fz Z n)) else bL acc (.int n)
 |[],acc,_=>by simp[cG]
 |p::Z,acc,h=>by
  rw[ba,df] at h;show bL (cG (putD acc (.int p.1) (.int p.2)) (Z.map kvI)) (.int n)=_;rw[t6 n Z _ h.2,qU];by_cases e:p.1=n
  .subst e;rw[ap h.1,ao rfl,ao 0x2];simp[fz]
  .have e2:fz (p::Z) n=fz Z n:=by simp[fz,iL,e]
   rw[ap e,e2];by_cases hm:n∈Z.map (·.1)
   .rw[ao hm,ao (by simp only[ba];exact bo _ hm)]
   .rw[ap hm,ap];intro z;rcases bi.mp z with z|z
    .exact e z.symm
    .exact hm z
def YM(nd:aa (D×D))(M:aa af)(nf:af->af):Prop:=∀n,n=0\/n∈M->bL nd (.int n)=ae (.int (nf n))
def nfZ(Z:aa Pt)(n:af):af:=if n=0 then 0 else fz Z n
def aUv(h:(Z.map (·.1)).Nodup):YM (putD (cG [] (Z.map kvI)) (.int 0) (.int 0)) (Z.map (·.1)) (nfZ Z):=λn hn=>by
 rw[qU];unfold nfZ;by_cases e:n=0
 .subst e;rw[ao rfl,ao rfl]
 .rw[ap λz=>e z.symm,ap e,t6 n Z _ h,ao (hn.resolve_left e)]
def aUw(h:(Z.map (·.1)).Nodup)(h0:0∉Z.map (·.1)):YM (cG [(.int 0,.int 0)] (Z.map kvI)) (Z.map (·.1)) (nfZ Z):=λn hn=>by
 unfold nfZ;rw[t6 n Z _ h];by_cases e:n=0
 .subst e;rw[ap h0,ao rfl];rfl
 .rw[ap e,ao (hn.resolve_left e)]
theorem YM.get(h:YM nd M nf)(hn:n=0\/n∈M):getD (.dct nd) (.int n)=.ok (.int (nf n)):=by
 show(if keyOk (.int n) then ι (bL nd (.int n)) else .bad)=_;rw[h n hn];rfl
noncomputable def cP(nf:af->af)(c:Pc):Pc:=(nf c.1,c.2)
noncomputable def cE(nf:af->af)(e:Pt):Pt:=(nf e.1,e.2)
def cT(nf:af->af)(t:Tie):Tie:=(cE nf t.1,cE nf t.2)
theorem Wf.tie{V:aa Tie}(w:Wf Q V)(h:t∈V):(t.1.1=0\/t.1.1∈Q.map (·.1))/\(t.2.1=0\/t.2.1∈Q.map (·.1)):=by
 rcases w.ok t h with ⟨h1,h2⟩|⟨h1,h2⟩
 .exact⟨.inl h1,h2⟩
 .exact⟨.inr h1,.inr h2⟩
theorem YQ:∀Z:aa Pt,oK (Z.map enP)=ae (Z.map kvI)
 |[]=>rfl
 |p::Z=>by
  show(if oZ (.int p.1)&&(δ p.2).pure then (oK (Z.map enP)).map ((δ p.1,δ p.2)::·) else aj)=_;rw[YQ Z];rfl
theorem aAw{Q:aa Pc}(h:YM nd (Q.map (·.1)) nf)(hl:ρ.length=m)(hf:∀c∈Q,f (ρ++[.int c.1,.str c.2])=.ok (pcD (cP nf c))):o9 (rD m (JG 2) gB f ai ρ) [] (Q.map pcD)=.ok ((Q.map (cP nf)).map pcD):=by
 rw[lG _ pcD (λc=>pcD (cP nf c)) Q [] λacc c hc=>by
  exact mW (b:=ag) hl rfl rfl λ_=>⟨hf c hc,rfl⟩,eJ,bp]
 rfl
theorem aGh{V:aa Tie}(hl:ρ.length=m)(hf:∀t∈V,f (ρ++[enP t.1,enP t.2])=.ok (bK (cT nf t))):o9 (rD m (JG 2) gB f ai ρ) [] (V.map bK)=.ok ((V.map (cT nf)).map bK):=by
 rw[lG _ bK (λt=>bK (cT nf t)) V [] λacc t ht=>by
  exact mW (b:=ag) hl rfl rfl λ_=>⟨hf t ht,rfl⟩,eJ,bp]
 rfl
def iV(h:a ρ=.ok (.tup xs))(hp:θ xs=ag):b_ a ai ρ=.ok (xs,ag):=by
 have:=gC (fr:=ai) h (show vQ (.tup xs)=.ok xs from rfl);rw[this,lm,D.pure,hp]
def lK(Q:aa Pc)(V:aa Tie)(r:af)(nf:af->af):D:=bG (eX 0x22) (cX 0x18) r
theorem aGi{net:D}{Q:aa Pc}{V:aa Tie}{r:af}{Z:aa Pt}{md nd:aa (D×D)}{nf:af->af}(w:Wf Q V)(e0:getD net (.int 0)=.ok (.tup (Q.map pcD)))(e1:getD net (.int 1)=.ok (.tup (V.map bK)))(e2:getD net (.int 2)=.ok (.int r))(hu:net≠.uD)
 (hd:JP (.lst (Z.map enP))=.ok (.dct md))(hmp:θ (md.map (·.2))=ag)(hml:md.length<=40)(hfit:o7 md (.int 0)=ag)(hnd:putD md (.int 0) (.int 0)=nd)(hN:YM nd (Q.map (·.1)) nf):bV 2 dF [net,.lst (Z.map enP)]=.ok (lK Q V r nf):=by
 have hb:∀(x1 x2 x3 x4:D),fZ 0 [net,x1,x2,x3,x4]=.ok net:=λ_ _ _ _=>gP rfl hu
 have hc1:(dR 5 (b_ 0x21 ai) (JG 2) gB (fP (aD (b2 getD gK gH) (aD lH aV))) ai) [net,.lst (Z.map enP),.dct nd,.uD,.uD]=.ok (.lst ((Q.map (cP nf)).map pcD)):=
  jM (iV (aJ (hb _ _ _ _) rfl e0) (oM Q)) (by have:=w.ql;rw[aS] at this ⊢;rw[bD];lia) (aAw hN rfl λc hc=>cW (xs:=[.int (nf c.1),.str c.2]) (aC (aJ rfl rfl (hN.get (.inr (aE.mpr ⟨c,hc,rfl⟩)))) 0x11) UL)
 have hc2:(dR 5 (b_ 0x2c ai) (JG 2) gB (fP (aD (fP (aD (b2 getD gK (b2 getD gH dM)) (aD (b2 getD gH fJ) aV))) (aD (fP (aD (b2 getD gK (b2 getD lH dM)) (aD (b2 getD lH fJ) aV))) aV))) ai) [net,.lst (Z.map enP),.dct nd,.lst ((Q.map (cP nf)).map pcD),.uD]=.ok (.lst ((V.map (cT nf)).map bK)):=
  jM (iV (aJ (hb _ _ _ _) rfl e1) (cN V)) (by have:=w.vl;rw[aS,bD];lia) (aGh rfl λt ht=>cW (xs:=[enP (cE nf t.1),enP (cE nf t.2)]) (aC (cW (xs:=[.int (nf t.1.1),.int t.1.2]) (aC (aJ (y:=.int t.1.1) rfl 0x10 (hN.get (w.tie ht).1)) (aC 0x10 rfl)) UL) (aC (cW (xs:=[.int (nf t.2.1),.int t.2.2]) (aC (aJ (y:=.int t.2.1) rfl 0x10 (hN.get (w.tie ht).2)) (aC 0x10 rfl)) UL) rfl)) UL)
 refine(cJ rfl).trans (call_v ?_);refine aL (ρ':=[net,.lst (Z.map enP),.dct md,.uD,.uD]) (dG (i:=2) (aFe rfl hd) hmp) ?_;refine aL (ρ':=[net,.lst (Z.map enP),.dct nd,.uD,.uD]) ((rN (i:=2) (kvs:=md) (k:=.int 0) (d:=.int 0) rfl rfl rfl (by rw[bD];lia) hfit rfl).trans (by rw[hnd];rfl)) ?_;refine aL (ρ':=[net,.lst (Z.map enP),.dct nd,.lst ((Q.map (cP nf)).map pcD),.uD]) (bA (i:=3) hc1) ?_;refine aL (ρ':=[net,.lst (Z.map enP),.dct nd,.lst ((Q.map (cP nf)).map pcD),.lst ((V.map (cT nf)).map bK)]) (bA (i:=4) hc2) ?_;exact d8 (aK (xs:=[.lst ((Q.map (cP nf)).map pcD),.lst ((V.map (cT nf)).map bK),.int r]) (aC rfl (aC rfl (aC (aJ (hb _ _ _ _) rfl e2) rfl))) (YL r (by have:=w.vl;rw[aS,bD];lia))) rfl
theorem UV(x:af):∀{kvs:aa (D×D)},θ (kvs.map (·.2))=ag->θ ((putD kvs (.int x) (.int i)).map (·.2))=ag
 |[],_=>rfl
 | (k,v)::r,h=>by
  rw[ba,θ,bj] at h;show θ ((if eqD k (.int x) then (k,δ i)::r else (k,v)::putD r (.int x) (.int i)).map (·.2))=ag;split
  .rw[ba,θ,h.2];rfl
  .rw[ba,θ,UV x h.2,i8];exact h.1
theorem merge_inv:∀(Z:aa Pt)(acc:aa (D×D)),θ (acc.map (·.2))=ag->(∀y:af,o7 acc (.int y)=ag)->θ ((cG acc (Z.map kvI)).map (·.2))=ag/\(∀y:af,o7 (cG acc (Z.map kvI)) (.int y)=ag)/\(cG acc (Z.map kvI)).length<=acc.length+Z.length
 |[],acc,h1,h2=>⟨h1,h2,bd _⟩
 |p::Z,acc,h1,h2=>by
  obtain⟨i1,i2,i3⟩:=merge_inv Z (putD acc (.int p.1) (.int p.2)) (UV p.1 h1) (aFy h2);have:=YH p.1 (.int p.2) acc;exact⟨i1,i2,dj i3 (by rw[b9];lia)⟩
theorem YS(y:af):o7 [] (.int y)=ag:=rfl
def aSe(y:af):o7 [(.int 0,.int 0)] (.int y)=ag:=rfl
theorem aJe{V:aa Tie}(w:Wf Q V)(e0:getD net (.int 0)=.ok (.tup (Q.map pcD)))(e1:getD net (.int 1)=.ok (.tup (V.map bK)))(e2:getD net (.int 2)=.ok (.int r))(hu:net≠.uD)(hZ:Z.map (·.1)=Q.map (·.1))(hw:bV 1 uC [net]=.ok (.lst (Z.map enP))):bV 1 jT [net]=.ok (lK Q V r (nfZ Z)):=by
 have hl:Z.length<=40:=by have:=cz fI hZ;rw[aS] at this;have:=w.ql;lia
 obtain⟨i1,i2,i3⟩:=merge_inv Z [] rfl YS;have hd:JP (.lst (Z.map enP))=.ok (.dct (cG [] (Z.map kvI))):=by
  show(match oK (Z.map enP) with|some ps=>if ϒ ((Z.map enP).length<=1000) then τ (D.dct (cG [] ps)) else .bad|none=>.bad)=_;rw[YQ];show(if ϒ ((Z.map enP).length<=1000) then τ (D.dct (cG [] (Z.map kvI))) else .bad)=_;rw[bz (by rw[aS];lia),ao rfl]
 have hN:=aUv (by rw[hZ];exact w.nd);rw[hZ] at hN;have hr:=aGi w e0 e1 e2 hu hd i1 (by rw[eW] at i3;lia) (i2 0) rfl hN;refine(cJ rfl).trans (call_v (d8 (aK (aC (gP rfl hu) (aC (aK (aC (gP rfl hu) rfl) hw) rfl)) hr) rfl))
theorem GF{V:aa Tie}{r:af}{nd:aa (D×D)}{nf:af->af}(w:Wf Q V)(e0:getD net (.int 0)=.ok (.tup (Q.map pcD)))(e1:getD net (.int 1)=.ok (.tup (V.map bK)))(e2:getD net (.int 2)=.ok (.int r))(hu:net≠.uD)(hN:YM nd (Q.map (·.1)) nf):bV 2 gJ [net,.dct nd]=.ok (lK Q V r nf):=by
 have hb:∀(x1 x2 x3 x4 x5:D),fZ 0 [net,x1,x2,x3,x4,x5]=.ok net:=λ_ _ _ _ _=>gP rfl hu
 have vl:=w.vl;have hc1:(dR 6 (b_ 0x21 ai) (JG 2) gB (fP (aD (b2 getD gD lH) (aD o8 aV))) ai) [net,.dct nd,.uD,.uD,.uD,.uD]=.ok (.lst ((Q.map (cP nf)).map pcD)):=
  jM (iV (aJ (hb _ _ _ _ _) rfl e0) (oM Q)) (by have:=w.ql;rw[aS] at this ⊢;rw[bD];lia) (aAw hN rfl λc hc=>cW (aC (aJ rfl rfl (hN.get (.inr (aE.mpr ⟨c,hc,rfl⟩)))) 0x11) UL)
 generalize hS:(eX 0x22).map pcD=SP;have hs1:=GD 0x22 ;rw[hS] at hs1;obtain⟨ρ,h1,x4,x5,rfl⟩:=eE (t:=tgN [4,5]) (body:=cbd) (d:=bK) (I:=λys ρ=>∃x4 x5,ρ=[net,.dct nd,.lst SP,.lst (((ys.map (cT nf)).map norm).map bK),x4,x5]) V (λys t zs ρ e ⟨x4,x5,h⟩=>by
  subst h;have ht:t∈V:=by rw[e];simp
  have hyl:ys.length<=1000:=by rw[e] at vl;simp at vl;lia
  have b1:=IV .lt (cE nf t.1) (cE nf t.2) ltP sS;have b2':=IV .gt (cE nf t.1) (cE nf t.2) (λx y=>ltP y x) TF;generalize hT:((ys.map (cT nf)).map norm).map bK=T;have hTl:T.length=ys.length:=by rw[<-hT];simp
  refine⟨[net,.dct nd,.lst SP,.lst T,enP t.1,enP t.2],[net,.dct nd,.lst SP,.lst (T++[bK (norm (cT nf t))]),enP (cE nf t.1),enP (cE nf t.2)],rfl,?_,enP (cE nf t.1),enP (cE nf t.2),?_⟩
  .refine aL (ρ':=[net,.dct nd,.lst SP,.lst T,enP (cE nf t.1),enP t.2]) (rM (i:=4) (cW (xs:=[.int (nf t.1.1),.int t.1.2]) (aC (aJ (y:=.int t.1.1) rfl 0x10 (hN.get (w.tie ht).1)) (aC 0x10 rfl)) UL) rfl) ?_;refine aL (ρ':=[net,.dct nd,.lst SP,.lst T,enP (cE nf t.1),enP (cE nf t.2)]) (rM (i:=5) (cW (xs:=[.int (nf t.2.1),.int t.2.2]) (aC (aJ (y:=.int t.2.1) rfl 0x10 (hN.get (w.tie ht).2)) (aC 0x10 rfl)) UL) rfl) ?_;exact lN (i:=3) (xs:=T) (d:=bK (norm (cT nf t))) (cW (xs:=[enP (norm (cT nf t)).1,enP (norm (cT nf t)).2]) (aC (aK (xs:=[enP (cE nf t.1),enP (cE nf t.2)]) 0xf b1) (aC (aK (xs:=[enP (cE nf t.1),enP (cE nf t.2)]) 0xf b2') rfl)) UL) rfl (by rw[hTl,bD];lia) rfl
  .rw[bS,bS,bS,hT];rfl) (ρ:=[net,.dct nd,.lst SP,.lst [],.uD,.uD]) ⟨_,_,rfl⟩
 have hs2:=qQ 0x18 ;generalize hU: ((V.map (cT nf)).map norm).map bK=UT at h1 hs2;refine(cJ rfl).trans (call_v ?_);refine aL (ρ':=[net,.dct nd,.lst SP,.uD,.uD,.uD]) (bA (i:=2) (aK (xs:=[.lst ((Q.map (cP nf)).map pcD)]) (aC hc1 rfl) hs1)) ?_;refine aL (ρ':=[net,.dct nd,.lst SP,.lst [],.uD,.uD]) (dG (i:=3) rfl rfl) ?_;refine aL (mK (iV (aJ (hb _ _ _ _ _) rfl e1) (cN V)) h1) ?_;have hd:lK Q V r nf=.tup [.tup SP,.tup ((cX 0x18).map bK),.int r]:=by unfold lK bG;rw[hS]
 have hp:(lK Q V r nf).pure=ag:=qR _ _ _;rw[hd] at hp ⊢;generalize (cX 0x18).map bK=VT at hs2 hp ⊢;refine d8 (d:=.tup [.tup SP,.tup VT,.int r]) (cW (xs:=[.tup SP,.tup VT,.int r]) (aC (aK (xs:=[.lst SP]) 0x11 rfl) (aC (aK (xs:=[.lst VT]) (aC (aK (xs:=[.lst UT]) 0x11 hs2) rfl) rfl) (aC (aJ (hb _ _ _ _ _) rfl e2) rfl))) aKv) ?_;rw[hp];rfl
def ne_int(a:af):bY .ne (.int a) (.int a)=.ok (.bl ai):=by
 show τ (υ (!eqD (.int a) (.int a)))=_;rw[gR,bz rfl];rfl
theorem vH(e:bn n=ys++k::zs):k=ys.length/\k<n:=by
 have h1:=cz (λl=>l[ys.length]?) e;have hl:ys.length<n:=by have:=cz fI e;simp at this;lia
 simp[hl] at h1;exact⟨h1.symm,by lia⟩
def xP(acc:aa (D×D))(Z:aa Pt)(p:Pt):cG acc ((Z++[p]).map kvI)=putD (cG acc (Z.map kvI)) (.int p.1) (.int p.2):=by
 unfold cG;rw[bS,BI];rfl
theorem UW(i:af):bV 1 lC [.int i]=.ok (.bl ag):=rfl
def nM(h:f ρ=.ok (.bl b)):bTr f ρ=.ok b:=aVu h rfl
theorem GJ(x y:Pt)(h:x≠y):norm (y,x)=norm (x,y):=by
 have tot:ltP x y\/ltP y x:=by
  obtain⟨a1,a2⟩:=x;obtain⟨c1,c2⟩:=y;simp only[ltP];have:a1≠c1\/a2≠c2:=by
   by_cases h1:a1=c1
   .exact .inr λh2=>h (by rw[h1,h2])
   .exact .inl h1
  lia
 unfold norm;rcases tot with z|z
 .have:=irr _ _ z;simp[z,this]
 .have:=irr _ _ z;simp[z,this]
def nmQ(Q:aa Pc)(n:af):Str:=((Q.find? λc=>ϒ (c.1=n)).map (·.2)).getD ""
theorem aGj(h:Q.Pairwise LtN)(hp:pc∈Q):nmQ Q pc.1=pc.2:=by
 unfold nmQ;rw[FZ h hp];rfl
noncomputable def J3:aa af->aa Pt
 |a::b::l=>(a,b)::J3 l
 |_=>[]
def aOa:D->aa Pt
 |.scr (.str _::l)=>J3 (l.map unI)
 |_=>[]
noncomputable def aVx:D->Str
 |.scr (.str s::_)=>s
 |_=>""
theorem U0(R:aa af):∀es:aa Pt,J3 (rwl R es)=es.map λe=>(plc R e.1,e.2)
 |[]=>rfl
 |e::es=>by
  show J3 (plc R e.1::e.2::rwl R es)=_;rw[J3,U0 R es];rfl
theorem aJf(nm:af->Str)(E:af->aa Pt)(R:aa af)(c:af):aOa (rowOf nm E R c)=(E c).map λe=>(plc R e.1,e.2):=by
 show J3 (((rwl R (E c)).map δ).map unI)=_;rw[bp];have:(rwl R (E c)).map (unI ∘ δ)=rwl R (E c):=by
  conv=>rhs;rw[<-gj (rwl R (E c))]
  exact c_ λt _=>rfl
 rw[this,U0]
noncomputable def sh(off:ah)(y:af):af:=if y=0 then 0 else (off:af)+y
def aJg(off:ah)(rows:aa D):aa Tie:=rows.zipIdx.flatMap λx=>(aOa x.1).zipIdx.map λy=>norm (((off:af)+x.2+1,(y.2:af)),(sh off y.1.1,y.1.2))
def aOb:ah->aa (aa D)->aa Tie
 |_,[]=>[]
 |off,rows::SR=>aJg off rows++aOb (off+rows.length) SR
def U3(E:af->aa Pt)(O:aa af)(n:af):aa Tie:=(E n).zipIdx.map λy=>norm ((plc O n,(y.2:af)),cE (plc O) y.1)
theorem aGk(hn:(A++R++C).Nodup)(hx:x=0\/x∈R):plc (A++R++C) x=sh A.length (plc R x):=by
 unfold sh plc;by_cases h0:x=0
 .rw[ao h0,ao h0,ao rfl]
 .have hxR:=hx.resolve_left h0;rw[ap h0,ap h0,ap 0x1];have hA:x∉A:=λz=>by
   rw[c6] at hn;exact(fm.mp hn).2.2 x z x (dP _ hxR) rfl
  rw[rV,ao (dS _ hxR),rV,ap hA]
  push_cast
  lia
theorem aJh{E:af->aa Pt}(hn:(A++R++C).Nodup)(hz:∀x∈R,x≠0)(cl:∀x∈R,∀e∈E x,e.1=0\/e.1∈R):aJg A.length (rowsOf nm E R)=R.flatMap (U3 E (A++R++C)):=by
 have hR:R.Nodup:=(fm.mp (fm.mp hn).1).2.1;unfold aJg rowsOf;have e1:R.flatMap (U3 E (A++R++C))=R.zipIdx.flatMap λx=>U3 E (A++R++C) x.1:=by
  conv=>lhs;rw[show R=R.zipIdx.map (·.1) from (Dh 0 R).symm]
  rw[yx,Dh]
 rw[e1,Di,yx];have key:∀{α β:Type}{l:aa α}{f g:α->aa β},(∀x∈l,f x=g x)->l.flatMap f=l.flatMap g:=by
  intro α β l f g;induction l with
  |nil=>intro _;rfl
  |cons a l ih=>
   intro h;rw[hI,hI,h a (bu ..),ih λx hx=>h x (bo _ hx)]
 refine key λx hx=>?_
 obtain⟨n,i⟩:=x;have hxi:R[i]?=ae n:=by simpa using uz.mp hx
 have hnR:n∈R:=nI hxi;have hpl:plc R n=(i:af)+1:=by
  unfold plc;rw[ap (hz n hnR)];obtain⟨hi,e⟩:=ej.mp hxi;rw[<-e,hR.idxOf_getElem i hi]
 have hpo:plc (A++R++C) n=(A.length:af)+i+1:=by
  rw[aGk hn (.inr hnR),hpl];unfold sh;rw[ap 0x1];lia
 show(aOa (rowOf nm E R n)).zipIdx.map (λy=>norm (((A.length:af)+i+1,(y.2:af)),(sh A.length y.1.1,y.1.2)))=U3 E (A++R++C) n;unfold U3;rw[aJf,Di,bp,hpo];refine c_ λy hy=>?_
 have hyE:y.1∈E n:=by
  have:=uz.mp hy;exact nI this
 show norm (((A.length:af)+i+1,(y.2:af)),(sh A.length (plc R y.1.1),y.1.2))=norm (((A.length:af)+i+1,(y.2:af)),(plc (A++R++C) y.1.1,y.1.2));rw[aGk hn (cl n hnR _ hyE)]
theorem PP{E:af->aa Pt}:∀(SL:aa (aa D×aa af))(A:aa af),(A++SL.flatMap (·.2)).Nodup->(∀x∈SL,x.1=rowsOf nm E x.2)->(∀x∈SL,∀n∈x.2,n≠0/\∀e∈E n,e.1=0\/e.1∈x.2)->aOb A.length (SL.map (·.1))=(SL.flatMap (·.2)).flatMap (U3 E (A++SL.flatMap (·.2)))
 |[],A,_,_,_=>rfl
 |x::SL,A,hn,h1,h2=>by
  have e:A++(x::SL).flatMap (·.2)=A++x.2++SL.flatMap (·.2):=by rw[hI,c6]
  rw[e] at hn ⊢;show aJg A.length x.1++aOb (A.length+x.1.length) (SL.map (·.1))=(x.2++SL.flatMap (·.2)).flatMap _;have hl:A.length+x.1.length=(A++x.2).length:=by rw[h1 x (bu ..),rowsOf,aS,cx]
  rw[hl,PP SL (A++x.2) hn (λy hy=>h1 y (bo _ hy)) (λy hy=>h2 y (bo _ hy)),kG]
  congr 1
  rw[h1 x (bu ..)];exact aJh hn (λn hn=>(h2 x (bu ..) n hn).1) λn hn=>(h2 x (bu ..) n hn).2
noncomputable def enS:ah->aa Str->aa Pc
 |_,[]=>[]
 |m,s::l=>(((m:af)+1),s)::enS (m+1) l
theorem aKw:∀(B A:aa af),(A++B).Nodup->(∀x∈B,x≠0)->enS A.length (B.map nm)=B.map λn=>(plc (A++B) n,nm n)
 |[],A,_,_=>rfl
 |b::B,A,hn,hz=>by
  have e:A++b::B=(A++[b])++B:=by simp
  have hb:b∉A:=λz=>(fm.mp hn).2.2 b z b (bu ..) rfl
  have hp:plc (A++b::B) b=(A.length:af)+1:=by
   unfold plc;rw[ap (hz b (bu ..)),rV,ap hb];simp
  rw[ba,enS,ba,hp,e];have ih:=aKw (nm:=nm) B (A++[b]) (by rw[<-e];exact hn) λx hx=>hz x (bo _ hx)
  rw[cx,iF] at ih;rw[ih]
theorem U4(h:U.Perm W):eX U=eX W:=by
 unfold eX
 congr 1
 refine n_ (λd hd=>?_) ((cA _).trans ((h.map pcD).trans (cA _).symm)) (dU _) (dU _);obtain⟨c,_,rfl⟩:=aE.mp ((cA _).mem_iff.mp hd);rfl
theorem PQ{E:af->aa Pt}:∀(SL:aa (aa D×aa af)),(∀x∈SL,x.1=rowsOf nm E x.2)->(SL.flatMap (·.2)).map nm=((SL.map (·.1)).flatten).map aVx
 |[],_=>rfl
 |x::SL,h=>by
  rw[hI,bS,PQ SL λy hy=>h y (bo _ hy),ba,List.flatten_cons,bS]
  congr 1
  rw[h x (bu ..),rowsOf,bp];exact c_ λc _=>rfl
theorem oR(t:Tie):norm t=t\/norm t=(t.2,t.1):=by
 unfold norm;by_cases h1:ltP t.1 t.2
 .have:=irr _ _ h1
  left;simp[h1,this]
 .by_cases h2:ltP t.2 t.1
  .right;simp[h1,h2]
  .left
   have e:t.1=t.2:=by
    unfold ltP at h1 h2;exact Prod.ext 0x1 0x1
   rw[ap h1,ap h2];exact Prod.ext rfl e
theorem zJ(h:t.1≠t.2):ltP (norm t).1 (norm t).2:=by
 have tot:ltP t.1 t.2\/ltP t.2 t.1:=by
  refine ue λz=>h ?_
  rw[gz] at z;unfold ltP at z;exact Prod.ext 0x1 0x1
 unfold norm;rcases tot with z|z
 .have:=irr _ _ z;simp[z,this]
 .have:=irr _ _ z;simp[z,this]
theorem t7:∀U:aa Tie,(ends (U.map norm)).Perm (ends U)
 |[]=>.refl _
 |t::U=>by
  show((norm t).1::(norm t).2::ends (U.map norm)).Perm (t.1::t.2::ends U);have ih:=t7 U;rcases oR t with e|e
  .rw[e];exact(ih.cons _).cons _
  .rw[e];exact(List.Perm.swap _ _ _).trans ((ih.cons _).cons _)
theorem aGl(nf:af->af):∀V:aa Tie,ends (V.map (cT nf))=(ends V).map (cE nf)
 |[]=>rfl
 |t::V=>by
  show cE nf t.1::cE nf t.2::ends (V.map (cT nf))=cE nf t.1::cE nf t.2::(ends V).map (cE nf);rw[aGl nf V]
theorem xQ:∀{T:aa Tie},(ends T).Nodup->T.Nodup
 |[],_=>gS
 |t::T,h=>by
  rw[FP,df,df] at h;refine df.mpr ⟨λz=>h.1 (bo _ (lY z).1),xQ h.2.2⟩
def sZ{V:aa Tie}(w:Net kvs Q V)(h:e∈ends V):e.1=0\/e.1∈Q.map (·.1):=by
 obtain⟨S,_,_,p⟩:=w.rims;rcases cj.mp (p.mem_iff.mp h) with h|h
 .obtain⟨pc,h1,h2,_⟩:=xK.mp h;exact .inr (aE.mpr ⟨pc,h1,h2⟩)
 .obtain⟨s,_,rfl⟩:=aE.mp h;exact .inl rfl
structure Nf(nf:af->af)(M:aa af):Prop where
 z:nf 0=0
 pos:∀x∈M,0<nf x
 inj:∀x∈M,∀y∈M,nf x=nf y->x=y
theorem Nf.aSf(h:Nf nf M)(hx:x=0\/x∈M)(hy:y=0\/y∈M)(e:nf x=nf y):x=y:=by
 rcases hx with rfl|hx
 .rcases hy with rfl|hy
  .rfl
  .have:=h.pos y hy;rw[h.z] at e;lia
 .rcases hy with rfl|hy
  .have:=h.pos x hx;rw[h.z] at e;lia
  .exact h.inj x hx y hy e
section
variable {kvs:aa (D×D)} {Q:aa Pc} {V:aa Tie} {nf:af->af}
theorem aAx(w:Net kvs Q V)(h:Nf nf (Q.map (·.1))):((ends V).map (cE nf)).Nodup:=by
 refine eh.mpr (w.nd.imp_of_mem λ{a b} ha hb hab e=>hab ?_);exact Prod.ext (h.aSf (sZ w ha) (sZ w hb) (cz oI e)) (cz (λp:Pt=>p.2) e:(cE nf a).2=(cE nf b).2)
theorem PX(w:Net kvs Q V)(h:Nf nf (Q.map (·.1))):(ends 0x18).Perm ((ends V).map (cE nf)):=by
 rw[<-aGl];exact t7 _
theorem U5(w:Net kvs Q V)(h:Nf nf (Q.map (·.1))): ((V.map (cT nf)).map norm).Nodup:=xQ ((PX w h).nodup_iff.mpr (aAx w h))
def aKx(U:aa Pc):(hks kvs U).map (cE nf)=hks kvs (U.map (cP nf)):=by
 unfold hks;rw[List.map_flatMap,yx]
 congr 1
 funext c
 unfold aRx;rw[bp];rfl
def aOc(h:Nf nf (Q.map (·.1)))(S:aa af):(S.map rim).map (cE nf)=S.map rim:=by
 rw[bp];refine c_ λs _=>?_
 show(nf 0,s)=(0,s);rw[h.z]
theorem aGm(h:(U.map (·.1)).Nodup):(eX U).Pairwise LtN:=by
 have hs:=dU (U.map pcD);rw[<-aAv] at hs;have h1:=eh.mp hs;have h2:(eX U).Pairwise λa b=>a.1≠b.1:=eh.mp (((fH U).map _).nodup_iff.mpr h)
 refine Dg ?_ h1 h2;intro a b z1 z2;obtain⟨k,e1,e2⟩:=aFd b a;have hk:=BL (pcD b) (pcD a) k rfl rfl e1;rw[e2 λz=>z2 z.symm] at hk;simp only[leE,jm,ly] at z1;unfold LtN;have:¬b.1<a.1:=λq=>z1 (d6 (by rw[<-hk];exact bz q))
 lia
theorem aJi(h:U.Perm W):(hks kvs U).Perm (hks kvs W):=sY _ h
theorem vI(w:Net kvs Q V)(h:Nf nf (Q.map (·.1))):Net kvs (eX 0x22) (cX 0x18):=by
 have wf:=w.wf;obtain⟨S,s1,s2,s3⟩:=w.rims;have pE:(ends (cX 0x18)).Perm ((ends V).map (cE nf)):=(oN (bT _)).trans (PX w h);have hfst: (Q.map (cP nf)).map (·.1)=(Q.map (·.1)).map nf:=by rw[bp,bp];rfl
 have hnd:((Q.map (cP nf)).map (·.1)).Nodup:=by
  rw[hfst];exact eh.mpr (wf.nd.imp_of_mem λ{a b} ha hb hab e=>hab (h.inj a ha b hb e))
 refine⟨pE.nodup_iff.mpr (aAx w h),by rw[(bT _).length_eq,aS,aS];exact w.small,aGm hnd,λpc hp=>?_,by rw[(fH _).length_eq,aS];exact w.ql,λpc hp=>?_,λt ht=>?_,jE _,S,s1,s2,?_⟩
 .obtain⟨c,hc,rfl⟩:=aE.mp ((fH _).mem_iff.mp hp);exact h.pos c.1 (aE.mpr ⟨c,hc,rfl⟩)
 .obtain⟨c,hc,rfl⟩:=aE.mp ((fH _).mem_iff.mp hp);exact w.sk c hc
 .obtain⟨u,hu,rfl⟩:=aE.mp ((bT _).mem_iff.mp ht);obtain⟨v,hv,rfl⟩:=aE.mp hu;refine zJ λe=>?_
  have hm:=lY hv;have hne:v.1≠v.2:=λz=>by have:=w.lt v hv;rw[z] at this;unfold ltP at this;lia
  exact hne (Prod.ext (h.aSf (sZ w hm.1) (sZ w hm.2) (cz oI e)) (cz (λp:Pt=>p.2) e:(cE nf v.1).2=(cE nf v.2).2))
 .refine pE.trans ((s3.map _).trans ?_);rw[bS,aKx,aOc h];exact(aJi (fH _).symm).append_right _
theorem aJj(w:Net kvs Q V)(h:Nf nf (Q.map (·.1)))(ht:GZ V e f):GZ (cX 0x18) (cE nf e) (cE nf f):=by
 have key:∀t∈V,(norm (cT nf t))∈cX 0x18 :=λt ht=>(bT _).mem_iff.mpr (aE.mpr ⟨cT nf t,aE.mpr ⟨t,ht,rfl⟩,rfl⟩)
 rcases ht with z|z
 .have:=key _ z;rcases oR (cT nf (e,f)) with q|q
  .rw[q] at this;exact .inl this
  .rw[q] at this;exact .inr this
 .have:=key _ z;rcases oR (cT nf (f,e)) with q|q
  .rw[q] at this;exact .inr this
  .rw[q] at this;exact .inl this
def aSg(w:Net kvs Q V)(h:Nf nf (Q.map (·.1)))(he:e∈ends V):mt (cX 0x18) (cE nf e)=cE nf (mt V e):=O9 (vI w h).nd (aJj w h (FQ w.nd he))
theorem aGn(hp:pc∈Q):cP nf pc∈eX 0x22 :=(fH _).mem_iff.mpr (aE.mpr ⟨pc,hp,rfl⟩)
def aOd:y∈(eX 0x22).map (·.1)↔∃x∈Q.map (·.1),nf x=y:=by
 rw[((fH _).map _).mem_iff,bp];simp only[aE];constructor
 .rintro⟨c,hc,rfl⟩;exact⟨c.1,⟨c,hc,rfl⟩,rfl⟩
 .rintro⟨x,⟨c,hc,rfl⟩,rfl⟩;exact⟨c,hc,rfl⟩
theorem aOe(w:Net kvs Q V)(h:Nf nf (Q.map (·.1))):Iso nf (Q.map (·.1)) (nmQ Q) (nmQ (eX 0x22)) 0x1d (ea kvs (eX 0x22) (cX 0x18)) where
 z:=h.z
 nz x hx:=by
  have:=h.pos x hx;have:=w.wf.qp x hx;lia
 inj:=h.inj
 nm x hx:=by
  obtain⟨c,hc,rfl⟩:=aE.mp hx;rw[aGj w.qs hc];exact aGj (vI w h).qs (aGn hc)
 ea x hx:=by
  obtain⟨c,hc,rfl⟩:=aE.mp hx;unfold ea;have e1:=YF (kvs:=kvs) w.qs hc;have e2:vq kvs (eX 0x22) (nf c.1)=vOf kvs c.2+1:=YF (vI w h).qs (aGn hc);rw[e1,e2];have e3:(eA V c.1 (vOf kvs c.2+1)).map (λe=>((nf e.1,e.2):Pt))=(bn (vOf kvs c.2+1)).map λ(j:ah)=>cE nf (mt V (c.1,(j:af))):=by unfold eA;rw[bp];rfl
  rw[e3];refine c_ λj hj=>?_
  have hj':=hV.mp hj;exact aSg w h ((qT w hc j).mpr 0x1)
 cl x hx y hy:=mX w.wf x hx y ((T_ w hx).mp hy)
end
theorem aJk{F:aa (aa af)}(h0:getD net (.int 0)=.ok qd)(hu:net≠.uD)(hnm:CT qd=.ok (.dct nk))(he:bV 1 jP [net]=.ok (.dct dk))(hp:bV 1 xG [net]=.ok (.lst (F.map pS)))
 (hF:F.length<=40)(hW:∀p∈F,lE (W p).1/\bV 3 dX [.dct nk,.dct dk,pS p]=.ok (wk2 (W p)))(hl:((F.map W).flatMap (·.2)).length<=30) :
  ∃SL:aa (aa D×aa af),SL.Perm (F.map W)/\(SL.map wk2).Pairwise (λa b=>leE a b=ag)/\bV 1 uC [net]=.ok (.lst ((nY (prs (SL.flatMap (·.2)))).map enP)):=by
 have hrow:∀x∈F.map W,lE x.1:=λx hx=>by
  obtain⟨p,hp,rfl⟩:=aE.mp hx;exact(hW p hp).1
 have hsrt:fD [.lst ((F.map W).map wk2)]=.ok (.lst (iK ((F.map W).map wk2))):=by
  show(if bF ((F.map W).map wk2) then τ (ξ (iK ((F.map W).map wk2))) else .bad)=_;rw[PL hrow,ao rfl]
 obtain⟨SL,pSL,eSL⟩:=zA wk2 unW aS9 (cA ((F.map W).map wk2));rw[eSL] at hsrt;have hpw:=dU ((F.map W).map wk2);rw[eSL] at hpw;have hOl:(SL.flatMap (·.2)).length<=30:=by rw[(sY (·.2) pSL).length_eq];exact hl
 obtain⟨ρ1,e1,x5,x6,rfl⟩:=eE (t:=tgN [5,6]) (body:=aEx 4 lH) (d:=wk2) (I:=λys ρ=>∃x5 x6,ρ=wn net nk dk (.lst (SL.map wk2)) (.lst ((ys.flatMap (·.2)).map δ)) x5 x6) SL (λys a zs ρ e ⟨x5,x6,h⟩=>by
  subst h;have hl:(ys.flatMap (·.2)).length+a.2.length<=30:=by
   rw[e,kG,hI,cx,cx] at hOl;lia
  refine⟨wn net nk dk (.lst (SL.map wk2)) (.lst ((ys.flatMap (·.2)).map δ)) (.scr a.1) (.scr (a.2.map δ)),wn net nk dk (.lst (SL.map wk2)) (.lst (((ys++[a]).flatMap (·.2)).map δ)) (.scr a.1) (.scr (a.2.map δ)),rfl,?_,_,_,rfl⟩;refine(aO5 (i:=4) (xs:=(ys.flatMap (·.2)).map δ) (ys:=a.2.map δ) rfl rfl (by rw[aS,aS,bD];lia) (eF _)).trans ?_;rw[kG,Df,bS];rfl) (ρ:=wn net nk dk (.lst (SL.map wk2)) (.lst []) .uD .uD) ⟨_,_,rfl⟩
 generalize hO:SL.flatMap (·.2)=O at *;have hb:∀(x1 x2 x3 x4 x5 x6:D),fZ 0 [net,x1,x2,x3,x4,x5,x6]=.ok net:=λ_ _ _ _ _ _=>gP rfl hu
 have hc1:dR 7 (b_ (aN (bV 1 xG) (aD cQ aV)) ag) uQ gB 0x2d ag (wn net nk dk .uD .uD .uD .uD)=.ok (.lst ((F.map W).map wk2)):=jM (xs:=F.map pS) (gC (fr:=ag) (d:=.lst (F.map pS)) (aK (xs:=[net]) (aC (hb _ _ _ _ _ _) rfl) hp) rfl) (by rw[aS,bD];lia) (aGd λp h=>(hW p h).2);have hen:(LC 1 (O.map δ)).length<=lim:=by
  rw[aAs,aS,<-aS (f:=(·.2)),aGa,bD];lia
 have hc2:dR 7 (aEv 1 fW ai) (JG 2) gB (fP (aD wO (aD o8 aV))) ai (wn net nk dk (.lst (SL.map wk2)) (.lst (O.map δ)) x5 x6)=.ok (.lst ((prs O).map enP)):=jM (xs:=LC 1 (O.map δ)) (kk:=ai) rfl hen aGe;refine⟨SL,pSL,hpw,(cJ rfl).trans ?_⟩;rw[hO];refine call_v ?_;refine aL (ρ':=[net,.dct nk,.uD,.uD,.uD,.uD,.uD]) (bA (i:=1) (aFe (aJ (hb _ _ _ _ _ _) rfl h0) hnm)) ?_;refine aL (ρ':=wn net nk dk .uD .uD .uD .uD) (bA (i:=2) (aK (xs:=[net]) (aC (hb _ _ _ _ _ _) rfl) he)) ?_;refine aL (ρ':=wn net nk dk (.lst (SL.map wk2)) .uD .uD .uD) (bA (i:=3) (aK (xs:=[.lst ((F.map W).map wk2)]) (aC hc1 rfl) hsrt)) ?_;refine aL (ρ':=wn net nk dk (.lst (SL.map wk2)) (.lst []) .uD .uD) (dG (i:=4) rfl rfl) ?_;refine aL (W8 (i:=3) (d:=.lst (SL.map wk2)) (xs:=SL.map wk2) rfl rfl e1) ?_;exact d8 (aK (xs:=[.lst ((prs O).map enP)]) (aC hc2 rfl) (aCh (prs O))) rfl
structure Wy(kvs:aa (D×D))(Q:aa Pc)(V:aa Tie)(F:aa (aa af))(k:aa af->aa D)(SL:aa (aa D×aa af)):Prop where
 pa:Pa 0x1d (Q.map (·.1)) F
 fw:∀p∈F,FW (nmQ Q) 0x1d p (k p)
 pm:(SL.flatMap (·.2)).Perm (Q.map (·.1))
 rw:∀x∈SL,x.1=rowsOf (nmQ Q) 0x1d x.2
 cl:∀x∈SL,∀n∈x.2,n≠0/\∀e∈ea kvs Q V n,e.1=0\/e.1∈x.2
 sr:(SL.map (·.1)).Perm (F.map k)
 up:(SL.map wk2).Pairwise λa b=>leE a b=ag
section
variable {kvs:aa (D×D)} {Q:aa Pc} {V:aa Tie} {r:af}
theorem GP:∀(Q:aa Pc)(acc:aa (D×D))(n:af),(Q.map (·.1)).Nodup->bL (cG acc (Q.map λc=>(δ c.1,μ c.2))) (.int n)=if n∈Q.map (·.1) then ae (.str (nmQ Q n)) else bL acc (.int n)
 |[],acc,n,_=>by simp[cG]
 |c::Q,acc,n,h=>by
  rw[ba,df] at h;show bL (cG (putD acc (.int c.1) (.str c.2)) (Q.map λc=>(δ c.1,μ c.2))) (.int n)=_;rw[GP Q _ n h.2,qU];by_cases e:c.1=n
  .subst e;rw[ap h.1,ao rfl,ao 0x2];simp[nmQ]
  .have e2:nmQ (c::Q) n=nmQ Q n:=by simp[nmQ,iL,e]
   rw[ap e,e2];by_cases hm:n∈Q.map (·.1)
   .rw[ao hm,ao (by simp only[ba];exact bo _ hm)]
   .rw[ap hm,ap];intro z;rcases bi.mp z with z|z
    .exact e z.symm
    .exact hm z
theorem GQ(w:Net kvs Q V):∃F k SL,Wy kvs Q V F k SL/\bV 1 uC [bG Q V r]=.ok (.lst ((nY (prs (SL.flatMap (·.2)))).map enP)):=by
 have wf:=w.wf;have ql:=w.ql;obtain⟨F,ps,hF,hparts⟩:=aJ4 wf;have hz:∀p∈F,∀x∈p,x∈Q.map (·.1):=λp hp x hx=>ps.sub (λn h=>h) (mX wf) x (yr.mpr ⟨p,hp,hx⟩)
 have hgx:∀p∈F,GdX (nkD Q) (dE (Q.map (·.1)) 0x1d) p 0x1d (nmQ Q):=λp hp=>⟨(sX w ps hp).1,λz=>by have:=wf.qp 0 (hz p hp 0 z);lia,λx hx=>by
  unfold nkD;rw[GP Q [] x wf.nd,ao (hz p hp x hx)]⟩
 have hch:∀p:aa af,∃s0:af,p∈F->(∃S,Sta 0x1d p S/\s0∈S/\(∀s∈S,s∈p)/\∀s∈S,¬jX (fU (nmQ Q) 0x1d p s)<jX (fU (nmQ Q) 0x1d p s0))/\bV 3 dX [.dct (nkD Q),.dct (dE (Q.map (·.1)) 0x1d),pS p]=.ok (wk2 (fU (nmQ Q) 0x1d p s0,wlk 0x1d p s0)):=λp=>by
  by_cases hp:p∈F
  .obtain⟨g,h1,h2,h3⟩:=sX w ps hp;obtain⟨S,s0,i1,i2,i3,i4,i5⟩:=aG7 (hgx p hp) h1 h2 h3;exact⟨s0,λ_=>⟨⟨S,i1,i2,i3,i4⟩,i5⟩⟩
  .exact⟨0,λz=>aT z hp⟩
 obtain⟨s0,hs0⟩:=Ea hch;have hin:∀p∈F,s0 p∈p:=λp hp=>by
  obtain⟨⟨S,_,i2,i3,_⟩,_⟩:=hs0 p hp;exact i3 _ i2
 have hperm:∀p∈F,(wlk 0x1d p (s0 p)).Perm p:=λp hp=>aAr (sX w ps hp).1 (sX w ps hp).2.2.1 (hin p hp) ((sX w ps hp).2.2.2 _ (hin p hp))
 have pF:((F.map λp=>(fU (nmQ Q) 0x1d p (s0 p),wlk 0x1d p (s0 p))).flatMap (·.2)).Perm (Q.map (·.1)):=(UG hperm).trans (GC ps.nd wf.nd λy=>⟨ps.sub (λn h=>h) (mX wf) y,ps.cv y⟩);obtain⟨SL,pSL,hup,hway⟩:=aJk rfl (λz=>by cases z) (aJd ql) (aNs w) hparts hF (λp hp=>⟨lF _ _ _,(hs0 p hp).2⟩) (by rw[pF.length_eq,aS];exact ql);have hmem:∀x∈SL,∃p∈F,x=(fU (nmQ Q) 0x1d p (s0 p),wlk 0x1d p (s0 p)):=λx hx=>by
  obtain⟨p,hp,e⟩:=aE.mp (pSL.mem_iff.mp hx);exact⟨p,hp,e.symm⟩
 refine⟨F,λp=>fU (nmQ Q) 0x1d p (s0 p),SL,⟨⟨?_,λn hn=>yr.mp (ps.cv n hn),λp hp=>(sX w ps hp).2.1,λp hp=>?_,hz,λp hp=>(sX w ps hp).2.2.2⟩,λp hp=>?_,(sY (·.2) pSL).trans pF,λx hx=>?_,λx hx n hn=>?_,?_,hup⟩,hway⟩
 .exact ps.hd.imp λ{a b} h e=>by rw[e] at h;lia
 .obtain⟨n,q,e,_,h,_⟩:=ps.ea p hp;exact h
 .obtain⟨⟨S,i⟩,_⟩:=hs0 p hp;exact⟨S,s0 p,i.1,i.2.1,i.2.2.1,i.2.2.2,rfl⟩
 .obtain⟨p,hp,rfl⟩:=hmem x hx;rfl
 .obtain⟨p,hp,rfl⟩:=hmem x hx;have hnp:n∈p:=(hperm p hp).mem_iff.mp hn;refine⟨λz=>by have:=wf.qp n (hz p hp n hnp);lia,λe he=>?_⟩;have:=YJ ((sX w ps hp).1.cl n hnp) e he;exact this.imp id λz=>(hperm p hp).mem_iff.mpr z
 .have:=pSL.map (·.1);rw[bp] at this;exact this
theorem aGo{SL:aa (aa D×aa af)}(hr:∀x∈SL,lE x.1)(h:(SL.map wk2).Pairwise λa b=>leE a b=ag):(SL.map λx=>ο x.1).Pairwise λa b=>leE a b=ag:=by
 refine eh.mpr ((eh.mp h).imp_of_mem λ{x y} hx hy z=>?_);simp only[leE,jm,ly] at z ⊢;intro q;refine z ?_;have hne:ο y.1≠ο x.1:=λe=>by rw[e] at q;exact aT q (mP _)
 have px:(ο x.1).plain=ag:=j_ (hr x hx);have py:(ο y.1).plain=ag:=j_ (hr y hy);show(2::1::(enc (.scr y.1)++jX [.scr (y.2.map δ)]))<(2::1::(enc (.scr x.1)++jX [.scr (x.2.map δ)]));rw[eL,eL];refine .inr ⟨rfl,.inr ⟨rfl,(ZQ _ _ _ _ (λu e=>hne ?_) λu e=>hne ?_).mpr q⟩⟩
 .exact(rF _ _ u [] py px (by rw[e,d4])).1
 .exact(rF _ _ u [] px py (by rw[e,d4])).1.symm
end
theorem aKy:∀(m:ah)(O:aa af){n:af},n∈O->((m:af)+O.idxOf n,n)∈EP m O
 |m,o::O,n,h=>by
  rw[yu];by_cases e:o=n
  .subst e;simp[EP]
  .rw[show(o==n)=ai by simpa using e];have:=aKy (m+1) O ((bi.mp h).resolve_left λz=>e z.symm);refine bo _ ?_;have e2:((m:af)+((bif ai then 0 else O.idxOf n+1:ah):af))=(((m+1:ah):af)+(O.idxOf n:af)):=by
    show((m:af)+((O.idxOf n+1:ah):af))=_;lia
   rw[e2];exact this
theorem J4(h:(Z.map (·.1)).Nodup)(hp:p∈Z):fz Z p.1=p.2:=by
 induction Z with
 |nil=>cases hp
 |cons q Z ih=>
  rw[ba,df] at h;by_cases e:q.1=p.1
  .rcases bi.mp hp with rfl|hp
   .simp[fz]
   .have hm:p.1∈Z.map (·.1):=aE.mpr ⟨p,hp,rfl⟩;rw[<-e] at hm;exact aT hm h.1
  .have:fz (q::Z) p.1=fz Z p.1:=by simp[fz,iL,e]
   rw[this];exact ih h.2 ((bi.mp hp).resolve_left λz=>e (by rw[z]))
theorem aGp(hO:O.Nodup)(h:n=0\/n∈O):nfZ (nY (prs O)) n=plc O n:=by
 unfold nfZ plc;by_cases h0:n=0
 .rw[ao h0,ao h0]
 .rw[ap h0,ap h0];have hn:=h.resolve_left h0;have hm:((n,(O.idxOf n:af)+1):Pt)∈nY (prs O):=by
   refine(oO _).mem_iff.mpr (aE.mpr ⟨_,aKy 1 O hn,?_⟩);exact Prod.ext rfl (by show((1:ah):af)+_=_;lia)
  exact J4 (by rw[((oO (prs O)).map _).nodup_iff,aGc];exact hO) hm
section
variable {kvs:aa (D×D)} {Q:aa Pc} {V:aa Tie} {r:af}
theorem aCi(w:Net kvs Q V)(h:∀n,n=0\/n∈Q.map (·.1)->nf n=nf' n):lK Q V r nf=lK Q V r nf':=by
 have e1:Q.map (cP nf)=Q.map (cP nf'):=c_ λc hc=>by
  unfold cP;rw[h c.1 (.inr (aE.mpr ⟨c,hc,rfl⟩))]
 have e2:V.map (cT nf)=V.map (cT nf'):=c_ λt ht=>by
  unfold cT cE;rw[h _ (w.wf.tie ht).1,h _ (w.wf.tie ht).2]
 unfold lK;rw[e1,e2]
theorem aSh(hO:O.Nodup)(hz:∀x∈O,x≠0):Nf (plc O) O where
 z:=rfl
 pos x hx:=by unfold plc;rw[ap (hz x hx)];lia
 inj x hx y hy e:=by
  unfold plc at e;rw[ap (hz x hx),ap (hz y hy)] at e;have e':O.idxOf x=O.idxOf y:=by lia
  have h1:=Dj (Dk hx);have h2:=Dj (Dk hy);rw[<-h1,<-h2]
  congr 1
theorem Nf.of(h:Nf nf M)(hs:∀x∈N,x∈M):Nf nf N:=⟨h.z,λx hx=>h.pos x (hs x hx),λx hx y hy=>h.inj x (hs x hx) y (hs y hy)⟩
theorem Wy.nd(w:Net kvs Q V)(y:Wy kvs Q V F k SL):(SL.flatMap (·.2)).Nodup:=y.pm.nodup_iff.mpr w.wf.nd
theorem Wy.nf(w:Net kvs Q V)(y:Wy kvs Q V F k SL):Nf (plc (SL.flatMap (·.2))) (Q.map (·.1)):=(aSh (y.nd w) λx hx=>by have:=w.wf.qp x (y.pm.mem_iff.mp hx);lia).of λx hx=>y.pm.mem_iff.mpr hx
theorem aAy(w:Net kvs Q V)(hO:O.Perm (Q.map (·.1)))(hN:Nf (plc O) (Q.map (·.1))):t∈(V.map (cT (plc O))).map norm↔(t∈V/\t.1.1=0/\t.2.1=0)\/t∈O.flatMap (U3 0x1d O):=by
 have wf:=w.wf;have z0:plc O 0=0:=rfl;have hne:∀{e f:Pt},GZ V e f->cE (plc O) e≠cE (plc O) f:=λ{e f} ht z=>by
  have hm:=ht.mem;have:e=f:=Prod.ext (hN.aSf (sZ w hm.1) (sZ w hm.2) (cz (λp:Pt=>p.1) z:(cE (plc O) e).1=(cE (plc O) f).1)) (cz (λp:Pt=>p.2) z:(cE (plc O) e).2=(cE (plc O) f).2);subst this;rcases ht with q|q<;>exact irr _ _ (w.lt _ q) (w.lt _ q)
 have to:∀{n h:af}{f:Pt},n∈Q.map (·.1)->GZ V (n,h) f->norm (cE (plc O) (n,h),cE (plc O) f)∈O.flatMap (U3 0x1d O):=λ{n h f} hn ht=>by
  obtain⟨pc,hp,rfl⟩:=aE.mp hn;have hh:=(qT w hp h).mp ht.mem.1;refine jc.mpr ⟨pc.1,hO.mem_iff.mpr hn,aE.mpr ⟨(f,h.toNat),?_,?_⟩⟩
  .rw[uz];unfold ea eA;rw[YF w.qs hp,iE,yk 0x1];show ae (mt V (pc.1,((h.toNat:ah):af)))=ae f;rw[show((h.toNat:ah):af)=h by lia,O9 w.nd ht]
  .show norm ((plc O pc.1,((h.toNat:ah):af)),cE (plc O) f)=_;rw[show((h.toNat:ah):af)=h by lia];rfl
 constructor
 .intro ht;obtain⟨u,hu,rfl⟩:=aE.mp ht;obtain⟨v,hv,rfl⟩:=aE.mp hu;rcases wf.ok v hv with ⟨h1,h2|h2⟩|⟨h1,h2⟩
  .left
   have e:cT (plc O) v=v:=by
    unfold cT cE;rw[h1,h2,z0,<-h1];exact Prod.ext rfl (Prod.ext (by rw[h1,h2]) rfl)
   rw[e];have hl:=w.lt v hv;have e2:norm v=v:=by
    unfold norm;have:=irr _ _ hl;simp[hl,this]
   rw[e2];exact⟨hv,h1,h2⟩
  .right
   have hT:GZ V (v.2.1,v.2.2) v.1:=.inr hv;have:=to h2 hT;rw[GJ _ _ (hne hT.symm)] at this;exact this
  .right
   exact to h1 (.inl hv)
 .rintro(⟨hv,h1,h2⟩|ht)
  .refine aE.mpr ⟨cT (plc O) t,aE.mpr ⟨t,hv,rfl⟩,?_⟩;have e:cT (plc O) t=t:=by
    unfold cT cE;rw[h1,h2,z0];exact Prod.ext (Prod.ext h1.symm rfl) (Prod.ext h2.symm rfl)
   rw[e];have hl:=w.lt t hv;unfold norm;have:=irr _ _ hl;simp[hl,this]
  .obtain⟨n,hn,ht⟩:=jc.mp ht;obtain⟨y,hy,rfl⟩:=aE.mp ht;obtain⟨pc,hp,rfl⟩:=aE.mp (hO.mem_iff.mp hn);rw[uz] at hy;have hlt:y.2<vOf kvs pc.2+1:=by
    have:=(ej.mp hy).1;unfold ea at this;rw[JX,YF w.qs hp] at this;exact this
   unfold ea eA at hy;rw[YF w.qs hp,iE,yk hlt] at hy;have e:mt V (pc.1,(y.2:af))=y.1:=by simpa using hy
   have hT:GZ V (pc.1,(y.2:af)) y.1:=by
    rw[<-e];exact FQ w.nd ((qT w hp _).mpr 0x1)
   show norm (cE (plc O) (pc.1,(y.2:af)),cE (plc O) y.1)∈_;rcases hT with q|q
   .exact aE.mpr ⟨_,aE.mpr ⟨_,q,rfl⟩,rfl⟩
   .rw[<-GJ _ _ (hne (.inr q))];exact aE.mpr ⟨_,aE.mpr ⟨_,q,rfl⟩,rfl⟩
theorem aAz(w:Net kvs Q V)(hO:O.Perm (Q.map (·.1))):(Q.map (cP (plc O))).Perm (enS 0 (O.map (nmQ Q))):=by
 have hn:O.Nodup:=hO.nodup_iff.mpr w.wf.nd;have e:=aKw (nm:=nmQ Q) O [] hn λx hx=>by have:=w.wf.qp x (hO.mem_iff.mp hx);lia
 rw[eW,eJ] at e;rw[e];have e2:Q.map (cP (plc O))=(Q.map (·.1)).map λn=>(plc O n,nmQ Q n):=by
  rw[bp];refine c_ λc hc=>?_
  show(plc O c.1,c.2)=(plc O c.1,nmQ Q c.1);rw[aGj w.qs hc]
 rw[e2];exact(hO.map _).symm
end
theorem aGq{V V':aa Tie}{F F':aa (aa af)}{k k':aa af->aa D}{SL SL':aa (aa D×aa af)}(w:Net kvs Q V)(w':Net kvs' Q' V')(y:Wy kvs Q V F k SL)(y':Wy kvs' Q' V' F' k' SL')(hr:SL.map (·.1)=SL'.map (·.1))(hb:∀t:Tie,(t∈V/\t.1.1=0/\t.2.1=0)↔(t∈V'/\t.1.1=0/\t.2.1=0)):(Q.map (cP (plc (SL.flatMap (·.2))))).Perm (Q'.map (cP (plc (SL'.flatMap (·.2)))))/\((V.map (cT (plc (SL.flatMap (·.2))))).map norm).Perm ((V'.map (cT (plc (SL'.flatMap (·.2))))).map norm):=by
 have e1:=PQ SL y.rw;have e1':=PQ SL' y'.rw;have e2:=PP SL [] (by rw[eJ];exact y.nd w) y.rw y.cl;have e2':=PP SL' [] (by rw[eJ];exact y'.nd w') y'.rw y'.cl;rw[eJ] at e2 e2';have p1:(Q.map (cP (plc (SL.flatMap (·.2))))).Perm (Q'.map (cP (plc (SL'.flatMap (·.2))))):=by
  refine(aAz w y.pm).trans (Eb ?_ (aAz w' y'.pm).symm);rw[e1,e1',hr]
 have p2:((V.map (cT (plc (SL.flatMap (·.2))))).map norm).Perm ((V'.map (cT (plc (SL'.flatMap (·.2))))).map norm):=by
  refine(ux (U5 w (y.nf w)) (U5 w' (y'.nf w'))).mpr λt=>?_
  rw[aAy w y.pm (y.nf w),aAy w' y'.pm (y'.nf w'),<-e2,<-e2',hr,hb t]
 exact⟨p1,p2⟩
theorem aJl{Q:aa Pc}{V:aa Tie}{φ:af->af}{F F':aa (aa af)}{k k':aa af->aa D}{SL SL':aa (aa D×aa af)}(w:Net kvs Q V)(h:Nf φ (Q.map (·.1)))(y:Wy kvs Q V F k SL)(y':Wy kvs (eX (Q.map (cP φ))) (cX ((V.map (cT φ)).map norm)) F' k' SL'):(Q.map (cP (plc (SL.flatMap (·.2))))).Perm ((eX (Q.map (cP φ))).map (cP (plc (SL'.flatMap (·.2)))))/\((V.map (cT (plc (SL.flatMap (·.2))))).map norm).Perm (((cX ((V.map (cT φ)).map norm)).map (cT (plc (SL'.flatMap (·.2))))).map norm):=by
 have w':=vI w h;have i:=aOe w h;have hu:∀q∈yG 0x1d (Q.map (·.1)),∀q'∈yG 0x1d (Q.map (·.1)),q.1=q'.1->q=q':=λq hq q' hq' e=>by
  obtain⟨a1,a2⟩:=nJ.mp hq;obtain⟨b1,b2⟩:=nJ.mp hq';obtain⟨c,hc,ec⟩:=aE.mp a1;obtain⟨c',hc',ec'⟩:=aE.mp b1;rw[<-ec] at a2;rw[<-ec'] at b2;obtain⟨h1,t1⟩:=(T7 w hc).mp a2;obtain⟨h2,t2⟩:=(T7 w hc').mp b2;rw[<-e] at t2;have:=T5 w.nd t1.symm t2.symm;refine Prod.ext e ?_;rw[<-ec,<-ec'];exact cz (λp:Pt=>p.1) this
 have hp:(SL.map (·.1)).Perm (SL'.map (·.1)):=y.sr.trans ((aGg i (λz=>aOd) y.pa y'.pa hu y.fw y'.fw).trans y'.sr.symm);have hro:∀x∈SL,lE x.1:=λx hx=>by rw[y.rw x hx];exact lF _ _ _
 have hro':∀x∈SL',lE x.1:=λx hx=>by rw[y'.rw x hx];exact lF _ _ _
 have hr:SL.map (·.1)=SL'.map (·.1):=by
  have q:=n_ (λd hd=>by
   obtain⟨x,hx,rfl⟩:=aE.mp hd;exact j_ (hro x hx)) (by
   have:=hp.map ο;rw[bp,bp] at this;exact this) (aGo hro y.up) (aGo hro' y'.up)
  have key:∀{A B:aa (aa D×aa af)},(A.map λx=>ο x.1)=(B.map λx=>ο x.1)->A.map (·.1)=B.map (·.1):=by
   intro A;induction A with
   |nil=>
    intro B h;cases B with
    |nil=>rfl
    |cons b B=>cases h
   |cons a A ih=>
    intro B h;cases B with
    |nil=>cases h
    |cons b B=>
     rw[ba,ba,iu] at h;rw[ba,ba,ih h.2]
     congr 1
     exact D.scr.inj h.1
  exact key q
 refine aGq w w' y y' hr λt=>?_
 constructor
 .rintro⟨h1,h2,h3⟩;refine⟨(bT _).mem_iff.mpr (aE.mpr ⟨cT φ t,aE.mpr ⟨t,h1,rfl⟩,?_⟩),h2,h3⟩;have e:cT φ t=t:=by
   unfold cT cE;rw[h2,h3,h.z];exact Prod.ext (Prod.ext h2.symm rfl) (Prod.ext h3.symm rfl)
  rw[e];have hl:=w.lt t h1;unfold norm;have:=irr _ _ hl;simp[hl,this]
 .rintro⟨h1,h2,h3⟩;obtain⟨u,hu,rfl⟩:=aE.mp ((bT _).mem_iff.mp h1);obtain⟨v,hv,rfl⟩:=aE.mp hu;have hv0:v.1.1=0/\v.2.1=0:=by
   have q1:=(w.wf.tie hv).1;have q2:=(w.wf.tie hv).2;have z1:φ v.1.1=0/\φ v.2.1=0:=by
    rcases oR (cT φ v) with e|e
    .rw[e] at h2 h3;exact⟨h2,h3⟩
    .rw[e] at h2 h3;exact⟨h3,h2⟩
   exact⟨h.aSf q1 (.inl rfl) (by rw[h.z];exact z1.1),h.aSf q2 (.inl rfl) (by rw[h.z];exact z1.2)⟩
  have e:cT φ v=v:=by
   unfold cT cE;rw[hv0.1,hv0.2,h.z];exact Prod.ext (Prod.ext hv0.1.symm rfl) (Prod.ext hv0.2.symm rfl)
  have hl:=w.lt v hv;have e2:norm (cT φ v)=v:=by
   rw[e];unfold norm;have:=irr _ _ hl;simp[hl,this]
  rw[e2];exact⟨hv,hv0⟩
def lO(V:aa Tie):ah:=((ends V).filter λp=>p.1==0).length
def aSi(f:α->D)(xs:aa α):gV [.tup (xs.map f)]=.ok (.int xs.length):=by
 show τ (δ ((xs.map f).length:af))=_;rw[aS]
theorem P0{α:Type}{body g:FS}{d:α->D}{ρ:aa D}{r:Res Fl}(I:aa α->aa D->Prop)(xs:aa α)(h1:it ρ=.ok (xs.map d,ag))(h0:I [] ρ)(step:∀ys a zs ρ,xs=ys++a::zs->I ys ρ->∃ρ1 ρ2,t (d a) ρ=.ok ρ1/\body ρ1=.ok (.nx ρ2)/\I (ys++[a]) ρ2)(h2:∀ρ',I xs ρ'->g ρ'=r):bO (BK it t body) g ρ=r:=by
 obtain⟨ρ',h,i⟩:=eE xs step h0;exact aL (mK h1 h) (h2 ρ' i)
theorem t8{α:Type}{c:FT}{f:FE}{k kk:aq}{ρ:aa D}{d:α->D}(y:α->D)(xs:aa α)(h1:it ρ=.ok (xs.map d,kk))(hl:xs.length<=10000)(h:∀acc,∀a∈xs,rD n t c f k ρ acc (d a)=.ok (acc++[y a])):dR n it t c f k ρ=.ok (.lst (xs.map y)):=
 jM h1 (by rw[aS,bD];lia) (lG _ d y xs [] h)
theorem aGr(V:aa Tie)(t:Tie):(lO (V++[t]):af)=lO V+(if t.1.1==0 then 1 else 0)+(if t.2.1==0 then 1 else 0):=by
 unfold lO;rw[sV,yt,cx];cases h1:t.1.1==0<;>cases h2:t.2.1==0<;>simp[ri,h1,h2]<;>lia
theorem U6(Q:aa Pc)(V:aa Tie)(r:af):bV 1 d9 [bG Q V r]=.ok (.int (lO V)):=by
 refine(cJ rfl).trans (call_v (aL (bA rfl) (P0 (λys ρ=>∃x2 x3,ρ=[bG Q V r,.int (lO ys),x2,x3]) V (iV 0x10 (cN V)) ⟨_,_,rfl⟩ ?_ ?_)))
 .rintro ys t zs ρ e ⟨x2,x3,rfl⟩;refine⟨[bG Q V r,.int (lO ys),enP t.1,enP t.2],[bG Q V r,.int (lO (ys++[t])),enP t.1,enP t.2],rfl,?_,_,_,rfl⟩;rw[aGr];exact bA (aJ (aJ rfl (aK (aC (aJ 0x10 rfl rfl) rfl) rfl) (fX _ _)) (aK (aC (aJ 0x10 rfl rfl) rfl) rfl) (fX _ _))
 .rintro ρ ⟨x2,x3,rfl⟩;exact d8 rfl rfl
noncomputable def sf(b o:af)(p:Pt):Pt:=if p.1=0 then (0,p.2+o) else (p.1+b,p.2)
def sfT(b o:af)(t:Tie):Tie:=(sf b o t.1,sf b o t.2)
def aUf(h1:fZ e ρ=.ok (enP p))(h2:fZ b ρ=.ok (.int B))(h3:fZ o ρ=.ok (.int O)):(bIf (bTB (b2 (bY .eq) (b2 getD (fZ e) dM) dM)) (fP (aD dM (aD (b2 (bQ .add) (b2 getD (fZ e) fJ) (fZ o)) aV))) (fP (aD (b2 (bQ .add) (b2 getD (fZ e) dM) (fZ b)) (aD (b2 getD (fZ e) fJ) aV)))) ρ=.ok (enP (sf B O p)):=by
 have c:(bTB (b2 (bY .eq) (b2 getD (fZ e) dM) dM)) ρ=.ok (p.1==0):=bU (aJ (aJ h1 rfl rfl) rfl rfl);unfold bIf sf;rw[c,ε];by_cases h:p.1=0
 .rw[ao (by simp[h]),ao h];exact cW (aC rfl (aC (aJ (aJ h1 rfl rfl) h3 (fX _ _)) rfl)) UL
 .rw[ap (by simp[h]),ap h];exact cW (aC (aJ (aJ h1 rfl rfl) h2 (fX _ _)) (aC (aJ h1 rfl rfl) rfl)) UL
def aKz(hx:x ρ=.ok (bK t))(he:ρ.length=e)(h2:∀d,fZ b (ρ++[d])=.ok (.int B))(h3:∀d,fZ o (ρ++[d])=.ok (.int O)):(dR e (b_ x ai) uQ gB (bIf (bTB (b2 (bY .eq) (b2 getD (fZ e) dM) dM)) (fP (aD dM (aD (b2 (bQ .add) (b2 getD (fZ e) fJ) (fZ o)) aV))) (fP (aD (b2 (bQ .add) (b2 getD (fZ e) dM) (fZ b)) (aD (b2 getD (fZ e) fJ) aV)))) ai) ρ=.ok (.lst [enP (sfT B O t).1,enP (sfT B O t).2]):=by
 refine t8 (λp=>enP (sf B O p)) [t.1,t.2] (gC hx rfl) 0x2 λacc p _=>?_
 refine gF (b:=ag) he rfl λ_=>⟨aUf (gP ?_ 0x7) (h2 _) (h3 _),rfl⟩
 rw[<-he];simp
def dQ(Q:aa Pc):aa Pc:=Q++Q.map (cP (·+(Q.length:af)))
def dV(Q:aa Pc)(V:aa Tie):aa Tie:=V++V.map (sfT Q.length (lO V))
def dst(Q:aa Pc)(V:aa Tie)(r:af)(x y z:D):aa D:=[bG Q V r,.int Q.length,.int (lO V),x,y,z]
theorem U7(Q:aa Pc)(V:aa Tie)(r:af)(hq:Q.length<=1000)(hv:V.length<=1000):bV 1 dN [bG Q V r]=.ok (bG (dQ Q) (cX (dV Q V)) (2*r)):=by
 have pQ:=oM Q;have lQ:KQ [.tup (Q.map pcD)]=.ok (.lst (Q.map pcD)):=ao pQ;have lV:KQ [.tup (V.map bK)]=.ok (.lst (V.map bK)):=ao (cN V);have hc:(dR 6 (b_ 0x21 ai) (JG 2) gB (fP (aD (b2 (bQ .add) lH gD) (aD o8 aV))) ai) (dst Q V r .uD .uD .uD)=.ok (.lst ((Q.map (cP (·+(Q.length:af)))).map pcD)):=by
  rw[bp];exact t8 _ Q (iV 0x10 pQ) 0x1 λacc c _=>mW (x:=pcD c) (b:=ag) (bs:=[.int c.1,.str c.2]) (y:=pcD (cP (·+(Q.length:af)) c)) rfl rfl rfl λ_=>⟨cW (xs:=[.int (c.1+Q.length),.str c.2]) (aC (aJ rfl rfl (fX _ _)) 0x11) UL,rfl⟩
 have ha:=CP (Q.map pcD) ((Q.map (cP (·+(Q.length:af)))).map pcD) (by simp only[aS];rw[bD];lia) pQ (oM _);rw[<-bS] at ha;refine(cJ rfl).trans (call_v ?_);refine aL (ρ':=[bG Q V r,.int Q.length,.uD,.uD,.uD,.uD]) (bA (i:=1) (aK (xs:=[.tup (Q.map pcD)]) (aC 0x10 rfl) (aSi _ _))) ?_;refine aL (ρ':=(dst Q V r .uD .uD .uD)) (bA (i:=2) (aK (xs:=[bG Q V r]) 0x11 (U6 Q V r))) ?_;refine aL (ρ':=dst Q V r (.lst ((dQ Q).map pcD)) .uD .uD) (bA (i:=3) (aJ (aK (xs:=[.tup (Q.map pcD)]) (aC 0x10 rfl) lQ) hc ha)) ?_;refine aL (ρ':=dst Q V r (.lst ((dQ Q).map pcD)) (.lst (V.map bK)) .uD) (dG (i:=4) (aK (xs:=[.tup (V.map bK)]) (aC 0x10 rfl) lV) (cN V)) ?_;refine P0 (λys ρ=>∃x,ρ=dst Q V r (.lst ((dQ Q).map pcD)) (.lst ((V++ys.map (sfT Q.length (lO V))).map bK)) x) V (iV (xs:=V.map bK) 0x10 (cN V)) ⟨.uD,by simp⟩ ?_ ?_
 .rintro ys t zs ρ e ⟨x,rfl⟩;have hl:ys.length<=1000:=by rw[e] at hv;simp at hv;lia
  refine⟨dst Q V r (.lst ((dQ Q).map pcD)) (.lst ((V++ys.map (sfT Q.length (lO V))).map bK)) (bK t),dst Q V r (.lst ((dQ Q).map pcD)) (.lst ((V++(ys++[t]).map (sfT Q.length (lO V))).map bK)) (bK t),rfl,?_,_,rfl⟩;rw[bS (l₁:=ys),<-c6,bS (l₂:=[t].map _)];exact lN (i:=4) (ρ:=dst Q V r (.lst ((dQ Q).map pcD)) (.lst ((V++ys.map (sfT Q.length (lO V))).map bK)) (bK t)) (d:=bK (sfT Q.length (lO V) t)) (aK (xs:=[.lst [enP (sfT Q.length (lO V) t).1,enP (sfT Q.length (lO V) t).2]]) (aC (aKz rfl rfl (λ_=>rfl) λ_=>rfl) rfl) rfl) rfl (by simp only[aS,cx];rw[bD];lia) rfl
 .rintro ρ ⟨x,rfl⟩;refine d8 (d:=bG (dQ Q) (cX (dV Q V)) (2*r)) (cW (xs:=[.tup ((dQ Q).map pcD),.tup ((cX (dV Q V)).map bK),.int (2*r)]) (aC (aK (xs:=[.lst ((dQ Q).map pcD)]) 0x11 rfl) (aC (aK (xs:=[.lst ((cX (dV Q V)).map bK)]) (aC (aK (xs:=[.lst ((dV Q V).map bK)]) 0x11 (qQ _)) rfl) rfl) (aC (aJ rfl 0x10 (MF 2 r (p_ _ 0x4 0x4))) rfl))) aKv) ?_;rw[qR];rfl
theorem aGs(f:Pt->Pt):∀V:aa Tie,ends (V.map λt=>(f t.1,f t.2))=(ends V).map f
 |[]=>rfl
 |t::V=>cz (λl=>f t.1::f t.2::l) (aGs f V)
def wL{f:α->β}(hf:∀x y,f x=f y->x=y){l:aa α}(h:l.Nodup):(l.map f).Nodup:=eh.mpr (h.imp λ{a b} hab e=>hab (hf a b e))
theorem U8:∀{Q:aa Pc},(Q.map (·.1)).Nodup->(hks kvs Q).Nodup
 |[],_=>gS
 |c::Q,h=>by
  rw[ba,df] at h;refine fm.mpr ⟨wL (λa b e=>uS.mp (cz nu e)) nr,U8 h.2,λa ha b hb e=>?_⟩;subst e;obtain⟨k,_,rfl⟩:=aE.mp ha;obtain⟨pc,hpc,e,_⟩:=xK.mp hb;exact h.1 (aE.mpr ⟨pc,hpc,e⟩)
noncomputable def rgI(m:ah):aa af:=(bn m).map λ(k:ah)=>(k:af)
theorem aGt(m:ah):(rgI m).Nodup:=wL (λ_ _ e=>uS.mp e) nr
section
variable {kvs:aa (D×D)} {Q:aa Pc} {V U:aa Tie} {S:aa af}
theorem aGu(qs:Q.Pairwise LtN)(qpos:∀pc∈Q,0<pc.1)(ql:Q.length<=30)(sk:∀pc∈Q,∃v:ah,v<=6/\bL kvs (.str pc.2)=ae (.int v))(lt:∀t∈U,ltP t.1 t.2)(sm:U.length<=1000)(s2:S.Perm (rgI m))(pe:(ends U).Perm (hks kvs Q++S.map rim)):Net kvs Q (cX U):=by
 have ps:=(oN (bT U)).trans pe;have hl:S.length=m:=by rw[s2.length_eq];simp[rgI]
 have sn:=s2.nodup_iff.mpr (aGt m);refine⟨ps.nodup_iff.mpr (fm.mpr ⟨U8 ((eh.mpr qs:(Q.map (·.1)).Pairwise (·<·)).imp λh=>Int.ne_of_lt h),wL (λa b e=>cz nu e) sn,λa ha b hb e=>?_⟩),by rw[(bT _).length_eq];exact sm,qs,qpos,ql,sk,λt ht=>lt t ((bT _).mem_iff.mp ht),jE _,S,sn,by rw[hl];exact s2,ps⟩;subst e;obtain⟨pc,hpc,e,_⟩:=xK.mp ha;obtain⟨x,_,rfl⟩:=aE.mp hb;have:=qpos pc hpc;rw[e] at this;exact aT this (ox 0)
theorem aB0(qpos:∀pc∈Q,0<pc.1)(h:p∈hks kvs Q):0<p.1:=by
 obtain⟨pc,hpc,e,_⟩:=xK.mp h;rw[<-e];exact qpos pc hpc
theorem aB1(qpos:∀pc∈Q,0<pc.1)(pe:(ends V).Perm (hks kvs Q++S.map rim)):lO V=S.length:=by
 unfold lO;rw[(pe.filter _).length_eq,yt,List.filter_eq_nil_iff.mpr,yl.mpr,eJ,aS]
 .intro a ha;obtain⟨x,_,rfl⟩:=aE.mp ha;rfl
 .intro a ha;have:=aB0 qpos ha;simp;lia
theorem aL0(w:Net kvs Q V)(h:p∈ends V):0<=p.1:=by
 rcases sZ w h with e|e
 .lia
 .obtain⟨c,hc,e⟩:=aE.mp e;have:=w.qpos c hc;lia
theorem aUg{b:ah}(h:ltP p q)(hp:0<=p.1)(hq:0<=q.1):ltP (sf b o p) (sf b o q):=by
 unfold ltP at h;unfold ltP sf;split<;>split<;>dsimp only<;>lia
theorem J5(w:Net kvs Q V)(hb:∀pc∈Q,pc.1<=Q.length)(hq:Q.length<=15)(hv:V.length<=500):Net kvs (dQ Q) (cX (dV Q V)):=by
 obtain⟨S,s1,s2,s3⟩:=w.rims;have hm:=aB1 w.qpos s3;have mem:∀pc∈dQ Q,∃c∈Q,pc.2=c.2/\c.1<=pc.1:=λpc hp=>by
  rcases cj.mp hp with h|h
  .exact⟨pc,h,rfl,yo _⟩
  .obtain⟨c,hc,rfl⟩:=aE.mp h;refine⟨c,hc,rfl,?_⟩;show c.1<=c.1+(Q.length:af);lia
 refine aGu (S:=S++S.map (·+(S.length:af))) (m:=S.length+S.length) (nt.mpr ⟨w.qs,eh.mpr (w.qs.imp λ{a b} h=>Int.add_lt_add_right h _),λa ha b hb'=>?_⟩) (λpc hp=>?_) (by unfold dQ;simp;lia) (λpc hp=>?_) (λt ht=>?_) (by unfold dV;simp;lia) ?_ ?_
 .obtain⟨c,hc,rfl⟩:=aE.mp hb';have:=hb a ha;have:=w.qpos c hc;show a.1<c.1+(Q.length:af);lia
 .obtain⟨c,hc,_,h⟩:=mem pc hp;have:=w.qpos c hc;lia
 .obtain⟨c,hc,h,_⟩:=mem pc hp;rw[h];exact w.sk c hc
 .rcases cj.mp ht with h|h
  .exact w.lt t h
  .obtain⟨u,hu,rfl⟩:=aE.mp h;have e:=lY hu;exact aUg (w.lt u hu) (aL0 w e.1) (aL0 w e.2)
 .unfold rgI;rw[List.range_add,bS,bp];refine s2.append ((s2.map _).trans (.of_eq ?_));rw[bp];exact c_ λx _=>by show(x:af)+S.length=((S.length+x:ah):af);lia
 .unfold dV;have e:ends (V.map (sfT Q.length (lO V)))=(ends V).map (sf Q.length (lO V)):=aGs _ V;have eH:(hks kvs Q).map (sf Q.length (lO V))=hks kvs (Q.map (cP (·+(Q.length:af)))):=by
   rw[<-aKx];refine c_ λp hp=>ap ?_
   have:=aB0 w.qpos hp;lia
  have eR:(S.map rim).map (sf Q.length (lO V))=(S.map (·+(S.length:af))).map rim:=by
   rw[bp,bp,hm];rfl
  have eQ:hks kvs (dQ Q)=hks kvs Q++hks kvs (Q.map (cP (·+(Q.length:af)))):=kG;rw[ends_app,e,eQ,bS];refine(s3.append (s3.map _)).trans ?_;rw[bS,eH,eR,c6,c6];refine .append_left _ ?_;rw[<-c6,<-c6];exact rL.append_right _
theorem aL1(w:Net kvs Q V)(pe:(ends V').Perm (ends V))(lt:∀t∈V',ltP t.1 t.2):Net kvs Q (cX V')/\(cX V').length=V.length:=by
 obtain⟨S,s1,s2,s3⟩:=w.rims;have h:=pe.length_eq;rw[aAf,aAf] at h;exact⟨aGu w.qs w.qpos w.ql w.sk lt (by have:=w.small;lia) s2 (pe.trans s3),by rw[(bT _).length_eq];lia⟩
end
theorem J6{V R:aa Tie}(hn:(ends V).Nodup)(hlt:∀x∈V,ltP x.1 x.2)(hp:V.Perm (t::u::R))(h12:(p1=(t.1,u.1)/\p2=(t.2,u.2))\/(p1=(t.1,u.2)/\p2=(u.1,t.2))) :
  (ends (R++[p1,p2].map norm)).Perm (ends V)/\(∀x∈R++[p1,p2].map norm,ltP x.1 x.2):=by
 have pe:(ends V).Perm ([t.1,t.2,u.1,u.2]++ends R):=oN hp;have nd4:=(fm.mp (pe.nodup_iff.mp hn)).1;simp only[df,bi,np,or_false,gz,gS,and_true,not_false_eq_true] at nd4;obtain⟨⟨a1,a2,a3⟩,⟨a4,a5⟩,a6⟩:=nd4;have hne:p1.1≠p1.2/\p2.1≠p2.2:=by
  rcases h12 with ⟨rfl,rfl⟩|⟨rfl,rfl⟩
  .exact⟨a2,a5⟩
  .exact⟨a3,λz=>a4 z.symm⟩
 refine⟨?_,λx hx=>?_⟩
 .rw[ends_app];refine((t7 [p1,p2]).append_left _).trans (rL.trans ((Dd _ ?_).trans pe.symm));rcases h12 with ⟨rfl,rfl⟩|⟨rfl,rfl⟩
  .exact .cons _ (.swap _ _ _)
  .exact .cons _ (((List.Perm.swap t.2 u.1 []).cons u.2).trans (rL (l₁:=[u.2])))
 .rcases cj.mp hx with hx|hx
  .exact hlt x (hp.mem_iff.mpr (bo _ (bo _ hx)))
  .obtain⟨y,hy,rfl⟩:=aE.mp hx;rcases bi.mp hy with rfl|hy
   .exact zJ hne.1
   .rw[em.mp hy];exact zJ hne.2
def aOf[fF α]{L:aa α}(hn:L.Nodup)(ha:a∈L)(hb:b∈L)(hab:a≠b):L.Perm (a::b::L.filter λx=>!ϒ (x=a)&&!ϒ (x=b)):=by
 have e:(L.filter λx=>!ϒ (x=a)&&!ϒ (x=b))=(L.erase a).erase b:=by
  rw[Dl (hn.erase a),Dl hn,List.filter_filter];refine yy λx _=>?_
  rw[Bool.and_comm];rfl
 rw[e];exact(Dm ha).trans ((Dm ((C0 λz=>hab z.symm).mpr hb)).cons a)
theorem U9(p:α->aq)(y:α->D)(xs:aa α)(h1:it ρ=.ok (xs.map d,kk))(hl:xs.length<=10000)(h:∀acc,∀a∈xs,rD n t c f k ρ acc (d a)=.ok (if p a then acc++[y a] else acc)):dR n it t c f k ρ=.ok (.lst ((xs.filter p).map y)):=by
 refine jM h1 (by rw[aS,bD];lia) ?_;clear h1 hl
 suffices g:∀acc,o9 (rD n t c f k ρ) acc (xs.map d)=.ok (acc++(xs.filter p).map y) from g []
 induction xs with
 |nil=>intro acc;simp[o9]
 |cons x xs ih=>
  intro acc;rw[ba,o9,h acc x (bu ..)];show o9 _ _ _=_;rw[ih λacc a ha=>h acc a (bo _ ha),ri];by_cases hp:p x
  .simp[hp]
  .simp[hp]
theorem aJm(h1:x ρ=.ok p)(h2:y ρ=.ok q):A_ x y ρ=.ok (p&&q):=by
 cases p with
 |true=>exact CN h1 h2
 |false=>exact G4 h1
theorem J7(h1:f ρ=.ok d)(hp:d.pure=ag)(h2:t d ρ=.ok ρ'):aKb f t ρ=.ok (.nx ρ'):=by
 unfold aKb;rw[h1,ε];simp only[hp,h2,eT,ε]
def tB(h1:a ρ=.ok (enP t.1))(h2:b ρ=.ok (enP t.2)):(fP (aD a (aD b aV))) ρ=.ok (bK t):=cW (aC h1 (aC h2 rfl)) UL
def aOg(h1:a ρ=.ok (bK x))(h2:b ρ=.ok (bK y)):(uY (aD a (aD b aV))) ρ=.ok (.lst ([x,y].map bK)):=by
 unfold uY;rw[aC h1 (aC (xs:=[]) h2 rfl),ε];rfl
def Two(d:D)(t:Tie):Prop:=cZ .lt [d]=.ok (enP (norm t).1)/\cZ .gt [d]=.ok (enP (norm t).2)
def aOh(t:Tie):Two (bK t) t:=⟨IV .lt t.1 t.2 ltP sS,IV .gt t.1 t.2 (λx y=>ltP y x) TF⟩
def aUh(t:Tie):Two (.lst [enP t.1,enP t.2]) t:=aOh t
def aL2(h:fZ i ρ=.ok d)(hd:Two d t):(fP (aD (aN (cZ .lt) (aD (fZ i) aV)) (aD (aN (cZ .gt) (aD (fZ i) aV)) aV))) ρ=.ok (bK (norm t)):=tB (aK (aC h rfl) hd.1) (aK (aC h rfl) hd.2)
theorem aGv(hf:∀t,Two (f t) t)(U:aa Tie)(h:fZ j ρ=.ok (.lst (U.map f)))(hn:ρ.length=n)(hl:U.length<=10000)(hu:∀t,f t≠.uD):(dR n (b_ (fZ j) ai) uQ gB (fP (aD (aN (cZ .lt) (aD (fZ n) aV)) (aD (aN (cZ .gt) (aD (fZ n) aV)) aV))) ai) ρ=.ok (.lst ((U.map norm).map bK)):=by
 rw[bp];refine t8 _ U (gC h rfl) hl λacc t _=>gF (b:=ag) hn rfl λ_=>⟨aL2 (gP ?_ (hu t)) (hf t),rfl⟩
 rw[<-hn];simp
theorem aGw(a b:af):bY .ne (.int a) (.int b)=.ok (.bl (!ϒ (a=b))):=by
 show τ (υ (!eqD (.int a) (.int b)))=_;rw[aFc];rfl
noncomputable def t00:Tie:=((0,0),(0,0))
theorem P_{V:aa Tie}(hk:k<V.length):getD (.tup (V.map bK)) (.int k)=.ok (bK (V.getD k t00)):=by
 have:=O4 (V.map bK) k (by rw[aS];exact hk);rw[ur] at this;rw[this,jd,dz,eg hk];rfl
theorem t_(c:af)(h:0<m):∃a:ah,c % m=a/\(a:af)<m:=by
 have h0:=jb c (show m≠0 by lia);have h1:=kF c h;exact⟨(c % m).toNat,by lia,by lia⟩
section
variable {kvs:aa (D×D)} {Q:aa Pc} {V:aa Tie} {c:af}
def tst(V:aa Tie)(c:af)(x2 x3 x4 x5 x6 x7 x8 x9:D):aa D:=[.tup (V.map bK),.int c,x2,x3,x4,x5,x6,x7,x8,x9]
theorem aCj(w:Net kvs Q V)(c:af):∃V',(Net kvs Q V'/\V'.length=V.length)/\bV 2 kE [.tup (V.map bK),.int c]=.ok (.tup (V'.map bK)):=by
 have l0:∀ρ:aa D,fZ 0 ρ=.ok (.tup (V.map bK))-> 0x1a ρ=.ok (.int V.length):=λρ h=>aK (xs:=[.tup (V.map bK)]) (aC h rfl) (aSi _ _)
 have c0:bY (.ord .lt) (.int V.length) (.int 2)=.ok (.bl (ϒ ((V.length:af)<2))):=rfl;have hs:=w.small;by_cases h2:V.length<2
 .rw[bz 0x1] at c0;exact⟨V,⟨w,rfl⟩,(cJ rfl).trans (call_v (yF (uW (bU (aJ (l0 _ rfl) rfl c0)) (d8 rfl (cN V)))))⟩
 .rw[cy 0x1] at c0;have s1:=aA5 (V.length:af) 1;have m1:=gG c ((V.length:af)-1) 0x1;obtain⟨a,ha,q1⟩:=t_ c (show(0:af)<(V.length:af)-1 by lia);rw[ha] at m1;have m2:=gG (c / 7) ((V.length:af)-1-a) 0x1;obtain⟨b',hb,r1⟩:=t_ (c / 7) (show(0:af)<(V.length:af)-1-a by lia);rw[hb] at m2;obtain⟨b,hb⟩:∃b:ah,b=a+1+b':=⟨_,rfl⟩
  have a2:bQ .add (.int ((a:af)+1)) (.int b')=.ok (.int b):=by rw[hb];exact fX _ _
  have hp:=(aOf (L:=bn V.length) nr (a:=a) (b:=b) (hV.mpr 0x1) (hV.mpr 0x1) 0x1).map λk=>V.getD k t00
  have er:(bn V.length).map (λk=>V.getD k t00)=V:=by
   refine B6 0x2 λi h1 h2=>?_
   rw[jd,List.getElem_range,dz,eg h2];rfl
  rw[er,ba,ba] at hp;have ga:=P_ (V:=V) (k:=a) 0x1;have gb:=P_ (V:=V) (k:=b) 0x1;have hrest:∀x4 x5 x6 x7 x8 x9:D,(dR 10 (uB (aD 0x1a aV) rC) uQ (A_ (bTB (b2 (bY .ne) iH gK)) (bTB (b2 (bY .ne) iH j6))) (b2 getD cQ iH) ai) (tst V c (.int a) (.int b) x4 x5 x6 x7 x8 x9)=.ok (.lst ((((bn V.length).filter λk=>!ϒ (k=a)&&!ϒ (k=b)).map λk=>V.getD k t00).map bK)):=λx4 x5 x6 x7 x8 x9=>by
   have h1:=uI (f:=aD 0x1a aV) (ρ:=tst V c (.int a) (.int b) x4 x5 x6 x7 x8 x9) (n:=(V.length:af)) (aC (l0 _ rfl) rfl) 0x1 0x1;rw[l5] at h1;rw[bp];refine U9 (d:=λ(k:ah)=>δ (0+(k:af))) _ _ (bn V.length) h1 (by simp;lia) λacc k hk=>?_
   have g:=P_ (hV.mp hk);have q1:=aGw (k:af) a;have q2:=aGw (k:af) b;rw[lr.mpr (uS (m:=k) (n:=a))] at q1;rw[lr.mpr (uS (m:=k) (n:=b))] at q2;rw[ur];exact gF (y:=bK (V.getD k t00)) rfl (aJm (bU (aJ rfl rfl q1)) (bU (aJ rfl rfl q2))) λ_=>⟨aJ rfl rfl g,rfl⟩
  have hrl:=hp.length_eq;rw[b9,b9] at hrl;generalize V.getD a t00=t at *;generalize V.getD b t00=u at *;generalize ((bn V.length).filter λk=>!ϒ (k=a)&&!ϒ (k=b)).map (λk=>V.getD k t00)=R at *;have d5:=jA c 5 0x4 0x4;have m5:=gG (c / 5) 2 0x4;have c5:bY .eq (.int (c / 5 % 2)) (.int 1)=.ok (.bl (c / 5 % 2==1)):=rfl;obtain⟨p1,p2,h12,hsel⟩:∃p1 p2:Tie,((p1=(t.1,u.1)/\p2=(t.2,u.2))\/(p1=(t.1,u.2)/\p2=(u.1,t.2)))/\(sIf (bTB (b2 (bY .eq) (b2 (bQ .mod) (b2 (bQ .fdiv) gD aH8) rB) fJ)) (cR ai 9 (uY (aD (fP (aD fW (aD o8 aV))) (aD (fP (aD lH (aD gH aV))) aV))) ag) o_) (tst V c (.int a) (.int b) (enP t.1) (enP t.2) (enP u.1) (enP u.2) (.lst (R.map bK)) (.lst ([(t.1,u.1),(t.2,u.2)].map bK)))=.ok (.nx (tst V c (.int a) (.int b) (enP t.1) (enP t.2) (enP u.1) (enP u.2) (.lst (R.map bK)) (.lst ([p1,p2].map bK)))):=by
   cases h:(c / 5 % 2==1) with
   |false=>
    rw[h] at c5;exact⟨_,_,.inl ⟨rfl,rfl⟩,mC (bU (aJ (aJ (aJ rfl rfl d5) rfl m5) rfl c5)) rfl⟩
   |true=>
    rw[h] at c5;exact⟨_,_,.inr ⟨rfl,rfl⟩,uW (bU (aJ (aJ (aJ rfl rfl d5) rfl m5) rfl c5)) (bA (i:=9) (aOg (x:=(t.1,u.2)) (y:=(u.1,t.2)) (tB rfl rfl) (tB rfl rfl)))⟩
  obtain⟨w1,w2⟩:=J6 w.nd w.lt hp h12;refine⟨_,aL1 w w1 w2,(cJ rfl).trans (call_v ?_)⟩;refine aL (ρ':=tst V c .uD .uD .uD .uD .uD .uD .uD .uD) (mC (bU (aJ (l0 _ rfl) rfl c0)) rfl) ?_;refine aL (ρ':=tst V c (.int a) .uD .uD .uD .uD .uD .uD .uD) (bA (i:=2) (aJ rfl (aJ (l0 _ rfl) rfl s1) m1)) ?_;refine aL (ρ':=tst V c (.int a) (.int b) .uD .uD .uD .uD .uD .uD) (bA (i:=3) (aJ (aJ rfl rfl (fX _ _)) (aJ (aJ rfl rfl (jA c 7 0x4 0x4)) (aJ (aJ (l0 _ rfl) rfl s1) rfl (aA5 _ _)) m2) a2)) ?_;refine aL (ρ':=tst V c (.int a) (.int b) (enP t.1) (enP t.2) .uD .uD .uD .uD) (J7 (d:=bK t) (aJ rfl rfl ga) rfl rfl) ?_;refine aL (ρ':=tst V c (.int a) (.int b) (enP t.1) (enP t.2) (enP u.1) (enP u.2) .uD .uD) (J7 (d:=bK u) (aJ rfl rfl gb) rfl rfl) ?_;refine aL (ρ':=tst V c (.int a) (.int b) (enP t.1) (enP t.2) (enP u.1) (enP u.2) (.lst (R.map bK)) .uD) (bA (i:=8) (hrest _ _ _ _ _ _)) ?_;refine aL (ρ':=tst V c (.int a) (.int b) (enP t.1) (enP t.2) (enP u.1) (enP u.2) (.lst (R.map bK)) (.lst ([(t.1,u.1),(t.2,u.2)].map bK))) (bA (i:=9) (aOg (x:=(t.1,u.1)) (y:=(t.2,u.2)) (tB rfl rfl) (tB rfl rfl))) ?_;refine aL hsel ?_;have ad:=CP (R.map bK) (([p1,p2].map norm).map bK) (by rw[aS,bD];simp;lia) (cN R) (cN _);rw[<-bS] at ad;exact d8 (d:=.tup ((cX (R++[p1,p2].map norm)).map bK)) (aK (xs:=[.lst ((cX (R++[p1,p2].map norm)).map bK)]) (aC (aK (xs:=[.lst ((R++[p1,p2].map norm).map bK)]) (aC (aJ rfl (aGv aOh [p1,p2] rfl rfl 0x2 λt z=>by cases z) ad) rfl) (qQ _)) rfl) rfl) (cN _)
def aGx(Q:aa Pc)(V W:aa Tie)(r c:af)(x3 x4 x5 x6 x7 x8 x9:D):aa D:=[bG Q V r,.int c,bG (dQ Q) W (2*r),x3,x4,x5,x6,x7,x8,x9]
theorem aSj(w:Net kvs Q V)(hb:∀pc∈Q,pc.1<=Q.length)(hq:Q.length<=15)(hv:V.length<=500)(c r:af):∃V',Net kvs (dQ Q) V'/\bV 2 jV [bG Q V r,.int c]=.ok (bG (dQ Q) V' (2*r)):=by
 have hd:=U7 Q V r 0x1 0x1;have wd:=J5 w hb hq hv;have l1:∀ρ:aa D,fZ 0 ρ=.ok (bG Q V r)->(aN gV (aD 0x2c aV)) ρ=.ok (.int V.length):=λρ h=>aK (aC (aJ h rfl rfl) rfl) (aSi _ _)
 have c0:bY .eq (.int V.length) (.int 0)=.ok (.bl ((V.length:af)==0)):=rfl;have hpu:∀{A:aa Pc}{B:aa Tie}{s:af},(ai||(bG A B s).pure)=ag:=λ{A B s}=>by rw[qR];rfl
 have s2:(cR ai 2 (aN (bV 1 dN) (aD cQ aV)) ag) [bG Q V r,.int c,.uD,.uD,.uD,.uD,.uD,.uD,.uD,.uD]=.ok (.nx (aGx Q V (cX (dV Q V)) r c .uD .uD .uD .uD .uD .uD .uD)):=bA (aK (xs:=[bG Q V r]) 0x11 hd);by_cases h0:V.length=0
 .rw[show((V.length:af)==0)=ag by rw[h0];rfl] at c0;exact⟨_,wd,(cJ rfl).trans (call_v (aL s2 (yF (uW (bU (aJ (l1 _ rfl) rfl c0)) (d8 rfl hpu)))))⟩
 .rw[show((V.length:af)==0)=ai by rw[je];lia] at c0;have m1:=gG c (V.length:af) 0x1;obtain⟨a,ha,q1⟩:=t_ c (show(0:af)<(V.length:af) by lia);rw[ha] at m1;have ga:=P_ (V:=V) (k:=a) 0x1;have ht:V.getD a t00∈V:=by
   rw[dz,eg (show a<V.length by lia)];exact ig _
  generalize V.getD a t00=t at *;have pm:=bT (dV Q V);obtain⟨u,hu⟩:∃u,u=sfT Q.length (lO V) t:=⟨_,rfl⟩
  have ht2:t∈cX (dV Q V):=pm.mem_iff.mpr (dP _ ht);have hu':u∈V.map (sfT Q.length (lO V)):=by rw[hu];exact aE.mpr ⟨t,ht,rfl⟩
  have hu2:u∈cX (dV Q V):=pm.mem_iff.mpr (dS _ hu');have nd:=xQ wd.nd;have hne:t≠u:=(fm.mp (pm.nodup_iff.mp nd)).2.2 t ht u hu';have hp:=aOf nd ht2 hu2 hne;generalize cX (dV Q V)=W at *;have key:∀x∈W,∀y∈W,ϒ (x=y)=ϒ (x.1=y.1):=λx hx y hy=>lr.mpr ⟨λe=>by rw[e],λe=>ue λz=>by
   have p:=aOf nd hx hy z;have q:=(oN p).nodup_iff.mp wd.nd;have q:(x.1::x.2::y.1::_).Nodup:=q;rw[df,e] at q;exact q.1 (bo _ (bu ..))⟩
  have ef:(W.filter λx=>!ϒ (x=t)&&!ϒ (x=u))=W.filter λx=>!ϒ (x.1=t.1)&&!ϒ (x.1=u.1):=yy λx hx=>by rw[key x hx t ht2,key x hx u hu2]
  rw[ef] at hp;obtain⟨w1,w2⟩:=J6 (p1:=(t.1,u.2)) (p2:=(u.1,t.2)) wd.nd wd.lt hp (.inr ⟨rfl,rfl⟩);have hc:(dR 10 (b_ (b2 getD gK fJ) ai) uQ (A_ (bTB (b2 (bY .ne) (b2 getD iH dM) gH)) (bTB (b2 (bY .ne) (b2 getD iH dM) (b2 getD o8 dM)))) iH ai) (aGx Q V W r c 0x27 (.int (lO V)) (enP t.1) (enP t.2) (.lst [enP u.1,enP u.2]) .uD .uD)=.ok (.lst ((W.filter λx=>!ϒ (x.1=t.1)&&!ϒ (x.1=u.1)).map bK)):=U9 _ _ W (iV (xs:=W.map bK) 0x10 (cN W)) (by have:=wd.small;lia) λacc x _=>gF (x:=bK x) (y:=bK x) rfl (aJm (bU (aJ (x:=enP x.1) (aJ (x:=bK x) rfl rfl rfl) rfl (YB _ _))) (bU (aJ (x:=enP x.1) (aJ (x:=bK x) rfl rfl rfl) 0x10 (YB _ _)))) λ_=>⟨rfl,rfl⟩
  have hR:(W.filter λx=>!ϒ (x.1=t.1)&&!ϒ (x.1=u.1)).length<=1000:=dj (rn _ _) wd.small;generalize (W.filter λx=>!ϒ (x.1=t.1)&&!ϒ (x.1=u.1))=R at *;refine⟨_,(aL1 wd w1 w2).1,(cJ rfl).trans (call_v (aL s2 ?_))⟩;refine aL (mC (bU (aJ (l1 _ rfl) rfl c0)) rfl) ?_;refine aL (ρ':=aGx Q V W r c 0x27 .uD .uD .uD .uD .uD .uD) (bA (i:=3) (aK (xs:=[.tup (Q.map pcD)]) (aC 0x10 rfl) (aSi _ _))) ?_;refine aL (ρ':=aGx Q V W r c 0x27 (.int (lO V)) .uD .uD .uD .uD .uD) (bA (i:=4) (aK (xs:=[bG Q V r]) 0x11 (U6 Q V r))) ?_;refine aL (ρ':=aGx Q V W r c 0x27 (.int (lO V)) (enP t.1) (enP t.2) .uD .uD .uD) (J7 (d:=bK t) (aJ 0x10 (aJ rfl (l1 _ rfl) m1) ga) rfl rfl) ?_;refine aL (ρ':=aGx Q V W r c 0x27 (.int (lO V)) (enP t.1) (enP t.2) (.lst [enP u.1,enP u.2]) .uD .uD) (bA (i:=7) (by rw[hu];exact aKz (tB rfl rfl) rfl (λ_=>rfl) λ_=>rfl)) ?_;refine aL (ρ':=aGx Q V W r c 0x27 (.int (lO V)) (enP t.1) (enP t.2) (.lst [enP u.1,enP u.2]) (.lst (R.map bK)) .uD) (dG (i:=8) hc (cN R)) ?_;refine P0 (d:=bK) (λys ρ=>ys.length<=2->∃x,ρ=aGx Q V W r c 0x27 (.int (lO V)) (enP t.1) (enP t.2) (.lst [enP u.1,enP u.2]) (.lst ((R++ys.map norm).map bK)) x) [(t.1,u.2),(u.1,t.2)] (gC (fr:=ag) (aOg (x:=(t.1,u.2)) (y:=(u.1,t.2)) (tB rfl 0x10) (tB 0x10 rfl)) rfl) (λ_=>⟨.uD,by simp⟩) (λys x zs ρ e h=>?_) λρ h=>?_
  .have e:=cz fI e;simp at e;obtain⟨y,rfl⟩:=h 0x1;refine⟨aGx Q V W r c 0x27 (.int (lO V)) (enP t.1) (enP t.2) (.lst [enP u.1,enP u.2]) (.lst ((R++ys.map norm).map bK)) (bK x),aGx Q V W r c 0x27 (.int (lO V)) (enP t.1) (enP t.2) (.lst [enP u.1,enP u.2]) (.lst ((R++(ys++[x]).map norm).map bK)) (bK x),rfl,?_,λ_=>⟨_,rfl⟩⟩;rw[bS (l₁:=ys),<-c6,bS (l₂:=[x].map _)];exact lN (i:=8) (ρ:=aGx Q V W r c 0x27 (.int (lO V)) (enP t.1) (enP t.2) (.lst [enP u.1,enP u.2]) (.lst ((R++ys.map norm).map bK)) (bK x)) (d:=bK (norm x)) (aL2 rfl (aOh x)) rfl (by simp only[aS,cx];rw[bD];lia) rfl
  .obtain⟨y,rfl⟩:=h 0x2;exact d8 (d:=bG (dQ Q) (cX (R++[(t.1,u.2),(u.1,t.2)].map norm)) (2*r)) (cW (xs:=[.tup ((dQ Q).map pcD),.tup ((cX (R++[(t.1,u.2),(u.1,t.2)].map norm)).map bK),.int (2*r)]) (aC 0x10 (aC (aK (xs:=[.lst ((cX (R++[(t.1,u.2),(u.1,t.2)].map norm)).map bK)]) (aC (aK (xs:=[.lst ((R++[(t.1,u.2),(u.1,t.2)].map norm).map bK)]) 0x11 (qQ _)) rfl) rfl) (aC 0x10 rfl))) aKv) hpu
end
theorem aJn(xs:aa D)(a:ah)(h:a<xs.length)(hp:θ xs=ag):aBl (.tup xs) aj (ae (a:af))=.ok (.tup (xs.take a)):=by
 have e1:xW xs.length xs.length (ae (a:af))=a:=by
  show(if (a:af)<0 then (max ((a:af)+(xs.length:af)) 0).toNat else (min (a:af) (xs.length:af)).toNat)=a;rw[ap 0x1];lia
 show(if !θ xs||ϒ (xW xs.length 0 aj=0/\xW xs.length xs.length (ae (a:af))=xs.length) then Res.bad else τ (D.tup ((xs.drop (xW xs.length 0 aj)).take (xW xs.length xs.length (ae (a:af))-xW xs.length 0 aj))))=_;rw[e1,hp,cy (λz=>by lia)];rfl
theorem aJo(xs:aa D)(a:ah)(h:a<xs.length)(hp:θ xs=ag):aBl (.tup xs) (ae ((a:af)+1)) aj=.ok (.tup (xs.drop (a+1))):=by
 have e1:xW xs.length 0 (ae ((a:af)+1))=a+1:=by
  show(if (a:af)+1<0 then (max ((a:af)+1+(xs.length:af)) 0).toNat else (min ((a:af)+1) (xs.length:af)).toNat)=a+1;rw[ap 0x1];lia
 show(if !θ xs||ϒ (xW xs.length 0 (ae ((a:af)+1))=0/\xW xs.length xs.length aj=xs.length) then Res.bad else τ (D.tup ((xs.drop (xW xs.length 0 (ae ((a:af)+1)))).take (xW xs.length xs.length aj-xW xs.length 0 (ae ((a:af)+1))))))=_;rw[e1,hp,cy (λz=>by lia)];show τ (D.tup ((xs.drop (a+1)).take (xs.length-(a+1))))=_;rw[iO (by rw[kh];lia)]
theorem aGy(xs ys:aa D)(h:xs.length+ys.length<=1000):aQz (.tup xs) (.tup ys)=.ok (.tup (xs++ys)):=ao (bz (by rw[bD];lia))
theorem YT(s t:Str):eqD (.str s) (.str t)=ϒ (s=t):=by
 rw[aK0];by_cases h:s=t
 .subst h;simp
 .simp[h]
section
variable {kvs:aa (D×D)} {Q:aa Pc} {V:aa Tie}
def aOi{v:ah}(w:Net kvs (A++(n,nm)::B) V)(h1:bL kvs (.str nm)=ae (.int v))(h2:bL kvs (.str nm')=ae (.int v))(hv:v<=6):Net kvs (A++(n,nm')::B) V:=by
 have e:(A++(n,nm')::B).map (·.1)=(A++(n,nm)::B).map (·.1):=by simp
 have hk:hks kvs (A++(n,nm')::B)=hks kvs (A++(n,nm)::B):=by
  unfold hks;rw[kG,kG,hI,hI];unfold aRx;rw[aAd h1,aAd h2]
 refine⟨w.nd,w.small,?_,λpc hp=>?_,?_,λpc hp=>?_,w.lt,w.srt,by rw[hk];exact w.rims⟩
 .have hq:((A++(n,nm)::B).map (·.1)).Pairwise (·<·):=eh.mpr w.qs;rw[<-e] at hq;exact(eh.mp hq:(A++(n,nm')::B).Pairwise λa b=>a.1<b.1)
 .have:pc.1∈(A++(n,nm)::B).map (·.1):=by rw[<-e];exact aE.mpr ⟨pc,hp,rfl⟩
  obtain⟨q,hq,e⟩:=aE.mp this;rw[<-e];exact w.qpos q hq
 .have:=w.ql;simpa using this
 .rcases cj.mp hp with hp|hp
  .exact w.sk pc (dP _ hp)
  .rcases bi.mp hp with rfl|hp
   .exact⟨v,hv,h2⟩
   .exact w.sk pc (dS _ (bo _ hp))
noncomputable def s2(a b x:af):af:=if x=a then b else if x=b then a else x
def sw2(a b:af)(p:Pt):Pt:=if p=rim a then rim b else if p=rim b then rim a else p
theorem aJp(a b x:af):s2 a b (s2 a b x)=x:=by
 unfold s2
 repeat' split
 all_goals lia
theorem QB(h:0<p.1):sw2 a b p=p:=by
 have g:∀x,p≠rim x:=λx z=>by rw[z] at h;exact aT h (ox 0)
 unfold sw2;rw[ap (g a),ap (g b)]
theorem YW(a b x:af):sw2 a b (rim x)=rim (s2 a b x):=by
 have g:∀y,(rim x=rim y)=(x=y):=λy=>propext ⟨λe=>cz nu e,λe=>by rw[e]⟩
 unfold sw2 s2;simp only[g];split
 .rfl
 .split<;>rfl
theorem aSk(w:Net kvs Q V)(ha:a<lO V)(hb:b<lO V):Net kvs Q (cX ((V.map λt=>(sw2 a b t.1,sw2 a b t.2)).map norm)):=by
 obtain⟨S,s1,s2',s3⟩:=w.rims;rw[aB1 w.qpos s3] at ha hb;have inj:∀x y,s2 a b x=s2 a b y->x=y:=λx y e=>by rw[<-aJp a b x,e,aJp]
 have rg:∀x,x∈rgI S.length↔0<=x/\x<S.length:=λx=>by
  unfold rgI;rw[aE];exact⟨λ⟨k,hk,e⟩=>by have:=hV.mp hk;lia,λh=>⟨x.toNat,hV.mpr 0x1,by lia⟩⟩
 have key:∀x,x∈rgI S.length->s2 a b x∈rgI S.length:=λx hx=>by
  rw[rg] at hx ⊢;unfold s2;split
  .lia
  .split<;>lia
 have pr:((rgI S.length).map (s2 a b)).Perm (rgI S.length):=(ux (wL inj (aGt _)) (aGt _)).mpr λx=>⟨λhx=>by
  obtain⟨y,hy,rfl⟩:=aE.mp hx;exact key y hy,λhx=>aE.mpr ⟨_,key x hx,aJp a b x⟩⟩
 have pe:((ends V).map (sw2 a b)).Perm (hks kvs Q++(S.map (s2 a b)).map rim):=by
  refine(s3.map _).trans (.of_eq ?_);rw[bS,bp,bp];refine congr (cz _ ?_) (c_ λx _=>YW a b x)
  conv=>rhs;rw[<-gj (hks kvs Q)]
  exact c_ λp hp=>QB (aB0 w.qpos hp)
 have pe2:(ends ((V.map λt=>(sw2 a b t.1,sw2 a b t.2)).map norm)).Perm ((ends V).map (sw2 a b)):=by
  rw[<-aGs];exact t7 _
 refine aGu w.qs w.qpos w.ql w.sk (λt ht=>?_) (by simp only[aS];exact w.small) ((s2'.map _).trans pr) (pe2.trans pe);obtain⟨u,hu,rfl⟩:=aE.mp ht;obtain⟨v,hv,rfl⟩:=aE.mp hu;refine zJ λe=>?_
 have inj2:∀{p:Pt},p∈ends V->sw2 a b (sw2 a b p)=p:=λ{p} hp=>by
  rcases cj.mp (s3.mem_iff.mp hp) with h|h
  .have:=aB0 w.qpos h;rw[QB (by rw[QB this];exact this),QB this]
  .obtain⟨x,_,rfl⟩:=aE.mp h;rw[YW,YW,aJp]
 have hm:=lY hv;have:=w.lt v hv;rw[<-inj2 hm.1,show sw2 a b v.1=sw2 a b v.2 from e,inj2 hm.2] at this;exact irr _ _ this this
def eds(a b:af):aa (D×D):=putD [(enP (rim a),enP (rim b))] (enP (rim b)) (enP (rim a))
def aOj(a b:af)(p:Pt):aLu (.dct (eds a b)) [enP p,enP p]=.ok (enP (sw2 a b p)):=by
 have e:eds a b=if rim a=rim b then [(enP (rim a),enP (rim a))] else [(enP (rim a),enP (rim b)),(enP (rim b),enP (rim a))]:=by
  show(if eqD (enP (rim a)) (enP (rim b))=ag then _ else _)=_;rw[sO];by_cases h:rim a=rim b
  .simp[h]
  .simp only[h];rfl
 have lk:bL (eds a b) (enP p)=if p=rim a then ae (enP (rim b)) else if p=rim b then ae (enP (rim a)) else aj:=by
  rw[e];by_cases h:rim a=rim b
  .rw[ao h];show(if eqD (enP (rim a)) (enP p)=ag then _ else _)=_;rw[sO,h];by_cases q:p=rim b
   .simp[q]
   .rw[ap (by simp;exact λz=>q z.symm),ap q,ap q];rfl
  .rw[ap h];show(if eqD (enP (rim a)) (enP p)=ag then _ else if eqD (enP (rim b)) (enP p)=ag then _ else _)=_;rw[sO,sO];by_cases q:p=rim a
   .simp[q]
   .rw[ap (by simp;exact λz=>q z.symm),ap q];by_cases q2:p=rim b
    .simp[q2]
    .rw[ap (by simp;exact λz=>q2 z.symm),ap q2];rfl
 have ft:o7 (eds a b) (enP p)=ag:=by
  rw[e];split<;>rfl
 show(if o7 (eds a b) (enP p) then τ ((bL (eds a b) (enP p)).getD (enP p)) else .bad)=_;rw[ft,ao rfl,lk];unfold sw2;split
 .rfl
 .split<;>rfl
theorem U_(P:Res Fl->Prop)(st:α->aa D)(h1:(∃d,A ρ=.ok (.rt d)/\P (.ok (.rt d)))\/∃x,A ρ=.ok (.nx (st x)))(h2:∀x,P (T (st x))):P (bO A T ρ):=by
 rcases h1 with ⟨d,e,h⟩|⟨x,e⟩
 .rw[yF e];exact h
 .rw[aL e rfl];exact h2 x
def cst(Q:aa Pc)(V:aa Tie)(r:af)(n0 n1:Str)(k c:af)(x7 x8 x9 x10 x11 x12 x13:D):aa D:=[bG Q V r,.lst [.str n0,.str n1],.int k,.int c,.tup (Q.map pcD),.tup (V.map bK),.int r,x7,x8,x9,x10,x11,x12,x13]
theorem aCk{n0 n1:Str}{v:ah}{k c r:af}(w:Net kvs Q V)(l0:bL kvs (.str n0)=ae (.int v))(l1:bL kvs (.str n1)=ae (.int v))(hv:v<=6):∃Q' V' r',Net kvs Q' V'/\Q'.map (·.1)=Q.map (·.1)/\V'.length=V.length/\(k=0->bG Q' V' r'=bG Q V r)/\bV 4 kI [bG Q V r,.lst [.str n0,.str n1],.int k,.int c]=.ok (bG Q' V' r'):=by
 let P:Res Fl->Prop:=λx=>∃Q' V' r',Net kvs Q' V'/\Q'.map (·.1)=Q.map (·.1)/\V'.length=V.length/\(k=0->bG Q' V' r'=bG Q V r)/\x=.ok (.rt (bG Q' V' r'))
 suffices h:P (uJ [bG Q V r,.lst [.str n0,.str n1],.int k,.int c,.uD,.uD,.uD,.uD,.uD,.uD,.uD,.uD,.uD,.uD]) by
  obtain⟨Q',V',r',h1,h2,h3,h4,h5⟩:=h;exact⟨Q',V',r',h1,h2,h3,h4,(cJ rfl).trans (call_v h5)⟩
 have ql:=w.ql;have vl:=w.small;have ck:∀j:af,bY .eq (.int k) (.int j)=.ok (.bl (k==j)):=λ_=>rfl
 have cn:∀{j:af},k≠j->bY .eq (.int k) (.int j)=.ok (.bl ai):=λ{j} h=>(ck j).trans (by rw[je.mpr h])
 have hpu:∀{A:aa Pc}{B:aa Tie}{s:af},(ai||(bG A B s).pure)=ag:=λ{A B s}=>by rw[qR];rfl
 refine U_ P (λ_:jl=>cst Q V r n0 n1 k c .uD .uD .uD .uD .uD .uD .uD) (.inr ⟨(),J7 rfl (qR Q V r) rfl⟩) λ_=>?_
 refine U_ P (λx:D×D×D=>cst Q V r n0 n1 k c x.1 x.2.1 x.2.2 .uD .uD .uD .uD) ?_ λx=>?_
 .by_cases k1:k=1
  .have lQ:∀ρ:aa D,fZ 4 ρ=.ok (.tup (Q.map pcD))-> 0x23 ρ=.ok 0x27 :=λρ h=>aK (aC h rfl) (aSi _ _)
   have cq:bY (.ord .gt) 0x27 (.int 0)=.ok (.bl (ϒ ((0:af)<Q.length))):=rfl;have c1:=ck 1;rw[show(k==1)=ag by rw[k1];rfl] at c1;by_cases hq:0<Q.length
   .rw[bz 0x1] at cq;have mq:=gG c (Q.length:af) 0x1;obtain⟨a,ha,q1⟩:=t_ c (show(0:af)<(Q.length:af) by lia);rw[ha] at mq;have hal:a<Q.length:=by lia
    have gq:=O4 (Q.map pcD) a (by rw[aS];exact hal);rw[ur,jd] at gq;have hsp:Q=Q.take a++(Q[a].1,Q[a].2)::Q.drop (a+1):=by
     show Q=Q.take a++Q[a]::Q.drop (a+1);rw[List.getElem_cons_drop,lx]
    generalize Q[a]=pc at *;have ci:bY .isin (.str pc.2) (.lst [.str n0,.str n1])=.ok (.bl (eqD (.str n0) (.str pc.2)||(eqD (.str n1) (.str pc.2)||false))):=rfl;rw[YT,YT,mv] at ci;by_cases hin:n0=pc.2\/n1=pc.2
    .refine .inl ?_;have e3:bY .eq (.str pc.2) (.str n1)=.ok (.bl (eqD (.str pc.2) (.str n1))):=rfl;rw[YT] at e3;rw[show(ϒ (n0=pc.2)||ϒ (n1=pc.2))=ag by simpa using hin] at ci;obtain⟨nm,hnm,gn⟩:∃nm,bL kvs (.str nm)=ae (.int v)/\(b2 getD gD (b2 (bQ .sub) fJ (aN aOw (aD (b2 (bY .eq) xX (b2 getD gD fJ)) aV)))) (cst Q V r n0 n1 k c (.int a) (.int pc.1) (.str pc.2) .uD .uD .uD .uD)=.ok (.str nm):=by
      by_cases hn:pc.2=n1
      .rw[bz hn] at e3;exact⟨n0,l0,aJ rfl (aJ rfl (aK (aC (aJ rfl 0x10 e3) rfl) rfl) (aA5 1 1)) rfl⟩
      .rw[cy hn] at e3;exact⟨n1,l1,aJ rfl (aJ rfl (aK (aC (aJ rfl 0x10 e3) rfl) rfl) (aA5 1 0)) rfl⟩
     have hp:=oM Q;have q1:=aJn (Q.map pcD) a (by rw[aS];exact hal) hp;have q2:=aJo (Q.map pcD) a (by rw[aS];exact hal) hp;rw[<-xC] at q1;rw[<-xD] at q2;have t1:=aGy ((Q.take a).map pcD) [pcD (pc.1,nm)] (by simp;lia);have t2:=aGy ((Q.take a).map pcD++[pcD (pc.1,nm)]) ((Q.drop (a+1)).map pcD) (by simp;lia);rw[show(Q.take a).map pcD++[pcD (pc.1,nm)]++(Q.drop (a+1)).map pcD=(Q.take a++(pc.1,nm)::Q.drop (a+1)).map pcD by simp] at t2;have wn:=w;rw[hsp] at wn;refine⟨_,uW (CN (bU (aJ rfl rfl c1)) (bU (aJ (lQ _ rfl) rfl cq))) (aL (bA (aJ rfl (lQ _ rfl) mq)) (aL (J7 (aJ rfl rfl gq) rfl rfl) (uW (bU (aJ rfl rfl ci)) (aL (rM gn rfl) (d8 (cW (aC (aJ (aJ (JV rfl rfl (O2 rfl) q1) (cW (aC (cW 0xf UL) rfl) (by rw[bD];simp)) t1) (JV rfl (O2 (aJ rfl rfl (fX (a:af) 1))) rfl q2) t2) 0xf) aKv) hpu))))),_,V,r,aOi wn ?_ hnm hv,?_,rfl,λz=>aT (z.symm.trans k1) 0x4,rfl⟩
     .rcases hin with h|h
      .rw[<-h];exact l0
      .rw[<-h];exact l1
     .conv=>rhs;rw[hsp]
      simp
    .rw[show(ϒ (n0=pc.2)||ϒ (n1=pc.2))=ai by simpa using hin] at ci;exact .inr ⟨(.int a,.int pc.1,.str pc.2),uW (CN (bU (aJ rfl rfl c1)) (bU (aJ (lQ _ rfl) rfl cq))) (aL (bA (aJ rfl (lQ _ rfl) mq)) (aL (J7 (aJ rfl rfl gq) rfl rfl) (mC (bU (aJ rfl rfl ci)) rfl)))⟩
   .rw[cy 0x1] at cq;exact .inr ⟨(.uD,.uD,.uD),mC (CN (bU (aJ rfl rfl c1)) (bU (aJ (lQ _ rfl) rfl cq))) rfl⟩
  .exact .inr ⟨(.uD,.uD,.uD),mC (G4 (bU (aJ rfl rfl (cn k1)))) rfl⟩
 obtain⟨x7,x8,x9⟩:=x;refine U_ P (λ_:jl=>cst Q V r n0 n1 k c x7 x8 x9 .uD .uD .uD .uD) ?_ λ_=>?_
 .by_cases k2:k=2
  .obtain⟨V',⟨w',hl⟩,tw⟩:=aCj w c;have c2:=ck 2;rw[show(k==2)=ag by rw[k2];rfl] at c2;exact .inl ⟨bG Q V' r,uW (bU (aJ rfl rfl c2)) (d8 (cW (aC rfl (aC (aK 0xf tw) 0x11)) aKv) hpu),Q,V',r,w',rfl,hl,λz=>aT (z.symm.trans k2) 0x4,rfl⟩
  .exact .inr ⟨(),mC (bU (aJ rfl rfl (cn k2))) rfl⟩
 refine U_ P (λ_:jl=>cst Q V r n0 n1 k c x7 x8 x9 .uD .uD .uD .uD) ?_ λ_=>?_
 .by_cases k3:k=3
  .have c3:=ck 3;rw[show(k==3)=ag by rw[k3];rfl] at c3;have hr:∀ρ:aa D,fZ 0 ρ=.ok (bG Q V r)->(aN (bV 1 d9) (aD cQ aV)) ρ=.ok (.int (lO V)):=λρ h=>aK (aC h rfl) (U6 Q V r)
   have cr:bY (.ord .gt) (.int (lO V)) (.int 1)=.ok (.bl (ϒ ((1:af)<lO V))):=rfl;by_cases h1:1<lO V
   .rw[bz 0x1] at cr;have m1:=gG c (lO V:af) 0x1;have m2:=gG (c / 3) (lO V:af) 0x1;obtain⟨a,ha,q1⟩:=t_ c (show(0:af)<(lO V:af) by lia);obtain⟨b,hb,q2⟩:=t_ (c / 3) (show(0:af)<(lO V:af) by lia);rw[ha] at m1;rw[hb] at m2;have hT:(dR 14 (b_ gH ai) uQ gB (dR 15 (b_ (fZ 14) ai) uQ gB (bM aLu Q5 (aD (fZ 15) (aD (fZ 15) aV))) ai) ag) (cst Q V r n0 n1 k c x7 x8 x9 (enP (rim b)) (enP (rim a)) (.dct (eds a b)) .uD)=.ok (.lst ((V.map λt=>(sw2 a b t.1,sw2 a b t.2)).map λt=>ξ [enP t.1,enP t.2])):=by
     rw[bp];exact t8 _ V (iV rfl (cN V)) 0x1 λacc t _=>gF (b:=ag) (y:=.lst ([t.1,t.2].map λp=>enP (sw2 a b p))) rfl rfl λ_=>⟨t8 _ [t.1,t.2] (gC (d:=bK t) rfl rfl) 0x2 λacc p _=>gF (x:=enP p) (b:=ag) (y:=enP (sw2 a b p)) rfl rfl λ_=>⟨aOj a b p,rfl⟩,rfl⟩
    have hl:(V.map λt=>(sw2 a b t.1,sw2 a b t.2)).length=V.length:=by rw[aS]
    have wn:=aSk w (show a<lO V by lia) (show b<lO V by lia);generalize (V.map λt=>(sw2 a b t.1,sw2 a b t.2))=U at *;refine .inl ⟨bG Q (cX (U.map norm)) r,uW (CN (bU (aJ rfl rfl c3)) (bU (aJ (hr _ rfl) rfl cr))) ?_,Q,_,r,wn,rfl,by rw[(bT _).length_eq,aS,hl],λz=>aT (z.symm.trans k3) 0x4,rfl⟩;refine aL (ρ':=cst Q V r n0 n1 k c x7 x8 x9 .uD (enP (rim a)) .uD .uD) (bA (i:=11) (cW (xs:=[.int 0,.int a]) (aC rfl (aC (aJ rfl (hr _ rfl) m1) rfl)) UL)) ?_;refine aL (ρ':=cst Q V r n0 n1 k c x7 x8 x9 (enP (rim b)) (enP (rim a)) .uD .uD) (bA (i:=10) (cW (xs:=[.int 0,.int b]) (aC rfl (aC (aJ (aJ rfl rfl (jA c 3 0x4 0x4)) (hr _ rfl) m2) rfl)) UL)) ?_;refine aL (ρ':=cst Q V r n0 n1 k c x7 x8 x9 (enP (rim b)) (enP (rim a)) (.dct (eds a b)) .uD) (bA (i:=12) rfl) ?_;refine aL (ρ':=cst Q V r n0 n1 k c x7 x8 x9 (enP (rim b)) (enP (rim a)) (.dct (eds a b)) (.lst (U.map λt=>ξ [enP t.1,enP t.2]))) (bA (i:=13) hT) ?_;exact d8 (cW (xs:=[.tup (Q.map pcD),.tup ((cX (U.map norm)).map bK),.int r]) (aC rfl (aC (aK (xs:=[.lst ((cX (U.map norm)).map bK)]) (aC (aK (xs:=[.lst ((U.map norm).map bK)]) (aC (aGv aUh U rfl rfl 0x1 λt z=>by cases z) rfl) (qQ _)) rfl) rfl) 0x11)) aKv) hpu
   .rw[cy 0x1] at cr;exact .inr ⟨(),mC (CN (bU (aJ rfl rfl c3)) (bU (aJ (hr _ rfl) rfl cr))) rfl⟩
  .exact .inr ⟨(),mC (G4 (bU (aJ rfl rfl (cn k3)))) rfl⟩
 refine U_ P (λ_:jl=>cst Q V r n0 n1 k c x7 x8 x9 .uD .uD .uD .uD) ?_ λ_=>⟨Q,V,r,w,rfl,rfl,λ_=>rfl,d8 rfl hpu⟩
 by_cases k4:k=4
 .have c4:=ck 4;rw[show(k==4)=ag by rw[k4];rfl] at c4;exact .inl ⟨bG Q V (r+1),uW (bU (aJ rfl rfl c4)) (d8 (cW (xs:=[.tup (Q.map pcD),.tup (V.map bK),.int (r+1)]) (aC rfl (aC rfl (aC (aJ rfl rfl (fX r 1)) rfl))) aKv) hpu),Q,V,r+1,w,rfl,rfl,λz=>aT (z.symm.trans k4) 0x4,rfl⟩
 .exact .inr ⟨(),mC (bU (aJ rfl rfl (cn k4))) rfl⟩
end
section
variable {net:D} {c sd:af}
theorem aUi{k:ah}(hk:k<=1000)(hL:L.length<=1000):∃l2,last<l2/\fb1 [net,.int c,.int sd,.lst (L.map δ),.int last,.int (0+(k:af)),.uD]=.ok (.nx [net,.int c,.int sd,.lst ((L++[l2]).map δ),.int l2,.int (0+(k:af)),.uD]):=by
 obtain⟨pw,hp,f2⟩:∃pw:af,0<pw/\bQ .pow (.int 10) (.int 50)=.ok (.int pw):=⟨10 ^ 50,by decide,aKa 50 0x4⟩
 have m2:=gG c 2 0x4;obtain⟨d,hd,g⟩:∃d:af,0<d/\getD (.lst [.int 2,.int pw]) (.int (c % 2))=.ok (.int d):=by
  have h0:=jb c (show(2:af)≠0 by decide);have h1:=kF c (show(0:af)<2 by decide);by_cases h:c % 2=0
  .rw[h];exact⟨2,by decide,rfl⟩
  .rw[show c % 2=1 by lia];exact⟨pw,hp,rfl⟩
 have a1:=fX (0+(k:af)) 1;have fd:=jA c (0+(k:af)+1) 0x1 0x1;have md:=gG (c / (0+(k:af)+1)) d hd;have al:=fX last 1;have al2:=fX (last+1) (c / (0+(k:af)+1) % d);have hn:=jb (c / (0+(k:af)+1)) (show d≠0 by lia);refine⟨last+1+c / (0+(k:af)+1) % d,by lia,?_⟩;generalize (0+(k:af))=kk at *;generalize last+1+c / (kk+1) % d=l2 at al2 ⊢;refine aL (bA (aJ (aJ rfl rfl al) (aJ (aJ rfl (aJ rfl rfl a1) fd) (aJ (aKi (aC rfl (aC (aJ rfl rfl f2) rfl)) (by rw[bD];simp)) (aJ rfl rfl m2) g) md) al2)) ?_;refine(lN rfl rfl (by rw[aS,bD];lia) rfl).trans ?_;rw[bS];rfl
theorem aJq{V:aa Tie}{r:af}(w:Wf Q V)(e0:getD net (.int 0)=.ok (.tup (Q.map pcD)))(e1:getD net (.int 1)=.ok (.tup (V.map bK)))(e2:getD net (.int 2)=.ok (.int r))(hu:net≠.uD):∃φ,Nf φ (Q.map (·.1))/\bV 3 nG [net,.int c,.int sd]=.ok (lK Q V r φ):=by
 have ql:=w.ql;rw[aS] at ql;have hb:∀(x1 x2 x3 x4 x5 x6:D),fZ 0 [net,x1,x2,x3,x4,x5,x6]=.ok net:=λ_ _ _ _ _ _=>gP rfl hu
 have lQ:gV [.tup (Q.map pcD)]=.ok 0x27 :=by
  show τ (δ ((Q.map pcD).length:af))=_;rw[aS]
 obtain⟨ρ1,h1,L,last,x5,hl,hlast,hup,rfl⟩:=eE (t:=tg1 5) (body:=fb1) (d:=λ(k:ah)=>δ (0+(k:af))) (I:=λys ρ=>∃(L:aa af)(last:af)(x5:D),L.length=ys.length/\(0<=last/\∀x∈L,0<x/\x<=last)/\L.Nodup/\ρ=[net,.int c,.int sd,.lst (L.map δ),.int last,x5,.uD]) (bn Q.length) (λys k zs ρ e ⟨L,last,x5,hl,hlast,hup,h⟩=>by
  subst h;obtain⟨e0',hk⟩:=vH e;obtain⟨l2,q1,q2⟩:=aUi (net:=net) (c:=c) (sd:=sd) (L:=L) (last:=last) (k:=k) 0x1 0x1;refine⟨[net,.int c,.int sd,.lst (L.map δ),.int last,.int (0+(k:af)),.uD],_,rfl,q2,L++[l2],l2,.int (0+(k:af)),by simp[hl],⟨by lia,λx hx=>?_⟩,?_,rfl⟩
  .rcases cj.mp hx with hx|hx
   .have:=hlast.2 x hx;lia
   .rw[em.mp hx];lia
  .refine fm.mpr ⟨hup,by simp,λx hx y hy z=>?_⟩;have:=hlast.2 x hx;rw[z,em.mp hy] at this;lia) (ρ:=[net,.int c,.int sd,.lst [],.int 0,.uD,.uD]) ⟨[],0,.uD,rfl,⟨yo 0,by simp⟩,by simp,rfl⟩
 rw[ju] at hl;obtain⟨ys,pY,hs⟩:=YC (xs:=L.map δ) sd (λx hx=>by
  obtain⟨a,_,rfl⟩:=aE.mp hx;rfl) (by rw[aS];lia)
 obtain⟨fs,pF,rfl⟩:=zA δ unI (λ_=>rfl) pY;have hfl:fs.length=Q.length:=by rw[pF.length_eq,hl]
 have hfn:fs.Nodup:=pF.nodup_iff.mpr hup;have hfp:∀x∈fs,0<x:=λx hx=>(hlast.2 x (pF.mem_iff.mp hx)).1
 have hZ1:((Q.map (·.1)).zip fs).map (·.1)=Q.map (·.1):=Bz (by rw[aS];lia);have hZ2:((Q.map (·.1)).zip fs).map (·.2)=fs:=List.map_snd_zip (by rw[aS];lia);have hZl:((Q.map (·.1)).zip fs).length=Q.length:=by rw[List.length_zip,aS];lia
 have hZg:∀k (h1:k<((Q.map (·.1)).zip fs).length) (h2:k<Q.length) (h3:k<fs.length),((Q.map (·.1)).zip fs)[k]=(Q[k].1,fs[k]):=λk h1 h2 h3=>by
  rw[List.getElem_zip,jd]
 generalize (Q.map (·.1)).zip fs=Z at *;have hnd:(Z.map (·.1)).Nodup:=by rw[hZ1];exact w.nd
 have h00:0∉Z.map (·.1):=λz=>by have:=w.qp 0 (by rw[<-hZ1];exact z);lia
 have hN:=aUw hnd h00;rw[hZ1] at hN;obtain⟨ρ2,h2,x5',rfl⟩:=eE (t:=tg1 5) (body:=fb2) (d:=λ(k:ah)=>δ (0+(k:af))) (I:=λys ρ=>∃x5,ρ=[net,.int c,.int sd,.lst (fs.map δ),.int last,x5,.dct (cG [(.int 0,.int 0)] ((Z.take ys.length).map kvI))]) (bn Q.length) (λys k zs ρ e ⟨x5,h⟩=>by
  subst h;obtain⟨rfl,hk⟩:=vH e;have hkZ:ys.length<Z.length:=by lia
  have hkf:ys.length<fs.length:=by lia
  have hgQ:getD (.tup (Q.map pcD)) (.int 0x26)=.ok (pcD Q[ys.length]):=by
   rw[O4 _ _ (by rw[aS];exact hk),jd]
  have hgf:getD (.lst (fs.map δ)) (.int 0x26)=.ok (.int fs[ys.length]):=by
   rw[show 0x26=(ys.length:af) by lia,PB _ _ (by rw[aS];exact hkf),jd]
  have htk:Z.take (ys++[ys.length]).length=Z.take ys.length++[(Q[ys.length].1,fs[ys.length])]:=by
   rw[cx,iF,ng hkZ,hZg _ hkZ hk hkf]
  obtain⟨i1,i2,i3⟩:=merge_inv (Z.take ys.length) [(.int 0,.int 0)] rfl aSe;have htl:(Z.take ys.length).length<=40:=by rw[jh];lia
  generalize hp1:Q[ys.length]=pq at *;generalize hp2:fs[ys.length]=fv at *;generalize hmd:cG [(.int 0,.int 0)] ((Z.take ys.length).map kvI)=md at i1 i2 i3 ⊢;have hput:cG [(.int 0,.int 0)] ((Z.take (ys++[ys.length]).length).map kvI)=putD md (.int pq.1) (.int fv):=by rw[htk,xP,hmd]
  refine⟨[net,.int c,.int sd,.lst (fs.map δ),.int last,.int 0x26,.dct md],[net,.int c,.int sd,.lst (fs.map δ),.int last,.int 0x26,.dct (putD md (.int pq.1) (.int fv))],rfl,?_,.int 0x26,by rw[hput]⟩;generalize 0x26=kk at *;exact rN (i:=6) (kvs:=md) (k:=.int pq.1) (d:=.int fv) (aJ rfl rfl hgf) (aJ (aJ (aJ (hb _ _ _ _ _ _) rfl e0) rfl hgQ) rfl rfl) rfl (by rw[bD];simp only[b9,eW] at i3;lia) (i2 _) rfl) (ρ:=[net,.int c,.int sd,.lst (fs.map δ),.int last,x5,.dct [(.int 0,.int 0)]]) ⟨_,rfl⟩
 rw[ju,<-hZl,ub] at h2;have hcar:=GF (nf:=nfZ Z) w e0 e1 e2 hu hN;have hmem:∀x∈Q.map (·.1),∃p∈Z,p.1=x/\nfZ Z x=p.2:=λx hx=>by
  rw[<-hZ1] at hx;obtain⟨p,hp,rfl⟩:=aE.mp hx;refine⟨p,hp,rfl,?_⟩;unfold nfZ;rw[ap λz=>h00 (by rw[<-z];exact hx),J4 hnd hp]
 refine⟨nfZ Z,⟨rfl,λx hx=>?_,λx hx y hy e=>?_⟩,(cJ rfl).trans (call_v ?_)⟩
 .obtain⟨p,hp,_,e⟩:=hmem x hx;rw[e];exact hfp _ (by rw[<-hZ2];exact aE.mpr ⟨p,hp,rfl⟩)
 .obtain⟨p,hp,ex,e'⟩:=hmem x hx;obtain⟨q,hq,ey,e''⟩:=hmem y hy;rw[e',e''] at e;have hsn:(Z.map (·.2)).Nodup:=by rw[hZ2];exact hfn
  have key:∀{Z:aa Pt},(Z.map (·.2)).Nodup->p∈Z->q∈Z->p=q:=by
   intro Z;induction Z with
   |nil=>intro _ h;cases h
   |cons z Z ih=>
    intro h hp hq;rw[ba,df] at h;rcases bi.mp hp with a1|a1
    .rcases bi.mp hq with b1|b1
     .rw[a1,b1]
     .have:z.2∈Z.map (·.2):=aE.mpr ⟨q,b1,by rw[<-a1,e]⟩;exact aT this h.1
    .rcases bi.mp hq with b1|b1
     .have:z.2∈Z.map (·.2):=aE.mpr ⟨p,a1,by rw[<-b1,e]⟩;exact aT this h.1
     .exact ih h.2 a1 b1
  rw[<-ex,<-ey,key hsn hp hq]
 .generalize cG [(.int 0,.int 0)] (Z.map kvI)=md at *;refine aL (ρ':=[net,.int c,.int sd,.lst [],.uD,.uD,.uD]) (dG (i:=3) rfl rfl) ?_;refine aL (ρ':=[net,.int c,.int sd,.lst [],.int 0,.uD,.uD]) (bA (i:=4) rfl) ?_;refine aL (mK (uI (n:=(Q.length:af)) (aC (aK (xs:=[.tup (Q.map pcD)]) (aC (aJ (hb _ _ _ _ _ _) rfl e0) rfl) lQ) rfl) 0x1 0x1) (by rw[l5];exact h1)) ?_;refine aL (ρ':=[net,.int c,.int sd,.lst (fs.map δ),.int last,x5,.uD]) (dG (i:=3) (aK (xs:=[.lst (L.map δ),.int sd]) 0xf hs) (eF fs)) ?_;refine aL (ρ':=[net,.int c,.int sd,.lst (fs.map δ),.int last,x5,.dct [(.int 0,.int 0)]]) (dG (i:=6) 0x10 rfl) ?_;refine aL (mK (uI (n:=(Q.length:af)) (aC (aK (xs:=[.tup (Q.map pcD)]) (aC (aJ (hb _ _ _ _ _ _) rfl e0) rfl) lQ) rfl) 0x1 0x1) (by rw[l5,<-hZl];exact h2)) ?_;exact d8 (aK (xs:=[net,.dct md]) (aC (hb _ _ _ _ _ _) 0x11) hcar) rfl
end
def oU(Q:aa Pc)(V:aa Tie)(r:af):(bG Q V r).plain=ag/\(bG Q V r).fV aR=ag:=by
 have h1:∀Q:aa Pc,χ (Q.map pcD)=ag/\ν 10 (Q.map pcD)=ag:=by
  intro Q;induction Q with
  |nil=>exact⟨rfl,rfl⟩
  |cons c Q ih=>exact⟨by rw[ba,χ,ih.1];rfl,by rw[ba,ν,ih.2];rfl⟩
 have h2:∀V:aa Tie,χ (V.map bK)=ag/\ν 10 (V.map bK)=ag:=by
  intro V;induction V with
  |nil=>exact⟨rfl,rfl⟩
  |cons c Q ih=>exact⟨by rw[ba,χ,ih.1];rfl,by rw[ba,ν,ih.2];rfl⟩
 refine⟨?_,?_⟩
 .show(χ (Q.map pcD)&&(χ (V.map bK)&&ag))=ag;rw[(h1 Q).1,(h2 V).1];rfl
 .show(ν 10 (Q.map pcD)&&(ν 10 (V.map bK)&&ag))=ag;rw[(h1 Q).2,(h2 V).2];rfl
def eq_self(h1:d.plain=ag)(h2:d.fV aR=ag):bY .eq d d=.ok (.bl ag):=by
 show(if d.fV aR&&d.fV aR then τ (υ (eqD d d)) else .bad)=_;rw[h2,yR d h1];rfl
def aOk(h1:d.plain=ag)(h2:d.fV aR=ag):bY .ne d d=.ok (.bl ai):=by
 show(if d.fV aR&&d.fV aR then τ (υ (!eqD d d)) else .bad)=_;rw[h2,yR d h1];rfl
noncomputable def sw(q:Pt):Pt:=(q.2,q.1)
theorem aGz(Z:aa Pt):(Z.map sw).map (·.1)=Z.map (·.2):=by rw[bp];rfl
theorem aH0{Z1 Z2:aa Pt}(h1u:one≠.uD)(h2u:other≠.uD)(hw1:bV 1 uC [one]=.ok (.lst (Z1.map enP)))(hw2:bV 1 uC [other]=.ok (.lst (Z2.map enP)))(hr1:bV 2 dF [one,.lst (Z1.map enP)]=.ok t)(hr2:bV 2 dF [other,.lst (Z2.map enP)]=.ok t)(ht1:t.plain=ag)(ht2:t.fV aR=ag)(hl1:Z1.length<=40)(hl2:Z2.length<=40)(hn:(Z2.map (·.2)).Nodup)(hs:∀q∈Z1,q.2∈Z2.map (·.2)) :
  bV 2 j8 [one,other]=.ok (.lst ((Z1.map λq=>((q.1,fz (Z2.map sw) q.2):Pt)).map enP)):=by
 have v0:∀(x1 x2 x3 x4 x5 x6:D),fZ 0 [one,x1,x2,x3,x4,x5,x6]=.ok one:=λ_ _ _ _ _ _=>gP rfl h1u
 have v1:∀(x0 x2 x3 x4 x5 x6:D),fZ 1 [x0,other,x2,x3,x4,x5,x6]=.ok other:=λ_ _ _ _ _ _=>gP rfl h2u
 obtain⟨ρ,h,x5,x6,rfl⟩:=eE (t:=tgN [5,6]) (body:=QG 4 lH gH) (d:=enP) (I:=λys ρ=>∃x5 x6,ρ=[one,other,.lst (Z1.map enP),.lst (Z2.map enP),.dct (cG [] ((ys.map sw).map kvI)),x5,x6]) Z2 (λys q zs ρ e ⟨x5,x6,h⟩=>by
  subst h;have hyl:ys.length<=40:=by rw[e] at hl2;simp at hl2;lia
  obtain⟨i1,i2,i3⟩:=merge_inv (ys.map sw) [] rfl YS;have hput:=xP [] (ys.map sw) (sw q);rw[show ys.map sw++[sw q]=(ys++[q]).map sw by rw[bS];rfl] at hput;refine⟨[one,other,.lst (Z1.map enP),.lst (Z2.map enP),.dct (cG [] ((ys.map sw).map kvI)),.int q.1,.int q.2],[one,other,.lst (Z1.map enP),.lst (Z2.map enP),.dct (cG [] (((ys++[q]).map sw).map kvI)),.int q.1,.int q.2],rfl,?_,_,_,rfl⟩;rw[hput];generalize cG [] ((ys.map sw).map kvI)=md at i1 i2 i3 ⊢;exact rN (i:=4) (kvs:=md) (k:=.int q.2) (d:=.int q.1) rfl rfl rfl (by rw[bD];rw[aS,eW] at i3;lia) (i2 _) rfl) (ρ:=[one,other,.lst (Z1.map enP),.lst (Z2.map enP),.dct [],.uD,.uD]) ⟨_,_,rfl⟩
 have hlk:∀q∈Z1,getD (.dct (cG [] ((Z2.map sw).map kvI))) (.int q.2)=.ok (.int (fz (Z2.map sw) q.2)):=λq hq=>by
  show(if keyOk (.int q.2) then ι (bL (cG [] ((Z2.map sw).map kvI)) (.int q.2)) else .bad)=_;rw[t6 q.2 (Z2.map sw) [] (by rw[aGz];exact hn),aGz,ao (hs q hq)];rfl
 generalize cG [] ((Z2.map sw).map kvI)=md at *;have hc:(dR 7 (b_ gK ai) (JG 2) gB (fP (aD o8 (aD (b2 getD fW wO) aV))) ai) [one,other,.lst (Z1.map enP),.lst (Z2.map enP),.dct md,x5,x6]=.ok (.lst ((Z1.map λq=>((q.1,fz (Z2.map sw) q.2):Pt)).map enP)):=by
  refine jM (gC rfl rfl) (by rw[aS,bD];lia) ?_;rw[lG _ enP (λq=>enP (q.1,fz (Z2.map sw) q.2)) Z1 [] λacc q hq=>by
   exact mW (x:=enP q) (b:=ag) (bs:=[.int q.1,.int q.2]) (y:=enP (q.1,fz (Z2.map sw) q.2)) rfl rfl rfl λ_=>⟨cW (xs:=[.int q.1,.int (fz (Z2.map sw) q.2)]) (aC rfl (aC (aJ rfl rfl (hlk q hq)) rfl)) UL,rfl⟩,eJ,bp]
  rfl
 refine(cJ rfl).trans (call_v ?_);refine aL (ρ':=[one,other,.lst (Z1.map enP),.uD,.uD,.uD,.uD]) (bA (i:=2) (aK (xs:=[one]) (aC (v0 _ _ _ _ _ _) rfl) hw1)) ?_;refine aL (ρ':=[one,other,.lst (Z1.map enP),.lst (Z2.map enP),.uD,.uD,.uD]) (bA (i:=3) (aK (xs:=[other]) (aC (v1 _ _ _ _ _ _) rfl) hw2)) ?_;refine aL (ρ':=[one,other,.lst (Z1.map enP),.lst (Z2.map enP),.uD,.uD,.uD]) (mC (bU (aJ (x:=t) (y:=t) (aK (xs:=[one,.lst (Z1.map enP)]) (aC (v0 _ _ _ _ _ _) 0x11) hr1) (aK (xs:=[other,.lst (Z2.map enP)]) (aC (v1 _ _ _ _ _ _) 0x11) hr2) (aOk ht1 ht2))) rfl) ?_;refine aL (ρ':=[one,other,.lst (Z1.map enP),.lst (Z2.map enP),.dct [],.uD,.uD]) (dG (i:=4) rfl rfl) ?_;refine aL (W8 (i:=3) (d:=.lst (Z2.map enP)) (xs:=Z2.map enP) rfl rfl h) ?_;exact d8 hc rfl
theorem aH1{V:aa Tie}(w:Wf Q V)(e0:getD one (.int 0)=.ok (.tup (Q.map pcD)))(e1:getD one (.int 1)=.ok (.tup (V.map bK)))(e2:getD one (.int 2)=.ok (.int r))(hu:one≠.uD)(hu2:other≠.uD)(hZ:Z.map (·.1)=Q.map (·.1))(ht:lK Q V r (nfZ Z)=other)(ho1:other.plain=ag)(ho2:other.fV aR=ag):bV 3 fB [.lst (Z.map enP),one,other]=.ok (.bl ag):=by
 have hlen:Z.length=Q.length:=by have:=cz fI hZ;simpa using this
 have ql:=w.ql;rw[aS] at ql;have hnd:(Z.map (·.1)).Nodup:=by rw[hZ];exact w.nd
 have h00:0∉Z.map (·.1):=λz=>by have:=w.qp 0 (by rw[<-hZ];exact z);lia
 have hN:=aUw hnd h00;rw[hZ] at hN;have hb:∀(x0 x2 x3 x4 x5:D),fZ 1 [x0,one,x2,x3,x4,x5]=.ok one:=λ_ _ _ _ _=>gP rfl hu
 have hlE:gV [.lst (Z.map enP)]=.ok (.int Z.length):=aUc Z;have hlQ:gV [.tup (Q.map pcD)]=.ok (.int Z.length):=by
  show τ (δ ((Q.map pcD).length:af))=_;rw[aS,hlen]
 obtain⟨ρ,h1,x4,x5,rfl⟩:=eE (t:=tg1 4) (body:=ldb) (d:=λ(k:ah)=>δ (0+(k:af))) (I:=λys ρ=>∃x4 x5,ρ=[.lst (Z.map enP),one,other,.dct (cG [(.int 0,.int 0)] ((Z.take ys.length).map kvI)),x4,x5]) (bn Z.length) (λys k zs ρ e ⟨x4,x5,h⟩=>by
  subst h;obtain⟨rfl,hk⟩:=vH e;have hkQ:ys.length<Q.length:=by lia
  have hget:getD (.lst (Z.map enP)) (.int 0x26)=.ok (enP Z[ys.length]):=by
   rw[show 0x26=(ys.length:af) by lia,PB _ _ (by rw[aS];exact hk),jd]
  have hgQ:getD (.tup (Q.map pcD)) (.int 0x26)=.ok (pcD Q[ys.length]):=by
   rw[O4 _ _ (by rw[aS];exact hkQ),jd]
  have hfst:Z[ys.length].1=Q[ys.length].1:=by
   have a:(Z.map (·.1))[ys.length]?=(Q.map (·.1))[ys.length]?:=by rw[hZ]
   rw[iE,iE,eg hk,eg hkQ] at a;simpa using a
  have htk:Z.take (ys++[ys.length]).length=Z.take ys.length++[Z[ys.length]]:=by
   rw[cx,iF,ng hk]
  obtain⟨i1,i2,i3⟩:=merge_inv (Z.take ys.length) [(.int 0,.int 0)] rfl aSe;have htl:(Z.take ys.length).length<=40:=by rw[jh];lia
  generalize Z[ys.length]=p at hget hfst htk;generalize hmd:cG [(.int 0,.int 0)] ((Z.take ys.length).map kvI)=md at i1 i2 i3 ⊢;have hput:cG [(.int 0,.int 0)] ((Z.take (ys++[ys.length]).length).map kvI)=putD md (.int p.1) (.int p.2):=by rw[htk,xP,hmd]
  have hcQ:∀ρ:aa D,fZ 1 ρ=.ok one->fZ 4 ρ=.ok (.int 0x26)->(b2 getD (b2 getD (b2 getD gD dM) fW) dM) ρ=.ok (.int p.1):=λρ a b=>by
   rw[hfst];exact aJ (aJ (aJ a rfl e0) b hgQ) rfl rfl
  refine⟨[.lst (Z.map enP),one,other,.dct md,.int 0x26,x5],[.lst (Z.map enP),one,other,.dct (putD md (.int p.1) (.int p.2)),.int 0x26,enP p],rfl,?_,.int 0x26,enP p,?_⟩
  .generalize 0x26=kk at hget hcQ ⊢;refine aL (ρ':=[.lst (Z.map enP),one,other,.dct md,.int kk,enP p]) (rM (i:=5) (aJ rfl rfl hget) rfl) ?_;refine aL (ρ':=[.lst (Z.map enP),one,other,.dct md,.int kk,enP p]) (mC (aNi (uM (b:=ag) (nM (aFe (x:=enP p) rfl rfl))) (aNi (bU (aJ (x:=.int 2) (aK (xs:=[enP p]) 0x11 rfl) rfl (ne_int 2))) (aNi (uM (b:=ag) (nM (aK (xs:=[.int p.1]) (aC (aJ (x:=enP p) rfl rfl rfl) rfl) (UW _)))) (uM (b:=ag) (nM (aK (xs:=[.int p.2]) (aC (aJ (x:=enP p) rfl rfl rfl) rfl) (UW _))))))) rfl) ?_;refine aL (ρ':=[.lst (Z.map enP),one,other,.dct md,.int kk,enP p]) (mC (bU (aJ (x:=.int p.1) (aJ (x:=enP p) rfl rfl rfl) (hcQ _ (hb _ _ _ _ _) rfl) (ne_int p.1))) rfl) ?_;exact rN (i:=3) (kvs:=md) (k:=.int p.1) (d:=.int p.2) (aJ (x:=enP p) rfl rfl rfl) (aJ (x:=enP p) rfl rfl rfl) rfl (by rw[bD];simp only[b9,eW] at i3;lia) (i2 _) rfl
  .rw[hput]) (ρ:=[.lst (Z.map enP),one,other,.dct [(.int 0,.int 0)],.uD,.uD]) ⟨_,_,rfl⟩
 rw[ju,ub] at h1;have hcar:=GF (nf:=nfZ Z) w e0 e1 e2 hu hN;rw[ht] at hcar;generalize cG [(.int 0,.int 0)] (Z.map kvI)=md at *;refine(cJ rfl).trans (call_v ?_);refine aL (ρ':=[.lst (Z.map enP),one,other,.uD,.uD,.uD]) (mC (aNi (uM (b:=ag) (nM (aFe (x:=.lst (Z.map enP)) rfl rfl))) (bU (aJ (x:=.int Z.length) (y:=.int Z.length) (aK (xs:=[.lst (Z.map enP)]) 0x11 hlE) (aK (xs:=[.tup (Q.map pcD)]) (aC (aJ (hb _ _ _ _ _) rfl e0) rfl) hlQ) (ne_int _)))) rfl) ?_;refine aL (ρ':=[.lst (Z.map enP),one,other,.dct [(.int 0,.int 0)],.uD,.uD]) (dG (i:=3) 0x10 rfl) ?_;refine aL (mK (uI (n:=Z.length) (aC (aK (xs:=[.lst (Z.map enP)]) 0x11 hlE) rfl) 0x1 0x1) (by rw[l5];exact h1)) ?_;exact d8 (aJ (x:=other) (y:=other) (aK (xs:=[one,.dct md]) (aC (hb _ _ _ _ _) 0x11) hcar) (gP rfl hu2) (eq_self ho1 ho2)) rfl
def aOl(t:Tie):norm (t.2,t.1)=norm t:=by
 by_cases h:t.1=t.2
 .rw[show(t.2,t.1)=t from Prod.ext h.symm h]
 .exact GJ t.1 t.2 h
theorem aH2(g:af->af)(t:Tie):norm (cT g (norm t))=norm (cT g t):=by
 rcases oR t with e|e
 .rw[e]
 .rw[e];exact aOl (cT g t)
theorem aB2:∀{A B:aa Pc},A.map pcD=B.map pcD->A=B
 |[],[],_=>rfl
 |[],_::_,h=>by cases h
 |_::_,[],h=>by cases h
 |a::A,b::B,h=>by
  rw[ba,ba,iu] at h;have e:=cz aSx h.1;rw[show a=b from e,aB2 h.2]
def aOm{V V':aa Tie}{l l' g nf:af->af}(w':Net kvs Q' V')(p1:(Q.map (cP l)).Perm (Q'.map (cP l')))(p2:((V.map (cT l)).map norm).Perm ((V'.map (cT l')).map norm))(hg:∀m,m=0\/m∈Q'.map (·.1)->g (l' m)=m)(wf:Wf Q V)(hn:∀n,n=0\/n∈Q.map (·.1)->nf n=g (l n)):lK Q V r nf=bG Q' V' r:=by
 have e1:Q.map (cP nf)=(Q.map (cP l)).map (cP g):=by
  rw[bp];refine c_ λc hc=>?_
  show(nf c.1,c.2)=(g (l c.1),c.2);rw[hn c.1 (.inr (aE.mpr ⟨c,hc,rfl⟩))]
 have e1':(Q'.map (cP l')).map (cP g)=Q':=by
  rw[bp]
  conv=>rhs;rw[<-gj Q']
  refine c_ λc hc=>?_
  show(g (l' c.1),c.2)=c;rw[hg c.1 (.inr (aE.mpr ⟨c,hc,rfl⟩))]
 have q1: (Q.map (cP nf)).Perm Q':=by rw[e1];exact(p1.map _).trans (by rw[e1'])
 have e2:(V.map (cT nf)).map norm=((V.map (cT l)).map norm).map λt=>norm (cT g t):=by
  rw[bp,bp,bp];refine c_ λt ht=>?_
  show norm (cT nf t)=norm (cT g (norm (cT l t)));rw[aH2];show norm ((nf t.1.1,t.1.2),(nf t.2.1,t.2.2))=norm ((g (l t.1.1),t.1.2),(g (l t.2.1),t.2.2));rw[hn _ (wf.tie ht).1,hn _ (wf.tie ht).2]
 have e2':(((V'.map (cT l')).map norm).map λt=>norm (cT g t))=V':=by
  rw[bp,bp]
  conv=>rhs;rw[<-gj V']
  refine c_ λt ht=>?_
  show norm (cT g (norm (cT l' t)))=t;rw[aH2];have:cT g (cT l' t)=t:=by
   show((g (l' t.1.1),t.1.2),(g (l' t.2.1),t.2.2))=t;rw[hg _ (w'.wf.tie ht).1,hg _ (w'.wf.tie ht).2]
  rw[this];have hl:=w'.lt t ht;unfold norm;have:=irr _ _ hl;simp[hl,this]
 have q2: ((V.map (cT nf)).map norm).Perm V':=by rw[e2];exact(p2.map _).trans (by rw[e2'])
 have s1:eX Q'=Q':=by
  have h:=aIy (.refl _) w'.qs;rw[GD] at h;have h:(eX Q').map pcD=Q'.map pcD:=by injection h with h;injection h
  exact aB2 h
 unfold lK;rw[U4 q1,aAe q2,s1,aIx w'.srt]
theorem aB3{V:aa Tie}(w:Wf Q V)(e0:getD net (.int 0)=.ok (.tup (Q.map pcD)))(e1:getD net (.int 1)=.ok (.tup (V.map bK)))(e2:getD net (.int 2)=.ok (.int r))(hu:net≠.uD)(hZ:Z.map (·.1)=Q.map (·.1)):bV 2 dF [net,.lst (Z.map enP)]=.ok (lK Q V r (nfZ Z)):=by
 have hl:Z.length<=40:=by have:=cz fI hZ;rw[aS] at this;have:=w.ql;lia
 obtain⟨i1,i2,i3⟩:=merge_inv Z [] rfl YS;have hd:JP (.lst (Z.map enP))=.ok (.dct (cG [] (Z.map kvI))):=by
  show(match oK (Z.map enP) with|some ps=>if ϒ ((Z.map enP).length<=1000) then τ (D.dct (cG [] ps)) else .bad|none=>.bad)=_;rw[YQ];show(if ϒ ((Z.map enP).length<=1000) then τ (D.dct (cG [] (Z.map kvI))) else .bad)=_;rw[bz (by rw[aS];lia),ao rfl]
 have hN:=aUv (by rw[hZ];exact w.nd);rw[hZ] at hN;exact aGi w e0 e1 e2 hu hd i1 (by rw[eW] at i3;lia) (i2 0) rfl hN
theorem aH3(p1:d.plain=ag/\d.fV aR=ag)(p2:d'.plain=ag/\d'.fV aR=ag)(h:d≠d'):bY .eq d d'=.ok (.bl ai)/\bY .ne d d'=.ok (.bl ag):=by
 have hf:eqD d d'=ai:=by
  cases hq:eqD d d' with
  |false=>rfl
  |true=>exact aT (aDt d d' p1.1 p2.1 hq) h
 show(if d.fV aR&&d'.fV aR then τ (υ (eqD d d')) else .bad)=_/\(if d.fV aR&&d'.fV aR then τ (υ (!eqD d d')) else .bad)=_;rw[p1.2,p2.2,hf];exact⟨rfl,rfl⟩
theorem aCl{Z1 Z2:aa Pt}(h1u:one≠.uD)(h2u:other≠.uD)(hw1:bV 1 uC [one]=.ok (.lst (Z1.map enP)))(hw2:bV 1 uC [other]=.ok (.lst (Z2.map enP)))(hr1:bV 2 dF [one,.lst (Z1.map enP)]=.ok t)(hr2:bV 2 dF [other,.lst (Z2.map enP)]=.ok t')(hne:bY .ne t t'=.ok (.bl ag)) :
  bV 2 j8 [one,other]=.ok .non:=by
 have v0:∀(x1 x2 x3 x4 x5 x6:D),fZ 0 [one,x1,x2,x3,x4,x5,x6]=.ok one:=λ_ _ _ _ _ _=>gP rfl h1u
 have v1:∀(x0 x2 x3 x4 x5 x6:D),fZ 1 [x0,other,x2,x3,x4,x5,x6]=.ok other:=λ_ _ _ _ _ _=>gP rfl h2u
 refine(cJ rfl).trans (call_v ?_);refine aL (bA (aK (aC (v0 _ _ _ _ _ _) rfl) hw1)) ?_;refine aL (bA (aK (aC (v1 _ _ _ _ _ _) rfl) hw2)) ?_;exact yF (uW (bU (aJ (aK (aC (v0 _ _ _ _ _ _) 0x11) hr1) (aK (aC (v1 _ _ _ _ _ _) 0x11) hr2) hne)) (d8 rfl rfl))
section
variable {kvs:aa (D×D)} {Q Q':aa Pc} {V V':aa Tie} {r:af} {F F':aa (aa af)} {k k':aa af->aa D} {SL SL':aa (aa D×aa af)}
def aSl(w:Net kvs Q V)(y:Wy kvs Q V F k SL):(nY (prs (SL.flatMap (·.2)))).map (·.1)=Q.map (·.1)/\((nY (prs (SL.flatMap (·.2)))).map (·.2)).Perm ((bn Q.length).map λ(k:ah)=>((1:af)+k)):=by
 refine⟨aGb (by rw[aGc];exact y.pm) w.wf.qs,((oO _).map _).trans ?_⟩;rw[aO6,y.pm.length_eq,aS]
theorem aSm(w:Net kvs Q V)(y:Wy kvs Q V F k SL):lK Q V r (nfZ (nY (prs (SL.flatMap (·.2)))))=lK Q V r (plc (SL.flatMap (·.2))):=aCi w λn hn=>aGp (y.nd w) (hn.imp id λz=>y.pm.mem_iff.mpr z)
theorem VB(p1:(Q.map (cP l)).Perm (Q'.map (cP l')))(p2:((V.map (cT l)).map norm).Perm ((V'.map (cT l')).map norm)):lK Q V r l=lK Q' V' r l':=by
 unfold lK;rw[U4 p1,aAe p2]
theorem aOn(w:Net kvs Q V)(w':Net kvs Q' V')(y:Wy kvs Q V F k SL)(y':Wy kvs Q' V' F' k' SL')(hw:bV 1 uC [bG Q V r]=.ok (.lst ((nY (prs (SL.flatMap (·.2)))).map enP)))(hw':bV 1 uC [bG Q' V' r]=.ok (.lst ((nY (prs (SL'.flatMap (·.2)))).map enP)))(p1:(Q.map (cP (plc (SL.flatMap (·.2))))).Perm (Q'.map (cP (plc (SL'.flatMap (·.2))))))(p2:((V.map (cT (plc (SL.flatMap (·.2))))).map norm).Perm ((V'.map (cT (plc (SL'.flatMap (·.2))))).map norm)):∃d,bV 2 j8 [bG Q V r,bG Q' V' r]=.ok d/\bV 3 fB [d,bG Q V r,bG Q' V' r]=.ok (.bl ag):=by
 obtain⟨z1,z2⟩:=aSl w y;obtain⟨z1',z2'⟩:=aSl w' y';have hQ:Q.length=Q'.length:=by have:=p1.length_eq;simpa using this
 have ht:=VB (r:=r) p1 p2;have n1:=λn hn=>aGp (y.nd w) (n:=n) hn
 have n1':=λn hn=>aGp (y'.nd w') (n:=n) hn
 have c1:=aSm (r:=r) w y;have c1':=aSm (r:=r) w' y';have pm:=y.pm;have pm':=y'.pm;generalize plc (SL.flatMap (·.2))=l at *;generalize plc (SL'.flatMap (·.2))=l' at *;generalize hO:SL.flatMap (·.2)=O at *;generalize hO':SL'.flatMap (·.2)=O' at *;generalize nY (prs O)=Z at *;generalize nY (prs O')=Z' at *;have hu:bG Q V r≠.uD:=λz=>by cases z
 have hu':bG Q' V' r≠.uD:=λz=>by cases z
 have r1:=aB3 (net:=bG Q V r) (r:=r) w.wf rfl rfl rfl hu z1;have r1':=aB3 (net:=bG Q' V' r) (r:=r) w'.wf rfl rfl rfl hu' z1';rw[c1,ht] at r1;rw[c1'] at r1';have pl:=oU (eX (Q'.map (cP l'))) (cX ((V'.map (cT l')).map norm)) r;have hsn:(Z'.map (·.2)).Nodup:=z2'.nodup_iff.mpr (eh.mpr (nr.imp λ{a b} hab e=>hab 0x1));have hpos:∀q∈Z,0<q.2:=λq hq=>by
  obtain⟨j,_,e⟩:=aE.mp (z2.mem_iff.mp (aE.mpr ⟨q,hq,rfl⟩));lia
 have hpos':∀q∈Z',0<q.2:=λq hq=>by
  obtain⟨j,_,e⟩:=aE.mp (z2'.mem_iff.mp (aE.mpr ⟨q,hq,rfl⟩));lia
 have hsub:∀q∈Z,q.2∈Z'.map (·.2):=λq hq=>z2'.mem_iff.mpr (by rw[<-hQ];exact z2.mem_iff.mp (aE.mpr ⟨q,hq,rfl⟩))
 have ql:=w.wf.ql;have ql':=w'.wf.ql;have hl1:Z.length<=40:=by have:=cz fI z1;rw[aS] at this;lia
 have hl1':Z'.length<=40:=by have:=cz fI z1';rw[aS] at this;lia
 have hal:=aH0 hu hu' hw hw' r1 r1' pl.1 pl.2 hl1 hl1' hsn hsub;refine⟨_,hal,?_⟩;have hfst:(Z.map λq=>((q.1,fz (Z'.map sw) q.2):Pt)).map (·.1)=Q.map (·.1):=by rw[bp,<-z1];rfl
 have hnd:(Z.map (·.1)).Nodup:=by rw[z1];exact w.wf.nd
 have hnd':(Z'.map (·.1)).Nodup:=by rw[z1'];exact w'.wf.nd
 have pl':=oU Q' V' r;refine aH1 w.wf rfl rfl rfl hu hu' hfst (aOm (l:=l) (l':=l') (g:=λp=>if p=0 then 0 else fz (Z'.map sw) p) w' p1 p2 (λm hm=>?_) w.wf λn hn=>?_) pl'.1 pl'.2
 .rcases hm with rfl|hm
  .rw[<-n1' 0 (.inl rfl)];rfl
  .rw[<-n1' m (.inr (pm'.mem_iff.mpr hm))];have hm2:=hm;rw[<-z1'] at hm2;obtain⟨q,hq,rfl⟩:=aE.mp hm2;have h0:q.1≠0:=λz=>by have:=w'.wf.qp q.1 hm;lia
   have e:nfZ Z' q.1=q.2:=by
    unfold nfZ;rw[ap h0,J4 hnd' hq]
   have:=hpos' q hq;show(if nfZ Z' q.1=0 then 0 else fz (Z'.map sw) (nfZ Z' q.1))=q.1;rw[e,ap 0x1];exact J4 (Z:=Z'.map sw) (by rw[aGz];exact hsn) (p:=sw q) (aE.mpr ⟨q,hq,rfl⟩)
 .rcases hn with rfl|hn
  .rw[<-n1 0 (.inl rfl)];rfl
  .rw[<-n1 n (.inr (pm.mem_iff.mpr hn))];have hn2:=hn;rw[<-z1] at hn2;obtain⟨q,hq,rfl⟩:=aE.mp hn2;have h0:q.1≠0:=λz=>by have:=w.wf.qp q.1 hn;lia
   have e:nfZ Z q.1=q.2:=by
    unfold nfZ;rw[ap h0,J4 hnd hq]
   have:=hpos q hq;show nfZ _ q.1=(if nfZ Z q.1=0 then 0 else fz (Z'.map sw) (nfZ Z q.1));rw[e,ap 0x1];unfold nfZ;rw[ap h0];exact J4 (by rw[hfst,<-z1];exact hnd) (p:=(q.1,fz (Z'.map sw) q.2)) (aE.mpr ⟨q,hq,rfl⟩)
theorem aCm(h:lK Q V r l=lK Q' V' r' l'):(Q.map (cP l)).Perm (Q'.map (cP l'))/\((V.map (cT l)).map norm).Perm ((V'.map (cT l')).map norm)/\r=r':=by
 unfold lK bG at h;injection h with h
 injection h with h1 h
 injection h with h2 h
 injection h with h3
 injection h1 with h1
 injection h2 with h2
 injection h3 with h3
 exact⟨(fH _).symm.trans (by rw[aB2 h1];exact fH _),(bT _).symm.trans (by rw[O3 h2];exact bT _),h3⟩
def aOx:bG Q V r≠.uD:=λz=>by cases z
def wM(w:Net kvs Q V)(y:Wy kvs Q V F k SL)(hw:bV 1 uC [bG Q V r]=.ok (.lst ((nY (prs (SL.flatMap (·.2)))).map enP))):bV 1 jT [bG Q V r]=.ok (lK Q V r (plc (SL.flatMap (·.2)))):=by
 rw[<-aSm w y];exact aJe w.wf rfl rfl rfl aOx (aSl w y).1 hw
def xR(w:Net kvs Q V)(h:Nf φ (Q.map (·.1))):bV 1 jT [bG (eX (Q.map (cP φ))) (cX ((V.map (cT φ)).map norm)) r]=bV 1 jT [bG Q V r]:=by
 obtain⟨F,k,SL,y,hw⟩:=GQ w;have w':=vI w h;obtain⟨F',k',SL',y',hw'⟩:=GQ w';obtain⟨p1,p2⟩:=aJl w h y y';rw[wM w y hw,wM w' y' hw',VB p1 p2]
theorem aH4(w:Net kvs Q V)(h:Nf φ (Q.map (·.1))):lO (cX ((V.map (cT φ)).map norm))=lO V:=by
 unfold lO;rw[(((oN (bT _)).trans (PX w h)).filter _).length_eq,List.filter_map,aS];refine cz fI (yy λp hp=>?_);show(φ p.1==0)=(p.1==0);rcases sZ w hp with e|e
 .rw[e,h.z]
 .have h1:=h.pos _ e;have h2:=w.wf.qp _ e;rw[je.mpr 0x1,je.mpr 0x1]
theorem aH5(w:Net kvs Q V):∃φ,Nf φ (Q.map (·.1))/\bV 1 jT [bG Q V r]=.ok (lK Q V r φ):=by
 obtain⟨F,k,SL,y,hw⟩:=GQ w;exact⟨_,y.nf w,wM w y hw⟩
theorem QC(w:Net kvs Q V)(w':Net kvs Q' V')(h:bV 1 jT [bG Q V r]=.ok t)(h':bV 1 jT [bG Q' V' r']=.ok t'):(t=t'->∃d,bV 2 j8 [bG Q V r,bG Q' V' r']=.ok d/\bV 3 fB [d,bG Q V r,bG Q' V' r']=.ok (.bl ag))/\(t≠t'->bV 2 j8 [bG Q V r,bG Q' V' r']=.ok .non):=by
 obtain⟨F,k,SL,y,hw⟩:=GQ (r:=r) w;obtain⟨F',k',SL',y',hw'⟩:=GQ (r:=r') w';rw[wM w y hw] at h;rw[wM w' y' hw'] at h';injection h with h
 injection h' with h'
 subst h h';refine⟨λe=>?_,λe=>?_⟩
 .obtain⟨p1,p2,rfl⟩:=aCm e;exact aOn w w' y y' hw hw' p1 p2
 .have r1:=aB3 (net:=bG Q V r) (r:=r) w.wf rfl rfl rfl aOx (aSl w y).1;have r1':=aB3 (net:=bG Q' V' r') (r:=r') w'.wf rfl rfl rfl aOx (aSl w' y').1;rw[aSm w y] at r1;rw[aSm w' y'] at r1';exact aCl aOx aOx hw hw' r1 r1' (aH3 (oU _ _ r) (oU _ _ r') e).2
theorem aH6(w:Net kvs Q V)(w':Net kvs Q' V')(h:bV 1 jT [bG Q V r]=.ok t)(h':bV 1 jT [bG Q' V' r']=.ok t')(hb:b=ag↔t=t'):bV 3 mU [bG Q V r,bG Q' V' r',.bl b]=.ok (.bl ag):=by
 have a1:=QC w w' h h';have a2:=QC w' w h' h;refine(cJ rfl).trans (call_v ?_);cases b with
 |true=>
  have e:=hb.mp rfl;obtain⟨d,q1,q2⟩:=a1.1 e;obtain⟨d',q1',q2'⟩:=a2.1 e.symm;exact aL (mC (uM (b:=ag) (nM rfl)) rfl) (d8 (TX (aK (aC (aK 0xf q1) 0xf) q2) (aK (xs:=[d',bG Q' V' r',bG Q V r]) (aC (aK 0xf q1') 0xf) q2')) rfl)
 |false=>
  have e:t≠t':=λz=>by cases hb.mpr z
  exact yF (uW (uM (b:=ai) (nM rfl)) (d8 (TX (aJ (aK 0xf (a1.2 e)) rfl rfl) (aJ (aK 0xf (a2.2 λz=>e z.symm)) rfl rfl)) rfl))
def aOo(Q:aa Pc):D:=.lst (iK ((Q.map (·.2)).map μ))
theorem aJr(l:aa Str):bF (l.map μ)=ag:=by
 unfold bF;refine dy.mpr λd hd=>?_
 obtain⟨t,ht,rfl⟩:=aE.mp hd;have hk:fY ((l.map μ).headD .non)=2:=by
  cases l with
  |nil=>cases ht
  |cons u U=>rfl
 rw[hk];refine dy.mpr λb hb=>?_
 obtain⟨u,_,rfl⟩:=aE.mp hb;rfl
theorem aH7:∀L:aa D,(∀d∈L,∃s,d=μ s)->χ L=ag/\ν 11 L=ag
 |[],_=>⟨rfl,rfl⟩
 |x::L,h=>by
  obtain⟨s,rfl⟩:=h x (bu ..);exact aH7 L λd hd=>h d (bo _ hd)
theorem aB4{l:aa Str}:∀d∈iK (l.map μ),∃s,d=.str s:=λd hd=>by
 obtain⟨s,_,rfl⟩:=aE.mp ((cA _).mem_iff.mp hd);exact⟨s,rfl⟩
theorem aB5(Q:aa Pc)(V:aa Tie)(r:af)(hq:Q.length<=1000):bV 1 h_ [bG Q V r]=.ok (aOo Q):=by
 have hs:fD [.lst ((Q.map (·.2)).map μ)]=.ok (aOo Q):=ao (aJr _);rw[bp] at hs;exact(cJ rfl).trans (call_v (d8 (aK (aC (t8 _ Q (iV 0x10 (oM Q)) 0x1 λacc c _=>mW (b:=ag) rfl rfl rfl λ_=>⟨rfl,rfl⟩) rfl) hs) rfl))
theorem aJs(p:(Q.map (·.2)).Perm (Q'.map (·.2))):bY .ne (aOo Q) (aOo Q')=.ok (.bl ai):=by
 have e:iK ((Q.map (·.2)).map μ)=iK ((Q'.map (·.2)).map μ):=n_ (λd hd=>by obtain⟨s,rfl⟩:=aB4 d hd;rfl) ((cA _).trans ((p.map μ).trans (cA _).symm)) (dU _) (dU _);unfold aOo;rw[<-e];have kk:=aH7 _ (aB4 (l:=Q.map (·.2)));generalize iK ((Q.map (·.2)).map μ)=L at *;show(if ν 11 L&&ν 11 L then τ (υ (!qY L L)) else .bad)=_;rw[kk.2,rE L kk.1];rfl
end
def aVy(h1:x ρ=.ok p)(h2:y ρ=.ok q):bOr x y ρ=.ok (p||q):=by
 cases p with
 |true=>unfold bOr;rw[h1];rfl
 |false=>exact aNi h1 h2
section
variable {kvs:aa (D×D)} {Q Q':aa Pc} {V V':aa Tie} {r r':af} {sc:D} {s k:af}
noncomputable def ls(sc:D)(s k:af)(kvs:aa (D×D))(one other x6 x7 x8:D):aa D:=[sc,.int s,.int k,.dct kvs,one,other,x6,x7,x8]
structure Gz(kvs:aa (D×D))(Q:aa Pc)(V:aa Tie):Prop where
 w:Net kvs Q V
 q:Q.length<=8
 v:V.length<=480
 b:∀pc∈Q,pc.1<=Q.length
theorem Gz.dbl(g:Gz kvs Q V):Net kvs (dQ Q) (cX (dV Q V)):=J5 g.w g.b (by have:=g.q;lia) (by have:=g.v;lia)
theorem Gz.eqn(g:Gz kvs Q V):bV 1 dN [bG Q V r]=.ok (bG (dQ Q) (cX (dV Q V)) (2*r)):=U7 Q V r (by have:=g.q;lia) (by have:=g.v;lia)
theorem bcd(hsc:sc≠.uD)(hc2:bV 2 bZ [sc,.int 2]=.ok (.int c2))(hk:k<=6)(g:Gz kvs Q V)(g':Gz kvs Q' V')(h0:k=0->bG Q' V' r'=bG Q V r) :
  ∃d2 Q3 V3 r3 Q4 V4 r4,Net kvs Q3 V3/\Net kvs Q4 V4/\(k=0->bG Q3 V3 r3=bG Q4 V4 r4)/\lwB (ls sc s k kvs (bG Q V r) (bG Q' V' r') .uD .uD .uD)=.ok (.nx (ls sc s k kvs (bG Q V r) d2 .uD .uD .uD))/\lwC (ls sc s k kvs (bG Q V r) d2 .uD .uD .uD)=.ok (.nx (ls sc s k kvs (bG Q V r) (bG Q3 V3 r3) .uD .uD .uD))/\lwD (ls sc s k kvs (bG Q V r) (bG Q3 V3 r3) .uD .uD .uD)=.ok (.nx (ls sc s k kvs (bG Q4 V4 r4) (bG Q3 V3 r3) .uD .uD .uD)):=by
 have m2:=gG s 2 0x4;have e1:bY .eq (.int (s % 2)) (.int 1)=.ok (.bl (s % 2==1)):=rfl;have e6:bY .eq (.int k) (.int 6)=.ok (.bl (k==6)):=rfl;have l6:bY (.ord .lt) (.int k) (.int 6)=.ok (.bl (ϒ (k<6))):=rfl;have cB:∀x5,(bTB (b2 (bY .eq) gK aHs)) (ls sc s k kvs (bG Q V r) x5 .uD .uD .uD)=.ok (k==6):=λ_=>bU (aJ rfl rfl e6)
 have cO:∀x5,0x2b (ls sc s k kvs (bG Q V r) x5 .uD .uD .uD)=.ok (s % 2==1):=λ_=>bU (aJ (aJ rfl rfl m2) rfl e1)
 have cC:∀x5,(A_ 0x2b (bTB (b2 (bY (.ord .lt)) gK aHs))) (ls sc s k kvs (bG Q V r) x5 .uD .uD .uD)=.ok (s % 2==1&&ϒ (k<6)):=λ_=>aJm (cO _) (bU (aJ rfl rfl l6))
 have cD:∀x5,(bOr 0x2b (bTB (b2 (bY .eq) gK aHs))) (ls sc s k kvs (bG Q V r) x5 .uD .uD .uD)=.ok (s % 2==1||k==6):=λ_=>aVy (cO _) (cB _)
 have dD:∀x5,(cR ai 4 (aN (bV 1 dN) (aD fW aV)) ag) (ls sc s k kvs (bG Q V r) x5 .uD .uD .uD)=.ok (.nx (ls sc s k kvs (bG (dQ Q) (cX (dV Q V)) (2*r)) x5 .uD .uD .uD)):=λ_=>bA (aK 0x11 g.eqn)
 by_cases k6:k=6
 .rw[show(k==6)=ag by rw[k6];rfl] at cB cD;rw[cy 0x1,li] at cC;rw[B8] at cD;obtain⟨V',w',hl⟩:=aSj g.w g.b (by have:=g.q;lia) (by have:=g.v;lia) c2 r;exact⟨_,dQ Q,V',2*r,_,_,_,w',g.dbl,λz=>aT (z.symm.trans k6) 0x4,uW (cB _) (bA (aK (aC rfl (aC (aK (aC (gP rfl hsc) 0x11) hc2) rfl)) hl)),mC (cC _) rfl,uW (cD _) (dD _)⟩
 .rw[je.mpr k6] at cB cD;rw[bz 0x1,i8] at cC;rw[mv] at cD;cases hs:(s % 2==1) with
  |true=>
   rw[hs] at cC cD;refine⟨bG Q' V' r',_,_,_,_,_,_,g'.dbl,g.dbl,λz=>?_,mC (cB _) rfl,uW (cC _) (bA (aK 0x11 g'.eqn)),uW (cD _) (dD _)⟩;have a:=g'.eqn (r:=r');rw[h0 z,g.eqn] at a;injection a with a
   exact a.symm
  |false=>
   rw[hs] at cC cD;exact⟨bG Q' V' r',Q',V',r',Q,V,r,g'.w,g.w,h0,mC (cB _) rfl,mC (cC _) rfl,mC (cD _) rfl⟩
theorem aB6:((eX (Q.map (cP φ))).map (·.2)).Perm (Q.map (·.2)):=((fH _).map _).trans (by rw[bp];exact .refl _)
theorem aOp(w:Net kvs Q V)(w':Net kvs Q' V')(h0:k=0->bV 1 jT [bG Q V r]=bV 1 jT [bG Q' V' r']):tlz (ls sc s k kvs (bG Q V r) (bG Q' V' r') .uD .uD .uD)=.ok (.rt (.bl ag)):=by
 obtain⟨φ,hφ,t1⟩:=aH5 w;obtain⟨ψ,hψ,t2⟩:=aH5 w';have f1:=(xR (r:=r) w hφ).trans t1;have f2:=(xR (r:=r') w' hψ).trans t2;have wf:=vI w hφ;have n1:=aH4 w hφ;have n2:=aH4 w' hψ;have m1:=aB6 (Q:=Q) (φ:=φ);have m2:=aB6 (Q:=Q') (φ:=ψ);unfold lK at t1 t2 f1 f2;generalize eX (Q.map (cP φ))=Q1 at *;generalize cX ((V.map (cT φ)).map norm)=V1 at *;generalize eX (Q'.map (cP ψ))=Q2 at *;generalize cX ((V'.map (cT ψ)).map norm)=V2 at *;have p1:=oU Q1 V1 r;have p2:=oU Q2 V2 r';obtain⟨b,hb,hc⟩:∃b:aq,(b=ag↔bG Q1 V1 r=bG Q2 V2 r')/\bY .eq (bG Q1 V1 r) (bG Q2 V2 r')=.ok (.bl b):=by
  by_cases e:bG Q1 V1 r=bG Q2 V2 r'
  .exact⟨ag,⟨λ_=>e,λ_=>rfl⟩,by rw[<-e];exact eq_self p1.1 p1.2⟩
  .exact⟨ai,⟨λz=>(by cases z),λz=>aT z e⟩,(aH3 p1 p2 e).1⟩
 have b1:=aH6 w w' t1 t2 hb;have b2':=aH6 wf w' f1 t2 hb;obtain⟨d,al,ld⟩:=(QC w wf t1 f1).1 rfl;have hk:(k==0&&!b)=ai:=by
  cases b with
  |true=>simp
  |false=>
   have:k≠0:=λz=>by
    have:=h0 z;rw[t1,t2] at this;injection this with this
    cases hb.mpr this
   simp[this]
 have hnm:b=ag->bY .ne (aOo Q) (aOo Q')=.ok (.bl ai)/\r=r'/\lO V=lO V':=λz=>by
  have e:=hb.mp z;unfold bG at e;injection e with e
  injection e with e1 e
  injection e with e2 e
  injection e with e3
  injection e1 with e1
  injection e2 with e2
  injection e3 with e3
  have e1:=aB2 e1;have e2:=O3 e2;subst e1 e2;exact⟨aJs (m1.symm.trans m2),e3,n1.symm.trans n2⟩
 have z0:bY .eq (.int k) (.int 0)=.ok (.bl (k==0)):=rfl;have nq:=aB5 Q V r (by have:=w.ql;lia);have nq':=aB5 Q' V' r' (by have:=w'.ql;lia);have rq:=U6 Q V r;have rq':=U6 Q' V' r'
 let st:=λx6 x7 x8=>ls sc s k kvs (bG Q V r) (bG Q' V' r') x6 x7 x8
 refine aL (ρ':=st (bG Q1 V1 r) .uD .uD) (bA (i:=6) (aK (xs:=[bG Q V r]) 0x11 t1)) ?_;refine aL (ρ':=st (bG Q1 V1 r) (bG Q2 V2 r') .uD) (bA (i:=7) (aK (xs:=[bG Q' V' r']) 0x11 t2)) ?_;refine aL (ρ':=st (bG Q1 V1 r) (bG Q2 V2 r') (.bl b)) (bA (i:=8) (aJ rfl rfl hc)) ?_;refine aL (ρ':=st (bG Q1 V1 r) (bG Q2 V2 r') (.bl b)) (mC ((aJm (bU (aJ rfl rfl z0)) (uM (nM (b:=b) rfl))).trans (by rw[hk])) rfl) ?_;refine aL (ρ':=st (bG Q1 V1 r) (bG Q2 V2 r') (.bl b)) (mC ?_ rfl) ?_
 .cases b with
  |false=>exact G4 (nM rfl)
  |true=>
   obtain⟨q1,q2,q3⟩:=hnm rfl;subst q2;exact CN (nM rfl) (aNi (bU (aJ (aK (xs:=[bG Q V r]) 0x11 nq) (aK (xs:=[bG Q' V' r]) 0x11 nq') q1)) (bU (aJ 0x10 0x10 (ne_int r))))
 refine aL (ρ':=st (bG Q1 V1 r) (bG Q2 V2 r') (.bl b)) (mC ?_ rfl) ?_
 .cases b with
  |false=>exact G4 (nM rfl)
  |true=>
   obtain⟨q1,q2,q3⟩:=hnm rfl;rw[<-q3] at rq';exact CN (nM rfl) (bU (aJ (aK (xs:=[bG Q V r]) 0x11 rq) (aK (xs:=[bG Q' V' r']) 0x11 rq') (ne_int _)))
 refine aL (ρ':=st (bG Q1 V1 r) (bG Q2 V2 r') (.bl b)) (mC (aNi (uM (b:=ag) (nM (aK (xs:=[bG Q V r,bG Q' V' r',.bl b]) (aC rfl 0xf) b1))) (uM (b:=ag) (nM (aK (xs:=[bG Q1 V1 r,bG Q' V' r',.bl b]) (aC rfl 0xf) b2')))) rfl) ?_;refine aL (ρ':=st (bG Q1 V1 r) (bG Q2 V2 r') (.bl b)) (mC (uM (b:=ag) (nM (aK (xs:=[d,bG Q V r,bG Q1 V1 r]) (aC (aK (xs:=[bG Q V r,bG Q1 V1 r]) 0xf al) 0xf) ld))) rfl) ?_;exact d8 (TX (aJ (aK (xs:=[bG Q1 V1 r]) 0x11 f1) rfl (eq_self p1.1 p1.2)) (TX (aJ (aK (xs:=[bG Q2 V2 r']) 0x11 f2) rfl (eq_self p2.1 p2.2)) (TX (aJ (aK (xs:=[bG Q V r]) 0x11 t1) rfl (eq_self p1.1 p1.2)) (aJ (aK (xs:=[bG Q' V' r']) 0x11 t2) rfl (eq_self p2.1 p2.2))))) rfl
end
theorem aJt(l:aa af)(hl:l.length<=lim):aSv (.lst (l.map δ))=.ok (.lst (l.reverse.map δ)):=by
 show(if θ (l.map δ)&&ϒ ((l.map δ).length<=lim) then τ (ξ (l.map δ).reverse) else .bad)=_;rw[eF,aS,bz hl,List.map_reverse];rfl
theorem main:∀ns:aa af,ns.length<=63->aC9 [.scr (ns.map δ)]=.ok (.bl ag):=by
 intro ns hn;have c0:=cell_eq ns 0;have c1:=cell_eq ns 1;have c2:=cell_eq ns 2;have c3:=cell_eq ns 3;have m7:=gG (cellAt ns 1) 7 0x4;have d7:=jA (cellAt ns 1) 7 0x4 0x4;have d2:=jA 0x1e 2 0x4 0x4;have k0:=jb (cellAt ns 1) (show(7:af)≠0 by decide);have k7:=kF (cellAt ns 1) (show(0:af)<7 by decide);have kst:bV 2 k_ [.int 0x1e,.int (cellAt ns 1 / 7)]=.ok (.dct (skS 0x1e (cellAt ns 1 / 7) (bn 5))):=(cJ rfl).trans (aIv _ _);have hst:qP (skS 0x1e (cellAt ns 1 / 7) (bn 5)):=aRt λk hk=>hV.mp hk
 generalize cellAt ns 1 / 7=sd at *;generalize cellAt ns 1 % 7=k at *;generalize cellAt ns 2=e2 at *;generalize cellAt ns 3=e3 at *;have hne:skS 0x1e sd (bn 5)≠[]:=by unfold skS;simp
 have hle:(skS 0x1e sd (bn 5)).length<=5:=by unfold skS;rw[aS,ju];exact bd _
 have hls:=JT hst;have hkd:nQ (skS 0x1e sd (bn 5))=((bn 5).map λk=>μ (nmK 0x1e k)):=by unfold nQ skS;rw[bp];rfl
 rw[hkd] at hls;have hsl:aBl (.lst ((bn 5).map λk=>μ (nmK 0x1e k))) aj (ae 2)=.ok (.lst [.str (nmK 0x1e 0),.str (nmK 0x1e 1)]):=rfl;have es:∀s:Str,eqD (.str s) (.str s)=ag:=λs=>by show(s==s)=ag;simp
 have hm4:(((2+sd % 4).toNat:ah):af)=2+sd % 4:=by lia
 have l0:bL (skS 0x1e sd (bn 5)) (.str (nmK 0x1e 0))=ae (.int (((2+sd % 4).toNat:ah):af)):=by
  show(if eqD (.str (nmK 0x1e 0)) (.str (nmK 0x1e 0)) then ae (δ (2+sd % 4)) else _)=_;rw[ao (es _),hm4]
 have l1:bL (skS 0x1e sd (bn 5)) (.str (nmK 0x1e 1))=ae (.int (((2+sd % 4).toNat:ah):af)):=by
  show(if eqD (.str (nmK 0x1e 0)) (.str (nmK 0x1e 1)) then _ else if eqD (.str (nmK 0x1e 1)) (.str (nmK 0x1e 1)) then ae (δ (2+sd % 4)) else _)=_;rw[ap (λz=>by have:=aF7 (c0:=cellAt ns 0) (k:=0) (k':=1) 0x1 0x1 (ir.mp z);lia),ao (es _),hm4]
 have hs:aBl (.scr (ns.map δ)) (ae 4) (ae 68)=.ok (.lst ((cutD ns (ae 4) (ae 68)).map δ)):=by
  show(if θ (ns.map δ) then τ (ξ (cutD (ns.map δ) (ae 4) (ae 68))) else .bad)=_;rw[eF,ao rfl,aMh]
 have hcl:=aMi ns (ae 4) (ae 68);have hrv:=aJt (cutD ns (ae 4) (ae 68)) (by rw[bD];lia);obtain⟨Q,V,r,w,q0,q1,q2,hg⟩:=aAg hst hne hle (cutD ns (ae 4) (ae 68)) 0x1 (cellAt ns 0 / 2);have g:Gz _ Q V:=⟨w,q0,q1,q2⟩
 obtain⟨Qr,Vr,rr,wr,qr0,qr1,qr2,hgr⟩:=aAg hst hne hle (cutD ns (ae 4) (ae 68)).reverse (by rw[xI];lia) (cellAt ns 0 / 2);obtain⟨Qc,Vc,rc,wc,qc,vc,kc,hch⟩:=aCk (k:=k) (c:=e2) (r:=r) w l0 l1 0x1;have gc:Gz (skS 0x1e sd (bn 5)) Qc Vc:=by
  have hl:Qc.length=Q.length:=by have:=cz fI qc;simpa using this
  refine⟨wc,by lia,by lia,λpc hp=>?_⟩;obtain⟨c,hc,e⟩:=aE.mp (by rw[<-qc];exact aE.mpr ⟨pc,hp,rfl⟩:pc.1∈Q.map (·.1));rw[hl,<-e];exact q2 c hc
 generalize cutD ns (ae 4) (ae 68)=cs at *;generalize (bn 5).map (λk=>μ (nmK 0x1e k))=nl at *;generalize skS 0x1e sd (bn 5)=kvs at *;generalize nmK 0x1e 0=n0 at *;generalize nmK 0x1e 1=n1 at *;generalize cellAt ns 0=s at *;have hsc:ο (ns.map δ)≠.uD:=λz=>by cases z
 generalize ο (ns.map δ)=sc at *;have v0:∀(x1 x2 x3 x4 x5 x6 x7 x8:D),fZ 0 [sc,x1,x2,x3,x4,x5,x6,x7,x8]=.ok sc:=λ_ _ _ _ _ _ _ _=>gP rfl hsc
 have cc:∀{i c:af}{ρ:aa D},fZ 0 ρ=.ok sc->bV 2 bZ [sc,.int i]=.ok (.int c)->(aN (bV 2 bZ) (aD cQ (aD (bC (.int i)) aV))) ρ=.ok (.int c):=λh1 h2=>aK (aC h1 0x11) h2
 obtain⟨Qa,Va,ra,ga,ka,hA⟩:∃Qa Va ra,Gz kvs Qa Va/\(k=0->bG Qa Va ra=bG Q V r)/\lwA (ls sc s k kvs (bG Q V r) (bG Qc Vc rc) .uD .uD .uD)=.ok (.nx (ls sc s k kvs (bG Q V r) (bG Qa Va ra) .uD .uD .uD)):=by
  have e5:bY .eq (.int k) (.int 5)=.ok (.bl (k==5)):=rfl;by_cases k5:k=5
  .rw[show(k==5)=ag by rw[k5];rfl] at e5;exact⟨Qr,Vr,rr,⟨wr,qr0,qr1,qr2⟩,λz=>aT (z.symm.trans k5) 0x4,uW (bU (aJ rfl rfl e5)) (bA (i:=5) (aK (xs:=[.dct kvs,.lst (cs.reverse.map δ),.int (s / 2)]) (aC rfl (aC (aFe (JV (v0 _ _ _ _ _ _ _ _) rfl rfl hs) hrv) (aC (aJ rfl rfl d2) rfl))) hgr))⟩
  .rw[je.mpr k5] at e5;exact⟨Qc,Vc,rc,gc,kc,mC (bU (aJ rfl rfl e5)) rfl⟩
 obtain⟨d3,Q3,V3,r3,Q4,V4,r4,w3,w4,k4,hB,hC,hD⟩:=bcd (s:=s) (r:=r) (r':=ra) hsc c2 (show k<=6 by lia) g ga ka;obtain⟨φ,hφ,hf⟩:=aJq (net:=bG Q3 V3 r3) (c:=e3) (sd:=e2) (r:=r3) w3.wf rfl rfl rfl aOx;have tl:=aOp (sc:=sc) (s:=s) (k:=k) (r:=r4) (r':=r3) w4 (vI w3 hφ) λz=>by
  rw[xR w3 hφ,k4 z]
 refine call_v ?_;refine aL (ρ':=[sc,.int s,.uD,.uD,.uD,.uD,.uD,.uD,.uD]) (bA (i:=1) (cc (v0 _ _ _ _ _ _ _ _) c0)) ?_;refine aL (ρ':=[sc,.int s,.int k,.uD,.uD,.uD,.uD,.uD,.uD]) (bA (i:=2) (aJ (cc (v0 _ _ _ _ _ _ _ _) c1) rfl m7)) ?_;refine aL (ρ':=[sc,.int s,.int k,.dct kvs,.uD,.uD,.uD,.uD,.uD]) (bA (i:=3) (aK (xs:=[.int s,.int sd]) (aC rfl (aC (aJ (cc (v0 _ _ _ _ _ _ _ _) c1) rfl d7) rfl)) kst)) ?_;refine aL (ρ':=[sc,.int s,.int k,.dct kvs,bG Q V r,.uD,.uD,.uD,.uD]) (bA (i:=4) (aK (xs:=[.dct kvs,.lst (cs.map δ),.int (s / 2)]) (aC rfl (aC (JV (v0 _ _ _ _ _ _ _ _) rfl rfl hs) (aC (aJ rfl rfl d2) rfl))) hg)) ?_;refine aL (ρ':=ls sc s k kvs (bG Q V r) (bG Qc Vc rc) .uD .uD .uD) (bA (i:=5) (aK (xs:=[bG Q V r,.lst [.str n0,.str n1],.int k,.int e2]) (aC rfl (aC (JV (aK (xs:=[.dct kvs]) 0x11 hls) rfl rfl hsl) (aC rfl (aC (cc (v0 _ _ _ _ _ _ _ _) c2) rfl)))) hch)) ?_;refine aL hA (aL hB (aL hC (aL hD ?_)));refine aL (ρ':=ls sc s k kvs (bG Q4 V4 r4) (bG (eX (Q3.map (cP φ))) (cX ((V3.map (cT φ)).map norm)) r3) .uD .uD .uD) (bA (i:=5) (aK (xs:=[bG Q3 V3 r3,.int e3,.int e2]) (aC rfl (aC (cc (v0 _ _ _ _ _ _ _ _) c3) (aC (cc (v0 _ _ _ _ _ _ _ _) c2) rfl))) hf)) ?_;exact tl
end Lk15
section
open PySem PySem.W PyProof.Rows
structure PySem.W.Fast:Prop where(tw7873500823816761704 tw15688382566599658766 tw2975062596533841901 tw10057927118265505098 tw3532523566003967024 tw16150872640243443706 tw5113549296151518120 tw11849965047842352775 tw1410526809320040529 tw1093668423829899687 tw14422940914578259462 tw7753661021278303141 tw3931847591306350918 tw11927961207976524439 tw381012144278179726 tw10844002833708535619 tw11488875393234276961 tw18299457611060960558 tw1426246036057017635 tw902860088532373808 tw4824143361864499347 tw11827345235327534897 tw9542803867794013643 tw11256939089851217692 tw7261954695386138151 tw11637822995334283070 tw10191856321487979444 tw7452849330988325855 tw13242399765546614832 tw2837030209899843373 tw15457241371317796729 tw1545339724223711977 tw15908474658980198325 tw15563270430927425207 tw14556485287295998011 tw17643977682751980358 tw11274009328906057100 tw5527965984953169308 tw10518030938343814872 tw17280988336099050571 tw6353812997117437691 tw12308729116134791971 tw9477458122384345555 tw8420803761375640881 tw3703706067762971978 tw7227316022472334876 tw6294708062602442576 tw13694789085111107918 tw3563739504934427939 tw3510308844245407325 tw11950730438991824379 tw11136145673453696275 tw13698680092809129 tw3222944987659119638 tw5523229330786211876 tw17302103100711569573 tw6545862324612409050 tw3042911495070891449 tw9328187666329092485 tw14261682573032174497 tw12023994922352636958 tw9970996424748361733 tw16193663079959789957 tw5603434646095946239 tw906898102011004917 tw3607842215067040893 tw2464907686380106534 tw14511253485938527268 tw17994840177432889604 tw1846356034658890237 tw9486821989296214849 tw11057620528407326693 tw12244292825431528023 tw10956482784355683601 tw15657631822642721408 tw8511154708615036060 tw9624454315351171893 tw990156295616096825 tw16615368085347065492 tw9438096048243533402 tw15901156214164688157 tw4899907910387210267 tw2985440969539240890 tw4538131543884831421 tw8938190253859248779 tw6958483687349479128 tw11990890241418924639 tw13210561094632598392 tw3356951067849032832 tw15757749976912674512 tw283252120898129468 tw8296478836453881726 tw15319782875699831654 tw742903773233368655 tw3422095087344786430 tw7833224555533622502 tw5362454925429481199 tw1543846507570236274 tw420463101399725928 tw8120069942684663901 tw18240861972970735580 tw5859130211320562572 tw8574987683326763808 tw7437562648018339458 tw815552192843778056 tw2138595019651527707 tw5190896736227185926 tw8333400791314995128 tw4551015476778606526 tw3627774918026537685 tw17424412288977872190 tw4353493009977510680 tw12838618901678998858 tw5853382394907037366 tw8376360725219282477 tw12947596480482580612 tw9899769072382382248 tw9162035359678783752 tw7866992788408256331 tw141941737401325451 tw15034701611716733933 tw6310950137696166639 tw18354036048452906202 tw6756183370373179547 tw2098428324770556082 tw9016646208370246363 tw14168721837281592536 tw17449378551373830353 tw4965187469048165216 tw2784879786823782959 tw8512493834898191709 tw14311462398311728606 tw14425336718217225781 tw244546202948062716 tw14698065334968765410 tw10110651185728620073 tw12939578634860021921 tw18345863573894704740 tw18163061296198636676 tw2452108041471669406 tw5904940864566424199 tw7536314211672881043 tw8697702051554030879 tw4638120004009094484 tw6184202632501288914 tw12426620070110930148 tw368152158807161309 tw12094475355348464038 tw12498659147246234106 tw18406662391011306693 tw6176400815262614711 tw3271290329089048247 tw4277154718271689056 tw10204525000186064980 tw12394801962906192625 tw10516383096851932939 tw17622028259883189492 tw9039401947007296069 tw13945837536157122243 tw5480401392319905813 tw9680563530078646466 tw14786827025468636194 tw13867039294692334875 tw15882501736470381519 tw16375159429098750071 tw14246728330946349784 tw3409081432215568085 tw295404486937762982 tw13918348194196345999 tw10541024775470382997:True)
set_option maxRecDepth 100000 in
set_option maxHeartbeats 0 in
theorem PySem.Challenge.cw_hookmill_k15_whole_one_telling_holds : PySem.Challenge.rw_hookmill_k15_whole_one_telling.Holds := by
 w_on;o_law;k_head;(case hw=>w_witness2)
 k_fill
 refine Lk15.walk (l:=PySem.Challenge.rw_hookmill_k15_whole_one_telling) Lk15.main rfl rfl (fun w h Y=>PySem.W.kIn_of Y) ?F
 case F=>
  intro w mg fa h KX G hmg
  refine' Lk15.aRs KX G hmg ?A ?a1 ?l1 ?c1 ?k1 ?C
  (case A=>(repeat (refine' Lk15.aVs (Lk15.aU9 ?a ?b ?c ?d) ?_;(case a=>k_is);(case b=>k_is);(case c=>k_is);(case d=>k_is)));exact trivial)
  (case C=>(repeat (refine' Lk15.z_c ?a ?_;(case a=>k_is)));exact trivial)
  (case a1|l1|c1|k1=>k_is)
end
